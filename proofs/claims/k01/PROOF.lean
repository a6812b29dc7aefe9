import PyProof.Rows.All
import Wide.All
import OpenK.AllK
import Wide.FinOn
import Lean
import PyProof.EqAt
import PyProof.EqKinds
import PyProof.TupleCall
import PyProof.MinMaxWalk
import PyProof.NeKinds
import PyProof.Rows.ZipGen
import KE.KMinKey
import KE.KDictSum
import PyProof.DictItems
import KE.KSortTup
import KE.KEqDict
import KE.KLam
import KE.KNestM
import PyProof.Rows.SortStr
import PyProof.Rows.SortWalk
import PyProof.FString5
import PyProof.StrOps2
import PySem.Challenge.RW_boxgalley_k01_dealt
set_option Elab.async false
set_option linter.all false
set_option maxRecDepth 100000
namespace L2
open PySem PySem.Spec PyProof.Rows
abbrev Key := Sum Int Str
def keyIs : Key → Value → Bool
  | .inl k, v => Value.isInt k v
  | .inr x, v => Value.isStrOf x v
def keyH (w : World) : Key → Int
  | .inl k => hashInt k
  | .inr x => hashStr w x
theorem keyIs_shape : ∀ {k : Key} {v : Value}, keyIs k v = true → (∃ i t, k = Sum.inl i ∧ v = Value.int i t) ∨ (∃ x t, k = Sum.inr x ∧ v = Value.str x t)
  | .inl i, v, h => by
    obtain ⟨t, e⟩ := Value.isInt_shape (k := i) (v := v) h
    exact .inl ⟨i, t, rfl, e⟩
  | .inr x, v, h => by
    obtain ⟨t, e⟩ := Value.isStrOf_shape (x := x) (v := v) h
    exact .inr ⟨x, t, rfl, e⟩
theorem keyIs_int (i : Int) (t : Tok) : keyIs (.inl i) (.int i t) = true := by simp [keyIs, Value.isInt]
theorem keyIs_str (x : Str) (t : Tok) : keyIs (.inr x) (.str x t) = true := by simp [keyIs, Value.isStrOf]
theorem key_ll (a b : Int) : decide ((Sum.inl a : Key) = Sum.inl b) = (a == b) := by
  by_cases e : a = b
  · subst e; simp
  · have h : ¬ (Sum.inl a : Key) = Sum.inl b := fun q => e (Sum.inl.inj q)
    rw [decide_eq_false h]
    exact (beq_eq_false_iff_ne.mpr e).symm
theorem key_rr (a b : Str) : decide ((Sum.inr a : Key) = Sum.inr b) = decide (a = b) := by
  by_cases e : a = b
  · subst e; simp
  · have h : ¬ (Sum.inr a : Key) = Sum.inr b := fun q => e (Sum.inr.inj q)
    rw [decide_eq_false h, decide_eq_false e]
theorem key_lr (a : Int) (b : Str) : decide ((Sum.inl a : Key) = Sum.inr b) = false := decide_eq_false (fun q => nomatch q)
theorem key_rl (a : Str) (b : Int) : decide ((Sum.inr a : Key) = Sum.inl b) = false := decide_eq_false (fun q => nomatch q)
def mixKind (prog : Program) (w : World) : PySem.KeyKind prog w Key where
  is := keyIs
  hash := keyH w
  inj := fun v a b ha hb => by
    rcases keyIs_shape ha with ⟨i, t, rfl, rfl⟩ | ⟨x, t, rfl, rfl⟩
    · rcases keyIs_shape hb with ⟨j, u, rfl, e⟩ | ⟨y, u, rfl, e⟩
      · injection e with e1 _; rw [e1]
      · exact nomatch e
    · rcases keyIs_shape hb with ⟨j, u, rfl, e⟩ | ⟨y, u, rfl, e⟩
      · exact nomatch e
      · injection e with e1 _; rw [e1]
  byValue := fun k v h => by
    rcases keyIs_shape h with ⟨i, t, rfl, rfl⟩ | ⟨x, t, rfl, rfl⟩ <;> rfl
  pyHash := fun hv h => by
    rcases keyIs_shape hv with ⟨i, t, rfl, rfl⟩ | ⟨x, t, rfl, rfl⟩
    · exact wpAny_pyHash_int h
    · exact wpAny_pyHash_str h
  eqBool := fun hu hv h => by
    rcases keyIs_shape hu with ⟨i, t, rfl, rfl⟩ | ⟨x, t, rfl, rfl⟩
    · rcases keyIs_shape hv with ⟨j, u, rfl, rfl⟩ | ⟨y, u, rfl, rfl⟩
      · rw [key_ll] at h; exact wpAny_eqBool_int h
      · rw [key_lr] at h; exact SeqAt.EqAt.int_str i t y u _ _ _ _ h
    · rcases keyIs_shape hv with ⟨j, u, rfl, rfl⟩ | ⟨y, u, rfl, rfl⟩
      · rw [key_rl] at h; exact SeqAt.EqAt.str_int x t j u _ _ _ _ h
      · rw [key_rr] at h; exact wpAny_eqBool_str h
  «strs» := fun k x t v h => by
    rcases keyIs_shape h with ⟨i, u, rfl, e⟩ | ⟨y, u, rfl, e⟩
    · exact nomatch e
    · injection e with e1 _
      subst e1
      cases v <;> rfl
theorem mixKind_int (prog : Program) (w : World) (i : Int) (t : Tok) : (mixKind prog w).is (.inl i) (.int i t) = true := keyIs_int i t
theorem mixKind_str (prog : Program) (w : World) (x : Str) (t : Tok) : (mixKind prog w).is (.inr x) (.str x t) = true := keyIs_str x t
end L2
namespace L2
open PySem PySem.Spec PyProof.Rows
inductive V where
  | non | bl (b : Bool) | int (i : Int) | str (x : Str) | byt (b : Array UInt8) | flt (b : UInt64) | ref (a : Addr) | ty (n : String)
  deriving DecidableEq
def RelV : V → Value → Prop
  | .non, u => u = Value.none
  | .bl b, u => u = Value.bool b
  | .int i, u => ∃ t, u = Value.int i t
  | .str x, u => ∃ t, u = Value.str x t
  | .byt b, u => ∃ t, u = Value.bytes b t
  | .flt b, u => ∃ t, u = Value.float b t
  | .ref a, u => u = Value.ref a
  | .ty n, u => u = Value.type n
abbrev Vals : List V → List Value → Prop := Paired RelV
theorem Vals.length {xs : List V} {us : List Value} (r : Vals xs us) : xs.length = us.length := Paired.length r
theorem Vals.get : ∀ {xs : List V} {us : List Value} {i : Nat} {x : V}, Vals xs us → xs[i]? = some x → ∃ u, us[i]? = some u ∧ RelV x u
  | _, _, _, _, .nil, e => by simp at e
  | _, _, 0, _, .cons r _, e => by simp at e; subst e; exact ⟨_, rfl, r⟩
  | _, _, i + 1, x, .cons _ t, e => by
    obtain ⟨u, h1, h2⟩ := Vals.get (i := i) (x := x) t (by simpa using e)
    exact ⟨u, by simpa using h1, h2⟩
theorem Vals.append : ∀ {xs ys : List V} {us ws : List Value}, Vals xs us → Vals ys ws → Vals (xs ++ ys) (us ++ ws)
  | _, _, _, _, .nil, s => s
  | _, _, _, _, .cons r t, s => .cons r (Vals.append t s)
theorem Vals.take : ∀ {xs : List V} {us : List Value} (n : Nat), Vals xs us → Vals (xs.take n) (us.take n)
  | _, _, 0, _ => .nil
  | _, _, _ + 1, .nil => .nil
  | _, _, n + 1, .cons r t => .cons r (Vals.take n t)
theorem Vals.drop : ∀ {xs : List V} {us : List Value} (n : Nat), Vals xs us → Vals (xs.drop n) (us.drop n)
  | _, _, 0, r => r
  | _, _, _ + 1, .nil => .nil
  | _, _, n + 1, .cons _ t => Vals.drop n t
def RelO : Option V → Option Value → Prop
  | some v, some u => RelV v u
  | none, none => True
  | _, _ => False
def KV {κ : Type} : List (κ × V) → List (κ × Value) → Prop := Paired fun (p : κ × V) (q : κ × Value) => p.1 = q.1 ∧ RelV p.2 q.2
def kV : Key → V
  | .inl i => .int i
  | .inr x => .str x
inductive HO where
  /-- a list -/
  | lst (xs : List V)
  /-- a tuple (never changes) -/
  | tup (xs : List V)
  /-- a dict whose keys are ints and texts; one whose keys are tuples of ints and texts (the empty one is both) -/
  | dK (kvs : List (Key × V)) | dT (kvs : List (List Key × V))
  /-- a set of ints: its members, its size -/
  | set (S : Int → Bool) (n : Nat)
  /-- an instance of the class at C, its dict at dx, its attributes -/
  | ins (C dx : Addr) (fs : List (Str × V))
  /-- the dict of the instance at x -/
  | own (x : Addr)
  /-- the dict of an exception -/
  | xd (fs : List (Str × V))
  /-- a bound method, f of x -/
  | met (f x : Addr)
  /-- a range object lo, lo + 1, .. below hi -/
  | rng (lo hi : Int)
  /-- a thing that is known to the object (the script; a dict while a loop walks it): read, never written while it is so -/
  | frz (o : Obj) (u : HO)
  /-- a code object's table -/
  | tbl (ps : Array Value)
  /-- any other thing, by what is true of its one object (a def of one's own: SetO a S n := HO.ext fun h => ..) -/
  | ext (φ : Heap → Prop)
abbrev Hp := Addr → Option HO
def upd (H : Hp) (a : Addr) (o : HO) : Hp := fun b => if b = a then some o else H b
theorem upd_same {H : Hp} {a : Addr} {o : HO} : upd H a o a = some o := by unfold upd; rw [if_pos rfl]
theorem upd_ne {H : Hp} {a b : Addr} {o : HO} (h : b ≠ a) : upd H a o b = H b := by unfold upd; rw [if_neg h]
theorem upd_upd {H : Hp} {a : Addr} {o u : HO} : upd (upd H a o) a u = upd H a u := by
  funext b; unfold upd; split <;> rfl
theorem ne_of {H : Hp} {a b : Addr} {o u : HO} (h : H a = some o) (h' : H b = some u) (d : o ≠ u) : a ≠ b := by
  intro e; subst e; rw [h] at h'; exact d (Option.some.inj h')
theorem ne_of_none {H : Hp} {a b : Addr} {o : HO} (h : H a = some o) (h' : H b = none) : a ≠ b := by
  intro e; subst e; rw [h] at h'; cases h'
section
variable (P : Program) (w : World)
def ObjOk (H : Hp) (h : Heap) (a : Addr) : HO → Prop
  | .lst xs => xs.length ≤ sizeLine ∧ ∃ (its : List Value) (n : Nat), Vals xs its ∧ h.get? a = some { cls := .type "list", data := .seq its.toArray n }
  | .tup xs => xs.length ≤ sizeLine ∧ ∃ its : List Value, Vals xs its ∧ IsTup h a its.toArray
  | .dK kvs => kvs.length ≤ sizeLine ∧ (a == sysModules) = false ∧ ∃ vs, KV kvs vs ∧ h.DictOf (mixKind P w) a vs
  | .dT kvs => kvs.length ≤ sizeLine ∧ (a == sysModules) = false ∧ ∃ xs : List (List Key × Addr × Value),
      Paired (fun (p : List Key × V) (q : List Key × Addr × Value) => p.1 = q.1 ∧ H q.2.1 = some (.tup (p.1.map kV)) ∧ RelV p.2 q.2.2) kvs xs ∧
      ∃ o es ep, h.get? a = some o ∧ o.ExactDict ∧ o.data = .dict es ep ∧ es.toList = xs.map (entryOfKey (tupleKind (mixKind P w))) ∧ (xs.map (·.1)).Nodup
  | .set S n => h.SetOf (intKind P w) a S n
  | .ins C dx fs => H dx = some (.own a) ∧ fs.length ≤ 1000 ∧ dx ≠ a ∧ h.get? a = some (PySem.W.instObj C dx) ∧
      ∃ mA, h.Ns1 dx mA ∧ (∀ f, RelO (fs.lookup f) (mA f)) ∧ PySem.Within mA (fs.map (·.1))
  | .own _ => ∃ o, h.get? a = some o
  | .xd fs => ∃ mA, h.Ns1 a mA ∧ ∀ f, RelO (fs.lookup f) (mA f)
  | .rng lo hi => ∃ t u v, h.get? a = some { cls := .type "range", data := .fields #[.int lo t, .int hi u, .int 1 v] }
  | .frz o u => h.get? a = some o ∧ ObjOk H h a u
  | .tbl ps => h.get? a = some { cls := .none, data := .fields ps }
  | .met f x => h.get? a = some (PySem.W.methodObj (.ref f) (.ref x))
  | .ext φ => φ h ∧ (∃ o, h.get? a = some o) ∧ ∀ h1 h2 : Heap, φ h1 → (∀ o, h1.get? a = some o → h2.get? a = some o) → φ h2
def HOk (H : Hp) (h : Heap) : Prop := ∀ a o, H a = some o → ObjOk P w H h a o
end
section
variable {P : Program} {w : World} {H H' : Hp} {h h' : Heap} {a : Addr} {o : HO}
theorem ObjOk.lt (x : ObjOk P w H h a o) : a < h.objs.size := by
  cases o with
  | lst xs => obtain ⟨_, _, _, _, e⟩ := x; exact Heap.lt_size e
  | tup xs => obtain ⟨_, _, _, p⟩ := x; exact p.lt
  | dK kvs => obtain ⟨_, _, _, _, o, _, _, e, _⟩ := x; exact Heap.lt_size e
  | dT kvs => obtain ⟨_, _, _, _, o, _, _, e, _⟩ := x; exact Heap.lt_size e
  | set S n => obtain ⟨o, _, _, _, e, _⟩ := x; exact Heap.lt_size e
  | ins C dx fs => obtain ⟨_, _, _, e, _⟩ := x; exact Heap.lt_size e
  | own y => obtain ⟨_, e⟩ := x; exact Heap.lt_size e
  | xd fs => obtain ⟨_, ⟨_, _, _, e, _⟩, _⟩ := x; exact Heap.lt_size e
  | rng lo hi => obtain ⟨_, _, _, e⟩ := x; exact Heap.lt_size e
  | frz ob u => obtain ⟨e, _⟩ := x; exact Heap.lt_size e
  | tbl ps => exact Heap.lt_size (show h.get? a = some _ from x)
  | met f y => exact Heap.lt_size (show h.get? a = some _ from x)
  | ext φ => obtain ⟨_, ⟨_, e⟩, _⟩ := x; exact Heap.lt_size e
theorem Paired.mapP {α β : Type} {F G : α → β → Prop} : ∀ {l₁ : List α} {l₂ : List β}, Paired F l₁ l₂ → (∀ a b, F a b → G a b) → Paired G l₁ l₂
  | _, _, .nil, _ => .nil
  | _, _, .cons r t, f => .cons (f _ _ r) (Paired.mapP t f)
theorem ObjOk.stay (x : ObjOk P w H h a o) (k : ∀ b u, (b = a ∨ H b = some (.own a)) → h.get? b = some u → h'.get? b = some u)
    (ho : ∀ b, H b = some (.own a) → H' b = some (.own a)) (ht : ∀ b xs, H b = some (.tup xs) → H' b = some (.tup xs)) : ObjOk P w H' h' a o := by
  induction o with
  | lst xs => obtain ⟨z, its, n, r, e⟩ := x; exact ⟨z, its, n, r, k _ _ (.inl rfl) e⟩
  | tup xs => obtain ⟨z, its, r, ob, e, c⟩ := x; exact ⟨z, its, r, ob, k _ _ (.inl rfl) e, c⟩
  | dK kvs => obtain ⟨z, y, vs, r, ob, es, ep, e, c⟩ := x; exact ⟨z, y, vs, r, ob, es, ep, k _ _ (.inl rfl) e, c⟩
  | dT kvs =>
    obtain ⟨z, y, xs, r, ob, es, ep, e, c⟩ := x
    exact ⟨z, y, xs, Paired.mapP r fun p q z => ⟨z.1, ht _ _ z.2.1, z.2.2⟩, ob, es, ep, k _ _ (.inl rfl) e, c⟩
  | set S n => obtain ⟨ob, es, ep, t, e, c⟩ := x; exact ⟨ob, es, ep, t, k _ _ (.inl rfl) e, c⟩
  | ins C dx fs =>
    obtain ⟨d, z, ne, e, mA, ⟨od, es, ep, e2, c⟩, r⟩ := x
    exact ⟨ho _ d, z, ne, k _ _ (.inl rfl) e, mA, ⟨od, es, ep, k _ _ (.inr d) e2, c⟩, r⟩
  | own y => obtain ⟨ob, e⟩ := x; exact ⟨ob, k _ _ (.inl rfl) e⟩
  | xd fs => obtain ⟨mA, ⟨od, es, ep, e, c⟩, r⟩ := x; exact ⟨mA, ⟨od, es, ep, k _ _ (.inl rfl) e, c⟩, r⟩
  | rng lo hi => obtain ⟨t, u, v, e⟩ := x; exact ⟨t, u, v, k _ _ (.inl rfl) e⟩
  | frz ob u ih => obtain ⟨e, q⟩ := x; exact ⟨k _ _ (.inl rfl) e, ih q⟩
  | tbl ps =>
    have e : h.get? a = some { cls := .none, data := .fields ps } := x
    show h'.get? a = some { cls := .none, data := .fields ps }
    exact k a _ (.inl rfl) e
  | met f y =>
    have e : h.get? a = some (PySem.W.methodObj (.ref f) (.ref y)) := x
    show h'.get? a = some (PySem.W.methodObj (.ref f) (.ref y))
    exact k a _ (.inl rfl) e
  | ext φ => obtain ⟨p, ⟨o, e⟩, st⟩ := x; exact ⟨st _ _ p fun o q => k _ _ (.inl rfl) q, ⟨o, k _ _ (.inl rfl) e⟩, st⟩
theorem HOk.lt (x : HOk P w H h) (e : H a = some o) : a < h.objs.size := (x a o e).lt
theorem HOk.fresh (x : HOk P w H h) (e : h.objs.size ≤ a) : H a = none := by
  cases q : H a with
  | none => rfl
  | some u => exact absurd (Nat.lt_of_lt_of_le (x.lt q) e) (Nat.lt_irrefl _)
theorem HOk.kept (x : HOk P w H h) (k : ∀ b u, h.get? b = some u → h'.get? b = some u) : HOk P w H h' := fun a o e =>
  (x a o e).stay (fun b u _ q => k b u q) (fun _ q => q) fun _ _ q => q
theorem HOk.laid (x : HOk P w H h) (k : ∀ b u, h.get? b = some u → h'.get? b = some u) (hp : h.objs.size ≤ a) (new : ObjOk P w (upd H a o) h' a o) : HOk P w (upd H a o) h' := fun b u e => by
  have hn := x.fresh hp
  by_cases hb : b = a
  · subst hb; rw [upd_same] at e; cases e; exact new
  · rw [upd_ne hb] at e
    exact (x b u e).stay (fun c v _ q => k c v q) (fun c q => by rw [upd_ne (ne_of_none q hn)]; exact q) fun c xs q => by rw [upd_ne (ne_of_none q hn)]; exact q
end
def Rd (H : Hp) (a : Addr) (u : HO) : Prop := H a = some u ∨ ∃ o, H a = some (.frz o u)
theorem Rd.ok {P : Program} {w : World} {H : Hp} {h : Heap} {a : Addr} {u : HO} (r : Rd H a u) (x : HOk P w H h) : ObjOk P w H h a u := by
  rcases r with r | ⟨o, r⟩
  · exact x a u r
  · obtain ⟨_, q⟩ := x a _ r
    exact q
def Mut : Option HO → Prop
  | some (.lst _) => True
  | some (.dK _) => True
  | some (.dT _) => True
  | some (.set _ _) => True
  | some (.ins _ _ _) => True
  | some (.ext _) => True
  | _ => False
section
variable {P : Program} {w : World} {H : Hp} {h h' : Heap} {x e : Addr} {o' : HO}
theorem HOk.write (ok : HOk P w H h) (mu : Mut (H x)) (he : e = x ∨ H e = some (.own x)) (k : ∀ b u, b ≠ e → h.get? b = some u → h'.get? b = some u) (heo : ∃ u, h'.get? e = some u)
    (new : ObjOk P w (upd H x o') h' x o') : HOk P w (upd H x o') h' := fun b u q => by
  have nown : ∀ c y, H c = some (.own y) → c ≠ x := fun c y r z => by subst z; rw [r] at mu; exact mu
  have ntup : ∀ c xs, H c = some (.tup xs) → c ≠ x := fun c xs r z => by subst z; rw [r] at mu; exact mu
  by_cases hb : b = x
  · subst hb; rw [upd_same] at q; cases q; exact new
  · rw [upd_ne hb] at q
    by_cases hbe : b = e
    · have q' : H b = some (.own x) := by
        rcases he with z | z
        · exact absurd (hbe.trans z) hb
        · rw [hbe]; exact z
      rw [q] at q'; cases q'
      obtain ⟨v, hv⟩ := heo
      exact ⟨v, by rw [hbe]; exact hv⟩
    · refine (ok b u q).stay (fun c v hc r => k c v ?_ r) (fun c r => by rw [upd_ne (nown c b r)]; exact r) fun c xs r => by rw [upd_ne (ntup c xs r)]; exact r
      rcases hc with rfl | hc
      · exact hbe
      · rintro rfl
        rcases he with z | z
        · exact nown c b hc z
        · rw [hc] at z; cases z; exact hb rfl
end
structure Un (fs ex : List Addr) (H H' : Hp) (h h' : Heap) : Prop where
  keep : ∀ b o, h.get? b = some o → H b = none → b ∉ fs → b ∉ ex → h'.get? b = some o
  slot : ∀ b o, h.get? b = some o → H b = none → b ∈ fs → b ∉ ex → ∃ sl, h'.get? b = some { o with slots := sl }
  free : ∀ b o, h.get? b = some o → H b = none → b ∉ ex → H' b = none
  there : ∀ b o, h.get? b = some o → b ∉ ex → ∃ o', h'.get? b = some o'
  tups : ∀ b xs, H b = some (.tup xs) → H' b = some (.tup xs)
  frzs : ∀ b o u, H b = some (.frz o u) → H' b = some (.frz o u)
  tbls : ∀ b ps, H b = some (.tbl ps) → ∃ more, H' b = some (.tbl (ps ++ more))
section
variable {fs fs' ex ex' : List Addr} {H H1 H2 : Hp} {h h1 h2 h' : Heap} {a x e : Addr} {o : HO}
theorem Un.any (u : Un fs ex H H1 h h1) {b : Addr} {ob : Obj} (q : h.get? b = some ob) (n : H b = none) (hx : b ∉ ex) : ∃ sl, h1.get? b = some { ob with slots := sl } := by
  by_cases hb : b ∈ fs
  · exact u.slot b ob q n hb hx
  · exact ⟨ob.slots, u.keep b ob q n hb hx⟩
theorem Un.kept (k : ∀ b u, h.get? b = some u → h'.get? b = some u) : Un fs ex H H h h' :=
  ⟨fun b ob q _ _ _ => k b ob q, fun b ob q _ _ _ => ⟨ob.slots, k b ob q⟩, fun _ _ _ n _ => n, fun b ob q _ => ⟨ob, k b ob q⟩, fun _ _ q => q, fun _ _ _ q => q, fun _ ps q => ⟨#[], by rw [q]; simp⟩⟩
theorem Un.refl : Un fs ex H H h h := Un.kept fun _ _ q => q
theorem Un.laid (k : ∀ b u, h.get? b = some u → h'.get? b = some u) (hp : h.objs.size ≤ a) (hn : H a = none) : Un fs ex H (upd H a o) h h' where
  keep := fun b u q _ _ _ => k b u q
  slot := fun b u q _ _ _ => ⟨u.slots, k b u q⟩
  free := fun b u q n _ => by rw [upd_ne (Nat.ne_of_lt (Nat.lt_of_lt_of_le (Heap.lt_size q) hp))]; exact n
  there := fun b u q _ => ⟨u, k b u q⟩
  tups := fun b xs q => by rw [upd_ne (ne_of_none q hn)]; exact q
  frzs := fun b u xs q => by rw [upd_ne (ne_of_none q hn)]; exact q
  tbls := fun b ps q => ⟨#[], by rw [upd_ne (ne_of_none q hn), q]; simp⟩
theorem Un.write (mu : Mut (H x)) (he : e = x ∨ H e = some (.own x)) (k : ∀ b u, b ≠ e → h.get? b = some u → h'.get? b = some u) (heo : ∃ u, h'.get? e = some u) : Un fs ex H (upd H x o) h h' := by
  have hx : ∀ b, H b = none → b ≠ x := fun b n z => by subst z; rw [n] at mu; exact mu
  have hb : ∀ b, H b = none → b ≠ e := fun b n z => by
    subst z
    rcases he with r | r
    · exact hx b n r
    · rw [n] at r; cases r
  have hm : ∀ b u, H b = some u → ¬ Mut (some u) → b ≠ x := fun b u q nm z => by subst z; rw [q] at mu; exact nm mu
  refine ⟨fun b u q n _ _ => k b u (hb b n) q, fun b u q n _ _ => ⟨u.slots, k b u (hb b n) q⟩, fun b u q n _ => by rw [upd_ne (hx b n)]; exact n, fun b u q _ => ?_,
    fun b xs q => by rw [upd_ne (hm b _ q fun z => z)]; exact q, fun b u xs q => by rw [upd_ne (hm b _ q fun z => z)]; exact q, fun b ps q => ⟨#[], by rw [upd_ne (hm b _ q fun z => z), q]; simp⟩⟩
  by_cases hbe : b = e
  · subst hbe; exact heo
  · exact ⟨u, k b u hbe q⟩
end
def trk (h : Heap) (H : Hp) : List Addr := (List.range h.objs.size).filter fun a => (H a).isSome
def hidT (h : Heap) (H : Hp) : Heap := PySem.W.hideAll h (trk h H)
theorem hidT_size (h : Heap) (H : Hp) : (hidT h H).objs.size = h.objs.size := PySem.W.hideAll_size _ _
theorem hidT_get {h : Heap} {H : Hp} {b : Addr} {o : Obj} (e : h.get? b = some o) (n : H b = none) : (hidT h H).get? b = some o :=
  PySem.W.hideAll_get _ e fun hm => by
    have q : (H b).isSome = true := (List.mem_filter.mp hm).2
    rw [n] at q; simp at q
theorem of_hidT {h : Heap} {H : Hp} {b : Addr} {o : Obj} (e : (hidT h H).get? b = some o) : h.get? b = some o ∧ H b = none := by
  have e' : h.get? b = some o := PySem.W.of_hideAll (trk h H) e
  refine ⟨e', ?_⟩
  cases q : H b with
  | none => rfl
  | some x =>
    have hm : b ∈ trk h H := List.mem_filter.mpr ⟨List.mem_range.mpr (Heap.lt_size e'), by simp [q]⟩
    have z : (hidT h H).get? b = none := PySem.W.hideAll_none (trk h H) hm
    rw [z] at e; cases e
end L2
namespace L2
open PySem PySem.Spec PyProof.Rows
structure Mod (K : PySem.W.Frag) (mg : Str → Option Value) (base : Heap) : Prop where
  kin : K.In base
  glob : base.Ns mainGlobals mg
  blt : ∃ mb, base.Ns builtinsNs mb ∧ ∀ x : Str, x ≠ "__name__" → mb x = bootBuiltins x
  nolimit : base.NoLimit
structure Cx where
  prog : Program
  w : World
  K : PySem.W.Frag
  mg : Str → Option Value
  base : Heap
  A : Around
  N : List Str
  s₀ : Shared
  H₀ : Hp
  env : Env
  outer : List Env
  stack : List Env
  ex : List Addr
  fn : Str → Bool
  calm : Bool
  pn : List (Addr × Obj)
  xe : Value → Shared → Prop
def frs (l : List Env) : List Addr := l.filterMap (·.frame)
abbrev Cx.fs (X : Cx) : List Addr := frs X.outer
def Vis (sc : Scope) (x : Str) : Prop := sc.names.lookup x = some .local ∨ sc.names.lookup x = some .cell ∨ sc.names.lookup x = some .free
def Loc (sc : Scope) (x : Str) : Prop := sc.names.lookup x = some .local ∨ sc.names.lookup x = some .cell
def Look (env : Env) (h : Heap) (m : Str → Option Value) (x : Str) (u : Value) : Prop :=
  (env.kindOf x = some .local ∧ m x = some u) ∨ ((env.kindOf x = some .cell ∨ env.kindOf x = some .free) ∧ ∃ c, env.cells.lookup x = some c ∧ h.IsCell c (some u))
structure Cx.Ok (X : Cx) : Prop where
  mod : Mod X.K X.mg X.base
  kind : X.env.scope.kind = .function
  glob : X.env.globals = mainGlobals
  blt : X.env.builtins = builtinsNs
  above : X.s₀.heap.objs.size ≤ X.env.locals
  inj : ∀ x y c, X.env.cells.lookup x = some c → X.env.cells.lookup y = some c → x = y
  has : ∀ x, (X.env.kindOf x = some .cell ∨ X.env.kindOf x = some .free) → ∃ c, X.env.cells.lookup x = some c
  cab : ∀ x c, X.fn x = true → X.env.cells.lookup x = some c → X.s₀.heap.objs.size ≤ c
  hd : X.calm = true → X.A.handled = none
  frames : X.A.frames = some X.stack
  stk : X.stack = X.outer ∨ (X.stack = X.env :: X.outer ∧ X.env.frame = some X.env.locals)
  exf : ∀ b ∈ X.ex, b ≠ X.env.locals ∧ ∀ x c, X.env.cells.lookup x = some c → c ≠ b
  bs : ∀ b o, X.base.get? b = some o → X.s₀.heap.get? b = some o ∧ X.H₀ b = none
  bsz : X.base.objs.size ≤ X.s₀.heap.objs.size
  noex : ∀ b o, X.base.get? b = some o → b ∉ X.ex
  exfs : ∀ b ∈ X.ex, b ∉ X.fs
  funs : X.s₀.heap.FunFrames X.base X.outer
  frf : ∀ b ∈ X.fs, X.H₀ b = none
structure Inv (X : Cx) (pins : List (Addr × Obj)) (σ : List (Option V)) (H : Hp) (s : Shared) : Prop where
  ok : X.Ok
  os : s.os = X.s₀.os
  bare : AllBare s.gens
  base : Un X.fs X.ex X.H₀ H X.s₀.heap s.heap
  loc : ∃ m, s.heap.Ns X.env.locals m ∧ ∀ (i : Nat) (x : Str) (v : V), X.N[i]? = some x → σ[i]? = some (some v) → Vis X.env.scope x → ∃ u, RelV v u ∧ Look X.env s.heap m x u
  cell : ∀ x c, X.env.cells.lookup x = some c → ∃ v, s.heap.IsCell c v
  free : H X.env.locals = none
  freeC : ∀ x c, X.env.cells.lookup x = some c → H c = none
  pin : ∀ p ∈ X.pn ++ pins, s.heap.get? p.1 = some p.2 ∧ H p.1 = none ∧ p.1 ≠ X.env.locals ∧ p.1 ∉ X.fs ∧ ∀ v, p.2.data ≠ .cell v
  hok : HOk X.prog X.w H s.heap
  len : σ.length = X.N.length
section
variable {X : Cx} {pins : List (Addr × Obj)} {σ : List (Option V)} {H H' : Hp} {s : Shared} {h' : Heap}
theorem Cx.Ok.nofr (ok : X.Ok) {b : Addr} {o : Obj} (e : X.base.get? b = some o) : b ∉ X.fs := fun hb => by
  have := (ok.funs.mem hb).1
  rw [e] at this; cases this
theorem Inv.bs (I : Inv X pins σ H s) : ∀ b o, X.base.get? b = some o → s.heap.get? b = some o ∧ H b = none := fun b o e =>
  ⟨I.base.keep b o (I.ok.bs b o e).1 (I.ok.bs b o e).2 (I.ok.nofr e) (I.ok.noex b o e), I.base.free b o (I.ok.bs b o e).1 (I.ok.bs b o e).2 (I.ok.noex b o e)⟩
theorem Inv.bk (I : Inv X pins σ H s) : ∀ b o, X.base.get? b = some o → s.heap.get? b = some o := fun b o e => (I.bs b o e).1
theorem Inv.mod (I : Inv X pins σ H s) : Mod X.K X.mg X.base := I.ok.mod
theorem Inv.kIn (I : Inv X pins σ H s) : X.K.In s.heap := I.ok.mod.kin.keeps I.bk
theorem Inv.nolimit (I : Inv X pins σ H s) : s.heap.NoLimit := I.ok.mod.nolimit.keeps I.bk
theorem Inv.lt (I : Inv X pins σ H s) : X.env.locals < s.heap.objs.size := let ⟨_, hn, _⟩ := I.loc; hn.lt
theorem Inv.sz (I : Inv X pins σ H s) : X.s₀.heap.objs.size ≤ s.heap.objs.size := Nat.le_trans I.ok.above (Nat.le_of_lt I.lt)
theorem Inv.nofs (I : Inv X pins σ H s) {a : Addr} (h : s.heap.objs.size ≤ a) : a ∉ X.fs := fun hb => by
  obtain ⟨_, o, ho, _⟩ := I.ok.funs.mem hb
  exact absurd (Nat.lt_of_lt_of_le (Heap.lt_size ho) (Nat.le_trans I.sz h)) (Nat.lt_irrefl _)
theorem Inv.cne (I : Inv X pins σ H s) : ∀ x c, X.env.cells.lookup x = some c → c ≠ X.env.locals := fun x c e z => by
  obtain ⟨v, o, ho, hd⟩ := I.cell x c e
  obtain ⟨m, ⟨o', es, ep, ho', hd', _⟩, _⟩ := I.loc
  rw [z, ho'] at ho; cases ho; rw [hd'] at hd; cases hd
theorem Inv.funs (I : Inv X pins σ H s) : s.heap.FunFrames X.base X.outer := by
  have all : ∀ (l : List Env), (∀ b ∈ frs l, b ∈ X.fs) → X.s₀.heap.FunFrames X.base l → s.heap.FunFrames X.base l := by
    intro l
    induction l with
    | nil => intro _ _; trivial
    | cons env r ih =>
      intro hs hl
      obtain ⟨hk, ⟨L, o, hf, hn, ho, hd⟩, hr⟩ := hl
      have hL : L ∈ X.fs := hs L (by unfold frs; rw [List.filterMap_cons, hf]; exact List.mem_cons_self)
      obtain ⟨sl, e⟩ := I.base.slot L o ho (I.ok.frf L hL) hL fun z => I.ok.exfs L z hL
      exact ⟨hk, ⟨L, _, hf, hn, e, hd⟩, ih (fun b hb => hs b (by unfold frs; rw [List.filterMap_cons, hf]; exact List.mem_cons_of_mem _ hb)) hr⟩
  exact all X.outer (fun _ hb => hb) I.ok.funs
theorem Inv.stack (I : Inv X pins σ H s) : s.heap.FunFrames X.base X.stack := by
  rcases I.ok.stk with e | ⟨e, hf⟩
  · rw [e]; exact I.funs
  · rw [e]
    obtain ⟨m, hn, _⟩ := I.loc
    refine .cons (by rw [I.ok.kind]; decide) hf hn ?_ I.funs
    exact Heap.get?_none_of_le (Nat.le_trans I.ok.bsz I.ok.above)
theorem Inv.stkSub (I : Inv X pins σ H s) : ∀ b ∈ frs X.stack, b ∈ X.env.locals :: X.fs := fun b hb => by
  rcases I.ok.stk with e | ⟨e, hf⟩
  · rw [e] at hb; exact List.mem_cons_of_mem _ hb
  · rw [e] at hb
    unfold frs at hb
    rw [List.filterMap_cons, hf] at hb
    exact hb
theorem Inv.stkFree (I : Inv X pins σ H s) : ∀ b ∈ frs X.stack, H b = none := fun b hb => by
  rcases List.mem_cons.mp (I.stkSub b hb) with e | hb
  · rw [e]; exact I.free
  · obtain ⟨_, o, ho, _⟩ := I.ok.funs.mem hb
    exact I.base.free b o ho (I.ok.frf b hb) fun z => I.ok.exfs b z hb
theorem Inv.step {g' : Array GenState} {t' : Nat} {d' : Drawn} {ch : List Addr} (I : Inv X pins σ H s)
    (hch : ∀ b ∈ ch, (b ∈ X.ex ∨ X.s₀.heap.objs.size ≤ b) ∧ b ≠ X.env.locals ∧ (∀ x c, X.env.cells.lookup x = some c → c ≠ b) ∧ ∀ p ∈ X.pn ++ pins, p.1 ≠ b)
    (keep : ∀ b o, b ≠ X.env.locals → b ∉ X.fs → b ∉ ch → s.heap.get? b = some o → H b = none → h'.get? b = some o)
    (slot : ∀ b o, b ≠ X.env.locals → b ∈ X.fs → b ∉ ch → s.heap.get? b = some o → H b = none → ∃ sl, h'.get? b = some { o with slots := sl }) (free : ∀ b o, b ∉ ch → s.heap.get? b = some o → H b = none → H' b = none)
    (there : ∀ b o, b ∉ ch → s.heap.get? b = some o → ∃ o', h'.get? b = some o')
    (tups : ∀ b xs, H b = some (.tup xs) → H' b = some (.tup xs)) (frzs : ∀ b o u, H b = some (.frz o u) → H' b = some (.frz o u)) (tbls : ∀ b ps, H b = some (.tbl ps) → ∃ more, H' b = some (.tbl (ps ++ more)))
    (ns : ∀ m, s.heap.Ns X.env.locals m → h'.Ns X.env.locals m) (hok : HOk X.prog X.w H' h') (hg : AllBare g') :
    Inv X pins σ H' { s with heap := h', gens := g', drawn := d', toks := t' } := by
  have neL : ∀ b o, X.s₀.heap.get? b = some o → b ≠ X.env.locals := fun b o e => Nat.ne_of_lt (Nat.lt_of_lt_of_le (Heap.lt_size e) I.ok.above)
  have neC : ∀ b o, X.s₀.heap.get? b = some o → b ∉ X.ex → b ∉ ch := fun b o e hx hb => by
    rcases (hch b hb).1 with z | z
    · exact hx z
    · exact absurd (Nat.lt_of_lt_of_le (Heap.lt_size e) z) (Nat.lt_irrefl _)
  have cellK : ∀ x c, X.env.cells.lookup x = some c → ∀ v, s.heap.IsCell c v → h'.IsCell c v := fun x c e v ⟨o, ho, hd⟩ => by
    have nch : c ∉ ch := fun z => (hch c z).2.2.1 x c e rfl
    by_cases hc : c ∈ X.fs
    · obtain ⟨sl, q⟩ := slot c o (I.cne x c e) hc nch ho (I.freeC x c e)
      exact ⟨_, q, hd⟩
    · exact ⟨o, keep c o (I.cne x c e) hc nch ho (I.freeC x c e), hd⟩
  refine ⟨I.ok, I.os, hg, ⟨fun b o e n hb hx => ?_, fun b o e n hb hx => ?_, fun b o e n hx => ?_, fun b o e hx => ?_, fun b xs e => tups b xs (I.base.tups b xs e), fun b o xs e => frzs b o xs (I.base.frzs b o xs e), fun b ps e => ?_⟩, ?_, fun x c e => ?_, ?_, fun x c e => ?_, fun p hp => ?_, hok, I.len⟩
  · exact keep b o (neL b o e) hb (neC b o e hx) (I.base.keep b o e n hb hx) (I.base.free b o e n hx)
  · obtain ⟨sl, e1⟩ := I.base.slot b o e n hb hx
    obtain ⟨sl', e2⟩ := slot b _ (neL b o e) hb (neC b o e hx) e1 (I.base.free b o e n hx)
    exact ⟨sl', e2⟩
  · obtain ⟨o', e1⟩ := I.base.there b o e hx
    exact free b o' (neC b o e hx) e1 (I.base.free b o e n hx)
  · obtain ⟨o', e1⟩ := I.base.there b o e hx
    exact there b o' (neC b o e hx) e1
  · obtain ⟨m1, e1⟩ := I.base.tbls b ps e
    obtain ⟨m2, e2⟩ := tbls b _ e1
    exact ⟨m1 ++ m2, by rw [e2, Array.append_assoc]⟩
  · obtain ⟨m, hn, hl⟩ := I.loc
    refine ⟨m, ns m hn, fun i x v e1 e2 e3 => ?_⟩
    obtain ⟨u, r, l⟩ := hl i x v e1 e2 e3
    refine ⟨u, r, ?_⟩
    rcases l with l | ⟨k, c, e, z⟩
    · exact .inl l
    · exact .inr ⟨k, c, e, cellK x c e _ z⟩
  · obtain ⟨v, z⟩ := I.cell x c e
    exact ⟨v, cellK x c e v z⟩
  · obtain ⟨m, ⟨o, _, _, ho, _⟩, _⟩ := I.loc
    exact free _ o (fun z => (hch _ z).2.1 rfl) ho I.free
  · obtain ⟨v, o, ho, hd⟩ := I.cell x c e
    exact free c o (fun z => (hch c z).2.2.1 x c e rfl) ho (I.freeC x c e)
  · obtain ⟨e, n, ne, nf, d⟩ := I.pin p hp
    have nch : p.1 ∉ ch := fun z => (hch p.1 z).2.2.2 p hp rfl
    exact ⟨keep p.1 p.2 ne nf nch e n, free p.1 p.2 nch e n, ne, nf, d⟩
theorem Inv.un {t' : Nat} (I : Inv X pins σ H s) (u : Un X.fs [] H H' s.heap h') (hok : HOk X.prog X.w H' h') : Inv X pins σ H' { s with heap := h', toks := t' } := by
  obtain ⟨m, ⟨o, es, ep, ho, r⟩, _⟩ := id I.loc
  obtain ⟨sl, hL⟩ := u.any ho I.free (by simp)
  exact I.step (g' := s.gens) (d' := s.drawn) (ch := []) (fun _ z => nomatch z) (fun b o _ hb _ e n => u.keep b o e n hb (by simp)) (fun b o _ hb _ e n => u.slot b o e n hb (by simp)) (fun b o _ e n => u.free b o e n (by simp)) (fun b o _ e => u.there b o e (by simp)) u.tups u.frzs u.tbls (fun m' hm => by
    obtain ⟨o', es', ep', ho', r'⟩ := hm
    rw [ho] at ho'; cases ho'
    exact ⟨_, es', ep', hL, r'⟩) hok I.bare
theorem Inv.call {g' : Array GenState} {t' : Nat} {d' : Drawn} {ch : List Addr} (I : Inv X pins σ H s) (u : Un (frs X.stack) ch H H' s.heap h') (hok : HOk X.prog X.w H' h') (hg : AllBare g')
    (hch : ∀ b ∈ ch, (b ∈ X.ex ∨ X.s₀.heap.objs.size ≤ b) ∧ b ≠ X.env.locals ∧ (∀ x c, X.env.cells.lookup x = some c → c ≠ b) ∧ ∀ p ∈ X.pn ++ pins, p.1 ≠ b) :
    Inv X pins σ H' { s with heap := h', gens := g', drawn := d', toks := t' } := by
  obtain ⟨m, ⟨o, es, ep, ho, r⟩, _⟩ := id I.loc
  obtain ⟨sl, hL⟩ := u.any ho I.free fun z => (hch _ z).2.1 rfl
  exact I.step (ch := ch) hch (fun b o hL hb hc e n => u.keep b o e n (fun z => (List.mem_cons.mp (I.stkSub b z)).elim hL hb) hc) (fun b o _ _ hc e n => u.any e n hc) (fun b o hc e n => u.free b o e n hc) (fun b o hc e => u.there b o e hc) u.tups u.frzs u.tbls (fun m' hm => by
    obtain ⟨o', es', ep', ho', r'⟩ := hm
    rw [ho] at ho'; cases ho'
    exact ⟨_, es', ep', hL, r'⟩) hok hg
theorem Inv.turned {t' : Nat} {it : Addr} (I : Inv X pins σ H s) (k : ∀ b o, b ≠ it → s.heap.get? b = some o → h'.get? b = some o) (hn : H it = none) (hL : it ≠ X.env.locals)
    (h1 : it ∈ X.ex ∨ X.s₀.heap.objs.size ≤ it) (h2 : ∀ x c, X.env.cells.lookup x = some c → c ≠ it) (h3 : ∀ p ∈ X.pn ++ pins, p.1 ≠ it) : Inv X pins σ H { s with heap := h', toks := t' } := by
  have nit : ∀ b u, H b = some u → b ≠ it := fun b u e z => by rw [z, hn] at e; cases e
  refine I.step (g' := s.gens) (d' := s.drawn) (ch := [it]) (fun b hb => ?_) (fun b o _ _ hc e _ => k b o (fun z => hc (by simp [z])) e) (fun b o _ _ hc e _ => ⟨o.slots, k b o (fun z => hc (by simp [z])) e⟩) (fun _ _ _ _ n => n)
    (fun b o hc e => ⟨o, k b o (fun z => hc (by simp [z])) e⟩) (fun _ _ e => e) (fun _ _ _ e => e) (fun b ps e => ⟨#[], by rw [e]; simp⟩) (fun m hm => ?_) (fun b u e => ?_) I.bare
  · have e : b = it := by simpa using hb
    subst e
    exact ⟨h1, hL, h2, h3⟩
  · obtain ⟨o, es, ep, ho, r⟩ := hm
    exact ⟨o, es, ep, k _ o (Ne.symm hL) ho, r⟩
  · refine (I.hok b u e).stay (fun c v hc q => k c v ?_ q) (fun _ q => q) fun _ _ q => q
    rcases hc with z | z
    · rw [z]; exact nit b u e
    · exact nit c _ z
theorem Inv.tok (I : Inv X pins σ H s) (t : Nat) : Inv X pins σ H { s with toks := t } := I.un (h' := s.heap) (t' := t) Un.refl I.hok
theorem Inv.kept {t' : Nat} (I : Inv X pins σ H s) (k : ∀ b u, s.heap.get? b = some u → h'.get? b = some u) : Inv X pins σ H { s with heap := h', toks := t' } := I.un (Un.kept k) (I.hok.kept k)
theorem Inv.laid {a : Addr} {o : HO} {t' : Nat} (I : Inv X pins σ H s) (k : ∀ b u, s.heap.get? b = some u → h'.get? b = some u) (hp : s.heap.objs.size ≤ a) (new : ObjOk X.prog X.w (upd H a o) h' a o) :
    Inv X pins σ (upd H a o) { s with heap := h', toks := t' } := I.un (Un.laid k hp (I.hok.fresh hp)) (I.hok.laid k hp new)
theorem Inv.write {x e : Addr} {o : HO} {t' : Nat} (I : Inv X pins σ H s) (mu : Mut (H x)) (he : e = x ∨ H e = some (.own x)) (k : ∀ b u, b ≠ e → s.heap.get? b = some u → h'.get? b = some u) (heo : ∃ u, h'.get? e = some u)
    (new : ObjOk X.prog X.w (upd H x o) h' x o) : Inv X pins σ (upd H x o) { s with heap := h', toks := t' } := I.un (Un.write mu he k heo) (I.hok.write mu he k heo new)
theorem Inv.pins_of {pins' : List (Addr × Obj)} (I : Inv X pins σ H s) (h : ∀ p ∈ pins', s.heap.get? p.1 = some p.2 ∧ H p.1 = none ∧ p.1 ≠ X.env.locals ∧ p.1 ∉ X.fs ∧ ∀ v, p.2.data ≠ .cell v) : Inv X pins' σ H s :=
  ⟨I.ok, I.os, I.bare, I.base, I.loc, I.cell, I.free, I.freeC, fun p hp => (List.mem_append.mp hp).elim (fun z => I.pin p (List.mem_append_left _ z)) (h p), I.hok, I.len⟩
theorem nodup_ix {N : List Str} (hN : N.Nodup) {i j : Nat} {x : Str} (a : N[i]? = some x) (b : N[j]? = some x) : i = j := by
  obtain ⟨h1, e1⟩ := List.getElem?_eq_some_iff.mp a
  obtain ⟨h2, e2⟩ := List.getElem?_eq_some_iff.mp b
  exact (List.getElem_inj hN).mp (e1.trans e2.symm)
theorem store_ok2 {M : Model} {A : Around} {E : Value → Shared → Prop} {i : Nat} {x : Str} {v : V} {u : Value} {Q : Unit → Shared → Prop} (I : Inv X pins σ H s) (hN : X.N.Nodup) (hi : X.N[i]? = some x) (hx : Loc X.env.scope x) (r : RelV v u)
    (h : ∀ s', Inv X pins (σ.set i (some v)) H s' → (∃ a, Heap.SameBut a s.heap s'.heap ∧ (a = X.env.locals ∨ X.env.cells.lookup x = some a)) → Q () s') (hf : X.fn x = true ∨ X.env.scope.names.lookup x = some .local := by first | exact .inl rfl | exact .inr rfl | assumption) : wpAny M A (storeName X.env x u) Q E s := by
  obtain ⟨m, hn, hl⟩ := id I.loc
  have hcls : (X.env.scope.kind == .class || (X.env.scope.kind == .module && X.env.locals != X.env.globals)) = false := by rw [I.ok.kind]; rfl
  have hiσ : i < σ.length := by rw [I.len]; exact (List.getElem?_eq_some_iff.mp hi).1
  have cne := I.cne
  have tracked : ∀ {a : Addr} {h' : Heap}, (∃ o, s.heap.get? a = some o ∧ H a = none) → Heap.SameBut a s.heap h' → HOk X.prog X.w H h' := fun {a h'} ha hs b ob e => by
    obtain ⟨_, _, hfree⟩ := ha
    refine (I.hok b ob e).stay (fun c w' hc q => (hs.2 c ?_).trans q) (fun _ q => q) fun _ _ q => q
    rintro rfl
    rcases hc with rfl | hc
    · rw [hfree] at e; cases e
    · rw [hfree] at hc; cases hc
  rcases hx with hk | hk
  · refine wpAny_storeName_local hk hn (fun h' hn' hs => ?_) hcls
    obtain ⟨oL, _, _, hoL, _⟩ := id hn
    refine h _ ⟨I.ok, I.os, I.bare, ⟨fun b o e n hb hx => ?_, fun b o e n hb hx => ?_, I.base.free, fun b o e hx => ?_, I.base.tups, I.base.frzs, I.base.tbls⟩, ⟨_, hn', fun j y v' e1 e2 e3 => ?_⟩, fun y c e => ?_, I.free, I.freeC, fun p hp => ?_, tracked ⟨oL, hoL, I.free⟩ hs, by simpa using I.len⟩ ⟨_, hs, .inl rfl⟩
    · exact (hs.2 b (Nat.ne_of_lt (Nat.lt_of_lt_of_le (Heap.lt_size e) I.ok.above))).trans (I.base.keep b o e n hb hx)
    · obtain ⟨sl, e1⟩ := I.base.slot b o e n hb hx
      exact ⟨sl, (hs.2 b (Nat.ne_of_lt (Nat.lt_of_lt_of_le (Heap.lt_size e) I.ok.above))).trans e1⟩
    · obtain ⟨o', e1⟩ := I.base.there b o e hx
      exact ⟨o', (hs.2 b (Nat.ne_of_lt (Nat.lt_of_lt_of_le (Heap.lt_size e) I.ok.above))).trans e1⟩
    · by_cases hj : j = i
      · subst hj
        rw [hi] at e1; cases e1
        rw [List.getElem?_set_self hiσ] at e2
        cases e2
        exact ⟨u, r, .inl ⟨hk, by simp⟩⟩
      · rw [List.getElem?_set_ne (Ne.symm hj)] at e2
        obtain ⟨u', r', q⟩ := hl j y v' e1 e2 e3
        refine ⟨u', r', ?_⟩
        rcases q with ⟨k, e⟩ | ⟨k, c, e, z⟩
        · refine .inl ⟨k, ?_⟩
          have : y ≠ x := fun e => hj (nodup_ix hN e1 (e ▸ hi))
          simp [this, e]
        · exact .inr ⟨k, c, e, z.sameBut hs (cne y c e)⟩
    · obtain ⟨w', z⟩ := I.cell y c e
      exact ⟨w', z.sameBut hs (cne y c e)⟩
    · obtain ⟨e, n, ne, nf, d⟩ := I.pin p hp
      exact ⟨(hs.2 p.1 ne).trans e, n, ne, nf, d⟩
  · have hfn : X.fn x = true := by
      rcases hf with z | z
      · exact z
      · rw [z] at hk; cases hk
    obtain ⟨c, hc⟩ := I.ok.has x (.inl hk)
    obtain ⟨w', z⟩ := I.cell x c hc
    refine wpAny_storeName_cell I.ok.kind hk hc z (fun h' hc' hs => ?_)
    obtain ⟨oc, hoc, hocd⟩ := id z
    refine h { s with heap := h' } ⟨I.ok, I.os, I.bare, ⟨fun b o e n hb hx => ?_, fun b o e n hb hx => ?_, I.base.free, fun b o e hx => ?_, I.base.tups, I.base.frzs, I.base.tbls⟩, ⟨m, hn.sameBut hs (Ne.symm (cne x c hc)), fun j y v' e1 e2 e3 => ?_⟩, fun y c' e => ?_, I.free, I.freeC, fun p hp => ?_, tracked ⟨oc, hoc, I.freeC x c hc⟩ hs, by simpa using I.len⟩ ⟨c, hs, .inr hc⟩
    · exact (hs.2 b (Nat.ne_of_lt (Nat.lt_of_lt_of_le (Heap.lt_size e) (I.ok.cab x c hfn hc)))).trans (I.base.keep b o e n hb hx)
    · obtain ⟨sl, e1⟩ := I.base.slot b o e n hb hx
      exact ⟨sl, (hs.2 b (Nat.ne_of_lt (Nat.lt_of_lt_of_le (Heap.lt_size e) (I.ok.cab x c hfn hc)))).trans e1⟩
    · obtain ⟨o', e1⟩ := I.base.there b o e hx
      exact ⟨o', (hs.2 b (Nat.ne_of_lt (Nat.lt_of_lt_of_le (Heap.lt_size e) (I.ok.cab x c hfn hc)))).trans e1⟩
    · by_cases hj : j = i
      · subst hj
        rw [hi] at e1; cases e1
        rw [List.getElem?_set_self hiσ] at e2
        cases e2
        exact ⟨u, r, .inr ⟨.inl hk, c, hc, hc'⟩⟩
      · rw [List.getElem?_set_ne (Ne.symm hj)] at e2
        obtain ⟨u', r', q⟩ := hl j y v' e1 e2 e3
        refine ⟨u', r', ?_⟩
        rcases q with q | ⟨k, c', e, z'⟩
        · exact .inl q
        · refine .inr ⟨k, c', e, z'.sameBut hs ?_⟩
          rintro rfl
          exact hj (nodup_ix hN e1 (I.ok.inj _ _ _ e hc ▸ hi))
    · by_cases hcc : c' = c
      · subst hcc; exact ⟨_, hc'⟩
      · obtain ⟨w2, z2⟩ := I.cell y c' e
        exact ⟨w2, z2.sameBut hs hcc⟩
    · obtain ⟨e, n, ne, nf, d⟩ := I.pin p hp
      refine ⟨(hs.2 p.1 ?_).trans e, n, ne, nf, d⟩
      intro q
      rw [q, hoc] at e
      have q' : oc = p.2 := Option.some.inj e
      exact d w' (by rw [← q']; exact hocd)
theorem store_ok {M : Model} {A : Around} {E : Value → Shared → Prop} {i : Nat} {x : Str} {v : V} {u : Value} {Q : Unit → Shared → Prop} (I : Inv X pins σ H s) (hN : X.N.Nodup) (hi : X.N[i]? = some x) (hx : Loc X.env.scope x) (r : RelV v u)
    (h : ∀ s', Inv X pins (σ.set i (some v)) H s' → Q () s') (hf : X.fn x = true ∨ X.env.scope.names.lookup x = some .local := by first | exact .inl rfl | exact .inr rfl | assumption) : wpAny M A (storeName X.env x u) Q E s :=
  store_ok2 I hN hi hx r (fun s' I' _ => h s' I') hf
theorem Inv.call' {s' : Shared} {ch : List Addr} (I : Inv X pins σ H s) (ho : s'.os = s.os) (u : Un (frs X.stack) ch H H' s.heap s'.heap) (hok : HOk X.prog X.w H' s'.heap) (hg : AllBare s'.gens)
    (hch : ∀ b ∈ ch, (b ∈ X.ex ∨ X.s₀.heap.objs.size ≤ b) ∧ b ≠ X.env.locals ∧ (∀ x c, X.env.cells.lookup x = some c → c ≠ b) ∧ ∀ p ∈ X.pn ++ pins, p.1 ≠ b) : Inv X pins σ H' s' := by
  obtain ⟨h', g', d', t', o'⟩ := s'
  have e : o' = s.os := ho
  subst e
  exact I.call (g' := g') (t' := t') (d' := d') u hok hg hch
end
abbrev XK := Value → Option Addr → Hp → Prop
abbrev St := List (Option V)
abbrev VK := V → Hp → Prop
abbrev TE := St → Hp → VK → Prop
abbrev TT := St → Hp → (Bool → Hp → Prop) → Prop
abbrev TA := St → Hp → (List V → Hp → Prop) → Prop
structure Ends where
  nx : St → Hp → Prop
  rt : VK
  bk : St → Hp → Prop := fun _ _ => False
  ct : St → Hp → Prop := fun _ _ => False
abbrev TS := Ends → St → Hp → Prop
def EP (X : Cx) (pins : List (Addr × Obj)) (σ : St) (Q : VK) (u : Value) (s' : Shared) : Prop := ∃ v H', Inv X pins σ H' s' ∧ RelV v u ∧ Q v H'
def TP (X : Cx) (pins : List (Addr × Obj)) (σ : St) (Q : Bool → Hp → Prop) (b : Bool) (s' : Shared) : Prop := ∃ H', Inv X pins σ H' s' ∧ Q b H'
def AP (X : Cx) (pins : List (Addr × Obj)) (σ : St) (Q : List V → Hp → Prop) (us : List Value) (s' : Shared) : Prop := ∃ vs H', Inv X pins σ H' s' ∧ Vals vs us ∧ Q vs H'
def SP (X : Cx) (pins : List (Addr × Obj)) (D : Ends) (f : Flow) (s' : Shared) : Prop :=
  match f with
  | .next => ∃ σ' H', Inv X pins σ' H' s' ∧ D.nx σ' H'
  | .brk => ∃ σ' H', Inv X pins σ' H' s' ∧ D.bk σ' H'
  | .cont => ∃ σ' H', Inv X pins σ' H' s' ∧ D.ct σ' H'
  | .ret u => ∃ v σ' H', Inv X pins σ' H' s' ∧ RelV v u ∧ D.rt v H'
def PE (X : Cx) (e : Expr) (t : TE) : Prop :=
  ∀ (pins : List (Addr × Obj)) (s : Shared) (σ : St) (H : Hp) (Q : VK), Inv X pins σ H s → t σ H Q → wpAny (model X.prog X.w) X.A (eval e X.env) (EP X pins σ Q) X.xe s
def PT (X : Cx) (e : Expr) (t : TT) : Prop :=
  ∀ (pins : List (Addr × Obj)) (s : Shared) (σ : St) (H : Hp) (Q : Bool → Hp → Prop), Inv X pins σ H s → t σ H Q → wpAny (model X.prog X.w) X.A (isTrue e X.env (eval e X.env)) (TP X pins σ Q) X.xe s
def PW (X : Cx) (e : Expr) (t : TT) : Prop :=
  ∀ (whole : Sem Value) (pins : List (Addr × Obj)) (s : Shared) (σ : St) (H : Hp) (Q : Bool → Hp → Prop), Inv X pins σ H s → t σ H Q → wpAny (model X.prog X.w) X.A (isTrue e X.env whole) (TP X pins σ Q) X.xe s
theorem PW.pt {X : Cx} {e : Expr} {t : TT} (h : PW X e t) : PT X e t := h _
def PA (X : Cx) (es : List Expr) (t : TA) : Prop :=
  ∀ (pos : Pos) (pins : List (Addr × Obj)) (s : Shared) (σ : St) (H : Hp) (Q : List V → Hp → Prop), Inv X pins σ H s → t σ H Q → wpAny (model X.prog X.w) X.A (spliced (backTo pos (starEach es X.env))) (AP X pins σ Q) X.xe s
def PS (X : Cx) (st : Stmt) (t : TS) : Prop :=
  ∀ (pins : List (Addr × Obj)) (s : Shared) (σ : St) (H : Hp) (D : Ends), Inv X pins σ H s → t D σ H → wpAny (model X.prog X.w) X.A (exec st X.env) (SP X pins D) X.xe s
def PSs (X : Cx) (st : List Stmt) (t : TS) : Prop :=
  ∀ (pins : List (Addr × Obj)) (s : Shared) (σ : St) (H : Hp) (D : Ends), Inv X pins σ H s → t D σ H → wpAny (model X.prog X.w) X.A (execs st X.env) (SP X pins D) X.xe s
theorem thn {α : Type} {t : Sem α} {Q Q' : α → Shared → Prop} {M : Model} {A : Around} {E : Value → Shared → Prop} {s : Shared} (h : wpAny M A t Q E s) (hQ : ∀ a s, Q a s → Q' a s) : wpAny M A t Q' E s := wpAny_mono h hQ fun _ _ x => x
end L2
namespace L2
open PySem PySem.Spec PyProof.Rows
section
variable {X : Cx}
def tVar (i : Nat) : TE := fun σ H Q => ∃ v, σ[i]? = some (some v) ∧ Q v H
def tC (v : V) : TE := fun _ H Q => Q v H
theorem pe_var {i : Nat} {x : Str} {pos : Pos} (hN : X.N[i]? = some x) (hv : Vis X.env.scope x) (hd : (x == ("__debug__" : Str)) = false := by decide) (hcd : (x == ("__classdict__" : Str)) = false := by decide) : PE X (.Name x pos) (tVar i) := by
  intro pins s σ H Q I h
  obtain ⟨v, e, h⟩ := h
  obtain ⟨m, hn, hl⟩ := I.loc
  obtain ⟨u, r, l⟩ := hl i x v hN e hv
  have fin : EP X pins σ Q u s := ⟨v, H, I, r, h⟩
  rcases l with ⟨hk, hm⟩ | ⟨hk, c, hc, hcell⟩
  · exact wpAny_Name (wpAny_loadName_local I.ok.kind hk hn hm fin) hd
  · rcases hk with hk | hk
    · exact wpAny_Name (wpAny_loadName_cell I.ok.kind hk hc hcell fin) hd
    · exact wpAny_Name (wpAny_loadName_free I.ok.kind hk hc hcell fin hcd) hd
theorem pe_int {i j pos} : PE X (.Constant (.int i) j pos) (tC (.int i)) := fun _ _ _ H _ I h => wpAny_Constant_int ⟨.int i, H, I.tok _, ⟨_, rfl⟩, h⟩
theorem pe_bl {b j pos} : PE X (.Constant (.bool b) j pos) (tC (.bl b)) := fun _ _ _ H _ I h => Constant_bool ⟨.bl b, H, I, rfl, h⟩
theorem pe_str {x j pos} : PE X (.Constant (.str x) j pos) (tC (.str x)) := fun _ _ _ H _ I h => Calls.Constant_str ⟨.str x, H, I.tok _, ⟨_, rfl⟩, h⟩
def Gl (X : Cx) (x : Str) : Prop := X.env.kindOf x = some .globalImplicit
theorem ld_glob {E : Value → Shared → Prop} {pins : List (Addr × Obj)} {s : Shared} {σ : St} {H : Hp} {x : Str} {u : Value} {pos : Pos} {Q : Value → Shared → Prop} (I : Inv X pins σ H s) (hg : Gl X x) (hm : X.mg x = some u) (h : Q u s)
    (hd : (x == ("__debug__" : Str)) = false := by decide) : wpAny (model X.prog X.w) X.A (eval (.Name x pos) X.env) Q E s :=
  Calls.Name_function_global I.ok.kind hg (Calls.loadGlobal_global (by rw [I.ok.glob]; exact I.mod.glob.keeps I.bk) hm h) hd
theorem ld_blt {E : Value → Shared → Prop} {pins : List (Addr × Obj)} {s : Shared} {σ : St} {H : Hp} {x : Str} {u : Value} {pos : Pos} {Q : Value → Shared → Prop} (I : Inv X pins σ H s) (hg : Gl X x) (hm : X.mg x = none) (hv : bootBuiltins x = some u) (h : Q u s)
    (hn : x ≠ "__name__" := by decide) (hd : (x == ("__debug__" : Str)) = false := by decide) : wpAny (model X.prog X.w) X.A (eval (.Name x pos) X.env) Q E s := by
  obtain ⟨mb, h1, h2⟩ := I.mod.blt
  exact Calls.Name_function_global I.ok.kind hg (Calls.loadGlobal_builtin (by rw [I.ok.glob]; exact I.mod.glob.keeps I.bk) hm (by rw [I.ok.blt]; exact h1.keeps I.bk) ((h2 x hn).trans hv) h) hd
theorem pe_bltn {x : Str} {v : V} {u : Value} {pos : Pos} (hg : Gl X x) (hm : X.mg x = none) (hv : bootBuiltins x = some u) (r : RelV v u) (hn : x ≠ "__name__" := by decide) (hd : (x == ("__debug__" : Str)) = false := by decide) : PE X (.Name x pos) (tC v) :=
  fun _ _ _ H _ I h => ld_blt I hg hm hv ⟨v, H, I, r, h⟩ hn hd
variable {a b : Expr} {ta tb : TE} {pos : Pos}
def tB (t : TE) : TT := fun σ H Q => t σ H fun x H1 => ∃ c, x = .bl c ∧ Q c H1
theorem pt_val {e : Expr} {t : TE} (h : PE X e t) (he : ∀ whole, isTrue e X.env whole = (do let v ← whole; standAt e.pos; holding [v] (truthy v)) := by intro _; rfl) : PT X e (tB t) := by
  intro pins s σ H Q I hw
  refine isTrue_plain (thn (h pins s σ H _ I hw) fun v s1 ⟨x, H1, I1, r1, q1⟩ => ?_) (he _)
  obtain ⟨d, rfl, q⟩ := q1
  cases r1
  exact wpAny_truthy_bool ⟨H1, I1, q⟩
variable {tA tB' : TT} {rest : List Expr}
def tAnd (t u : TT) : TT := fun σ H Q => t σ H fun c H1 => if c = true then u σ H1 Q else Q false H1
def tOr (t u : TT) : TT := fun σ H Q => t σ H fun c H1 => if c = true then Q true H1 else u σ H1 Q
def tNot (t : TT) : TT := fun σ H Q => t σ H fun c H1 => Q (!c) H1
theorem pw_and1 (ha : PT X a tA) : PW X (.BoolOp .And [a] pos) tA := by
  intro wh pins s σ H Q I h
  refine isTrue_and (thn (ha pins s σ H Q I h) fun c s1 e => ?_)
  cases c with
  | true => exact isTrue_and_nil e
  | false => exact e
theorem pw_or1 (ha : PT X a tA) : PW X (.BoolOp .Or [a] pos) tA := by
  intro wh pins s σ H Q I h
  refine isTrue_or (thn (ha pins s σ H Q I h) fun c s1 e => ?_)
  cases c with
  | false => exact isTrue_or_nil e
  | true => exact e
theorem pw_and (ha : PT X a tA) (hb : PW X (.BoolOp .And (b :: rest) pos) tB') : PW X (.BoolOp .And (a :: b :: rest) pos) (tAnd tA tB') := by
  intro wh pins s σ H Q I h
  refine isTrue_and (thn (ha pins s σ H _ I h) fun c s1 ⟨H1, I1, q1⟩ => ?_)
  cases c with
  | true => exact hb wh pins s1 σ H1 Q I1 q1
  | false => exact ⟨H1, I1, q1⟩
theorem pw_or (ha : PT X a tA) (hb : PW X (.BoolOp .Or (b :: rest) pos) tB') : PW X (.BoolOp .Or (a :: b :: rest) pos) (tOr tA tB') := by
  intro wh pins s σ H Q I h
  refine isTrue_or (thn (ha pins s σ H _ I h) fun c s1 ⟨H1, I1, q1⟩ => ?_)
  cases c with
  | true => exact ⟨H1, I1, q1⟩
  | false => exact hb wh pins s1 σ H1 Q I1 q1
theorem pt_not (ha : PT X a tA) : PT X (.UnaryOp .Not a pos) (tNot tA) := by
  intro pins s σ H Q I h
  exact isTrue_not (ha pins s σ H (fun c H1 => Q (!c) H1) I h)
def tAndV (ta tb : TE) : TE := fun σ H Q => ta σ H fun x H1 => ∃ c, x = .bl c ∧ if c = true then tb σ H1 Q else Q (.bl false) H1
def tNotV (ta : TE) : TE := fun σ H Q => ta σ H fun x H1 => ∃ c, x = .bl c ∧ Q (.bl (!c)) H1
theorem pe_one {op} {t : TE} (h : PE X a t) : PE X (.BoolOp op [a] pos) t := fun pins s σ H Q I hw => BoolOp_one (h pins s σ H Q I hw)
theorem pe_and (ha : PE X a ta) (hb : PE X (.BoolOp .And (b :: rest) pos) tb) : PE X (.BoolOp .And (a :: b :: rest) pos) (tAndV ta tb) := by
  intro pins s σ H Q I h
  refine BoolOp_and (thn (ha pins s σ H _ I h) fun v s1 ⟨x, H1, I1, r1, q1⟩ => ?_)
  obtain ⟨c, rfl, q1⟩ := q1
  cases r1
  refine wpAny_truthy_bool ?_
  cases c with
  | true => exact hb pins s1 σ H1 Q I1 q1
  | false => exact ⟨.bl false, H1, I1, rfl, q1⟩
theorem pe_not (ha : PE X a ta) : PE X (.UnaryOp .Not a pos) (tNotV ta) := by
  intro pins s σ H Q I h
  refine UnaryOp_ (thn (ha pins s σ H _ I h) fun v s1 ⟨x, H1, I1, r1, q1⟩ => ?_)
  obtain ⟨c, rfl, q1⟩ := q1
  cases r1
  exact not_of (wpAny_truthy_bool ⟨.bl (!c), H1, I1, rfl, q1⟩)
end
end L2
namespace L2
open PySem PySem.Spec PyProof.Rows
def SqL (K : PySem.W.Frag) (H : Hp) (a : Addr) (xs : List V) : Prop :=
  Rd H a (.lst xs) ∨
    ∃ (o : Obj) (its : Array Value) (n : Nat), K.lookup a = some o ∧ o.cls = .type "list" ∧ o.dict = none ∧ o.data = .seq its n ∧ its.size ≤ sizeLine ∧ Vals xs its.toList
def SqT (K : PySem.W.Frag) (H : Hp) (a : Addr) (xs : List V) : Prop :=
  Rd H a (.tup xs) ∨
    ∃ (o : Obj) (its : Array Value) (n : Nat), K.lookup a = some o ∧ o.cls = .type "tuple" ∧ o.data = .seq its n ∧ its.size ≤ sizeLine ∧ Vals xs its.toList
def absV : Value → Option V
  | .none => some .non
  | .bool b => some (.bl b)
  | .int i _ => some (.int i)
  | .str x _ => some (.str x)
  | .bytes b _ => some (.byt b)
  | .float b _ => some (.flt b)
  | .ref a => some (.ref a)
  | .type n => some (.ty n)
  | _ => none
theorem RelV.abs {x : V} {u : Value} (r : RelV x u) : absV u = some x := by
  cases x with
  | non => cases r; rfl
  | bl _ => cases r; rfl
  | int _ => obtain ⟨t, rfl⟩ := r; rfl
  | str _ => obtain ⟨t, rfl⟩ := r; rfl
  | byt _ => obtain ⟨t, rfl⟩ := r; rfl
  | flt _ => obtain ⟨t, rfl⟩ := r; rfl
  | ref _ => cases r; rfl
  | ty _ => cases r; rfl
theorem RelV.inj {x y : V} {u : Value} (r : RelV x u) (q : RelV y u) : x = y := Option.some.inj (r.abs.symm.trans q.abs)
theorem Vals.inj : ∀ {xs ys : List V} {us : List Value}, Vals xs us → Vals ys us → xs = ys
  | _, _, _, .nil, .nil => rfl
  | _, _, _, .cons r t, .cons r' t' => by rw [r.inj r', Vals.inj t t']
section
variable {X : Cx} {pins : List (Addr × Obj)} {σ : St} {H : Hp} {s : Shared} {a : Addr} {xs ys : List V}
theorem SqL.of {K : PySem.W.Frag} (h : H a = some (.lst xs)) : SqL K H a xs := .inl (.inl h)
theorem SqT.of {K : PySem.W.Frag} (h : H a = some (.tup xs)) : SqT K H a xs := .inl (.inl h)
theorem Inv.list (I : Inv X pins σ H s) (h : SqL X.K H a xs) : ∃ its : List Value, Vals xs its ∧ PlainL s.heap a its.toArray ∧ xs.length ≤ sizeLine := by
  rcases h with h | ⟨o, its, n, hk, hc, hd, hs, hz, r⟩
  · obtain ⟨z, its, n, r, e⟩ := h.ok I.hok
    exact ⟨its, r, ⟨_, n, e, rfl, rfl, rfl⟩, z⟩
  · refine ⟨its.toList, r, ⟨o, n, I.kIn a o hk, hc, hd, by simpa using hs⟩, ?_⟩
    have e := r.length
    simp only [Array.length_toList] at e
    omega
theorem Inv.tuple (I : Inv X pins σ H s) (h : SqT X.K H a xs) : ∃ its : List Value, Vals xs its ∧ IsTup s.heap a its.toArray ∧ xs.length ≤ sizeLine := by
  rcases h with h | ⟨o, its, n, hk, hc, hs, hz, r⟩
  · obtain ⟨z, its, r, p⟩ := h.ok I.hok
    exact ⟨its, r, p, z⟩
  · refine ⟨its.toList, r, ⟨o, I.kIn a o hk, hc, n, by simpa using hs⟩, ?_⟩
    have e := r.length
    simp only [Array.length_toList] at e
    omega
theorem Inv.list_inj (I : Inv X pins σ H s) (h : SqL X.K H a xs) (h' : SqL X.K H a ys) : xs = ys := by
  obtain ⟨its, r, ⟨o, n, e, _, _, d⟩, _⟩ := I.list h
  obtain ⟨its', r', ⟨o', n', e', _, _, d'⟩, _⟩ := I.list h'
  rw [e] at e'; cases e'
  rw [d] at d'
  injection d' with d1 _
  have : its = its' := by simpa using congrArg Array.toList d1
  subst this
  exact r.inj r'
end
abbrev Cx.wish (X : Cx) (E : Value → Shared → Prop) : Cx := { X with xe := E }
abbrev Cx.nox (X : Cx) : Cx := X.wish fun _ _ => False
theorem Cx.Ok.wish {X : Cx} (ok : X.Ok) (E : Value → Shared → Prop) : (X.wish E).Ok :=
  ⟨ok.mod, ok.kind, ok.glob, ok.blt, ok.above, ok.inj, ok.has, ok.cab, ok.hd, ok.frames, ok.stk, ok.exf, ok.bs, ok.bsz, ok.noex, ok.exfs, ok.funs, ok.frf⟩
theorem Cx.Ok.unwish {X : Cx} {E : Value → Shared → Prop} (ok : (X.wish E).Ok) : X.Ok :=
  ⟨ok.mod, ok.kind, ok.glob, ok.blt, ok.above, ok.inj, ok.has, ok.cab, ok.hd, ok.frames, ok.stk, ok.exf, ok.bs, ok.bsz, ok.noex, ok.exfs, ok.funs, ok.frf⟩
section
variable {X : Cx} {pins : List (Addr × Obj)} {σ : St} {H : Hp} {s : Shared} {E : Value → Shared → Prop}
theorem Inv.wish (I : Inv X pins σ H s) (E : Value → Shared → Prop) : Inv (X.wish E) pins σ H s := ⟨I.ok.wish E, I.os, I.bare, I.base, I.loc, I.cell, I.free, I.freeC, I.pin, I.hok, I.len⟩
theorem Inv.unwish (I : Inv (X.wish E) pins σ H s) : Inv X pins σ H s := ⟨I.ok.unwish, I.os, I.bare, I.base, I.loc, I.cell, I.free, I.freeC, I.pin, I.hok, I.len⟩
theorem SP.unwish {D : Ends} {f : Flow} {s' : Shared} (h : SP (X.wish E) pins D f s') : SP X pins D f s' := by
  cases f with
  | next => obtain ⟨σ', H', I, q⟩ := h; exact ⟨σ', H', I.unwish, q⟩
  | brk => obtain ⟨σ', H', I, q⟩ := h; exact ⟨σ', H', I.unwish, q⟩
  | cont => obtain ⟨σ', H', I, q⟩ := h; exact ⟨σ', H', I.unwish, q⟩
  | ret u => obtain ⟨v, σ', H', I, r, q⟩ := h; exact ⟨v, σ', H', I.unwish, r, q⟩
theorem PSs.nox {st : List Stmt} {t : TS} (h : PSs X.nox st t) : PSs X st t := fun pins s σ H D I hw =>
  wpAny_mono (h pins s σ H D (I.wish _) hw) (fun _ _ q => q.unwish) fun _ _ z => False.elim z
end
section
variable {X : Cx} {st : Stmt} {rest : List Stmt} {t u : TS} {e : Expr} {te : TE} {pos : Pos}
def tNext : TS := fun D σ H => D.nx σ H
def tSeq (t u : TS) : TS := fun D σ H => t { D with nx := u D } σ H
theorem pss_nil : PSs X [] tNext := fun _ _ σ H _ I h => wpAny_execs_nil ⟨σ, H, I, h⟩
theorem pss_cons (h1 : PS X st t) (h2 : PSs X rest u) : PSs X (st :: rest) (tSeq t u) := by
  intro pins s σ H D I h
  refine wpAny_execs_cons (thn (h1 pins s σ H { D with nx := u D } I h) fun f s1 q => ?_)
  cases f with
  | next =>
    obtain ⟨σ', H', I', q⟩ := q
    exact h2 pins s1 σ' H' D I' q
  | ret v => exact q
  | brk => exact q
  | cont => exact q
theorem pss_one (h1 : PS X st t) : PSs X [st] t := by
  intro pins s σ H D I h
  refine wpAny_execs_cons (thn (h1 pins s σ H D I h) fun f s1 q => ?_)
  cases f with
  | next => exact wpAny_execs_nil q
  | ret v => exact q
  | brk => exact q
  | cont => exact q
theorem Inv.quiet {pins : List (Addr × Obj)} {σ : St} {H : Hp} {s : Shared} (I : Inv X pins σ H s) : interactive X.env = false := by simp [interactive, I.ok.kind]
def tDrop (te : TE) : TS := fun D σ H => te σ H fun _ H1 => D.nx σ H1
theorem ps_expr (he : PE X e te) (hs : swapsWith e none pos.line X.env = pure false := by rfl) : PS X (.Expr e pos) (tDrop te) := by
  intro pins s σ H D I h
  exact wpAny_Expr_any (thn (he pins s σ H _ I h) fun v s1 ⟨x, H1, I1, r1, q1⟩ => ⟨σ, H1, I1, q1⟩) I.quiet hs
def tRet (te : TE) : TS := fun D σ H => te σ H D.rt
theorem ps_ret (he : PE X e te) : PS X (.Return (some e) pos) (tRet te) := by
  intro pins s σ H D I h
  exact wpAny_Return_some (thn (he pins s σ H _ I h) fun v s1 ⟨x, H1, I1, r1, q1⟩ => ⟨x, σ, H1, I1, r1, q1⟩)
def tIfS (c : TT) (t u : TS) : TS := fun D σ H => c σ H fun b H1 => if b = true then t D σ H1 else u D σ H1
theorem ps_if {c : Expr} {a b : List Stmt} {tc : TT} (hc : PT X c tc) (ha : PSs X a t) (hb : PSs X b u) : PS X (.If c a b pos) (tIfS tc t u) := by
  intro pins s σ H D I h
  refine wpAny_If (thn (hc pins s σ H _ I h) fun d s1 ⟨H1, I1, q1⟩ => ?_)
  cases d with
  | true => exact ha pins s1 σ H1 D I1 q1
  | false => exact hb pins s1 σ H1 D I1 q1
end
abbrev TG := V → St → Hp → (St → Hp → Prop) → Prop
abbrev TGs := List V → St → Hp → (St → Hp → Prop) → Prop
def PG (X : Cx) (target : Expr) (t : TG) : Prop :=
  ∀ (pins : List (Addr × Obj)) (s : Shared) (σ : St) (H : Hp) (v : V) (u : Value) (Q : St → Hp → Prop), Inv X pins σ H s → RelV v u → t v σ H Q →
    wpAny (model X.prog X.w) X.A (assign target X.env u) (fun _ s' => ∃ σ' H', Inv X pins σ' H' s' ∧ Q σ' H') X.xe s
def PGs (X : Cx) (ts : List Expr) (t : TGs) : Prop :=
  ∀ (pins : List (Addr × Obj)) (s : Shared) (σ : St) (H : Hp) (vs : List V) (us : List Value) (Q : St → Hp → Prop), Inv X pins σ H s → Vals vs us → t vs σ H Q →
    wpAny (model X.prog X.w) X.A (assignInOrder ((assignEach ts X.env).map (·.2)) us) (fun _ s' => ∃ σ' H', Inv X pins σ' H' s' ∧ Q σ' H') X.xe s
section
variable {X : Cx} {pos : Pos}
def gName (i : Nat) : TG := fun v σ H Q => Q (σ.set i (some v)) H
theorem pg_name {i : Nat} {x : Str} (hN : X.N.Nodup) (hi : X.N[i]? = some x) (hx : Loc X.env.scope x) (hf : X.fn x = true ∨ X.env.scope.names.lookup x = some .local := by first | exact .inl rfl | exact .inr rfl | assumption) : PG X (.Name x pos) (gName i) := by
  intro pins s σ H v u Q I r h
  exact wpAny_assign_Name (store_ok I hN hi hx r (fun s' I' => ⟨_, H, I', h⟩) hf)
def gNil : TGs := fun vs σ H Q => vs = [] ∧ Q σ H
def gCons (t : TG) (u : TGs) : TGs := fun vs σ H Q => ∃ v r, vs = v :: r ∧ t v σ H fun σ' H' => u r σ' H' Q
theorem pgs_nil : PGs X [] gNil := by
  intro pins s σ H vs us Q I r h
  obtain ⟨e, h⟩ := h
  subst e
  cases r
  exact assignInOrder_nil ⟨σ, H, I, h⟩
theorem pgs_cons {e : Expr} {es : List Expr} {t : TG} {u : TGs} (h1 : PG X e t) (h2 : PGs X es u)
    (hs : (assignEach (e :: es) X.env).map (·.2) = assign e X.env :: (assignEach es X.env).map (·.2) := by rfl) : PGs X (e :: es) (gCons t u) := by
  intro pins s σ H vs us Q I r h
  obtain ⟨v, vr, e1, h⟩ := h
  subst e1
  cases r with
  | cons r rr =>
    rw [hs]
    refine assignInOrder_cons (thn (h1 pins s σ H _ _ _ I r h) fun _ s1 ⟨σ1, H1, I1, q1⟩ => ?_)
    exact h2 pins s1 σ1 H1 _ _ Q I1 rr q1
def gTup (K : PySem.W.Frag) (n : Nat) (t : TGs) : TG := fun v σ H Q => ∃ a xs, v = .ref a ∧ SqT K H a xs ∧ xs.length = n ∧ t xs σ H Q
theorem pg_tup {es : List Expr} {k : Nat} {t : TGs} {n : Nat} (hc : X.calm = true) (h : PGs X es t)
    (hn : (assignEach es X.env).length = n := by rfl) (hst : (assignEach es X.env).findIdx? (·.1) = none := by rfl) : PG X (.Tuple es k pos) (gTup X.K n t) := by
  intro pins s σ H v u Q I r hw
  obtain ⟨a, xs, e1, hq, hl, hw⟩ := hw
  subst e1
  cases r
  obtain ⟨its, rv, ht, hz⟩ := I.tuple hq
  refine assign_Tuple_tuple (I.ok.hd hc) ht (by simp [hn, ← hl, rv.length]) hst fun h' hx => ?_
  have I1 : Inv X pins σ H { s with heap := h' } := I.kept (t' := s.toks) fun b o e => hx b o (Nat.ne_of_lt (Heap.lt_size e)) e
  exact h pins _ σ H xs _ Q I1 (by simpa using rv) hw
def tAsg (te : TE) (g : TG) : TS := fun D σ H => te σ H fun x H1 => g x σ H1 D.nx
theorem ps_set {i : Nat} {x : Str} {e : Expr} {te : TE} {pos' : Pos} (hN : X.N.Nodup) (hi : X.N[i]? = some x) (hx : Loc X.env.scope x) (he : PE X e te) (hs : swapsWith e (some (.Name x pos')) pos.line X.env = pure false := by rfl) (hf : X.fn x = true ∨ X.env.scope.names.lookup x = some .local := by first | exact .inl rfl | exact .inr rfl | assumption) :
    PS X (.Assign [.Name x pos'] e pos) (tAsg te (gName i)) := by
  intro pins s σ H D I h
  refine wpAny_Assign_Name (thn (he pins s σ H _ I h) fun v s1 ⟨y, H1, I1, r1, q1⟩ => ?_) hs
  exact store_ok I1 hN hi hx r1 (fun s2 I2 => ⟨_, H1, I2, q1⟩) hf
end
section
variable {X : Cx} {pos : Pos}
def tWhile (c : TT) (tb : TS) : TS := fun D σ H => ∃ W : Nat → St → Hp → Prop, (∃ m, W m σ H) ∧ ∀ m σ H, W m σ H →
  c σ H fun b H1 => if b = true then ∃ N : St → Hp → Prop, (∀ σ' H', N σ' H' → ∃ m', m' < m ∧ W m' σ' H') ∧ tb { D with nx := N, ct := N, bk := D.nx } σ H1 else D.nx σ H1
theorem ps_while {c : Expr} {body : List Stmt} {tc : TT} {tb : TS} (hp : PassesOwn (model X.prog X.w) X.A X.env X.xe) (hc : PT X c tc) (hb : PSs X body tb) : PS X (.While c body [] pos) (tWhile tc tb) := by
  intro pins s σ H D I h
  obtain ⟨W, ⟨m0, w0⟩, turn⟩ := h
  refine wpAny_While (codeAny_whileLoop (fun n s' => ∃ σ' H', Inv X pins σ' H' s' ∧ W n σ' H') ?_ m0 ⟨σ, H, I, w0⟩)
  rintro n s1 ⟨σ1, H1, I1, w1⟩
  refine wpAny_passesOwn hp (thn (hc pins s1 σ1 H1 _ I1 (turn n σ1 H1 w1)) fun b s2 ⟨H2, I2, q2⟩ => ?_)
  cases b with
  | true =>
    obtain ⟨N, hN, q2⟩ := q2
    rw [if_pos rfl]
    refine wpAny_passesOwn hp (thn (hb pins s2 σ1 H2 _ I2 q2) fun f s3 q3 => ?_)
    cases f with
    | next =>
      obtain ⟨σ3, H3, I3, n3⟩ := q3
      obtain ⟨m', hm, w3⟩ := hN σ3 H3 n3
      exact ⟨m', hm, σ3, H3, I3, w3⟩
    | cont =>
      obtain ⟨σ3, H3, I3, n3⟩ := q3
      obtain ⟨m', hm, w3⟩ := hN σ3 H3 n3
      exact ⟨m', hm, σ3, H3, I3, w3⟩
    | brk => exact q3
    | ret v => exact q3
  | false =>
    rw [if_neg Bool.false_ne_true]
    exact wpAny_execs_nil ⟨σ1, H2, I2, q2⟩
end
structure It where
  go : Nat → Hp → Prop
  yld : Nat → Hp → V → Hp → Prop
  stop : Nat → Hp → Prop
def FpOk (X : Cx) (pins : List (Addr × Obj)) (H : Hp) (b : Addr) : Prop :=
  H b = none ∧ b ≠ X.env.locals ∧ b ∉ X.fs ∧ (b ∈ X.ex ∨ X.s₀.heap.objs.size ≤ b) ∧ (∀ x c, X.env.cells.lookup x = some c → c ≠ b) ∧ ∀ p ∈ X.pn ++ pins, p.1 ≠ b
theorem Inv.fpOk {X : Cx} {pins : List (Addr × Obj)} {σ : St} {H H' : Hp} {s : Shared} {b : Addr} (I : Inv X pins σ H s) (hb : s.heap.objs.size ≤ b) (hn : H' b = none) : FpOk X pins H' b := by
  refine ⟨hn, Nat.ne_of_gt (Nat.lt_of_lt_of_le I.lt hb), I.nofs hb, .inr (Nat.le_trans I.sz hb), fun x c e z => ?_, fun p hp z => ?_⟩
  · obtain ⟨v, q⟩ := I.cell x c e
    exact absurd (Nat.lt_of_lt_of_le q.lt (by rw [z]; exact hb)) (Nat.lt_irrefl _)
  · exact absurd (Nat.lt_of_lt_of_le (Heap.lt_size (I.pin p hp).1) (by rw [z]; exact hb)) (Nat.lt_irrefl _)
structure Turn (P : Program) (w : World) (K : PySem.W.Frag) (tg : Expr) (J : It) (fp : List Addr) (it : Addr) (tn : Nat → Heap → Prop) : Prop where
  mem : it ∈ fp
  obj : ∀ i h, tn i h → ∀ b ∈ fp, ∃ o, h.get? b = some o ∧ ∀ v, o.data ≠ .cell v
  keep : ∀ i h h', tn i h → (∀ b ∈ fp, ∀ o, h.get? b = some o → h'.get? b = some o) → tn i h'
  item : ∀ (X : Cx), X.prog = P → X.w = w → X.K = K → X.calm = true → ∀ (i : Nat) (pins : List (Addr × Obj)) (s : Shared) (σ : St) (H : Hp) (E : Value → Shared → Prop), Inv X pins σ H s → (∀ b ∈ fp, FpOk X pins H b) → tn i s.heap → J.go i H →
    wpAny (model P w) X.A (pyNext (.ref it)) (fun r s1 => ∃ u, r = some u ∧
      wpAny (model P w) X.A (letOwnedTupleGo tg (.ref it) u) (fun _ s2 => ∃ x H', Inv X pins σ H' s2 ∧ RelV x u ∧ J.yld i H x H' ∧ tn (i + 1) s2.heap ∧ ∀ b ∈ fp, H' b = none) E s1) E s
  done : ∀ (X : Cx), X.prog = P → X.w = w → X.K = K → X.calm = true → ∀ (i : Nat) (pins : List (Addr × Obj)) (s : Shared) (σ : St) (H : Hp) (E : Value → Shared → Prop), Inv X pins σ H s → (∀ b ∈ fp, FpOk X pins H b) → tn i s.heap → J.stop i H →
    wpAny (model P w) X.A (pyNext (.ref it)) (fun r s1 => r = none ∧ Inv X pins σ H s1) E s
  self : ∀ (A : Around) (i : Nat) (s : Shared) (Q : Value → Shared → Prop) (E : Value → Shared → Prop), tn i s.heap → Q (.ref it) s → wpAny (model P w) A (pyIter (.ref it)) Q E s
abbrev TI := St → Hp → (It → Hp → Prop) → Prop
def PIE (X : Cx) (pins : List (Addr × Obj)) (σ : St) (tg : Expr) (R : It → Hp → Prop) (itv : Value) (s2 : Shared) : Prop :=
  ∃ (it : Addr) (fp : List Addr) (tn : Nat → Heap → Prop) (J : It) (H' : Hp), itv = .ref it ∧ Inv X pins σ H' s2 ∧ Turn X.prog X.w X.K tg J fp it tn ∧ tn 0 s2.heap ∧ (∀ b ∈ fp, FpOk X pins H' b) ∧ R J H'
def PI (X : Cx) (tg iter : Expr) (wi : TI) : Prop :=
  ∀ (pins : List (Addr × Obj)) (s : Shared) (σ : St) (H : Hp) (R : It → Hp → Prop), Inv X pins σ H s → wi σ H R →
    wpAny (model X.prog X.w) X.A (eval iter X.env) (fun v s1 => wpAny (model X.prog X.w) X.A (pyIter v) (PIE X pins σ tg R) X.xe s1) X.xe s
theorem go_of {M : Model} {A : Around} {E : Value → Shared → Prop} {s : Shared} {tg : Expr} {it : Addr} {u : Value} {o : Obj} {n : String} {vs : Array Value} {Q : Unit → Shared → Prop} (ho : s.heap.get? it = some o) (hc : o.cls = .type n) (hd : o.data = .fields vs)
    (hn : ["enumerate", "zip", "dict_itemiterator", "dict_reverseitemiterator", "odict_iterator", "itertools.zip_longest", "itertools.pairwise"].contains n = false) (hQ : Q () s) : wpAny M A (letOwnedTupleGo tg (.ref it) u) Q E s := by
  unfold letOwnedTupleGo
  cases tg <;> first
    | exact wpAny_pure hQ
    | (cases u <;> first
        | exact wpAny_pure hQ
        | (refine wpAny_bind (wpAny_load ho ?_)
           rw [hc, hd]
           show wpAny M A (if (["enumerate", "zip", "dict_itemiterator", "dict_reverseitemiterator", "odict_iterator", "itertools.zip_longest", "itertools.pairwise"].contains n && vs[0]? == some (rawInt _)) = true then _ else _) Q E s
           rw [if_neg (by intro h; rw [hn, Bool.false_and] at h; cases h)]
           exact wpAny_pure hQ))
def Itl (K : PySem.W.Frag) (a : Addr) : It :=
  ⟨fun i H => ∃ xs x, SqL K H a xs ∧ xs[i]? = some x, fun i H x H' => H' = H ∧ ∀ xs, SqL K H a xs → xs[i]? = some x, fun i H => ∃ xs, SqL K H a xs ∧ xs.length ≤ i⟩
def Itr (lo : Int) (n : Nat) : It := ⟨fun i _ => i < n, fun i H x H' => H' = H ∧ x = .int (lo + i), fun i _ => n ≤ i⟩
theorem turn_list {P : Program} {w : World} {K : PySem.W.Frag} {tg : Expr} (a it : Addr) : Turn P w K tg (Itl K a) [it] it (fun i h => h.IsListIter it a i) where
  mem := by simp
  obj := fun i h st b hb => by
    have e : b = it := by simpa using hb
    subst e
    obtain ⟨o, e, c, d⟩ := st
    exact ⟨o, e, fun v z => by rw [d] at z; cases z⟩
  keep := fun i h h' st k => st.at fun o e => k it (by simp) o e
  item := by
    intro X hP hw hK hc i pins s σ H E I hf st hg
    subst hP hw hK
    obtain ⟨xs, x, hq, hx⟩ := hg
    obtain ⟨its, rv, p, hz⟩ := I.list hq
    obtain ⟨u, hu, ru⟩ := rv.get hx
    obtain ⟨f0, f1, f2, f3, f4, f5⟩ := hf it (by simp)
    refine wpAny_pyNext_list_item st p.isList (x := u) (by simpa using hu) fun h' st' sb => ?_
    have I1 : Inv X pins σ H { s with heap := h' } := I.turned (t' := s.toks) (fun b o hb e => (sb.2 b hb).trans e) f0 f1 f3 f4 f5
    obtain ⟨o, e, c, d⟩ := id st'
    exact ⟨u, rfl, go_of (s := { s with heap := h' }) e c d (by decide) ⟨x, H, I1, ru, ⟨rfl, fun ys hy => by rw [I.list_inj hy hq]; exact hx⟩, st', fun b hb => (hf b hb).1⟩⟩
  done := by
    intro X hP hw hK hc i pins s σ H E I hf st hg
    subst hP hw hK
    obtain ⟨xs, hq, hx⟩ := hg
    obtain ⟨its, rv, p, hz⟩ := I.list hq
    obtain ⟨f0, f1, f2, f3, f4, f5⟩ := hf it (by simp)
    have hl := rv.length
    exact wpAny_pyNext_list_end (I.ok.hd hc) st p.isList (by simp; omega) fun h' eb => ⟨rfl, I.turned (t' := s.toks) (fun b o hb e => eb b o hb e) f0 f1 f3 f4 f5⟩
  self := fun _ _ _ _ _ st h => wpAny_pyIter_listiter st h
theorem turn_range {P : Program} {w : World} {K : PySem.W.Frag} {tg : Expr} (it : Addr) (lo : Int) (n : Nat) : Turn P w K tg (Itr lo n) [it] it (fun i h => IsRangeIter h it (lo + (i : Nat) * 1) ((n : Int) - (i : Nat)) 1) where
  mem := by simp
  obj := fun i h st b hb => by
    have e : b = it := by simpa using hb
    subst e
    exact ⟨_, st, fun v z => by
      have z' : Data.fields _ = Data.cell v := z
      cases z'⟩
  keep := fun i h h' st k => k it (by simp) _ st
  item := by
    intro X hP hw hK hc i pins s σ H E I hf st hg
    subst hP hw hK
    obtain ⟨f0, f1, f2, f3, f4, f5⟩ := hf it (by simp)
    have W := Walks.range (prog := X.prog) (w := X.w) (I.ok.hd hc) it lo 1 n
    refine W.item i s _ _ hg st fun v h' tk hv st' kk => ?_
    obtain ⟨t, rfl⟩ := hv
    have I1 : Inv X pins σ H { s with heap := h', toks := tk } := I.turned (fun b o hb e => kk b o (by simpa using hb) e) f0 f1 f3 f4 f5
    refine ⟨_, rfl, go_of (s := { s with heap := h', toks := tk }) (n := "range_iterator") st' rfl rfl (by decide) ⟨.int (lo + i), H, I1, ⟨t, ?_⟩, ⟨rfl, rfl⟩, st', fun b hb => (hf b hb).1⟩⟩
    rw [Int.mul_one]
  done := by
    intro X hP hw hK hc i pins s σ H E I hf st hg
    subst hP hw hK
    obtain ⟨f0, f1, f2, f3, f4, f5⟩ := hf it (by simp)
    exact wpAny_pyNext_range_end (I.ok.hd hc) st (by have : n ≤ i := hg; omega) fun h' eb => ⟨rfl, I.turned (t' := s.toks) (fun b o hb e => eb b o hb e) f0 f1 f3 f4 f5⟩
  self := fun _ _ _ _ _ st h => wpAny_pyIter_rangeiter st h
end L2
namespace L2
open PySem PySem.Spec PyProof.Rows
section
variable {X : Cx} {tg : Expr}
def iList (K : PySem.W.Frag) (tl : TE) : TI := fun σ H R => tl σ H fun x H1 => ∃ a, x = .ref a ∧ (∃ xs, SqL K H1 a xs) ∧ R (Itl K a) H1
theorem pi_list {l : Expr} {tl : TE} (hl : PE X l tl) : PI X tg l (iList X.K tl) := by
  intro pins s σ H R I h
  refine thn (hl pins s σ H _ I h) fun v s1 ⟨x, H1, I1, r1, q1⟩ => ?_
  obtain ⟨a, e, ⟨xs, hq⟩, q⟩ := q1
  subst e
  cases r1
  obtain ⟨its, rv, p, hz⟩ := I1.list hq
  refine wpAny_pyIter_list p.isList ?_
  refine ⟨s1.heap.objs.size, [s1.heap.objs.size], _, _, H1, rfl, I1.kept (t' := s1.toks) fun b o e => Heap.get?_push_of_some _ e, turn_list a _, ⟨_, Heap.get?_push_size _ rfl, rfl, rfl⟩, fun b hb => ?_, q⟩
  have e : b = s1.heap.objs.size := by simpa using hb
  subst e
  exact I1.fpOk (Nat.le_refl _) (I1.hok.fresh (Nat.le_refl _))
theorem range_it {pins : List (Addr × Obj)} {σ : St} {H : Hp} {s : Shared} {R : It → Hp → Prop} {E : Value → Shared → Prop} {lo hi : Int} {t u v : Tok} {tk : Nat} (I : Inv X pins σ H s) (h1 : -(2 ^ 62) ≤ lo) (h2 : lo < 2 ^ 62) (h3 : -(2 ^ 62) ≤ hi) (h4 : hi < 2 ^ 62)
    (q : R (Itr lo (hi - lo).toNat) H) : wpAny (model X.prog X.w) X.A (pyIter (.ref s.heap.objs.size)) (PIE X pins σ tg R) E { s with heap := s.heap.push { cls := .type "range", data := .fields #[.int lo t, .int hi u, .int 1 v] }, toks := tk } := by
  refine wpAny_pyIter_range (IsRange.new ..) (small_one h1 h2 h3 h4) ?_
  have I1 : Inv X pins σ H { s with heap := s.heap.push { cls := .type "range", data := .fields #[.int lo t, .int hi u, .int 1 v] }, toks := tk } := I.kept fun b o e => Heap.get?_push_of_some _ e
  refine ⟨(s.heap.push { cls := .type "range", data := .fields #[.int lo t, .int hi u, .int 1 v] }).objs.size, [(s.heap.push { cls := .type "range", data := .fields #[.int lo t, .int hi u, .int 1 v] }).objs.size], _, _, H, rfl,
    I1.kept (t' := tk) fun b o e => Heap.get?_push_of_some _ e, turn_range _ lo (hi - lo).toNat, ?_, fun b hb => ?_, q⟩
  · have e1 : lo + ((0 : Nat) : Int) * 1 = lo := by simp
    have e2 : (((hi - lo).toNat : Nat) : Int) - ((0 : Nat) : Int) = Builtin.Range.rangeSize lo hi 1 := by rw [rangeSize_one]; split <;> omega
    show IsRangeIter _ _ (lo + ((0 : Nat) : Int) * 1) ((((hi - lo).toNat : Nat) : Int) - ((0 : Nat) : Int)) 1
    rw [e1, e2]
    exact Heap.get?_push_size _ rfl
  · have e : b = (s.heap.push { cls := .type "range", data := .fields #[.int lo t, .int hi u, .int 1 v] }).objs.size := by simpa using hb
    subst e
    exact I1.fpOk (Nat.le_refl _) (I1.hok.fresh (Nat.le_refl _))
def iRng1 (ta : TA) : TI := fun σ H R => ta σ H fun vs H1 => ∃ j : Int, vs = [.int j] ∧ -(2 ^ 62) ≤ j ∧ j < 2 ^ 62 ∧ R (Itr 0 j.toNat) H1
theorem pi_range1 {a : Expr} {ta : TA} {p pos : Pos} (hg : Gl X "range") (hm : X.mg "range" = none) (ha : PA X [a] ta) (hs : starEach [a] X.env = [(false, eval a X.env)] := by rfl) : PI X tg (.Call (.Name "range" p) [a] [] pos) (iRng1 ta) := by
  intro pins s σ H R I h
  refine Call_ (ld_blt I hg hm boot_range (PyProof.Rows.callWith_type1 (thn (ha pos pins s σ H _ I h) fun us s1 ⟨vs, H1, I1, r1, q1⟩ => ?_) hs rfl))
  obtain ⟨j, e, q1, q2, q⟩ := q1
  subst e
  cases r1 with
  | cons r rr =>
    cases rr
    obtain ⟨t, rfl⟩ := r
    exact call_range_1 (range_it I1 (by omega) (by omega) q1 q2 (by simpa using q))
def tFor (wi : TI) (g : TG) (tb : TS) : TS := fun D σ H => wi σ H fun J H1 => ∃ W : Nat → Nat → St → Hp → Prop, (∃ m, W 0 m σ H1) ∧ ∀ i m σ H, W i m σ H →
  (J.stop i H ∧ D.nx σ H) ∨ (J.go i H ∧ ∃ N : St → Hp → Prop, (∀ σ' H', N σ' H' → ∃ m', m' < m ∧ W (i + 1) m' σ' H') ∧ ∀ x H', J.yld i H x H' → g x σ H' fun σ2 H2 => tb { D with nx := N, ct := N, bk := D.nx } σ2 H2)
def pinsAt (fp : List Addr) (h : Heap) : List (Addr × Obj) := fp.filterMap fun b => (h.get? b).map fun o => (b, o)
theorem mem_pinsAt {fp : List Addr} {h : Heap} {b : Addr} {o : Obj} (hb : b ∈ fp) (e : h.get? b = some o) : (b, o) ∈ pinsAt fp h := List.mem_filterMap.mpr ⟨b, hb, by rw [e]; rfl⟩
theorem of_pinsAt {fp : List Addr} {h : Heap} {p : Addr × Obj} (hp : p ∈ pinsAt fp h) : p.1 ∈ fp ∧ h.get? p.1 = some p.2 := by
  obtain ⟨b, hb, e⟩ := List.mem_filterMap.mp hp
  cases q : h.get? b with
  | none => rw [q] at e; cases e
  | some o =>
    rw [q] at e
    have e' : (b, o) = p := Option.some.inj e
    subst e'
    exact ⟨hb, q⟩
theorem Inv.pinned {pins : List (Addr × Obj)} {σ : St} {H : Hp} {s : Shared} {fp : List Addr} (I : Inv X pins σ H s) (hf : ∀ b ∈ fp, FpOk X pins H b) (ho : ∀ b ∈ fp, ∃ o, s.heap.get? b = some o ∧ ∀ v, o.data ≠ .cell v) : Inv X (pins ++ pinsAt fp s.heap) σ H s :=
  I.pins_of fun p hp => (List.mem_append.mp hp).elim (fun z => I.pin p (List.mem_append_right _ z)) fun z => by
    obtain ⟨hb, e⟩ := of_pinsAt z
    obtain ⟨f0, f1, f2, _⟩ := hf p.1 hb
    obtain ⟨o, e', d⟩ := ho p.1 hb
    rw [e] at e'; cases e'
    exact ⟨e, f0, f1, f2, d⟩
theorem Inv.unpinned {pins pl : List (Addr × Obj)} {σ : St} {H : Hp} {s : Shared} (I : Inv X (pins ++ pl) σ H s) : Inv X pins σ H s := I.pins_of fun p hp => I.pin p (List.mem_append_right _ (List.mem_append_left _ hp))
theorem ps_for {iter : Expr} {body : List Stmt} {wi : TI} {g : TG} {tb : TS} {pos : Pos} (hp : PassesOwn (model X.prog X.w) X.A X.env X.xe) (hc : X.calm = true) (hi : PI X tg iter wi) (hg : PG X tg g) (hb : PSs X body tb)
    (hs : ∀ x, foldedSetIterable iter X.env x = pure x := by intro _; rfl) : PS X (.For tg iter body [] pos) (tFor wi g tb) := by
  intro pins s σ H D I h
  refine wpAny_For (thn (hi pins s σ H _ I h) fun v s1 h1 => thn h1 fun itv s2 h2 => ?_) hs
  obtain ⟨it, fp, tn, J, H2, e, I2, T, st2, f2, W, ⟨m0, w0⟩, turn⟩ := h2
  subst e
  -- what stays true of the iterator's objects through the loop
  have stat : ∀ {H' : Hp}, (∀ b ∈ fp, H' b = none) → ∀ b ∈ fp, FpOk X pins H' b := fun hn b hb => ⟨hn b hb, (f2 b hb).2⟩
  refine codeAny_forLoop_any (fun n s' => ∃ i σ' H', Inv X pins σ' H' s' ∧ tn i s'.heap ∧ (∀ b ∈ fp, H' b = none) ∧ W i n σ' H') ?_ m0 ⟨0, σ, H2, I2, st2, fun b hb => (f2 b hb).1, w0⟩
  rintro n s3 ⟨i, σ3, H3, I3, st3, fr3, w3⟩
  rcases turn i n σ3 H3 w3 with ⟨stop, qn⟩ | ⟨go, N, hN, step⟩
  · refine wpAny_passesOwn hp (thn (T.done X rfl rfl rfl hc i pins s3 σ3 H3 X.xe I3 (stat fr3) st3 stop) fun r s4 ⟨hr, I4⟩ => ?_)
    subst hr
    exact wpAny_execs_nil ⟨σ3, H3, I4, qn⟩
  · refine wpAny_passesOwn hp (thn (T.item X rfl rfl rfl hc i pins s3 σ3 H3 X.xe I3 (stat fr3) st3 go) fun r s4 ⟨u, hr, h4⟩ => ?_)
    subst hr
    refine wpAny_passesOwn hp (thn h4 fun _ s5 ⟨x, H5, I5, r5, y5, st5, fr5⟩ => ?_)
    have I5' := I5.pinned (stat fr5) (T.obj _ _ st5)
    refine wpAny_passesOwn hp (thn (hg _ s5 σ3 H5 x u _ I5' r5 (step x H5 y5)) fun _ s6 ⟨σ6, H6, I6, q6⟩ => ?_)
    refine wpAny_passesOwn hp (thn (hb _ s6 σ6 H6 _ I6 q6) fun f s7 q7 => ?_)
    have again : ∀ {σ7 : St} {H7 : Hp}, Inv X (pins ++ pinsAt fp s5.heap) σ7 H7 s7 → N σ7 H7 → ∃ m, m < n ∧ ∃ i σ' H', Inv X pins σ' H' s7 ∧ tn i s7.heap ∧ (∀ b ∈ fp, H' b = none) ∧ W i m σ' H' := fun {σ7 H7} I7 n7 => by
      obtain ⟨m', hm, w7⟩ := hN σ7 H7 n7
      refine ⟨m', hm, i + 1, σ7, H7, I7.unpinned, T.keep _ _ _ st5 fun b hb o e => (I7.pin (b, o) (List.mem_append_right _ (List.mem_append_right _ (mem_pinsAt hb e)))).1, fun b hb => ?_, w7⟩
      obtain ⟨o, e, d⟩ := T.obj _ _ st5 b hb
      exact (I7.pin (b, o) (List.mem_append_right _ (List.mem_append_right _ (mem_pinsAt hb e)))).2.1
    cases f with
    | next => obtain ⟨σ7, H7, I7, n7⟩ := q7; exact again I7 n7
    | cont => obtain ⟨σ7, H7, I7, n7⟩ := q7; exact again I7 n7
    | brk => obtain ⟨σ7, H7, I7, q7⟩ := q7; exact ⟨σ7, H7, I7.unpinned, q7⟩
    | ret v => obtain ⟨x7, σ7, H7, I7, r7, q7⟩ := q7; exact ⟨x7, σ7, H7, I7.unpinned, r7, q7⟩
end
theorem for_list {K : PySem.W.Frag} {a : Addr} {xs : List V} {g : TG} {tb : TS} {D : Ends} {σ : St} {H : Hp} (Pv : Nat → St → Hp → Prop) (h0 : Pv 0 σ H) (hl : ∀ i σ H, i ≤ xs.length → Pv i σ H → SqL K H a xs)
    (hs : ∀ i x σ H, xs[i]? = some x → Pv i σ H → g x σ H fun σ2 H2 => tb { D with nx := Pv (i + 1), ct := Pv (i + 1), bk := D.nx } σ2 H2) (hd : ∀ σ H, Pv xs.length σ H → D.nx σ H) :
    ∃ W : Nat → Nat → St → Hp → Prop, (∃ m, W 0 m σ H) ∧ ∀ i m σ H, W i m σ H →
      ((Itl K a).stop i H ∧ D.nx σ H) ∨ ((Itl K a).go i H ∧ ∃ N : St → Hp → Prop, (∀ σ' H', N σ' H' → ∃ m', m' < m ∧ W (i + 1) m' σ' H') ∧ ∀ x H', (Itl K a).yld i H x H' → g x σ H' fun σ2 H2 => tb { D with nx := N, ct := N, bk := D.nx } σ2 H2) := by
  refine ⟨fun i m σ H => m = xs.length - i ∧ i ≤ xs.length ∧ Pv i σ H, ⟨xs.length, by simp, Nat.zero_le _, h0⟩, ?_⟩
  rintro i m σ H ⟨rfl, hi, p⟩
  have q := hl i σ H hi p
  by_cases hlt : i < xs.length
  · refine .inr ⟨⟨xs, xs[i], q, by simp [hlt]⟩, Pv (i + 1), fun σ' H' p' => ⟨xs.length - (i + 1), by omega, rfl, hlt, p'⟩, fun x H' y => ?_⟩
    obtain ⟨e, y⟩ := y
    subst e
    exact hs i x σ _ (y xs q) p
  · have e : i = xs.length := by omega
    subst e
    exact .inl ⟨⟨xs, q, Nat.le_refl _⟩, hd σ H p⟩
theorem for_range {lo : Int} {n : Nat} {g : TG} {tb : TS} {D : Ends} {σ : St} {H : Hp} (Pv : Nat → St → Hp → Prop) (h0 : Pv 0 σ H)
    (hs : ∀ i σ H, i < n → Pv i σ H → g (.int (lo + i)) σ H fun σ2 H2 => tb { D with nx := Pv (i + 1), ct := Pv (i + 1), bk := D.nx } σ2 H2) (hd : ∀ σ H, Pv n σ H → D.nx σ H) :
    ∃ W : Nat → Nat → St → Hp → Prop, (∃ m, W 0 m σ H) ∧ ∀ i m σ H, W i m σ H →
      ((Itr lo n).stop i H ∧ D.nx σ H) ∨ ((Itr lo n).go i H ∧ ∃ N : St → Hp → Prop, (∀ σ' H', N σ' H' → ∃ m', m' < m ∧ W (i + 1) m' σ' H') ∧ ∀ x H', (Itr lo n).yld i H x H' → g x σ H' fun σ2 H2 => tb { D with nx := N, ct := N, bk := D.nx } σ2 H2) := by
  refine ⟨fun i m σ H => m = n - i ∧ i ≤ n ∧ Pv i σ H, ⟨n, by simp, Nat.zero_le _, h0⟩, ?_⟩
  rintro i m σ H ⟨rfl, hi, p⟩
  by_cases hlt : i < n
  · refine .inr ⟨hlt, Pv (i + 1), fun σ' H' p' => ⟨n - (i + 1), by omega, rfl, hlt, p'⟩, fun x H' y => ?_⟩
    obtain ⟨e, y⟩ := y
    subst e y
    exact hs i σ _ hlt p
  · have e : i = n := by omega
    subst e
    exact .inl ⟨Nat.le_refl _, hd σ H p⟩
end L2
namespace L2
open PySem PySem.Spec PyProof.Rows
abbrev R2 := V → V → Hp → VK → Prop
def OpR (X : Cx) (f : Value → Value → Sem Value) (r : R2) : Prop :=
  ∀ (pins : List (Addr × Obj)) (s : Shared) (σ : St) (H : Hp) (x y : V) (v u : Value) (Q : VK), Inv X pins σ H s → RelV x v → RelV y u → r x y H Q →
    wpAny (model X.prog X.w) X.A (f v u) (EP X pins σ Q) X.xe s
def UnR (X : Cx) (f : Value → Sem Value) (r : V → Hp → VK → Prop) : Prop :=
  ∀ (pins : List (Addr × Obj)) (s : Shared) (σ : St) (H : Hp) (x : V) (v : Value) (Q : VK), Inv X pins σ H s → RelV x v → r x H Q →
    wpAny (model X.prog X.w) X.A (f v) (EP X pins σ Q) X.xe s
def CallR (X : Cx) (f : Value) (r : List V → Hp → VK → Prop) : Prop :=
  ∀ (pins : List (Addr × Obj)) (s : Shared) (σ : St) (H : Hp) (xs : List V) (us : List Value) (Q : VK), Inv X pins σ H s → Vals xs us → r xs H Q →
    wpAny (model X.prog X.w) X.A (call f us) (EP X pins σ Q) X.xe s
def tOp (r : R2) (ta tb : TE) : TE := fun σ H Q => ta σ H fun x H1 => tb σ H1 fun y H2 => r x y H2 Q
def tUn (r : V → Hp → VK → Prop) (ta : TE) : TE := fun σ H Q => ta σ H fun x H1 => r x H1 Q
def rI (C : Int → Int → Prop) (g : Int → Int → V) : R2 := fun x y H Q => ∃ i j, x = .int i ∧ y = .int j ∧ C i j ∧ Q (g i j) H
def rI0 (g : Int → Int → V) : R2 := fun x y H Q => ∃ i j, x = .int i ∧ y = .int j ∧ Q (g i j) H
def rU (g : Int → V) : V → Hp → VK → Prop := fun x H Q => ∃ i, x = .int i ∧ Q (g i) H
section
variable {X : Cx} {a b c : Expr} {ta tb tc : TE} {pos : Pos}
theorem binT (ha : PE X a ta) (hb : PE X b tb) {pins : List (Addr × Obj)} {s : Shared} {σ : St} {H : Hp} {R : V → V → Hp → Prop} (I : Inv X pins σ H s)
    (h : ta σ H fun x H1 => tb σ H1 fun y H2 => R x y H2) {Q : Value → Shared → Prop} {f : Value → Value → Sem Value}
    (hf : ∀ v u s2 x y H2, Inv X pins σ H2 s2 → RelV x v → RelV y u → R x y H2 → wpAny (model X.prog X.w) X.A (f v u) Q X.xe s2) :
    wpAny (model X.prog X.w) X.A (eval a X.env) (fun v s₁ => wpAny (model X.prog X.w) X.A (eval b X.env) (fun u s₂ => wpAny (model X.prog X.w) X.A (f v u) Q X.xe s₂) X.xe s₁) X.xe s := by
  refine thn (ha pins s σ H _ I h) fun v s1 ⟨x, H1, I1, r1, q1⟩ => ?_
  refine thn (hb pins s1 σ H1 _ I1 q1) fun u s2 ⟨y, H2, I2, r2, q2⟩ => ?_
  exact hf v u s2 x y H2 I2 r1 r2 q2
theorem pe_op {op : Operator} {r : R2} (ho : OpR X (binaryOp op) r) (ha : PE X a ta) (hb : PE X b tb) : PE X (.BinOp a op b pos) (tOp r ta tb) := by
  intro pins s σ H Q I h
  exact wpAny_BinOp (binT ha hb I h fun v u s2 x y H2 I2 rx ry q => ho pins s2 σ H2 x y v u Q I2 rx ry q)
theorem pe_un {op : UnaryOp} {r : V → Hp → VK → Prop} (ho : UnR X (unaryOp op) r) (ha : PE X a ta) : PE X (.UnaryOp op a pos) (tUn r ta) := by
  intro pins s σ H Q I h
  exact UnaryOp_ (thn (ha pins s σ H _ I h) fun v s1 ⟨x, H1, I1, r1, q1⟩ => ho pins s1 σ H1 x v Q I1 r1 q1)
theorem opI {f : Value → Value → Sem Value} {C : Int → Int → Prop} {g : Int → Int → Int}
    (rule : ∀ (i j : Int) (t u : Tok) (s : Shared) (Q : Value → Shared → Prop) (E : Value → Shared → Prop), C i j → Q (.int (g i j) s.toks) { s with toks := s.toks + 1 } → wpAny (model X.prog X.w) X.A (f (.int i t) (.int j u)) Q E s) :
    OpR X f (rI C fun i j => .int (g i j)) := by
  intro pins s σ H x y v u Q I rx ry h
  obtain ⟨i, j, rfl, rfl, hc, q⟩ := h
  obtain ⟨t, rfl⟩ := rx
  obtain ⟨t', rfl⟩ := ry
  exact rule i j t t' s _ _ hc ⟨.int (g i j), H, I.tok _, ⟨_, rfl⟩, q⟩
theorem opI0 {f : Value → Value → Sem Value} {g : Int → Int → Int}
    (rule : ∀ (i j : Int) (t u : Tok) (s : Shared) (Q : Value → Shared → Prop) (E : Value → Shared → Prop), Q (.int (g i j) s.toks) { s with toks := s.toks + 1 } → wpAny (model X.prog X.w) X.A (f (.int i t) (.int j u)) Q E s) :
    OpR X f (rI0 fun i j => .int (g i j)) := by
  intro pins s σ H x y v u Q I rx ry h
  obtain ⟨i, j, rfl, rfl, q⟩ := h
  obtain ⟨t, rfl⟩ := rx
  obtain ⟨t', rfl⟩ := ry
  exact rule i j t t' s _ _ ⟨.int (g i j), H, I.tok _, ⟨_, rfl⟩, q⟩
theorem opB0 {f : Value → Value → Sem Value} {g : Int → Int → Bool}
    (rule : ∀ (i j : Int) (t u : Tok) (s : Shared) (Q : Value → Shared → Prop) (E : Value → Shared → Prop), Q (.bool (g i j)) s → wpAny (model X.prog X.w) X.A (f (.int i t) (.int j u)) Q E s) :
    OpR X f (rI0 fun i j => .bl (g i j)) := by
  intro pins s σ H x y v u Q I rx ry h
  obtain ⟨i, j, rfl, rfl, q⟩ := h
  obtain ⟨t, rfl⟩ := rx
  obtain ⟨t', rfl⟩ := ry
  exact rule i j t t' s _ _ ⟨.bl (g i j), H, I, rfl, q⟩
def CDiv (i j : Int) : Prop := 0 < j ∧ j < 1073741824
def CPow (i j : Int) : Prop := 0 ≤ j ∧ j ≤ 1000000 ∧ i.natAbs < 2 ^ 64
def CMul (i j : Int) : Prop := (-(2 ^ 64) < i ∧ i < 2 ^ 64) ∨ (-(2 ^ 64) < j ∧ j < 2 ^ 64)
theorem CMul.ok {i j : Int} (h : CMul i j) : IntMulOk i j := by
  rcases h with ⟨h1, h2⟩ | ⟨h1, h2⟩
  · exact .of_left (intBits_le_64 h1 h2)
  · exact .of_right (intBits_le_64 h1 h2)
theorem op_add : OpR X (binaryOp .Add) (rI0 fun i j => .int (i + j)) := opI0 fun _ _ _ _ _ _ _ q => add_int q
theorem op_sub : OpR X (binaryOp .Sub) (rI0 fun i j => .int (i - j)) := opI0 fun _ _ _ _ _ _ _ q => sub_int q
theorem op_mul : OpR X (binaryOp .Mult) (rI CMul fun i j => .int (i * j)) := opI fun _ _ _ _ _ _ _ hc q => mul_int q hc.ok
theorem op_fdiv : OpR X (binaryOp .FloorDiv) (rI CDiv fun i j => .int (i / j)) := opI fun i j _ _ _ _ _ hc q => by
  have h1 : (0 : Int) < j := hc.1
  have h2 : j < 1073741824 := hc.2
  exact floordiv_int (by omega) (by rw [Int.fdiv_eq_ediv_of_nonneg i (by omega)]; exact q) (.inl (PyProof.noPylong_small (by omega)))
theorem op_mod : OpR X (binaryOp .Mod) (rI (fun _ j => 0 < j) fun i j => .int (i % j)) := opI fun i j _ _ _ _ _ hc q => by
  have h1 : (0 : Int) < j := hc
  exact mod_int' (by omega) (by rw [Int.fmod_eq_emod_of_nonneg i (by omega)]; exact q)
theorem op_pow : OpR X (binaryOp .Pow) (rI CPow fun i j => .int (i ^ j.toNat)) := opI fun _ _ _ _ _ _ _ hc q => pow_int_small hc.1 hc.2.1 hc.2.2 q
theorem unI {f : Value → Sem Value} {g : Int → Int}
    (rule : ∀ (i : Int) (t : Tok) (s : Shared) (Q : Value → Shared → Prop) (E : Value → Shared → Prop), Q (.int (g i) s.toks) { s with toks := s.toks + 1 } → wpAny (model X.prog X.w) X.A (f (.int i t)) Q E s) :
    UnR X f (rU fun i => .int (g i)) := by
  intro pins s σ H x v Q I rx h
  obtain ⟨i, rfl, q⟩ := h
  obtain ⟨t, rfl⟩ := rx
  exact rule i t s _ _ ⟨.int (g i), H, I.tok _, ⟨_, rfl⟩, q⟩
theorem un_neg : UnR X (unaryOp .USub) (rU fun i => .int (-i)) := unI fun _ _ _ _ _ q => neg_int q
end
def scal : V → V → Bool
  | .non, .non => true | .non, .int _ => true | .int _, .non => true | .non, .bl _ => true | .bl _, .non => true | .non, .str _ => true | .str _, .non => true
  | .int _, .int _ => true | .bl _, .bl _ => true | .str _, .str _ => true | .byt _, .byt _ => true
  | .int _, .str _ => true | .str _, .int _ => true | .bl _, .str _ => true | .str _, .bl _ => true
  | _, _ => false
def rEq : R2 := fun x y H Q => scal x y = true ∧ Q (.bl (decide (x = y))) H
def rNe : R2 := fun x y H Q => scal x y = true ∧ Q (.bl (!decide (x = y))) H
theorem dec_int {i j : Int} : decide (V.int i = V.int j) = (i == j) := by
  rw [Bool.eq_iff_iff]
  simp
theorem dec_bl {i j : Bool} : decide (V.bl i = V.bl j) = (i == j) := by
  rw [Bool.eq_iff_iff]
  simp
theorem dec_str {i j : Str} : decide (V.str i = V.str j) = (i == j) := by
  rw [Bool.eq_iff_iff]
  simp
theorem dec_byt {i j : Array UInt8} : decide (V.byt i = V.byt j) = (i.toList == j.toList) := by
  rw [Bool.eq_iff_iff]
  cases i
  cases j
  simp
section
variable {X : Cx} {a b c : Expr} {ta tb tc : TE} {pos : Pos}
theorem fin_bl {pins : List (Addr × Obj)} {σ : St} {H : Hp} {s : Shared} {Q : VK} {k k' : Bool} (I : Inv X pins σ H s) (q : Q (.bl k) H) (e : k = k') : EP X pins σ Q (.bool k') s := by
  subst e
  exact ⟨.bl k, H, I, rfl, q⟩
theorem op_eq : OpR X (compareOp .Eq) rEq := by
  intro pins s σ H x y v u Q I rx ry h
  obtain ⟨hs, q⟩ := h
  cases x with
  | non =>
    cases rx
    cases y with
    | non => cases ry; exact PySem.EqNone.eq_none_none (fin_bl I q (by simp))
    | bl j => cases ry; exact PySem.EqNone.eq_none_bool (fin_bl I q (by simp))
    | int j => obtain ⟨t', rfl⟩ := ry; exact PySem.EqNone.eq_none_int (fin_bl I q (by simp))
    | str j => obtain ⟨t', rfl⟩ := ry; exact PySem.EqNone.eq_none_str (fin_bl I q (by simp))
    | _ => exact absurd (show false = true from hs) Bool.false_ne_true
  | bl i =>
    cases rx
    cases y with
    | non => cases ry; exact PySem.EqNone.eq_bool_none (fin_bl I q (by simp))
    | bl j => cases ry; exact eq_bool (fin_bl I q dec_bl)
    | str j => obtain ⟨t', rfl⟩ := ry; exact PySem.EqMixed.eq_bool_str (fin_bl I q (by simp))
    | _ => exact absurd (show false = true from hs) Bool.false_ne_true
  | int i =>
    obtain ⟨t, rfl⟩ := rx
    cases y with
    | non => cases ry; exact PySem.EqNone.eq_int_none (fin_bl I q (by simp))
    | int j => obtain ⟨t', rfl⟩ := ry; exact eq_int (fin_bl I q dec_int)
    | str j => obtain ⟨t', rfl⟩ := ry; exact PySem.EqMixed.eq_int_str (fin_bl I q (by simp))
    | _ => exact absurd (show false = true from hs) Bool.false_ne_true
  | str i =>
    obtain ⟨t, rfl⟩ := rx
    cases y with
    | non => cases ry; exact PySem.EqNone.eq_str_none (fin_bl I q (by simp))
    | bl j => cases ry; exact PySem.EqMixed.eq_str_bool (fin_bl I q (by simp))
    | int j => obtain ⟨t', rfl⟩ := ry; exact PySem.EqMixed.eq_str_int (fin_bl I q (by simp))
    | str j => obtain ⟨t', rfl⟩ := ry; exact eq_str (fin_bl I q dec_str)
    | _ => exact absurd (show false = true from hs) Bool.false_ne_true
  | byt i =>
    obtain ⟨t, rfl⟩ := rx
    cases y with
    | byt j => obtain ⟨t', rfl⟩ := ry; exact PySem.W.eq_bytes (fin_bl I q dec_byt)
    | _ => exact absurd (show false = true from hs) Bool.false_ne_true
  | _ => cases y <;> exact absurd (show false = true from hs) Bool.false_ne_true
theorem op_ne : OpR X (compareOp .NotEq) rNe := by
  intro pins s σ H x y v u Q I rx ry h
  obtain ⟨hs, q⟩ := h
  cases x with
  | non =>
    cases rx
    cases y with
    | non => cases ry; exact PySem.EqNone.ne_none_none (fin_bl I q (by simp))
    | bl j => cases ry; exact PySem.EqNone.ne_none_bool (fin_bl I q (by simp))
    | int j => obtain ⟨t', rfl⟩ := ry; exact PySem.EqNone.ne_none_int (fin_bl I q (by simp))
    | str j => obtain ⟨t', rfl⟩ := ry; exact PySem.EqNone.ne_none_str (fin_bl I q (by simp))
    | _ => exact absurd (show false = true from hs) Bool.false_ne_true
  | bl i =>
    cases rx
    cases y with
    | non => cases ry; exact PySem.EqNone.ne_bool_none (fin_bl I q (by simp))
    | bl j => cases ry; exact ne_bool (fin_bl I q (congrArg not dec_bl))
    | str j => obtain ⟨t', rfl⟩ := ry; exact PySem.EqMixed.ne_bool_str (fin_bl I q (by simp))
    | _ => exact absurd (show false = true from hs) Bool.false_ne_true
  | int i =>
    obtain ⟨t, rfl⟩ := rx
    cases y with
    | non => cases ry; exact PySem.EqNone.ne_int_none (fin_bl I q (by simp))
    | int j => obtain ⟨t', rfl⟩ := ry; exact ne_int (fin_bl I q (congrArg not dec_int))
    | str j => obtain ⟨t', rfl⟩ := ry; exact PySem.EqMixed.ne_int_str (fin_bl I q (by simp))
    | _ => exact absurd (show false = true from hs) Bool.false_ne_true
  | str i =>
    obtain ⟨t, rfl⟩ := rx
    cases y with
    | non => cases ry; exact PySem.EqNone.ne_str_none (fin_bl I q (by simp))
    | bl j => cases ry; exact PySem.EqMixed.ne_str_bool (fin_bl I q (by simp))
    | int j => obtain ⟨t', rfl⟩ := ry; exact PySem.EqMixed.ne_str_int (fin_bl I q (by simp))
    | str j => obtain ⟨t', rfl⟩ := ry; exact ne_str (fin_bl I q (congrArg not dec_str))
    | _ => exact absurd (show false = true from hs) Bool.false_ne_true
  | byt i =>
    obtain ⟨t, rfl⟩ := rx
    cases y with
    | byt j => obtain ⟨t', rfl⟩ := ry; exact PySem.W.ne_bytes (fin_bl I q (congrArg not dec_byt))
    | _ => exact absurd (show false = true from hs) Bool.false_ne_true
  | _ => cases y <;> exact absurd (show false = true from hs) Bool.false_ne_true
theorem op_lt : OpR X (compareOp .Lt) (rI0 fun i j => .bl (decide (i < j))) := opB0 fun _ _ _ _ _ _ _ q => lt_int q
theorem op_le : OpR X (compareOp .LtE) (rI0 fun i j => .bl (decide (i ≤ j))) := opB0 fun _ _ _ _ _ _ _ q => le_int q
theorem op_ge : OpR X (compareOp .GtE) (rI0 fun i j => .bl (decide (j ≤ i))) := opB0 fun _ _ _ _ _ _ _ q => ge_int q
theorem nomark (b : Expr) {op : CmpOp} (h : op ≠ .In := by decide) (h2 : op ≠ .NotIn := by decide) : behindInMarks op b = false := by
  have e1 : (op == CmpOp.In) = false := by cases op <;> first | rfl | exact absurd rfl h
  have e2 : (op == CmpOp.NotIn) = false := by cases op <;> first | rfl | exact absurd rfl h2
  cases b <;> simp [behindInMarks, e1, e2]
theorem pe_cmpR {op : CmpOp} {r : R2} (ho : OpR X (compareOp op) r) (ha : PE X a ta) (hb : PE X b tb) (hm : behindInMarks op b = false) : PE X (.Compare a [op] [b] pos) (tOp r ta tb) := by
  intro pins s σ H Q I h
  exact wpAny_Compare1 (binT ha hb I h fun v u s2 x y H2 I2 rx ry q => ho pins s2 σ H2 x y v u Q I2 rx ry q) hm
def tTest (t : TE) : TT := fun σ H Q => t σ H fun x H' => ∃ k, x = .bl k ∧ Q k H'
theorem pt_cmpR {op : CmpOp} {r : R2} (ho : OpR X (compareOp op) r) (ha : PE X a ta) (hb : PE X b tb) (hm : behindInMarks op b = false) : PT X (.Compare a [op] [b] pos) (tTest (tOp r ta tb)) := by
  intro pins s σ H Q I h
  refine wpAny_isTrue_Compare1 (thn (ha pins s σ H _ I h) fun v s1 ⟨x, H1, I1, r1, q1⟩ => thn (hb pins s1 σ H1 _ I1 q1) fun u s2 ⟨y, H2, I2, r2, q2⟩ =>
    thn (ho pins s2 σ H2 x y v u _ I2 r1 r2 q2) fun c s3 ⟨z, H3, I3, r3, k, e, q3⟩ => ?_) hm
  subst e
  cases r3
  exact wpAny_truthy_bool ⟨H3, I3, q3⟩
theorem line63 : (sizeLine : Nat) < 2 ^ 63 := by rw [sizeLine_eq]; decide
theorem op_add_str : OpR X (binaryOp .Add) (fun x y H Q => ∃ i j, x = .str i ∧ y = .str j ∧ i.length + j.length ≤ sizeLine ∧ Q (.str (i ++ j)) H) := by
  intro pins s σ H x y v u Q I rx ry h
  obtain ⟨i, j, rfl, rfl, hz, q⟩ := h
  obtain ⟨t, rfl⟩ := rx
  obtain ⟨t', rfl⟩ := ry
  exact add_str (fun t' tk => ⟨.str (i ++ j), H, I.tok _, ⟨_, rfl⟩, q⟩) hz
theorem vals1 {x : V} {us : List Value} (r : Vals [x] us) : ∃ u, us = [u] ∧ RelV x u := by
  cases r with
  | cons r1 r2 => cases r2; exact ⟨_, rfl, r1⟩
theorem vals2 {x y : V} {us : List Value} (r : Vals [x, y] us) : ∃ u w', us = [u, w'] ∧ RelV x u ∧ RelV y w' := by
  cases r with
  | cons r1 r2 =>
    cases r2 with
    | cons r3 r4 => cases r4; exact ⟨_, _, rfl, r1, r3⟩
end
end L2
namespace L2
open PySem PySem.Spec PyProof.Rows
structure ObjM (h : Heap) (x dx C : Addr) (mA : Str → Option Value) : Prop where
  obj : h.get? x = some (PySem.W.instObj C dx)
  ns : h.Ns1 dx mA
  ne : dx ≠ x
theorem lookIn_ns {h : Heap} {dx : Addr} {mA : Str → Option Value} (n : h.Ns1 dx mA) : ∃ od, h.get? dx = some od ∧ ∀ name, PySem.W.lookIn name od = some (mA name) := by
  obtain ⟨o, es, ep, ho, hd, hk, _, hm⟩ := n
  refine ⟨o, ho, fun name => ?_⟩
  have e := hm name
  unfold nsFind findBy at e
  rw [← Array.find?_toList] at e
  unfold PySem.W.lookIn
  rw [hd]
  dsimp only
  split
  · rename_i y q
    rw [q] at e
    exact congrArg some e
  · rename_i q
    rw [q] at e
    have a : es.toList.any (·.refKey) = false := by
      rw [List.any_eq_false]
      intro y hy
      obtain ⟨z, t, hkey⟩ := hk y (Array.mem_toList_iff.mp hy)
      simp [DictEntry.refKey, hkey]
    have a' : ¬ es.toList.any (·.refKey) = true := by rw [a]; exact Bool.false_ne_true
    rw [if_neg a']
    exact congrArg some e
theorem ObjM.look {h : Heap} {x dx C : Addr} {mA : Str → Option Value} (I : ObjM h x dx C mA) : ∃ od, PySem.W.InstAt h x (PySem.W.instObj C dx) C (some od) ∧ ∀ name, PySem.W.lookIn name od = some (mA name) :=
  let ⟨od, ho, hl⟩ := lookIn_ns I.ns
  ⟨od, ⟨I.obj, rfl, rfl, ho⟩, hl⟩
section
variable {prog : Program} {w : World} {A : Around} {E : Value → Shared → Prop} {s : Shared} {K : PySem.W.Frag} {x dx C f : Addr} {mA : Str → Option Value} {name : Str} {v : Value}
end
theorem RelO.some_of {v : V} {o : Option Value} (r : RelO (some v) o) : ∃ u, o = some u ∧ RelV v u := by
  cases o with
  | none => exact (show False from r).elim
  | some u => exact ⟨u, rfl, r⟩
section
variable {P : Program} {w : World} {H H' : Hp} {h h' : Heap} {a C dx : Addr} {fs fs' : List (Str × V)}
theorem ins_get (hok : HOk P w H h) (e : H a = some (.ins C dx fs)) : ∃ mA, ObjM h a dx C mA ∧ (∀ f, RelO (fs.lookup f) (mA f)) ∧ PySem.Within mA (fs.map (·.1)) ∧ fs.length ≤ 1000 ∧ H dx = some (.own a) := by
  obtain ⟨d, z, ne, ob, mA, n, r, q⟩ := (show ObjOk P w H h a (.ins C dx fs) from hok a _ e)
  exact ⟨mA, ⟨ob, n, ne⟩, r, q, z, d⟩
end
structure Cls (K : PySem.W.Frag) (C : Addr) : Prop where
  pg : PySem.W.plainGet K C Str.empty = true
  hd : PySem.W.hasDictIn K C = true
  po : PySem.W.plainOver K C = true
  sa : PySem.W.findIn K (.ref C) "__setattr__" = some (some (.builtin "object.__setattr__"))
theorem Cls.get {K : PySem.W.Frag} {C : Addr} (c : Cls K C) (f : Str) : PySem.W.plainGet K C f = true := c.pg
structure Con (K : PySem.W.Frag) (C : Addr) (f : Str) (v : V) (u : Value) : Prop where
  at_ : PySem.W.findIn K (.ref C) f = some (some u)
  rel : RelV v u
  get : PySem.W.specialIn K u "__get__" = some none
  cp : PySem.W.copiedNames.contains f = false
structure Meth (K : PySem.W.Frag) (C : Addr) (m : Str) (f : Addr) : Prop where
  at_ : PySem.W.findIn K (.ref C) m = some (some (.ref f))
  fn : PySem.W.isFn K (.ref f) = true
  kp : PySem.W.keepIn K (.ref f) = true
section
variable {X : Cx} {pins : List (Addr × Obj)} {σ : St} {H : Hp} {s : Shared} {a C dx : Addr} {fs : List (Str × V)} {f : Str} {v : V} {A : Around} {E : Value → Shared → Prop}
end
section
variable {X : Cx} {o e value : Expr} {f : Str} {pos pos' tpos : Pos} {ta tv : TE}
end
section
variable {X : Cx} {pins : List (Addr × Obj)} {σ : St} {H : Hp} {s : Shared} {A : Around} {E : Value → Shared → Prop} {Q : Value → Shared → Prop} {c : Value} {b : Bool}
inductive TyOf (K : PySem.W.Frag) (H : Hp) : V → Value → Prop where
  | non : TyOf K H .non (.type "NoneType")
  | bl (x : Bool) : TyOf K H (.bl x) (.type "bool")
  | int (i : Int) : TyOf K H (.int i) (.type "int")
  | str (x : Str) : TyOf K H (.str x) (.type "str")
  | flt (x : UInt64) : TyOf K H (.flt x) (.type "float")
  | lst {a : Addr} {xs : List V} (e : H a = some (.lst xs)) : TyOf K H (.ref a) (.type "list")
  | frz {a : Addr} {o : Obj} {xs : List V} (e : H a = some (.frz o (.lst xs))) : TyOf K H (.ref a) (.type "list")
  | tup {a : Addr} {xs : List V} (e : H a = some (.tup xs)) : TyOf K H (.ref a) (.type "tuple")
  | dK {a : Addr} {kvs : List (Key × V)} (e : H a = some (.dK kvs)) : TyOf K H (.ref a) (.type "dict")
  | dT {a : Addr} {kvs : List (List Key × V)} (e : H a = some (.dT kvs)) : TyOf K H (.ref a) (.type "dict")
  | ins {a C dx : Addr} {fs : List (Str × V)} (e : H a = some (.ins C dx fs)) (cl : Cls K C) (ha : PySem.W.findIn K (.ref C) "__class__" = some (some (.builtin "object.__class__")))
      (hn : PySem.W.specialIn K (.builtin "object.__class__") "__get__" = some (some (.builtin "getset_descriptor.__get__"))) (htk : PySem.W.takesIn K (.builtin "object.__class__") = some true)
      (hm : PySem.W.mroIn K C (.type "object") = some true) : TyOf K H (.ref a) (.ref C)
theorem isinst_ok {x : V} {u t : Value} (I : Inv X pins σ H s) (rx : RelV x u) (ty : TyOf X.K H x t) (e : PySem.W.kitOne X.K t c = some b) (h : ∀ tk, Q (.bool b) { s with toks := tk }) :
    wpAny (model X.prog X.w) A (call (.builtin "isinstance") [u, c]) Q E s := by
  cases ty with
  | non => cases (show u = Value.none from rx); exact PySem.W.kia_one PySem.W.kitx_none I.kIn True.intro e (fun z => nomatch z) h
  | bl y => cases (show u = Value.bool y from rx); exact PySem.W.kia_one PySem.W.kitx_bool I.kIn True.intro e (fun z => nomatch z) h
  | int i => obtain ⟨t, q⟩ := (show ∃ t, u = Value.int i t from rx); cases q; exact PySem.W.kia_one PySem.W.kitx_int I.kIn True.intro e (fun z => nomatch z) h
  | str y => obtain ⟨t, q⟩ := (show ∃ t, u = Value.str y t from rx); cases q; exact PySem.W.kia_one PySem.W.kitx_str I.kIn True.intro e (fun z => nomatch z) h
  | flt y => obtain ⟨t, q⟩ := (show ∃ t, u = Value.float y t from rx); cases q; exact PySem.W.kia_one PySem.W.kitx_float I.kIn True.intro e (fun z => nomatch z) h
  | @lst a xs ea =>
    cases (show u = Value.ref a from rx)
    obtain ⟨_, _, n, _, h1⟩ := (show ObjOk X.prog X.w H s.heap a (.lst xs) from I.hok a _ ea)
    exact PySem.W.kia_one PySem.W.kitx_list I.kIn ⟨_, h1, rfl⟩ e (fun z => nomatch z) h
  | @frz a ob xs ea =>
    cases (show u = Value.ref a from rx)
    obtain ⟨_, _, _, n, _, h1⟩ := (show ObjOk X.prog X.w H s.heap a (.frz ob (.lst xs)) from I.hok a _ ea)
    exact PySem.W.kia_one PySem.W.kitx_list I.kIn ⟨_, h1, rfl⟩ e (fun z => nomatch z) h
  | @tup a xs ea =>
    cases (show u = Value.ref a from rx)
    obtain ⟨_, _, _, p⟩ := (show ObjOk X.prog X.w H s.heap a (.tup xs) from I.hok a _ ea)
    obtain ⟨o, h1, h2, _⟩ := p
    exact PySem.W.kia_one PySem.W.kitx_tuple I.kIn ⟨o, h1, h2⟩ e (fun z => nomatch z) h
  | @dK a kvs ea =>
    cases (show u = Value.ref a from rx)
    obtain ⟨_, _, vs, _, p⟩ := (show ObjOk X.prog X.w H s.heap a (.dK kvs) from I.hok a _ ea)
    obtain ⟨o, es, ep, h1, h2, _⟩ := p
    exact PySem.W.kia_one PySem.W.kitx_dict I.kIn ⟨o, h1, h2.1⟩ e (fun z => nomatch z) h
  | @dT a kvs ea =>
    cases (show u = Value.ref a from rx)
    obtain ⟨_, _, xs, _, o, es, ep, h1, h2, _⟩ := (show ObjOk X.prog X.w H s.heap a (.dT kvs) from I.hok a _ ea)
    exact PySem.W.kia_one PySem.W.kitx_dict I.kIn ⟨o, h1, h2.1⟩ e (fun z => nomatch z) h
  | @ins a C dx fs ea cl ha hn htk hm =>
    cases (show u = Value.ref a from rx)
    obtain ⟨mA, O, _⟩ := ins_get I.hok ea
    obtain ⟨od, J, _⟩ := O.look
    exact PySem.W.kia_one (PySem.W.kitx_own (cl.get _) cl.hd ha hn htk hm) I.kIn J e (fun z => nomatch z) h
end
end L2
namespace L2
open PySem PySem.Spec PyProof.Rows
structure Room (k : Nat) (A : Around) : Prop where
  hd : A.handled = none
  dp : A.depth + 3 * k + 5 < recursionLimit
  un : A.units + 16 * k + 200 < cLine
theorem Room.mono {j k : Nat} {A : Around} (r : Room k A) (h : j ≤ k) : Room j A := ⟨r.hd, by have := r.dp; omega, by have := r.un; omega⟩
theorem Room.deeper {k : Nat} {A : Around} (r : Room (k + 1) A) (env : Env) : Room k (A.deeper env) :=
  ⟨r.hd, by have := r.dp; show A.depth + 1 + 3 * k + 5 < _; omega, by have := r.un; show A.units + 3 + 16 * k + 200 < _; omega⟩
theorem Room.depth {k : Nat} {A : Around} (r : Room k A) : A.depth < recursionLimit := by have := r.dp; omega
theorem Room.units {k : Nat} {A : Around} (r : Room k A) : A.units + 64 < cLine := by have := r.un; omega
def tNil : TA := fun _ H Q => Q [] H
def tCons (ta : TE) (tr : TA) : TA := fun σ H Q => ta σ H fun x H1 => tr σ H1 fun xs H2 => Q (x :: xs) H2
section
variable {X : Cx} {e : Expr} {es : List Expr} {te : TE} {t : TA} {pos : Pos}
theorem pa_nil : PA X [] tNil := fun _ _ _ _ H Q I h => Calls.spliced_nil ⟨[], H, I, .nil, h⟩
theorem pa_cons (ha : PE X e te) (hr : PA X es t) (hs : starEach (e :: es) X.env = (false, eval e X.env) :: starEach es X.env := by rfl) : PA X (e :: es) (tCons te t) := by
  intro pos pins s σ H Q I h
  rw [hs]
  show wpAny _ _ (spliced ((false, eval e X.env) :: backTo pos (starEach es X.env))) _ _ s
  refine Calls.spliced_cons (thn (ha pins s σ H _ I h) fun u s1 ⟨x, H1, I1, r1, q1⟩ => ?_)
  exact thn (hr pos pins s1 σ H1 _ I1 q1) fun us s2 ⟨xs, H2, I2, r2, q2⟩ => ⟨x :: xs, H2, I2, .cons r1 r2, q2⟩
def tTup (t : TA) : TE := fun σ H Q => t σ H fun xs H1 => xs.length ≤ sizeLine ∧ ∀ p, H1 p = none → Q (.ref p) (upd H1 p (.tup xs))
def tLst (t : TA) : TE := fun σ H Q => t σ H fun xs H1 => xs.length ≤ sizeLine ∧ ∀ p, H1 p = none → Q (.ref p) (upd H1 p (.lst xs))
theorem pe_tup {x1} (h : PA X es t) : PE X (.Tuple es x1 pos) (tTup t) := by
  intro pins s σ H Q I hq
  refine wpAny_Tuple_spliced (thn (h pos pins s σ H _ I hq) fun us s1 ⟨xs, H1, I1, r, z, q⟩ => ⟨by rw [← r.length]; exact z, ?_⟩)
  have hf : H1 s1.heap.objs.size = none := I1.hok.fresh (Nat.le_refl _)
  refine ⟨.ref s1.heap.objs.size, upd H1 s1.heap.objs.size (.tup xs), I1.laid (t' := s1.toks) (fun b u e => Heap.get?_push_of_some _ e) (Nat.le_refl _) ?_, rfl, q _ hf⟩
  exact ⟨z, us, r, ⟨_, Heap.get?_push_size _ rfl, rfl, _, rfl⟩⟩
theorem pe_lst (h : PA X es t) : PE X (.List es pos) (tLst t) := by
  intro pins s σ H Q I hq
  refine wpAny_List_spliced (thn (h pos pins s σ H _ I hq) fun us s1 ⟨xs, H1, I1, r, z, q⟩ => ⟨by rw [← r.length]; exact z, ?_⟩)
  have hf : H1 s1.heap.objs.size = none := I1.hok.fresh (Nat.le_refl _)
  refine ⟨.ref s1.heap.objs.size, upd H1 s1.heap.objs.size (.lst xs), I1.laid (t' := s1.toks) (fun b u e => Heap.get?_push_of_some _ e) (Nat.le_refl _) ?_, rfl, q _ hf⟩
  exact ⟨z, us, 0, r, Heap.get?_push_size _ rfl⟩
end
abbrev Sp := List V → Hp → VK → XK → Prop
abbrev CXT := List Env → Hp → Shared → XK → Value → Shared → Prop
structure Env0 (P : Program) (w : World) (K : PySem.W.Frag) (mg : Str → Option Value) (base : Heap) (A : Around) (outer : List Env) (s : Shared) (H : Hp) : Prop where
  frames : A.frames = some outer
  mod : Mod K mg base
  bs : ∀ b o, base.get? b = some o → s.heap.get? b = some o ∧ H b = none
  bsz : base.objs.size ≤ s.heap.objs.size
  funs : s.heap.FunFrames base outer
  frf : ∀ b ∈ frs outer, H b = none
  hok : HOk P w H s.heap
  bare : AllBare s.gens
def CE (outer : List Env) (P : Program) (w : World) (H : Hp) (s : Shared) (Q : VK) (u : Value) (s' : Shared) : Prop :=
  ∃ v H', s'.os = s.os ∧ AllBare s'.gens ∧ Un (frs outer) [] H H' s.heap s'.heap ∧ HOk P w H' s'.heap ∧ RelV v u ∧ Q v H'
def CR (CX : CXT) (outer : List Env) (P : Program) (w : World) (H : Hp) (s : Shared) (Q : VK) (E : XK) (r : Result) (s' : Shared) : Prop :=
  match r with
  | .ok (.ret u) => CE outer P w H s Q u s'
  | .ok _ => False
  | .error e => CX outer H s E e s'
structure FnOk (P : Program) (w : World) (K : PySem.W.Frag) (mg : Str → Option Value) (base : Heap) (CX : CXT) (k : Nat) (f : Addr) (fd : FuncData) (ps : List Str) (sp : Sp) : Prop where
  len : ∀ vs H Q E, sp vs H Q E → vs.length = ps.length
  run : ∀ (A : Around) (outer : List Env) (s : Shared) (H : Hp) (args : Args) (us : List Value) (vs : List V) (Q : VK) (E : XK), Room k A → Env0 P w K mg base A outer s H → BindsTo s fd args (ps.zip us) → Vals vs us → sp vs H Q E →
    codeAny (model P w) A (.call (.ref f) args) (CR CX outer P w H s Q E) s
section
variable {X : Cx} {pins : List (Addr × Obj)} {σ : St} {H : Hp} {s s' : Shared}
theorem Inv.env0 (I : Inv X pins σ H s) : Env0 X.prog X.w X.K X.mg X.base X.A X.stack s H :=
  ⟨I.ok.frames, I.ok.mod, I.bs, Nat.le_trans I.ok.bsz I.sz, I.stack, I.stkFree, I.hok, I.bare⟩
theorem Inv.after {Q : VK} {u : Value} (I : Inv X pins σ H s) (h : CE X.stack X.prog X.w H s Q u s') : EP X pins σ Q u s' := by
  obtain ⟨v, H', os, bare, un, hok, r, q⟩ := h
  obtain ⟨hh, g, d, t, os'⟩ := s'
  obtain rfl : os' = s.os := os
  exact ⟨v, H', I.call (h' := hh) (g' := g) (d' := d) (t' := t) (ch := []) un hok bare (fun b z => absurd z (by simp)), r, q⟩
end
def tCall (sp : Sp) (dvs : List V) (E : XK) (t : TA) : TE := fun σ H Q => t σ H fun vs H1 => sp (vs ++ dvs) H1 Q E
def Binds (K : PySem.W.Frag) (fd : FuncData) (ps : List Str) (ds : List Value) : Prop :=
  ∀ (s : Shared) (us : List Value), K.In s.heap → (us ++ ds).length = ps.length → BindsTo s fd ⟨us, []⟩ (ps.zip (us ++ ds))
theorem Binds.all {K : PySem.W.Frag} {fd : FuncData} {ps : List Str} (h : ∀ us : List Value, us.length = ps.length → bindArgs fd ⟨us, []⟩ = pure (ps.zip us)) : Binds K fd ps [] := fun s us _ hl => by
  rw [List.append_nil] at hl ⊢
  exact .of_eq (h us hl)
def Passes (CX : CXT) (X : Cx) (E : XK) : Prop := ∀ (pins : List (Addr × Obj)) (σ : St) (H : Hp) (s : Shared) (e : Value) (s' : Shared), Inv X pins σ H s → CX X.stack H s E e s' → X.xe e s'
section
variable {X : Cx} {CX : CXT} {k : Nat} {f C : Addr} {fd : FuncData} {ps : List Str} {sp : Sp} {dvs : List V} {ds : List Value} {E : XK} {x m : Str} {p pos apos : Pos} {e o : Expr} {es : List Expr} {ta : TE} {t : TA}
theorem run_fn {pins : List (Addr × Obj)} {σ : St} {H : Hp} {s : Shared} {Q : VK} {us : List Value} {vs : List V} (F : FnOk X.prog X.w X.K X.mg X.base CX k f fd ps sp) (hr : Room k X.A) (hb : Binds X.K fd ps ds) (hd : Vals dvs ds) (hx : Passes CX X E)
    (I : Inv X pins σ H s) (r : Vals vs us) (h : sp (vs ++ dvs) H Q E) : wpAny (model X.prog X.w) X.A (call (.ref f) us) (EP X pins σ Q) X.xe s := by
  have r2 : Vals (vs ++ dvs) (us ++ ds) := r.append hd
  have hl : (us ++ ds).length = ps.length := by rw [← r2.length]; exact F.len _ _ _ _ h
  refine wpAny_call (codeAny_mono (F.run X.A X.stack s H ⟨us, []⟩ (us ++ ds) (vs ++ dvs) Q E hr I.env0 (hb s us I.kIn hl) r2 h) fun r s' hq => ?_)
  cases r with
  | error e => exact hx pins σ H s e s' I hq
  | ok fl =>
    cases fl with
    | ret u => exact I.after hq
    | next => exact False.elim hq
    | brk => exact False.elim hq
    | cont => exact False.elim hq
theorem pe_call (F : FnOk X.prog X.w X.K X.mg X.base CX k f fd ps sp) (hr : Room k X.A) (hg : Gl X x) (hm : X.mg x = some (.ref f)) (hk : PySem.W.keepIn X.K (.ref f) = true) (hb : Binds X.K fd ps ds) (hd : Vals dvs ds) (hx : Passes CX X E)
    (ha : PA X (e :: es) t) (hdb : (x == ("__debug__" : Str)) = false := by decide) (he : starEach (e :: es) X.env = (false, eval e X.env) :: starEach es X.env := by rfl) (hpl : (backTo pos (starEach es X.env)).any (·.1) = false := by rfl) :
    PE X (.Call (.Name x p) (e :: es) [] pos) (tCall sp dvs E t) := by
  intro pins s σ H Q I h
  refine wpAny_Call_Name_kw (ld_glob I hg hm ?_ hdb)
  refine PySem.W.callWith_K (h₀ := X.base) I.ok.mod.kin hk (thn (ha pos pins s σ H _ I h) fun us s1 ⟨vs, H1, I1, r, q⟩ => ⟨I1.kIn, ?_⟩) he hpl
  exact run_fn F hr hb hd hx I1 r q
structure Mk (K : PySem.W.Frag) (C f : Addr) : Prop where
  makes : PySem.W.makesIn K C = true
  init : PySem.W.findIn K (.ref C) "__init__" = some (some (.ref f))
  fn : PySem.W.isFn K (.ref f) = true
  kp : PySem.W.keepIn K (.ref C) = true
end
section
variable {X : Cx} {CX : CXT} {k : Nat} {f C : Addr} {fd : FuncData} {ps ks : List Str} {sp : Sp} {E : XK} {x m : Str} {p pos apos kpos : Pos} {e o : Expr} {es : List Expr} {kws : List Keyword} {te ta : TE} {t tk : TA} {nm : Option Str}
structure KBinds (K : PySem.W.Frag) (fd : FuncData) (ps ks : List Str) (g : List Value → List Value → List Value) (gV : List V → List V → List V) : Prop where
  to : ∀ (s : Shared) (us ws : List Value), K.In s.heap → (g us ws).length = ps.length → BindsTo s fd ⟨us, ks.zip ws⟩ (ps.zip (g us ws))
  rel : ∀ {vs : List V} {us : List Value} {zs : List V} {ws : List Value}, Vals vs us → Vals zs ws → Vals (gV vs zs) (g us ws)
variable {g : List Value → List Value → List Value} {gV : List V → List V → List V}
end
structure FnScope (N P : List Str) (sc : Scope) : Prop where
  kind : sc.kind = .function
  co : sc.isCoroutine = false
  gen : sc.isGenerator = false
  nd : N.Nodup
  pre : N.take P.length = P
  par : ∀ x ∈ P, sc.names.lookup x = some .local ∨ sc.names.lookup x = some .cell
  nofree : ∀ y ∈ sc.names, y.2 ≠ .free
theorem bindL_out {kindOf : Str → Option NameKind} {x : Str} : ∀ {binds : List (Str × Value)} {m : Str → Option Value}, (∀ v, (x, v) ∉ binds) → bindL kindOf binds m x = m x
  | [], _, _ => rfl
  | (n, v) :: r, m, h => by
    unfold bindL
    rw [bindL_out fun w hw => h w (List.mem_cons_of_mem _ hw)]
    split
    · have : x ≠ n := by rintro rfl; exact h v List.mem_cons_self
      simp [this]
    · rfl
theorem bindC_out {kindOf : Str → Option NameKind} {x : Str} : ∀ {binds : List (Str × Value)} {m : Str → Option Value}, (∀ v, (x, v) ∉ binds) → bindC kindOf binds m x = m x
  | [], _, _ => rfl
  | (n, v) :: r, m, h => by
    unfold bindC
    rw [bindC_out fun w hw => h w (List.mem_cons_of_mem _ hw)]
    split
    · rfl
    · have : x ≠ n := by rintro rfl; exact h v List.mem_cons_self
      simp [this]
theorem bindL_get {kindOf : Str → Option NameKind} {x : Str} {v : Value} : ∀ {P : List Str} {vs : List Value} {i : Nat} {m : Str → Option Value}, P.Nodup → P[i]? = some x → vs[i]? = some v → kindOf x = some .local →
    bindL kindOf (P.zip vs) m x = some v
  | [], _, _, _, _, h, _, _ => by simp at h
  | _ :: _, [], _, _, _, _, h, _ => by simp at h
  | p :: P, w :: vs, 0, m, nd, h1, h2, hk => by
    simp at h1 h2; subst h1; subst h2
    show bindL kindOf ((p, w) :: P.zip vs) m p = _
    unfold bindL
    rw [bindL_out fun v hv => (List.nodup_cons.mp nd).1 (List.of_mem_zip hv).1, if_pos hk]
    simp
  | p :: P, w :: vs, i + 1, m, nd, h1, h2, hk => by
    show bindL kindOf ((p, w) :: P.zip vs) m x = _
    unfold bindL
    exact bindL_get (i := i) (List.nodup_cons.mp nd).2 (by simpa using h1) (by simpa using h2) hk
theorem bindC_get {kindOf : Str → Option NameKind} {x : Str} {v : Value} : ∀ {P : List Str} {vs : List Value} {i : Nat} {m : Str → Option Value}, P.Nodup → P[i]? = some x → vs[i]? = some v → kindOf x ≠ some .local →
    bindC kindOf (P.zip vs) m x = some v
  | [], _, _, _, _, h, _, _ => by simp at h
  | _ :: _, [], _, _, _, _, h, _ => by simp at h
  | p :: P, w :: vs, 0, m, nd, h1, h2, hk => by
    simp at h1 h2; subst h1; subst h2
    show bindC kindOf ((p, w) :: P.zip vs) m p = _
    unfold bindC
    rw [bindC_out fun v hv => (List.nodup_cons.mp nd).1 (List.of_mem_zip hv).1, if_neg hk]
    simp
  | p :: P, w :: vs, i + 1, m, nd, h1, h2, hk => by
    show bindC kindOf ((p, w) :: P.zip vs) m x = _
    unfold bindC
    exact bindC_get (i := i) (List.nodup_cons.mp nd).2 (by simpa using h1) (by simpa using h2) hk
def start (N : List Str) (vs : List V) : St := vs.map some ++ List.replicate (N.length - vs.length) none
def cxOf (CX : CXT) (P : Program) (w : World) (K : PySem.W.Frag) (mg : Str → Option Value) (base : Heap) (N : List Str) (qual : Str) (scope : Scope) (f : Addr) (cd : Value) (A : Around) (outer : List Env) (s : Shared) (H : Hp) (E : XK) : Cx where
  prog := P
  w := w
  K := K
  mg := mg
  base := base
  A := A.deeper (envOfC qual scope s.heap.objs.size f cd)
  N := N
  s₀ := s
  H₀ := H
  env := envOfC qual scope s.heap.objs.size f cd
  outer := outer
  stack := envOfC qual scope s.heap.objs.size f cd :: outer
  ex := []
  calm := true
  fn := fun _ => true
  pn := []
  xe := fun e s' => wpAny (model P w) (A.deeper (envOfC qual scope s.heap.objs.size f cd)) (leaving (envOfC qual scope s.heap.objs.size f cd) e) (fun _ s'' => CX outer H s E e s'') (fun e' s'' => CX outer H s E e' s'') s'
theorem cell_has {sc : Scope} {n : Nat} {x : Str} (h : sc.names.lookup x = some .cell) : ∃ c, (cellsFrom n sc.names []).lookup x = some c := by
  have q := PySem.W.cellsFrom_some sc.names n [] (.inl h)
  exact Option.isSome_iff_exists.mp q
theorem inv_start {CX : CXT} {P : Program} {w : World} {K : PySem.W.Frag} {mg : Str → Option Value} {base : Heap} {N ps : List Str} {qual : Str} {scope : Scope} {f : Addr} {cd : Value} {A : Around} {outer : List Env} {s s1 : Shared} {H : Hp} {E : XK} {us : List Value} {vs : List V}
    (S : FnScope N ps scope) (hd : A.handled = none) (e0 : Env0 P w K mg base A outer s H) (hl : vs.length = ps.length) (r : Vals vs us)
    (x : InCallC s s.heap.objs.size (bindL (envOfC qual scope s.heap.objs.size f cd).kindOf (ps.zip us) fun _ => none) (cellsFrom (s.heap.objs.size + 1) scope.names []) (bindC (envOfC qual scope s.heap.objs.size f cd).kindOf (ps.zip us) fun _ => none) s1) :
    Inv (cxOf CX P w K mg base N qual scope f cd A outer s H E) [] (start N vs) H s1 := by
  have hpl : ps.length ≤ N.length := by have := congrArg List.length S.pre; rw [List.length_take] at this; omega
  obtain ⟨h1, tk, rfl, hk⟩ := x.done
  have noA : ∀ b : Addr, b ∉ (cxOf CX P w K mg base N qual scope f cd A outer s H E).ex := fun b z => absurd (show b ∈ ([] : List Addr) from z) (by simp)
  refine ⟨⟨e0.mod, S.kind, rfl, rfl, Nat.le_refl _, fun y z c h1 h2 => ?_, fun y hy => ?_, fun y c _ h => ?_, fun _ => hd, Around.frames_deeper e0.frames, .inr ⟨rfl, rfl⟩, fun b z => absurd z (noA b), e0.bs, e0.bsz, fun b _ _ => noA b, fun b z => absurd z (noA b), e0.funs, e0.frf⟩,
    rfl, e0.bare, Un.kept hk, ⟨_, x.toInCall.ns, fun i y v h1 h2 h3 => ?_⟩, fun y c h => ⟨_, x.cell y c h⟩, e0.hok.fresh (Nat.le_refl _), fun y c h => ?_, fun p hp => absurd (show p ∈ ([] : List (Addr × Obj)) from hp) (by simp), e0.hok.kept hk, ?_⟩
  · exact name_of_addr x.apart (PySem.mem_of_lookup h1) (PySem.mem_of_lookup h2)
  · have hy : scope.names.lookup y = some .cell ∨ scope.names.lookup y = some .free := hy
    rcases hy with hy | hy
    · exact cell_has hy
    · exact absurd rfl (S.nofree _ (PySem.mem_of_lookup hy))
  · exact Nat.le_of_lt (x.above y c (PySem.mem_of_lookup h))
  · have hi : i < vs.length := by
      unfold start at h2
      by_cases hi : i < vs.length
      · exact hi
      · rw [List.getElem?_append_right (by simpa using hi)] at h2
        rw [List.getElem?_replicate] at h2
        split at h2 <;> cases h2
    have ha : vs[i]? = some v := by
      unfold start at h2
      rw [List.getElem?_append_left (by simpa using hi), List.getElem?_map] at h2
      cases e : vs[i]? with
      | none => rw [e] at h2; cases h2
      | some a => rw [e] at h2; cases h2; rfl
    obtain ⟨u, hu, rv⟩ := r.get ha
    have hp : ps[i]? = some y := by
      rw [← S.pre, List.getElem?_take_of_lt (by omega)]; exact h1
    have ndP : ps.Nodup := by rw [← S.pre]; exact S.nd.sublist (List.take_sublist _ _)
    refine ⟨u, rv, ?_⟩
    rcases S.par y (List.mem_of_getElem? hp) with k | k
    · exact .inl ⟨k, bindL_get ndP hp hu k⟩
    · obtain ⟨c, e⟩ := cell_has (n := s.heap.objs.size + 1) k
      refine .inr ⟨.inl k, c, e, ?_⟩
      have q := x.cell y c e
      rw [bindC_get ndP hp hu (by show scope.names.lookup y ≠ _; rw [k]; decide)] at q
      exact q
  · exact e0.hok.fresh (Nat.le_of_lt (x.above y c (PySem.mem_of_lookup h)))
  · unfold start
    show _ = N.length
    rw [List.length_append, List.length_map, List.length_replicate]
    omega
theorem fn_of {CX : CXT} {P : Program} {w : World} {K : PySem.W.Frag} {mg : Str → Option Value} {base : Heap} {k : Nat} {f : Addr} {name qual : Str} {params : Arguments} {body : List Stmt} {scope : Scope} {dV kV doc pm cdv ct oc : Value} {an od : Option Addr}
    {osl : Array (Option Value)} {N ps : List Str} {sp : Sp} (lk : K.lookup f = some ⟨oc, od, .func (PySem.W.fnOf name qual params body scope dV kV doc pm an cdv ct), osl⟩) (hcd : PySem.W.codeIn K cdv qual = true) (S : FnScope N ps scope)
    (len : ∀ vs H Q E, sp vs H Q E → vs.length = ps.length)
    (hbody : ∀ (A : Around) (outer : List Env) (s : Shared) (H : Hp) (vs : List V) (Q : VK) (E : XK), Room k (A.deeper (envOfC qual scope s.heap.objs.size f cdv)) → sp vs H Q E →
      ∃ t, PSs (cxOf CX P w K mg base N qual scope f cdv A outer s H E) body t ∧ t { nx := fun _ H' => Q .non H', rt := Q } (start N vs) H) :
    FnOk P w K mg base CX (k + 1) f (PySem.W.fnOf name qual params body scope dV kV doc pm an cdv ct) ps sp := by
  refine ⟨len, fun A outer s H args us vs Q E hr e0 hb r hsp => ?_⟩
  have hl := len _ _ _ _ hsp
  have KX : K.In s.heap := e0.mod.kin.keeps fun b o e => (e0.bs b o e).1
  have lim : s.heap.NoLimit := e0.mod.nolimit.keeps fun b o e => (e0.bs b o e).1
  have hkind : ∀ y ∈ ps.zip us, scope.names.lookup y.1 = some .local ∨ (scope.names.lookup y.1 = some .cell ∧ ((cellsFrom (s.heap.objs.size + 1) scope.names []).lookup y.1).isSome = true) := fun ⟨n, v⟩ hy => by
    rcases S.par n (List.of_mem_zip hy).1 with q | q
    · exact .inl q
    · exact .inr ⟨q, PySem.W.cellsFrom_some _ _ _ (.inl q)⟩
  refine codeAny_call_function hr.depth (KX _ _ lk) rfl S.co S.gen rfl (PySem.W.codeRec_of KX hcd) (hb _ _ _ _ ?_)
  refine wpAny_newFunctionEnv_cells S.kind hkind fun env he s1 x => ?_
  subst he
  refine ⟨lim.keeps x.toInCall.keep, codeAny_func ?_⟩
  obtain ⟨t, ht, hq⟩ := hbody A outer s H vs Q E (hr.deeper _) hsp
  have I : Inv (cxOf CX P w K mg base N qual scope f cdv A outer s H E) [] (start N vs) H s1 := inv_start S hr.hd e0 hl r x
  refine wpAny_mono (ht [] s1 (start N vs) H _ I hq) (fun fl s' hs => ?_) fun e s' hs => hs
  have fin : ∀ {σ' : St} {H' : Hp} {v : V} {u : Value}, Inv (cxOf CX P w K mg base N qual scope f cdv A outer s H E) [] σ' H' s' → RelV v u → Q v H' → CE outer P w H s Q u s' :=
    fun {σ' H' v u} J rv q => ⟨v, H', J.os, J.bare, J.base, J.hok, rv, q⟩
  cases fl with
  | ret u =>
    obtain ⟨v, σ', H', J, rv, q⟩ := hs
    exact fin J rv q
  | next =>
    obtain ⟨σ', H', J, q⟩ := hs
    exact fin (v := V.non) (u := Value.none) J rfl q
  | brk =>
    obtain ⟨_, _, _, q⟩ := hs
    exact False.elim q
  | cont =>
    obtain ⟨_, _, _, q⟩ := hs
    exact False.elim q
end L2
namespace L2
open PySem PySem.Spec PyProof.Rows
section
variable {X : Cx} {x : Str} {p pos : Pos} {e : Expr} {es : List Expr} {t : TA} {id T : String} {r : List V → Hp → VK → Prop}
def tCB (r : List V → Hp → VK → Prop) (t : TA) : TE := fun σ H Q => t σ H fun vs H1 => r vs H1 Q
theorem pe_callB (hc : CallR X (.builtin id) r) (hg : Gl X x) (hm : X.mg x = none) (hv : bootBuiltins x = some (.builtin id)) (ha : PA X (e :: es) t) (hn : x ≠ "__name__" := by decide) (hdb : (x == ("__debug__" : Str)) = false := by decide)
    (he : starEach (e :: es) X.env = (false, eval e X.env) :: starEach es X.env := by rfl) (hpl : (backTo pos (starEach es X.env)).any (·.1) = false := by rfl) : PE X (.Call (.Name x p) (e :: es) [] pos) (tCB r t) := by
  intro pins s σ H Q I h
  refine wpAny_Call_Name_kw (ld_blt I hg hm hv ?_ hn hdb)
  exact PyProof.Rows.callWith_builtin1 (thn (ha pos pins s σ H _ I h) fun us s1 ⟨vs, H1, I1, r1, q1⟩ => hc pins s1 σ H1 vs us Q I1 r1 q1) he hpl
theorem pe_callTy (hc : CallR X (.type T) r) (hg : Gl X x) (hm : X.mg x = none) (hv : bootBuiltins x = some (.type T)) (ha : PA X (e :: es) t) (hn : x ≠ "__name__" := by decide) (hdb : (x == ("__debug__" : Str)) = false := by decide)
    (he : starEach (e :: es) X.env = (false, eval e X.env) :: starEach es X.env := by rfl) (hpl : (backTo pos (starEach es X.env)).any (·.1) = false := by rfl) : PE X (.Call (.Name x p) (e :: es) [] pos) (tCB r t) := by
  intro pins s σ H Q I h
  refine wpAny_Call_Name_kw (ld_blt I hg hm hv ?_ hn hdb)
  exact PyProof.Rows.callWith_type1 (thn (ha pos pins s σ H _ I h) fun us s1 ⟨vs, H1, I1, r1, q1⟩ => hc pins s1 σ H1 vs us Q I1 r1 q1) he hpl
end
end L2
namespace HT
open PySem PyProof.Rows
theorem eqAt_int (A : Around) (s : Shared) (a : Int) (t : Tok) (c : Int) (u : Tok) : ∃ e, SeqAt.EqAt A s (.int a t) (.int c u) e ∧ (e = true ↔ a = c) :=
  ⟨(a == c), SeqAt.EqAt.int_int a t c u, by simp⟩
section
open PySem.SeqAt
open PySem.AutoSeq1 (wpAny_loadPart')
open PySem.MeetsSeq PySem.MeetsSeq2 PySem.MeetsSeq3
end
section
variable {prog : Program} {w : World} {A : Around} {E : Value → Shared → Prop} {s : Shared}
def sIx (n d : Nat) : Option Int → Nat
  | none => d
  | some v => if v < 0 then (v + (n : Int)).toNat else min v.toNat n
theorem sIx_none (n d : Nat) : sIx n d none = d := rfl
end
end HT
namespace L2
open PySem PySem.Spec PyProof.Rows
abbrev TO := St → Hp → (Option Int → Hp → Prop) → Prop
def PO (X : Cx) (e : Option Expr) (t : TO) : Prop :=
  ∀ (pins : List (Addr × Obj)) (s : Shared) (σ : St) (H : Hp) (Q : Option Int → Hp → Prop), Inv X pins σ H s → t σ H Q →
    wpAny (model X.prog X.w) X.A (evalPart e X.env) (fun u s' => ∃ o H', Inv X pins σ H' s' ∧ IsPart u o ∧ Q o H') X.xe s
def tNoPart : TO := fun _ H Q => Q none H
def tPart (t : TE) : TO := fun σ H Q => t σ H fun x H1 => ∃ i, x = .int i ∧ Q (some i) H1
section
variable {X : Cx} {e : Expr} {te : TE} {lo hi : Option Expr} {tl th : TO} {pos p2 : Pos}
theorem po_none : PO X none tNoPart := by
  intro pins s σ H Q I h
  rw [evalPart_none]
  exact wpAny_pure ⟨none, H, I, .none, h⟩
theorem po_some (h : PE X e te) : PO X (some e) (tPart te) := by
  intro pins s σ H Q I hw
  rw [evalPart_some]
  refine thn (h pins s σ H _ I hw) fun u s1 ⟨x, H1, I1, r1, q1⟩ => ?_
  obtain ⟨i, rfl, q⟩ := q1
  obtain ⟨t, rfl⟩ := r1
  exact ⟨some i, H1, I1, .int i t, q⟩
def SlR (X : Cx) (r : V → Option Int → Option Int → Hp → VK → Prop) : Prop :=
  ∀ (pins : List (Addr × Obj)) (s : Shared) (σ : St) (H : Hp) (x : V) (v vl vu : Value) (lo hi : Option Int) (sl : Addr) (Q : VK), Inv X pins σ H s → RelV x v → s.heap.IsSliceOf sl vl vu .none → IsPart vl lo → IsPart vu hi → r x lo hi H Q →
    ∃ T id, typeLookup (.type T) "__getitem__" = pure (some (.builtin id)) ∧ s.TypeIs v T ∧ wpAny (model X.prog X.w) X.A (getItem v (.ref sl)) (EP X pins σ Q) X.xe s
def tSl (r : V → Option Int → Option Int → Hp → VK → Prop) (te : TE) (tl th : TO) : TE := fun σ H Q => te σ H fun x H1 => tl σ H1 fun l H2 => th σ H2 fun u H3 => r x l u H3 Q
theorem pe_slice {r : V → Option Int → Option Int → Hp → VK → Prop} (hr : SlR X r) (he : PE X e te) (hl : PO X lo tl) (hu : PO X hi th) : PE X (.Subscript e (.Slice lo hi none p2) pos) (tSl r te tl th) := by
  intro pins s σ H Q I h
  refine Subscript_ (thn (he pins s σ H _ I h) fun v s1 ⟨x, H1, I1, r1, q1⟩ => ?_)
  refine wpAny_Slice (thn (hl pins s1 σ H1 _ I1 q1) fun vl s2 ⟨l, H2, I2, pl, q2⟩ => thn (hu pins s2 σ H2 _ I2 q2) fun vu s3 ⟨u, H3, I3, pu, q3⟩ => ?_)
  rw [evalPart_none]
  refine wpAny_pure ?_
  have I4 : Inv X pins σ H3 { s3 with heap := s3.heap.push { cls := .type "slice", data := .fields #[vl, vu, .none] } } := I3.kept (t' := s3.toks) fun b ob q => Heap.get?_push_of_some _ q
  obtain ⟨T, id, hT, ht, hg⟩ := hr pins { s3 with heap := s3.heap.push { cls := .type "slice", data := .fields #[vl, vu, .none] } } σ H3 x v vl vu l u s3.heap.objs.size Q I4 r1 (Heap.IsSliceOf.new ..) pl pu q3
  show wpAny (model X.prog X.w) X.A (subscriptTail e (.Slice lo hi none p2) v (.ref s3.heap.objs.size)) (EP X pins σ Q) X.xe { s3 with heap := s3.heap.push { cls := .type "slice", data := .fields #[vl, vu, .none] } }
  exact tail_any (ops := [.ref s3.heap.objs.size, v]) ht hT hg (by with_unfolding_all rfl)
def cutV (xs : List V) (lo hi : Option Int) : List V := (xs.drop (HT.sIx xs.length 0 lo)).take (HT.sIx xs.length xs.length hi - HT.sIx xs.length 0 lo)
theorem cutV_length (xs : List V) (lo hi : Option Int) : (cutV xs lo hi).length ≤ xs.length := by
  unfold cutV
  rw [List.length_take, List.length_drop]
  omega
end
end L2
namespace L2
open PySem PySem.Spec PyProof.Rows
def ixN (n : Nat) (i : Int) : Option Nat := if 0 ≤ i then (if i < n then some i.toNat else none) else if -(n : Int) ≤ i then some (i + n).toNat else none
def atI {α : Type} (xs : List α) (i : Int) : Option α := (ixN xs.length i).bind fun j => xs[j]?
theorem ixN_seq {n : Nat} {i : Int} {j : Nat} (h : ixN n i = some j) : seqIndex? i n = some j ∧ j < n ∧ -(n : Int) ≤ i ∧ i < n := by
  unfold ixN at h
  by_cases h0 : 0 ≤ i
  · rw [if_pos h0] at h
    by_cases h1 : i < n
    · rw [if_pos h1] at h
      have e : i.toNat = j := Option.some.inj h
      exact ⟨by rw [seqIndex_of h0 h1, e], by omega, by omega, h1⟩
    · rw [if_neg h1] at h; cases h
  · rw [if_neg h0] at h
    by_cases h1 : -(n : Int) ≤ i
    · rw [if_pos h1] at h
      have e : (i + n).toNat = j := Option.some.inj h
      exact ⟨by rw [seqIndex_neg (by omega) h1, e], by omega, h1, by omega⟩
    · rw [if_neg h1] at h; cases h
theorem atI_get {α : Type} {xs : List α} {i : Int} {v : α} (h : atI xs i = some v) : ∃ j, seqIndex? i xs.length = some j ∧ xs[j]? = some v ∧ j < xs.length ∧ -(xs.length : Int) ≤ i ∧ i < xs.length := by
  unfold atI at h
  cases e : ixN xs.length i with
  | none => rw [e] at h; cases h
  | some j =>
    rw [e] at h
    obtain ⟨h1, h2, h3, h4⟩ := ixN_seq e
    exact ⟨j, h1, h, h2, h3, h4⟩
theorem atI_nat {α : Type} {xs : List α} {j : Nat} {v : α} (h : xs[j]? = some v) : atI xs (j : Int) = some v := by
  have hj : j < xs.length := (List.getElem?_eq_some_iff.mp h).1
  have e : ixN xs.length (j : Int) = some j := by
    unfold ixN
    rw [if_pos (by omega), if_pos (by omega)]; simp
  unfold atI; rw [e]; exact h
def PlainIx (b : Expr) : Prop := ∀ o i, subscripted b false o i = operate [o, i] (getItem o i)
def IxR (X : Cx) (r : R2) : Prop :=
  ∀ (value slice : Expr) (pins : List (Addr × Obj)) (s : Shared) (σ : St) (H : Hp) (x y : V) (v u : Value) (Q : VK), Inv X pins σ H s → RelV x v → RelV y u → r x y H Q →
    subscripted slice false v u = operate [v, u] (getItem v u) → wpAny (model X.prog X.w) X.A (subscriptTail value slice v u) (EP X pins σ Q) X.xe s
def MtR (X : Cx) (id : String) (r : V → List V → Hp → VK → Prop) : Prop :=
  ∀ (pins : List (Addr × Obj)) (s : Shared) (σ : St) (H : Hp) (x : V) (xs : List V) (v : Value) (us : List Value) (Q : VK), Inv X pins σ H s → RelV x v → Vals xs us → r x xs H Q →
    wpAny (model X.prog X.w) X.A (call (.builtin id) (v :: us)) (EP X pins σ Q) X.xe s
section
variable {X : Cx} {a b : Expr} {ta tb : TE} {pos : Pos}
theorem pe_ix {r : R2} (hr : IxR X r) (ha : PE X a ta) (hb : PE X b tb) (hs : PlainIx b) : PE X (.Subscript a b pos) (tOp r ta tb) := by
  intro pins s σ H Q I h
  exact Subscript_ (binT ha hb I h fun v u s2 x y H2 I2 rx ry q => hr a b pins s2 σ H2 x y v u Q I2 rx ry q (hs _ _))
def rIxL (K : PySem.W.Frag) : R2 := fun x y H Q => ∃ p xs i v, x = .ref p ∧ y = .int i ∧ SqL K H p xs ∧ atI xs i = some v ∧ Q v H
def rIxS : R2 := fun x y H Q => ∃ z i c, x = .str z ∧ y = .int i ∧ z.length ≤ sizeLine ∧ atI z.cps.toList i = some c ∧ Q (.str ⟨#[c]⟩) H
theorem ix_list : IxR X (rIxL X.K) := by
  intro value slice pins s σ H x y v u Q I rx ry h hs
  obtain ⟨p, xs, i, z, rfl, rfl, hq, he, q⟩ := h
  cases rx
  obtain ⟨t, rfl⟩ := ry
  obtain ⟨its, r, pl, hz⟩ := I.list hq
  obtain ⟨j, h1, h2, h3, h4, h5⟩ := atI_get he
  obtain ⟨w, ew, rw'⟩ := r.get h2
  have hl := r.length
  have hn := line63
  have fin : EP X pins σ Q w s := ⟨z, H, I, rw', q⟩
  by_cases h0 : 0 ≤ i
  · have hj : i.toNat = j := by
      rw [seqIndex_of h0 h5] at h1
      exact Option.some.inj h1
    exact item_listR pl.isList h0 (by omega) (by rw [hj]; simpa using ew) fin hs
  · have hj : (i + (its.toArray.size : Int)).toNat = j := by
      rw [seqIndex_neg (by omega) h4] at h1
      rw [List.size_toArray, ← hl]
      exact Option.some.inj h1
    exact subscriptTail_builtinR (x := w) pl.isList.typeIs slot_list_getitem.lookup
      (wpAny_getItem_list_neg (Q := fun r s' => r = w ∧ EP X pins σ Q r s') pl.isList (by omega) (by rw [List.size_toArray] <;> omega) (by omega) (by rw [hj]; simpa using ew) ⟨rfl, fin⟩) hs
theorem ix_str : IxR X rIxS := by
  intro value slice pins s σ H x y v u Q I rx ry h hs
  obtain ⟨z, i, c, rfl, rfl, hz, he, q⟩ := h
  obtain ⟨t, rfl⟩ := rx
  obtain ⟨t', rfl⟩ := ry
  obtain ⟨j, h1, h2, h3, h4, h5⟩ := atI_get he
  have hl : z.cps.toList.length = z.length := by simp [Str.length]
  rw [hl] at h1 h4 h5
  have hn := line63
  exact tail_any (typeIs_str s z t) slot_str_getitem.lookup (getItem_str (c := c) (by
    have e1 : decide (i < -(2 ^ 63 : Int)) = false := decide_eq_false (by omega)
    have e2 : decide (i ≥ 2 ^ 63) = false := decide_eq_false (by omega)
    rw [e1, e2, Bool.or_false]) (by rw [h1]; simpa using h2) ⟨.str ⟨#[c]⟩, H, I.tok _, ⟨_, rfl⟩, q⟩) hs
theorem slice_bounds (lo hi : Option Int) (n : Nat) : (sliceBounds lo hi none n).1 = ((HT.sIx n 0 lo : Nat) : Int) ∧ (sliceBounds lo hi none n).2.1 = ((HT.sIx n n hi : Nat) : Int) ∧ (sliceBounds lo hi none n).2.2 = 1 := by
  refine ⟨?_, ?_, rfl⟩
  · cases lo with
    | none => simp [sliceBounds, HT.sIx]
    | some i =>
      simp only [sliceBounds, HT.sIx, Option.getD_none, show (1 : Int) > 0 by decide, if_true]
      by_cases h : i < 0
      · simp only [h, if_true] <;> omega
      · simp only [h, if_false] <;> omega
  · cases hi with
    | none => simp [sliceBounds, HT.sIx]
    | some i =>
      simp only [sliceBounds, HT.sIx, Option.getD_none, show (1 : Int) > 0 by decide, if_true]
      by_cases h : i < 0
      · simp only [h, if_true] <;> omega
      · simp only [h, if_false] <;> omega
theorem slicePick_cut (its : List Value) (lo hi : Option Int) : slicePick its.toArray lo hi none = ((its.drop (HT.sIx its.length 0 lo)).take (HT.sIx its.length its.length hi - HT.sIx its.length 0 lo)).toArray := by
  obtain ⟨h1, h2, h3⟩ := slice_bounds lo hi its.toArray.size
  unfold slicePick
  rw [h1, h2, h3]
  simp only [sliceRange_one, pick_run, List.size_toArray] <;> rfl
def rSlL (K : PySem.W.Frag) : V → Option Int → Option Int → Hp → VK → Prop := fun x lo hi H Q => ∃ a xs, x = .ref a ∧ SqL K H a xs ∧ ∀ p, H p = none → Q (.ref p) (upd H p (.lst (cutV xs lo hi)))
theorem sl_list : SlR X (rSlL X.K) := by
  intro pins s σ H x v vl vu lo hi sl Q I rx hs pl pu h
  obtain ⟨a, xs, rfl, hx, q⟩ := h
  cases rx
  obtain ⟨its, r, ht, hz⟩ := I.list hx
  have hlen := r.length
  refine ⟨"list", _, slot_list_getitem.lookup, ht.isList.typeIs, ?_⟩
  refine wpAny_getItem_list_slice ht.isList hs pl pu .none (by simp) ?_ (by rw [List.size_toArray] <;> omega)
  rw [slicePick_cut, ← hlen]
  refine ⟨.ref s.heap.objs.size, _, I.laid (t' := s.toks) (o := .lst (cutV xs lo hi)) (fun b ob q => Heap.get?_push_of_some _ q) (Nat.le_refl _) ?_, rfl, q _ (I.hok.fresh (Nat.le_refl _))⟩
  exact ⟨Nat.le_trans (cutV_length xs lo hi) hz, _, 0, (r.drop (HT.sIx xs.length 0 lo)).take (HT.sIx xs.length xs.length hi - HT.sIx xs.length 0 lo), Heap.get?_push_size _ rfl⟩
def flatV : V → Bool
  | .non => true
  | .bl _ => true
  | .int _ => true
  | .str _ => true
  | _ => false
def eqV : V → V → Bool
  | .non, .non => true
  | .bl a, .bl b => a == b
  | .bl a, .int b => (if a then 1 else 0) == b
  | .int a, .bl b => a == (if b then 1 else 0)
  | .int a, .int b => a == b
  | .str a, .str b => a == b
  | _, _ => false
theorem eqAt_V {A : Around} {s : Shared} {y x : V} {u v : Value} (ry : RelV y u) (rx : RelV x v) (fy : flatV y = true) (fx : flatV x = true) : SeqAt.EqAt A s u v (eqV y x) := by
  cases y with
  | non =>
    cases ry
    cases x with
    | non => cases rx; exact SeqAt.EqAt.same _
    | bl b => cases rx; exact SeqAt.EqAt.none_bool b
    | int b => obtain ⟨t, rfl⟩ := rx; exact SeqAt.EqAt.none_int b t
    | str b => obtain ⟨t, rfl⟩ := rx; exact SeqAt.EqAt.none_str b t
    | _ => exact absurd (show false = true from fx) Bool.false_ne_true
  | bl a =>
    cases ry
    cases x with
    | non => cases rx; exact SeqAt.EqAt.bool_none a
    | bl b => cases rx; exact SeqAt.EqAt.bool_bool a b
    | int b => obtain ⟨t, rfl⟩ := rx; exact SeqAt.EqAt.bool_int a b t
    | str b => obtain ⟨t, rfl⟩ := rx; exact SeqAt.EqAt.bool_str a b t
    | _ => exact absurd (show false = true from fx) Bool.false_ne_true
  | int a =>
    obtain ⟨t', rfl⟩ := ry
    cases x with
    | non => cases rx; exact SeqAt.EqAt.int_none a t'
    | bl b => cases rx; exact SeqAt.EqAt.int_bool a t' b
    | int b => obtain ⟨t, rfl⟩ := rx; exact SeqAt.EqAt.int_int a t' b t
    | str b => obtain ⟨t, rfl⟩ := rx; exact SeqAt.EqAt.int_str a t' b t
    | _ => exact absurd (show false = true from fx) Bool.false_ne_true
  | str a =>
    obtain ⟨t', rfl⟩ := ry
    cases x with
    | non => cases rx; exact SeqAt.EqAt.str_none a t'
    | bl b => cases rx; exact SeqAt.EqAt.str_bool a t' b
    | int b => obtain ⟨t, rfl⟩ := rx; exact SeqAt.EqAt.str_int a t' b t
    | str b => obtain ⟨t, rfl⟩ := rx; exact SeqAt.EqAt.str_str a t' b t
    | _ => exact absurd (show false = true from fx) Bool.false_ne_true
  | _ => exact absurd (show false = true from fy) Bool.false_ne_true
theorem call_len_seq : CallR X (.builtin "len") (fun xs H Q => ∃ p ys, xs = [.ref p] ∧ (SqL X.K H p ys ∨ SqT X.K H p ys) ∧ Q (.int ys.length) H) := by
  intro pins s σ H xs us Q I r h
  obtain ⟨p, ys, rfl, hq, q⟩ := h
  obtain ⟨u, rfl, rx⟩ := vals1 r
  cases rx
  have hn := line63
  rcases hq with hq | hq
  · obtain ⟨its, r', pl, hz⟩ := I.list hq
    have hlen := r'.length
    exact Calls.call_len_list pl.isList (by simp only [List.size_toArray] <;> omega) ⟨.int ys.length, H, I.tok _, ⟨s.toks + 1, by rw [List.size_toArray, hlen]⟩, q⟩
  · obtain ⟨its, r', pl, hz⟩ := I.tuple hq
    have hlen := r'.length
    exact len_tuple pl (by simp only [List.size_toArray] <;> omega) ⟨.int ys.length, H, I.tok _, ⟨s.toks + 1, by rw [List.size_toArray, hlen]⟩, q⟩
def tyV (K : PySem.W.Frag) (T : String) (x : V) (H : Hp) : Prop := match x with
  | .str _ => T = "str"
  | .int _ => T = "int"
  | .ref p => (T = "list" ∧ ∃ xs, SqL K H p xs) ∨ (T = "tuple" ∧ ∃ o, K.lookup p = some o ∧ o.cls = .type "tuple" ∧ o.dict = none) ∨
      (T = "dict" ∧ ((∃ kvs, H p = some (.dK kvs)) ∨ ∃ kvs, H p = some (.dT kvs))) ∨ (T = "set" ∧ ∃ S n, H p = some (.set S n))
  | _ => False
theorem tyV_is {pins : List (Addr × Obj)} {σ : St} {H : Hp} {s : Shared} {T : String} {x : V} {v : Value} (I : Inv X pins σ H s) (r : RelV x v) (ty : tyV X.K T x H) :
    s.TypeIs v T ∧ ∀ a, v = .ref a → ∃ ob, s.heap.get? a = some ob ∧ ob.dict = none := by
  cases x with
  | str z =>
    obtain ⟨t, rfl⟩ := r
    cases (show T = "str" from ty)
    exact ⟨typeIs_str s z t, fun _ e => nomatch e⟩
  | int i =>
    obtain ⟨t, rfl⟩ := r
    cases (show T = "int" from ty)
    exact ⟨typeIs_int s i t, fun _ e => nomatch e⟩
  | ref p =>
    cases r
    rcases ty with ⟨rfl, xs, hq⟩ | ⟨rfl, o, hk, hc, hd⟩ | ⟨rfl, hk⟩ | ⟨rfl, S, n, hk⟩
    · obtain ⟨its, _, pl, _⟩ := I.list hq
      refine ⟨pl.isList.typeIs, fun a e => ?_⟩
      cases e
      obtain ⟨o, n, e, c, hd, _⟩ := pl
      exact ⟨o, e, hd⟩
    · refine ⟨⟨o, I.kIn p o hk, hc⟩, fun a e => ?_⟩
      cases e
      exact ⟨o, I.kIn _ o hk, hd⟩
    · have z : ∃ o, s.heap.get? p = some o ∧ o.ExactDict := by
        rcases hk with ⟨kvs, hk⟩ | ⟨kvs, hk⟩
        · obtain ⟨_, _, _, _, o, _, _, e, ex, _⟩ := I.hok p _ hk
          exact ⟨o, e, ex⟩
        · obtain ⟨_, _, _, _, o, _, _, e, ex, _⟩ := I.hok p _ hk
          exact ⟨o, e, ex⟩
      obtain ⟨o, e, ex⟩ := z
      refine ⟨⟨o, e, ex.1⟩, fun a e2 => ?_⟩
      cases e2
      exact ⟨o, e, ex.2.1⟩
    · obtain ⟨o, _, _, _, e, ex, _⟩ := I.hok p _ hk
      refine ⟨⟨o, e, ex.1⟩, fun a e2 => ?_⟩
      cases e2
      exact ⟨o, e, ex.2.1⟩
  | _ => exact False.elim ty
def tBM (K : PySem.W.Frag) (T : String) (r : V → List V → Hp → VK → Prop) (to : TE) (t : TA) : TE := fun σ H Q => to σ H fun x H1 => tyV K T x H1 ∧ t σ H1 fun xs H2 => r x xs H2 Q
variable {o e : Expr} {es : List Expr} {to : TE} {t : TA} {name : Str} {apos cpos : Pos} {T id : String} {r : V → List V → Hp → VK → Prop}
theorem pe_bm (pa : PlainAttrs T) (slot : Slot T name id) (hty : typeOf (.builtin id) = pure (.type "method_descriptor")) (hm : MtR X id r) (ho : PE X o to) (ha : PA X (e :: es) t)
    (hbase : attributeBase o name X.env (eval o X.env) = eval o X.env := by rfl)
    (hfew : ((backTo cpos (starEach (e :: es) X.env)).all (fun x => !x.1) && (backToKw cpos (keywordEach [] X.env)).all (fun x => x.1.isSome)
      && decide ((e :: es).length + ([] : List Keyword).length + (if ([] : List Keyword).isEmpty then 0 else 1) < 30)) = true := by rfl)
    (hline : (apos.endLine == cpos.line) = true := by rfl) (hs : starEach (e :: es) X.env = (false, eval e X.env) :: starEach es X.env := by rfl) (hplain : (backTo cpos (starEach es X.env)).any (·.1) = false := by rfl) :
    PE X (.Call (.Attribute o name apos) (e :: es) [] cpos) (tBM X.K T r to t) := by
  intro pins s σ H Q I h
  refine wpAny_Call_method_late hbase hfew hline rfl (thn (ho pins s σ H _ I h) fun v s1 ⟨x, H1, I1, r1, ty, q1⟩ => ?_)
  obtain ⟨h1, h2⟩ := tyV_is I1 r1 ty
  refine ⟨T, id, pa, slot, hty, h1, h2, ?_⟩
  have hA := ha cpos pins s1 σ H1 _ I1 q1
  rw [hs] at hA ⊢
  refine Calls.callWith_builtin (by show (false || (backTo cpos (starEach es X.env)).any (·.1)) = false; rw [hplain] <;> rfl) (Calls.evalArgs_plain ?_)
  exact thn hA fun us s2 ⟨vs, H2, I2, r2, q2⟩ => hm pins s2 σ H2 x vs v us Q I2 r1 r2 q2
/- xs.append(e), list.index on a module's tuple .. are MtR facts of 06m -/
end
end L2
namespace L2
open PySem PySem.Spec PyProof.Rows
def MtM (X : Cx) (id : String) (r : V → List V → Hp → VK → Prop) : Prop :=
  ∀ (pins : List (Addr × Obj)) (s : Shared) (σ : St) (H : Hp) (x : V) (xs : List V) (v : Value) (us : List Value) (Q : VK), Inv X pins σ H s → RelV x v → Vals xs us → r x xs H Q →
    wpAny (model X.prog X.w) X.A (call (.builtin id) (v :: us)) (EP X pins σ Q) X.xe s
theorem Vals.one : ∀ {x : V} {us : List Value}, Vals [x] us → ∃ u, us = [u] ∧ RelV x u
  | _, _, .cons r .nil => ⟨_, rfl, r⟩
section
variable {X : Cx} {pins : List (Addr × Obj)} {σ : St} {H : Hp} {s : Shared} {l b : Addr} {xs ys zs : List V}
theorem Inv.lset {its its' : List Value} {n : Nat} {f : Array Value → Array Value} {t' : Nat} (I : Inv X pins σ H s) (hH : H l = some (.lst xs))
    (e : s.heap.get? l = some { cls := .type "list", data := .seq its.toArray n }) (hf : f its.toArray = its'.toArray) (hv : Vals ys its') (hz : ys.length ≤ sizeLine) :
    Inv X pins σ (upd H l (.lst ys)) { s with heap := s.heap.update l (Obj.mapSeq f), toks := t' } := by
  have q := PySem.IsL.update e f
  rw [hf] at q
  refine I.write (x := l) (e := l) (by rw [hH]; exact trivial) (.inl rfl) (fun b' u hb hu => (Heap.get?_update_other s.heap (Obj.mapSeq f) (Ne.symm hb)).trans hu) ⟨_, q⟩ ?_
  exact ⟨hz, its', _, hv, q⟩
theorem Inv.lnew {its : List Value} {t' : Nat} (I : Inv X pins σ H s) (hv : Vals ys its) (hz : ys.length ≤ sizeLine) :
    Inv X pins σ (upd H s.heap.objs.size (.lst ys)) { s with heap := s.heap.push { cls := .type "list", data := .seq its.toArray }, toks := t' } :=
  I.laid (fun _ _ q => Heap.get?_push_of_some _ q) (Nat.le_refl _) ⟨hz, its, 0, hv, Heap.get?_push_size _ rfl⟩
theorem Inv.fresh (I : Inv X pins σ H s) : H s.heap.objs.size = none := I.hok.fresh (Nat.le_refl _)
theorem Inv.lstM (I : Inv X pins σ H s) (hH : H l = some (.lst xs)) : xs.length ≤ sizeLine ∧ ∃ (its : List Value) (n : Nat), Vals xs its ∧ xs.length = its.length ∧ s.heap.get? l = some { cls := .type "list", data := .seq its.toArray n } := by
  obtain ⟨z, its, n, r, e⟩ := I.hok l _ hH
  exact ⟨z, its, n, r, r.length, e⟩
end
section
variable {X : Cx}
def rAppend : V → List V → Hp → VK → Prop := fun x vs H Q => ∃ l xs y, x = .ref l ∧ vs = [y] ∧ H l = some (.lst xs) ∧ xs.length < sizeLine ∧ Q .non (upd H l (.lst (xs ++ [y])))
theorem mt_append : MtM X "list.append" rAppend := by
  intro pins s σ H x vs v us Q I rx rv h
  obtain ⟨l, xs, y, rfl, rfl, hH, hz, q⟩ := h
  cases rx
  obtain ⟨u, rfl, ru⟩ := rv.one
  obtain ⟨z, its, n, r, hl, e⟩ := I.lstM hH
  refine call_meets F.slot_list_append ⟨_, e, rfl⟩ F.entry_list_append (F.args_list_append_2 _ _) (PySem.list_append l its.toArray n u (by rw [List.size_toArray]; omega)) ⟨e, ?_⟩
  refine ⟨.non, _, I.lset (its' := its ++ [u]) hH e (by simp) (r.append (.cons ru .nil)) ?_, rfl, q⟩
  rw [List.length_append, List.length_singleton]
  omega
end
section
variable {prog : Program} {w : World} {A : Around} {E : Value → Shared → Prop} {s : Shared}
end
section
variable {X : Cx}
end
end L2
namespace Att
open PySem PySem.W PySem.Calls PyProof.Rows
theorem ints_of_wellAll {P : Params} {h : Heap} : ∀ (ns : List Int) (vs : List Value), WellAll P h vs (ns.map WData.int) → IntsAre vs ns := by
  intro ns
  induction ns with
  | nil =>
    intro vs w
    rw [List.map_nil] at w
    cases w
    exact .nil
  | cons n ns ih =>
    intro vs w
    rw [List.map_cons] at w
    cases w with
    | cons a b =>
      cases a
      exact .cons _ _ (ih _ b)
theorem script_of {l : OpenLaw} {n : Nat} (hn : l.most = some n) {P : Params} {h : Heap} {args : List WData} {vals : List Value}
    (hpre : l.row.toRowW.claim.pre args = true) (hwl : WellAll P h vals args) :
    ∃ a vs ns, vals = [Value.ref a] ∧ args = [WData.list (ns.map WData.int)] ∧ h.get? a = some { cls := .type "list", data := .seq vs.toArray } ∧ IntsAre vs ns ∧ ns.length ≤ n := by
  have hsh : WShape.hasAll [] args [.list .int] = true := (pre_splitW hpre).1
  have hc : l.pre.holds [] { args := args } = true := (pre_splitW hpre).2
  obtain ⟨d, r, rfl, h1, h2⟩ := hasAllW_cons hsh
  obtain rfl := hasAllW_nil h2
  obtain ⟨xs, rfl, h3⟩ := hasW_list h1
  obtain ⟨ns, rfl⟩ := items_int h3
  have hlen : ns.length ≤ n := by
    unfold OpenLaw.pre at hc
    have h4 : (WTm.not (.lt (.lit (.int (n : Int))) (.len (.arg 0)))).holds [] { args := [.list (ns.map .int)] } = true := by
      have h4 := (holds_andW hc).1
      rw [hn] at h4
      exact h4
    have h5 := condW_of h4 (w_not (w_lt w_lit (w_len_list (w_arg rfl))))
    rw [List.length_map] at h5
    refine Nat.le_of_not_lt fun q => ?_
    have q' : (n : Int) < ((ns.length : Nat) : Int) := by omega
    first
      | (rw [decide_eq_true q'] at h5; exact absurd h5 (by decide))
      | (simp at h5; omega)
  cases hwl with
  | cons w1 w2 =>
    cases w2
    cases w1 with
    | list ho hall => exact ⟨_, _, ns, rfl, rfl, ho, ints_of_wellAll ns _ hall, hlen⟩
theorem post_true (l : OpenLaw) (args : List WData) : l.row.toRowW.claim.post args (.bool true) args = true :=
  postW_of (r := l.row.toRowW) (X := (true == true))
    (show WShape.has [] (.bool true) .bool = true by first | rfl | decide | simp [WShape.has, WShape.arms, WShape.armsAll])
    (show (WTm.eq .res (.lit (.bool true))).value [] { args := args, res := some (.bool true), after := args } = some (.bool (true == true)) from w_eq_bool (w_res rfl) w_lit) rfl
theorem attach_call {l : OpenLaw} {n : Nat} {q : Program} {loose : List Str} {XP : (Str → Option Value) → Heap → Prop} {YP : World → Heap → Prop} {d : DefRec}
    (hn : l.most = some n) (hdf : d.params.defaults = [])
    (call : ∀ (w : World) (s₀ s₁ : Shared) (mg mb : Str → Option Value) (fa : Addr) (o : Obj) (pm cd doc : Value) (a : Addr) (vs : List Value) (ns : List Int),
      Ground q loose [] XP w s₀ mg mb s₁.heap → YP w s₁.heap →
      s₁.heap.get? fa = some o → o.data = .func (docDef d.name d.params d.body d.scope pm cd doc) → s₁.heap.CodeRec cd d.name → mg d.name = some (.ref fa) →
      s₁.heap.get? a = some { cls := .type "list", data := .seq vs.toArray } → IntsAre vs ns → ns.length ≤ n → s₁.gens = #[] →
      codeAny (model l.prog w) callerA (.call (.ref fa) ⟨[.ref a], []⟩) (fun r s' => r = .ok (.ret (.bool true)) ∧ OldK s₁.heap s'.heap ∧ s'.os = s₁.os ∧ AllBare s'.gens) s₁) :
    WalkO q loose XP YP l.row.toRowW d [] (fun f vs => PySem.call f vs) := by
  intro w s₀ s₁ mg mb G Y fa o pm cd doc dV kV ho hd hcd hD hmg hg args vals as hpre hlay hrd hwl hlo
  obtain rfl : dV = .none := Dflts.none hD hdf
  obtain rfl : kV = .none := Dflts.noKw hD
  obtain ⟨a, vs, ns, rfl, rfl, hobj, hints, hlen⟩ := script_of hn hpre hwl
  refine enter_call (codeAny_mono (call w s₀ s₁ mg mb fa o pm cd doc a vs ns G Y ho (fd_plain hd) hcd hmg hobj hints hlen hg) fun r s' hq => ?_)
  obtain ⟨rfl, h2, h3, h4⟩ := hq
  exact ⟨.inl ⟨.bool true, .bool true, [], rfl, fun _ => rfl, .bool true, post_true l _, fun _ => ⟨List.Pairwise.nil, fun _ hm => (nomatch hm)⟩⟩, h2, h3, h4⟩
section
variable {prog : Program} {w : World} {A : Around} {E : Value → Shared → Prop} {s : Shared} {K : Frag}
end
end Att
namespace L2
open PySem PySem.Spec PyProof.Rows
theorem vals_ints : ∀ {vs : List Value} {ns : List Int}, IntsAre vs ns → Vals (ns.map V.int) vs
  | _, _, .nil => .nil
  | _, _, .cons n t h => .cons ⟨t, rfl⟩ (vals_ints h)
end L2
namespace L2
open PySem PySem.Spec PyProof.Rows
end L2
/- THE LAST THEOREM (shape; LID, My.* are yours):
   My.Adr: a structure of the addresses that your layer names (classes, functions); My.Txt K t: a structure (Prop) of the equations over K;
   My.txt_mk : {K} {implicit addresses ..} (e1 : nsIn K mainGlobals "law" = some (some (.ref f))) (e2 : K.lookup f = some ⟨oc, od, .func (fnOf "law" "law" params body scope dV kV doc pm an cdv ct), sl⟩) (e3 : codeIn K cdv "law" = true) .. : ∃ t, My.Txt K t
set_option maxRecDepth 100000 in
set_option maxHeartbeats 0 in
theorem PySem.Challenge.cw_LID_holds : PySem.Challenge.rw_LID.Holds := by
  w_on; o_law; k_head; (case hw => w_witness2)
  k_fill
  refine L2.walk_of (l := PySem.Challenge.rw_LID) (n := 63) (k := 40) (x := "script") (CX := fun w => ..) (sp := fun _ => My.sp_law) rfl (by decide) rfl ⟨rfl, by decide, by decide⟩ (fun w h Y => PySem.W.kIn_of Y) ?F ?S ?C
  case F =>
    intro w mg fa h KX G hmg
    have T : ∃ t, My.Txt (L2.KOf KX) t := by
      dsimp only [L2.KOf]                          -- K must stand as «<heap const> w.params» for k_is
      refine' My.txt_mk ?e1 ?e2 ?e3 ..
      (case e1 => PySem.W.k_is)                    -- in the order: a name -> its address -> its object -> its parts
      (case e2 => PySem.W.k_is)
      ..
    obtain ⟨t, T⟩ := T
    have e0 := hmg.symm.trans (PySem.W.mg_of KX G T.law)
    cases e0                                       -- fa is the law's own address
    exact ⟨_, fun s u => .of_eq rfl, fun base kb nb => My.law_fn T kb nb⟩     -- if «.of_eq rfl» comes too early: refine' ⟨_, ?b, fun base kb nb => My.law_fn T kb nb⟩; exact fun s u => .of_eq rfl
  case S => exact fun w H a ns hl hO hS => ..
  case C => exact ..
(the tactic k_is has no namespace: write k_is) -/
namespace L2
open PySem PySem.Spec PyProof.Rows
def defArgs (s : Stmt) : Arguments := match s with
  | .FunctionDef _ a _ _ _ _ _ _ _ _ => a
  | _ => { posonlyargs := [], args := [], vararg := none, kwonlyargs := [], kw_defaults := [], kwarg := none, defaults := [] }
def defBody (s : Stmt) : List Stmt := match s with
  | .FunctionDef _ _ b _ _ _ _ _ _ _ => b
  | _ => []
def defScope (s : Stmt) : Scope := match s with
  | .FunctionDef _ _ _ _ _ _ sc _ _ _ => sc
  | _ => { kind := .function, names := [], isGenerator := false, isCoroutine := false }
abbrev CX0 : CXT := fun _ _ _ _ _ _ => False
abbrev E0 : XK := fun _ _ _ => False
theorem pass0 {X : Cx} : Passes CX0 X E0 := fun _ _ _ _ _ _ _ h => h.elim
structure Fun (K : PySem.W.Frag) (x qual : Str) (st : Stmt) (f : Addr) (fd : FuncData) : Prop where
  ex : ∃ (oc : Value) (od : Option Addr) (kV doc pm : Value) (an : Option Addr) (cdv ct : Value) (osl : Array (Option Value)),
    fd = PySem.W.fnOf x qual (defArgs st) (defBody st) (defScope st) .none kV doc pm an cdv ct ∧ K.lookup f = some ⟨oc, od, .func fd, osl⟩ ∧ PySem.W.codeIn K cdv qual = true
  kp : PySem.W.keepIn K (.ref f) = true
section
variable {P : Program} {w : World} {K : PySem.W.Frag} {mg : Str → Option Value} {base : Heap}
theorem Fun.ok {x qual : Str} {st : Stmt} {f : Addr} {fd : FuncData} {N ps : List Str} {k : Nat} {sp : Sp} (F : Fun K x qual st f fd) (S : FnScope N ps (defScope st)) (len : ∀ vs H Q E, sp vs H Q E → vs.length = ps.length)
    (hbody : ∀ (cdv : Value) (A : Around) (outer : List Env) (s : Shared) (H : Hp) (vs : List V) (Q : VK) (E : XK), Room k (A.deeper (envOfC qual (defScope st) s.heap.objs.size f cdv)) → sp vs H Q E →
      ∃ t, PSs (cxOf CX0 P w K mg base N qual (defScope st) f cdv A outer s H E).nox (defBody st) t ∧ t { nx := fun _ H' => Q .non H', rt := Q } (start N vs) H) : FnOk P w K mg base CX0 (k + 1) f fd ps sp := by
  obtain ⟨oc, od, kV, doc, pm, an, cdv, ct, osl, rfl, lk, hcd⟩ := F.ex
  refine fn_of lk hcd S len fun A outer s H vs Q E hr hsp => ?_
  obtain ⟨t, h, q⟩ := hbody cdv A outer s H vs Q E hr hsp
  exact ⟨t, h.nox, q⟩
theorem Fun.binds {x qual : Str} {st : Stmt} {f : Addr} {fd : FuncData} {ps : List Str} (F : Fun K x qual st f fd)
    (h : ∀ (kV doc pm : Value) (an : Option Addr) (cdv ct : Value) (us : List Value), us.length = ps.length → bindArgs (PySem.W.fnOf x qual (defArgs st) (defBody st) (defScope st) .none kV doc pm an cdv ct) ⟨us, []⟩ = pure (ps.zip us)) : Binds K fd ps [] := by
  obtain ⟨oc, od, kV, doc, pm, an, cdv, ct, osl, rfl, lk, hcd⟩ := F.ex
  exact .all (h kV doc pm an cdv ct)
theorem fun_mk {x qual : Str} {st : Stmt} {f : Addr} {oc : Value} {od an : Option Addr} {osl : Array (Option Value)} {kV doc pm cdv ct : Value} (l : K.lookup f = some ⟨oc, od, .func (PySem.W.fnOf x qual (defArgs st) (defBody st) (defScope st) .none kV doc pm an cdv ct), osl⟩)
    (c : PySem.W.codeIn K cdv qual = true) (k : PySem.W.keepIn K (.ref f) = true) : Fun K x qual st f (PySem.W.fnOf x qual (defArgs st) (defBody st) (defScope st) .none kV doc pm an cdv ct) := ⟨⟨oc, od, kV, doc, pm, an, cdv, ct, osl, rfl, l, c⟩, k⟩
end
section
variable {X : Cx}
theorem pv (i : Nat) {x : Str} {pos : Pos} (hN : X.N[i]? = some x := by rfl) (hv : Vis X.env.scope x := by first | exact Or.inl rfl | exact Or.inr (Or.inl rfl) | exact Or.inr (Or.inr rfl)) (hd : (x == ("__debug__" : Str)) = false := by decide)
    (hcd : (x == ("__classdict__" : Str)) = false := by decide) : PE X (.Name x pos) (tVar i) := pe_var hN hv hd hcd
end
theorem iteF {A B : Prop} (h : B) : if false = true then A else B := by
  rw [if_neg Bool.false_ne_true]
  exact h
theorem iteT {A B : Prop} (h : A) : if true = true then A else B := by
  rw [if_pos rfl]
  exact h
theorem ite2 {c A B : Prop} [Decidable c] (h1 : c → A) (h2 : ¬ c → B) : if c then A else B := by
  by_cases h : c
  · rw [if_pos h]
    exact h1 h
  · rw [if_neg h]
    exact h2 h
theorem iteNS {c A B : Prop} [Decidable c] (hc : c) (h : B) : if (!decide c) = true then A else B := by
  rw [decide_eq_true hc]
  exact iteF h
def Same (H H' : Hp) : Prop := ∀ b o, H b = some o → H' b = some o
theorem Same.refl (H : Hp) : Same H H := fun _ _ h => h
theorem Same.trans {H H1 H2 : Hp} (a : Same H H1) (b : Same H1 H2) : Same H H2 := fun c o h => b c o (a c o h)
theorem Same.seq {K : PySem.W.Frag} {H H' : Hp} {a : Addr} {xs : List V} (e : Same H H') (h : SqL K H a xs) : SqL K H' a xs := by
  rcases h with (h | ⟨o, h⟩) | h
  · exact .inl (.inl (e _ _ h))
  · exact .inl (.inr ⟨o, e _ _ h⟩)
  · exact .inr h
end L2
namespace L2
open PySem PySem.Spec PyProof.Rows
theorem rel_look {env : Env} {y : Str} {k : NameKind} : ∀ {names : List (Str × NameKind)},
    (names.map fun (n, k) => if (k == NameKind.free && env.scope.kind == .function && env.kindOf n == some .cell) then (n, NameKind.cell) else (n, k)).lookup y = some k →
      ∃ k0, names.lookup y = some k0 ∧ (k = k0 ∨ (k0 = .free ∧ k = .cell))
  | [], h => by simp at h
  | (n, q) :: r, h => by
    have ih := @rel_look env y k r
    rw [List.map_cons] at h
    dsimp only at h
    cases hx : y == n with
    | true =>
      refine ⟨q, by simp [List.lookup_cons, hx], ?_⟩
      by_cases hc : (q == NameKind.free && env.scope.kind == .function && env.kindOf n == some .cell) = true
      · rw [if_pos hc] at h
        simp only [List.lookup_cons, hx] at h
        cases h
        have hq : (q == NameKind.free) = true := by
          cases e : q == NameKind.free with
          | true => rfl
          | false => rw [e] at hc; simp at hc
        exact .inr ⟨by simpa using hq, rfl⟩
      · rw [if_neg hc] at h
        simp only [List.lookup_cons, hx] at h
        cases h
        exact .inl rfl
    | false =>
      have h2 : (r.map fun (n, k) => if (k == NameKind.free && env.scope.kind == .function && env.kindOf n == some .cell) then (n, NameKind.cell) else (n, k)).lookup y = some k := by
        by_cases hc : (q == NameKind.free && env.scope.kind == .function && env.kindOf n == some .cell) = true
        · rw [if_pos hc] at h
          simpa only [List.lookup_cons, hx] using h
        · rw [if_neg hc] at h
          simpa only [List.lookup_cons, hx] using h
      obtain ⟨k0, e, r'⟩ := ih h2
      exact ⟨k0, by simpa only [List.lookup_cons, hx] using e, r'⟩
theorem clos_go {env : Env} : ∀ (names : List (Str × NameKind)) (acc : List (Str × Addr)), (∀ y ∈ names, y.2 = .free → ∃ c, env.cells.lookup y.1 = some c) → (∀ y c, acc.lookup y = some c → env.cells.lookup y = some c) →
    ∃ cl, (forIn names acc fun (x : Str × NameKind) (r : List (Str × Addr)) => (if (x.2 == NameKind.free) = true then (do let c ← cellOf env x.1; pure (ForInStep.yield ((x.1, c) :: r))) else pure (ForInStep.yield r) : Sem (ForInStep (List (Str × Addr))))) = (pure cl : Sem (List (Str × Addr))) ∧
      (∀ y c, cl.lookup y = some c → env.cells.lookup y = some c) ∧ (∀ y ∈ names, y.2 = .free → ∃ c, cl.lookup y.1 = some c) ∧ ∀ y c, acc.lookup y = some c → ∃ c', cl.lookup y = some c'
  | [], acc, _, ha => ⟨acc, rfl, ha, (fun y hy => absurd hy (by simp)), fun y c h => ⟨c, h⟩⟩
  | (n, k) :: r, acc, hn, ha => by
    by_cases hk : k = NameKind.free
    · obtain ⟨c, hc⟩ := hn (n, k) List.mem_cons_self hk
      have hacc : ∀ y d, ((n, c) :: acc).lookup y = some d → env.cells.lookup y = some d := fun y d e => by
        cases hx : y == n with
        | true =>
          simp only [List.lookup_cons, hx] at e
          cases e
          have : y = n := by simpa using hx
          rw [this]
          exact hc
        | false =>
          simp only [List.lookup_cons, hx] at e
          exact ha y d e
      obtain ⟨cl, e, h1, h2, h3⟩ := clos_go r ((n, c) :: acc) (fun y hy => hn y (List.mem_cons_of_mem _ hy)) hacc
      have hn3 : ∃ c', cl.lookup n = some c' := h3 n c (by simp)
      refine ⟨cl, ?_, h1, fun y hy hf => ?_, fun y d hd => ?_⟩
      · rw [List.forIn_cons]
        dsimp only
        rw [if_pos (by simp [hk])]
        have ec : cellOf env n = pure c := by
          unfold cellOf
          rw [hc]
        rw [ec]
        simp only [pure_bind]
        exact e
      · rcases List.mem_cons.mp hy with z | z
        · subst z
          exact hn3
        · exact h2 y z hf
      · cases hx : y == n with
        | true =>
          have : y = n := by simpa using hx
          rw [this]
          exact hn3
        | false => exact h3 y d (by simpa only [List.lookup_cons, hx] using hd)
    · obtain ⟨cl, e, h1, h2, h3⟩ := clos_go r acc (fun y hy => hn y (List.mem_cons_of_mem _ hy)) ha
      refine ⟨cl, ?_, h1, fun y hy hf => ?_, h3⟩
      · rw [List.forIn_cons]
        dsimp only
        rw [if_neg (by simpa using hk), pure_bind]
        exact e
      · rcases List.mem_cons.mp hy with z | z
        · subst z
          exact absurd hf hk
        · exact h2 y z hf
theorem clos_ok {env : Env} {scope : Scope} (hn : ∀ y ∈ scope.names, y.2 = .free → ∃ c, env.cells.lookup y.1 = some c) :
    ∃ cl, closureFor scope env = pure cl ∧ (∀ y c, cl.lookup y = some c → env.cells.lookup y = some c) ∧ ∀ y ∈ scope.names, y.2 = .free → ∃ c, cl.lookup y.1 = some c := by
  obtain ⟨cl, e, h1, h2, _⟩ := clos_go (env := env) scope.names [] hn (fun y c h => by simp at h)
  refine ⟨cl, ?_, h1, h2⟩
  unfold closureFor
  dsimp only
  have e2 : ∀ (f g : Str × NameKind → List (Str × Addr) → Sem (ForInStep (List (Str × Addr)))), (∀ x r, f x r = g x r) → (forIn scope.names [] f : Sem (List (Str × Addr))) = forIn scope.names [] g := fun f g h => by
    have : f = g := by funext x r; exact h x r
    rw [this]
  rw [e2 _ _ (fun x r => ?_), e]
  · rfl
  · obtain ⟨n, k⟩ := x
    dsimp only
theorem comp_loop_go {prog : Program} {w : World} {A : Around} {R : Result → Shared → Prop} {s : Shared} {elt target iter : Expr} {ifs : List Expr} {scope : Scope} {pos : Pos} {it acc : Value} {env : Env} (J : Nat → Shared → Prop)
    (turn : ∀ n s, J n s → wpAny (model prog w) A (pyNext it) (fun r s1 => match r with
      | none => R (.ok .next) s1
      | some v => wpAny (model prog w) A (letOwnedTupleGo target it v) (fun _ s1' => wpAny (model prog w) A (assign target env v) (fun _ s2 =>
          wpAny (model prog w) A (forIn ifs true fun c r => if r = true then do let ok ← isTrue c env (eval c env); pure (ForInStep.yield ok) else pure (ForInStep.yield r)) (fun ok s3 =>
            if ok = true then wpAny (model prog w) A (eval elt env) (fun x s4 =>
              wpAny (model prog w) A (call (.builtin "list.append") [acc, x]) (fun _ s5 => ∃ m, m < n ∧ J m s5) (fun _ _ => False) s4) (fun _ _ => False) s3
            else ∃ m, m < n ∧ J m s3) (fun _ _ => False) s2) (fun _ _ => False) s1') (fun _ _ => False) s1) (fun _ _ => False) s)
    (n : Nat) (h : J n s) : codeAny (model prog w) A (.compLoop (.ListComp elt [⟨target, iter, ifs, 0⟩] scope pos) 0 it acc env) R s := by
  have no : ∀ {E : Value → Shared → Prop} (e : Value) (s : Shared), (fun (_ : Value) (_ : Shared) => False) e s → E e s := fun _ _ f => f.elim
  refine codeAny_loop rfl J (fun n s hJ => ?_) n h
  show wpAny _ A ((compTurn (.ListComp elt [⟨target, iter, ifs, 0⟩] scope pos) 0 it acc env).onRaise _) _ _ s
  refine wpAny_noted ?_
  rw [compTurn_list]
  refine wpAny_bind (wpAny_standAt (wpAny_bind (wpAny_mono (turn n s hJ) (fun r s1 h1 => ?_) no)))
  cases r with
  | none => exact wpAny_pure h1
  | some v =>
    refine wpAny_bind (wpAny_mono h1 (fun _ s1' h1' => wpAny_bind (wpAny_mono h1' (fun _ s2 h2 => wpAny_bind (wpAny_mono h2 (fun ok s3 h3 => ?_) no)) no)) no)
    cases ok with
    | false => exact wpAny_pure ⟨rfl, h3⟩
    | true => exact wpAny_bind (wpAny_bind (wpAny_mono h3 (fun x s4 h4 => wpAny_bind (wpAny_mono h4 (fun _ s5 h5 => wpAny_pure (wpAny_pure ⟨rfl, h5⟩)) no)) no))
abbrev Cx.comp (X : Cx) (x : Str) (scope : Scope) (cl : List (Str × Addr)) (C : Addr) (fp : List Addr) (s : Shared) (H : Hp) : Cx :=
  { X with N := x :: X.N, s₀ := s, H₀ := H, env := compEnvC scope cl C X.env, outer := X.stack, ex := fp, fn := fun _ => false, pn := [], xe := fun _ _ => False }
def capOk (scope : Scope) (env : Env) (y : Str) : Bool := match scope.names.lookup y with
  | none => true
  | some .free => env.kindOf y == some .cell || env.kindOf y == some .free
  | some _ => false
structure CompSc (X : Cx) (x : Str) (scope : Scope) : Prop where
  kind : scope.kind = .function
  cell : ∀ y ∈ scope.names, y.2 ≠ .cell
  names : ∀ y ∈ scope.names, y.2 = .local → scope.names.lookup y.1 = some .local
  hx : scope.names.lookup x = some .local
  free : ∀ y ∈ scope.names, y.2 = .free → X.env.kindOf y.1 = some .cell ∨ X.env.kindOf y.1 = some .free
  cap : ∀ y ∈ X.N, capOk scope X.env y = true
  nd : (x :: X.N).Nodup
theorem free_mem {scope : Scope} {y : Str} (h : scope.names.lookup y = some .free) : (y, NameKind.free) ∈ scope.names := PySem.mem_of_lookup h
theorem comp_inv {X : Cx} {x : Str} {scope : Scope} {cl : List (Str × Addr)} {fp : List Addr} {pins : List (Addr × Obj)} {σ : St} {H : Hp} {s : Shared} {h' : Heap} {tk : Nat} {m : Str → Option Value} (S : CompSc X x scope) (I : Inv X pins σ H s)
    (hns : h'.Ns s.heap.objs.size m) (hk : ∀ b o, s.heap.get? b = some o → h'.get? b = some o) (hf : ∀ b ∈ fp, FpOk X pins H b) (ho : ∀ b ∈ fp, ∃ o, s.heap.get? b = some o)
    (hsub : ∀ y c, cl.lookup y = some c → X.env.cells.lookup y = some c) (hall : ∀ y ∈ scope.names, y.2 = .free → ∃ c, cl.lookup y.1 = some c) :
    Inv (X.comp x scope cl s.heap.objs.size fp s H) (X.pn ++ pins) (none :: σ) H { s with heap := h', toks := tk } := by
  refine ⟨⟨I.ok.mod, S.kind, I.ok.glob, I.ok.blt, Nat.le_refl _, fun y z c h1 h2 => I.ok.inj y z c (hsub y c h1) (hsub z c h2), fun y hy => ?_, fun y c hfn => absurd hfn Bool.false_ne_true, I.ok.hd, I.ok.frames, .inl rfl, fun b hb => ⟨?_, fun y c e => (hf b hb).2.2.2.2.1 y c (hsub y c e)⟩,
    I.bs, Nat.le_trans I.ok.bsz I.sz, fun b o e hb => ?_, fun b hb hs => ?_, I.stack, I.stkFree⟩, rfl, I.bare, Un.kept hk, ⟨m, hns, fun i y v e1 e2 e3 => ?_⟩, fun y c e => ?_, I.fresh, fun y c e => I.freeC y c (hsub y c e), fun p hp => ?_, I.hok.kept hk, ?_⟩
  · have hy' : ∃ k, (k = NameKind.cell ∨ k = NameKind.free) ∧ (relabel scope X.env).names.lookup y = some k := by
      rcases hy with z | z
      · exact ⟨_, .inl rfl, z⟩
      · exact ⟨_, .inr rfl, z⟩
    obtain ⟨k, hk', e⟩ := hy'
    obtain ⟨k0, e0, r⟩ := rel_look e
    have kf : k0 = .free := by
      rcases r with r | r
      · subst r
        rcases hk' with z | z
        · subst z
          exact absurd rfl (S.cell _ (PySem.mem_of_lookup e0))
        · exact z
      · exact r.1
    subst kf
    exact hall (y, .free) (free_mem e0) rfl
  · obtain ⟨o, e⟩ := ho b hb
    exact Nat.ne_of_lt (Heap.lt_size e)
  · rcases (hf b hb).2.2.2.1 with z | z
    · exact I.ok.noex b o e z
    · exact absurd (Nat.lt_of_lt_of_le (Heap.lt_size e) (Nat.le_trans I.ok.bsz z)) (Nat.lt_irrefl _)
  · rcases List.mem_cons.mp (I.stkSub b hs) with z | z
    · exact (hf b hb).2.1 z
    · exact (hf b hb).2.2.1 z
  · cases i with
    | zero => simp at e2
    | succ i =>
      have e1' : X.N[i]? = some y := by simpa using e1
      have e2' : σ[i]? = some (some v) := by simpa using e2
      have hc := S.cap y (List.mem_of_getElem? e1')
      have hvis : ∃ k, (relabel scope X.env).names.lookup y = some k := by
        rcases e3 with z | z | z
        · exact ⟨_, z⟩
        · exact ⟨_, z⟩
        · exact ⟨_, z⟩
      obtain ⟨k, ek⟩ := hvis
      obtain ⟨k0, e0, r⟩ := rel_look ek
      unfold capOk at hc
      rw [e0] at hc
      have kf : k0 = .free := by cases k0 <;> simp_all
      subst kf
      have hkk : X.env.kindOf y = some .cell ∨ X.env.kindOf y = some .free := by simpa using hc
      obtain ⟨m0, hn0, hl0⟩ := I.loc
      obtain ⟨u, ru, l⟩ := hl0 i y v e1' e2' (.inr hkk)
      refine ⟨u, ru, .inr ?_⟩
      obtain ⟨c', hc'⟩ := hall (y, .free) (free_mem e0) rfl
      rcases l with ⟨z, _⟩ | ⟨_, c, ec, ⟨o, ho', hd'⟩⟩
      · rcases hkk with q | q <;> rw [z] at q <;> cases q
      · have e4 := hsub y c' hc'
        rw [ec] at e4
        have e5 : c = c' := Option.some.inj e4
        subst e5
        refine ⟨?_, c, hc', o, hk _ _ ho', hd'⟩
        rcases r with r | r
        · subst r
          exact .inr ek
        · obtain ⟨_, r⟩ := r
          subst r
          exact .inl ek
  · obtain ⟨v, o, ho', hd'⟩ := I.cell y c (hsub y c e)
    exact ⟨v, o, hk _ _ ho', hd'⟩
  · have hp' : p ∈ X.pn ++ pins := by simpa using hp
    obtain ⟨e, n, ne, nf, d⟩ := I.pin p hp'
    refine ⟨hk _ _ e, n, Nat.ne_of_lt (Heap.lt_size e), fun z => ?_, d⟩
    rcases List.mem_cons.mp (I.stkSub p.1 z) with q | q
    · exact ne q
    · exact nf q
  · show σ.length + 1 = X.N.length + 1
    rw [I.len]
def PTs (X : Cx) (ifs : List Expr) (t : TT) : Prop :=
  ∀ (pins : List (Addr × Obj)) (s : Shared) (σ : St) (H : Hp) (Q : Bool → Hp → Prop), Inv X pins σ H s → t σ H Q →
    wpAny (model X.prog X.w) X.A (forIn ifs true fun c r => if r = true then do let ok ← isTrue c X.env (eval c X.env); pure (ForInStep.yield ok) else pure (ForInStep.yield r)) (TP X pins σ Q) X.xe s
def ttAll : TT := fun _ H Q => Q true H
theorem pts_nil {X : Cx} : PTs X [] ttAll := fun pins s σ H Q I h => by
  rw [List.forIn_nil]
  exact wpAny_pure ⟨H, I, h⟩
def CompGo (J : It) (H1 : Hp) (σ : St) (tt : TT) (te : TE) (Q : VK) : Prop := ∀ D, H1 D = none → ∃ W : Nat → Nat → Hp → Prop, (∃ m, W 0 m (upd H1 D (.lst []))) ∧ ∀ i m H, W i m H →
  (J.stop i H ∧ Q (.ref D) H) ∨ (J.go i H ∧ ∀ x H', J.yld i H x H' → tt (some x :: σ) H' fun b H2 => if b = true then te (some x :: σ) H2 fun y H3 => ∃ ys, H3 D = some (.lst ys) ∧ ys.length < sizeLine ∧ ∃ m', m' < m ∧ W (i + 1) m' (upd H3 D (.lst (ys ++ [y])))
    else ∃ m', m' < m ∧ W (i + 1) m' H2)
def tComp (wi : TI) (tt : TT) (te : TE) : TE := fun σ H Q => wi σ H fun J H1 => CompGo J H1 σ tt te Q
section
variable {X : Cx} {x : Str} {px pos : Pos} {elt iter : Expr} {ifs : List Expr} {scope : Scope} {wi : TI} {tt : TT} {te : TE}
theorem comp_core {pins : List (Addr × Obj)} {σ : St} {H2 : Hp} {s2 : Shared} {it : Addr} {fp : List Addr} {tn : Nat → Heap → Prop} {J : It} {Q : VK} {cl : List (Str × Addr)} {E : Value → Shared → Prop} {RR : Value → Addr → Result → Shared → Prop}
    (S : CompSc X x scope) (hcal : X.calm = true) (hclos : (∀ y c, cl.lookup y = some c → X.env.cells.lookup y = some c) ∧ ∀ y ∈ scope.names, y.2 = .free → ∃ c, cl.lookup y.1 = some c)
    (ht : ∀ cl C fp s H, PTs (X.comp x scope cl C fp s H) ifs tt) (he : ∀ cl C fp s H, PE (X.comp x scope cl C fp s H) elt te)
    (I2 : Inv X pins σ H2 s2) (T : Turn X.prog X.w X.K (.Name x px) J fp it tn) (st2 : tn 0 s2.heap) (f2 : ∀ b ∈ fp, FpOk X pins H2 b)
    (q : CompGo J H2 σ tt te Q)
    (hRR : ∀ D C s' H' m', Inv X pins σ H' s' → s'.heap.Ns C m' → FpOk X pins H' C → Q (.ref D) H' → RR (.ref D) C (.ok .next) s') :
    wpAny (model X.prog X.w) X.A (newList []) (fun acc s3 => wpAny (model X.prog X.w) X.A (newFunctionEnv scope X.env.globals cl [] X.env.qual none .none (some X.env)) (fun cenv s4 =>
      codeAny (model X.prog X.w) X.A (.compStart (.ListComp elt [⟨.Name x px, iter, ifs, 0⟩] scope pos) 0 (.ref it) acc { cenv with scope := relabel scope X.env }) (RR acc cenv.locals) s4) E s3) E s2 := by
  obtain ⟨hsub, hall⟩ := hclos
  refine wpAny_newObj_type (wpAny_newFunctionEnv S.cell (by intro y hy; simp at hy) (fun h1 hns hsb => ?_) S.kind)
  have I3 : Inv X pins σ (upd H2 s2.heap.objs.size (.lst [])) { s2 with heap := s2.heap.push { cls := .type "list", data := .seq ([] : List Value).toArray } } := I2.lnew (t' := s2.toks) .nil (by simp)
  have hD : H2 s2.heap.objs.size = none := I2.fresh
  obtain ⟨W, ⟨m0, w0⟩, turn⟩ := q _ hD
  generalize hs3 : ({ s2 with heap := s2.heap.push { cls := .type "list", data := .seq ([] : List Value).toArray } } : Shared) = s3 at I3
  have hs3' : ({ s2 with heap := s2.heap.push { cls := .type "list", dict := none, data := .seq ([] : List Value).toArray } } : Shared) = s3 := hs3
  dsimp only at hns hsb ⊢
  generalize hDD : s2.heap.objs.size = D at *
  have eh : s2.heap.push { cls := .type "list", dict := none, data := .seq ([] : List Value).toArray } = s3.heap := by rw [← hs3]
  rw [eh] at hns hsb
  have keep : ∀ b o, s3.heap.get? b = some o → h1.get? b = some o := fun b o e => hsb.extBut b o (Nat.ne_of_lt (Heap.lt_size e)) (Heap.get?_push_of_some _ e)
  have objs : ∀ b ∈ fp, ∃ o, s3.heap.get? b = some o := fun b hb => by
    obtain ⟨o, e, _⟩ := T.obj _ _ st2 b hb
    rw [← eh]
    exact ⟨o, Heap.get?_push_of_some _ e⟩
  have f3 : ∀ b ∈ fp, FpOk X pins (upd H2 D (.lst [])) b := fun b hb => by
    obtain ⟨o, e, _⟩ := T.obj _ _ st2 b hb
    have ne : b ≠ D := by rw [← hDD]; exact Nat.ne_of_lt (Heap.lt_size e)
    exact ⟨by rw [upd_ne ne]; exact (f2 b hb).1, (f2 b hb).2⟩
  have I4 : Inv (X.comp x scope cl s3.heap.objs.size fp s3 (upd H2 D (.lst []))) (X.pn ++ pins) (none :: σ) (upd H2 D (.lst [])) { s3 with heap := h1, toks := s3.toks + ([] : List (Str × Value)).length } := comp_inv S I3 hns keep f3 objs hsub hall
  have st4 : tn 0 h1 := T.keep _ _ _ st2 fun b hb o e => keep b o (by rw [← eh]; exact Heap.get?_push_of_some _ e)
  -- what stays true of the iterator's objects
  have stat : ∀ {H' : Hp}, (∀ b ∈ fp, H' b = none) → ∀ b ∈ fp, FpOk (X.comp x scope cl s3.heap.objs.size fp s3 (upd H2 D (.lst []))) (X.pn ++ pins) H' b := fun hn b hb => by
    refine ⟨hn b hb, (I4.ok.exf b hb).1, I4.ok.exfs b hb, .inl hb, (I4.ok.exf b hb).2, fun p hp => (f3 b hb).2.2.2.2.2 p (by simpa using hp)⟩
  have loop : codeAny (model X.prog X.w) X.A (.compLoop (.ListComp elt [⟨.Name x px, iter, ifs, 0⟩] scope pos) 0 (.ref it) (.ref D) (compEnvC scope cl s3.heap.objs.size X.env)) (RR (.ref D) s3.heap.objs.size) { s3 with heap := h1, toks := s3.toks + ([] : List (Str × Value)).length } := by
    refine comp_loop_go (fun n s' => ∃ i o H', Inv (X.comp x scope cl s3.heap.objs.size fp s3 (upd H2 D (.lst []))) (X.pn ++ pins) (o :: σ) H' s' ∧ tn i s'.heap ∧ (∀ b ∈ fp, H' b = none) ∧ W i n H') ?_ m0
      ⟨0, none, _, I4, st4, fun b hb => (f3 b hb).1, w0⟩
    rintro n s5 ⟨i, o, H5, I5, st5, fr5, w5⟩
    rcases turn i n H5 w5 with ⟨stop, qn⟩ | ⟨go, step⟩
    · refine thn (T.done (X.comp x scope cl s3.heap.objs.size fp s3 (upd H2 D (.lst []))) rfl rfl rfl hcal i _ s5 _ H5 _ I5 (stat fr5) st5 stop) fun r s6 ⟨hr, I6⟩ => ?_
      subst hr
      obtain ⟨m6, hn6, _⟩ := I6.loc
      have I7 : Inv X pins σ H5 s6 := I3.call' (ch := fp) I6.os I6.base I6.hok I6.bare fun b hb => ⟨(f3 b hb).2.2.2.1, (f3 b hb).2.1, (f3 b hb).2.2.2.2.1, (f3 b hb).2.2.2.2.2⟩
      exact hRR D s3.heap.objs.size s6 H5 m6 I7 hn6 (I3.fpOk (Nat.le_refl _) I6.free) qn
    · refine thn (T.item (X.comp x scope cl s3.heap.objs.size fp s3 (upd H2 D (.lst []))) rfl rfl rfl hcal i _ s5 _ H5 _ I5 (stat fr5) st5 go) fun r s6 ⟨u, hr, h6⟩ => ?_
      subst hr
      refine thn h6 fun _ s7 ⟨y, H7, I7, r7, y7, st7, fr7⟩ => ?_
      have I7' := I7.pinned (stat fr7) (T.obj _ _ st7)
      have hxl : (relabel scope X.env).names.lookup x = some .local := lookup_relabel_local S.hx
      refine thn (pg_name (X := X.comp x scope cl s3.heap.objs.size fp s3 (upd H2 D (.lst []))) (i := 0) S.nd rfl (.inl hxl) (.inr hxl) _ s7 (o :: σ) H7 y u (fun σ' H' => σ' = some y :: σ ∧ H' = H7) I7' r7 ⟨rfl, rfl⟩) fun _ s8 ⟨σ8, H8, I8, e8, e8'⟩ => ?_
      subst e8 e8'
      refine thn (ht _ _ _ _ _ _ s8 _ H8 _ I8 (step y H8 y7)) fun ok s9 ⟨H9, I9, q9⟩ => ?_
      have back : ∀ {H' : Hp} {s' : Shared} {m' : Nat}, Inv (X.comp x scope cl s3.heap.objs.size fp s3 (upd H2 D (.lst []))) (X.pn ++ pins ++ pinsAt fp s7.heap) (some y :: σ) H' s' → m' < n → W (i + 1) m' H' →
          ∃ m, m < n ∧ ∃ i o H', Inv (X.comp x scope cl s3.heap.objs.size fp s3 (upd H2 D (.lst []))) (X.pn ++ pins) (o :: σ) H' s' ∧ tn i s'.heap ∧ (∀ b ∈ fp, H' b = none) ∧ W i m H' := fun {H' s' m'} I' hm w' => by
        have pin : ∀ b o, b ∈ fp → s7.heap.get? b = some o → s'.heap.get? b = some o ∧ H' b = none := fun b o hb e => by
          have z := I'.pin (b, o) (List.mem_append_right _ (List.mem_append_right _ (mem_pinsAt hb e)))
          exact ⟨z.1, z.2.1⟩
        refine ⟨m', hm, i + 1, some y, H', I'.unpinned, T.keep _ _ _ st7 fun b hb o e => (pin b o hb e).1, fun b hb => ?_, w'⟩
        obtain ⟨o', e, _⟩ := T.obj _ _ st7 b hb
        exact (pin b o' hb e).2
      cases ok with
      | false =>
        rw [if_neg Bool.false_ne_true] at q9 ⊢
        obtain ⟨m', hm, w'⟩ := q9
        exact back I9 hm w'
      | true =>
        rw [if_pos rfl] at q9 ⊢
        refine thn (he _ _ _ _ _ _ s9 _ H9 _ I9 q9) fun v s10 ⟨z, H10, I10, r10, q10⟩ => ?_
        obtain ⟨ys, e10, l10, m', hm, w'⟩ := q10
        refine thn (mt_append _ s10 _ H10 (.ref D) [z] (.ref D) [v] (fun _ H' => H' = upd H10 D (.lst (ys ++ [z]))) I10 rfl (.cons r10 .nil) ⟨D, ys, z, rfl, rfl, e10, l10, rfl⟩) fun _ s11 ⟨_, H11, I11, _, e11⟩ => ?_
        subst e11
        exact back I11 hm w'
  exact codeAny_compStart_list loop (T.self _ 0 _ _ _ st4 loop)
theorem pe_comp (S : CompSc X x scope) (hcal : X.calm = true) (hi : PI X (.Name x px) iter wi) (ht : ∀ cl C fp s H, PTs (X.comp x scope cl C fp s H) ifs tt) (he : ∀ cl C fp s H, PE (X.comp x scope cl C fp s H) elt te)
    (hs : ∀ x, foldedSetIterable iter X.env x = pure x := by intro _; rfl) : PE X (.ListComp elt [⟨.Name x px, iter, ifs, 0⟩] scope pos) (tComp wi tt te) := by
  intro pins s σ H Q I h
  obtain ⟨cl, hcl, hc⟩ := clos_ok (env := X.env) (scope := scope) fun y hy hf => I.ok.has y.1 (S.free y hy hf)
  rw [eval_ListComp]
  refine wpAny_comprehension_free (use := none) rfl hs hcl S.kind S.names (thn (hi pins s σ H _ I h) fun xv s1 h1 => thn h1 fun itv s2 h2 => ?_)
  obtain ⟨it, fp, tn, J, H2, e, I2, T, st2, f2, q⟩ := h2
  subst e
  refine comp_core (RR := fun acc C => compPost (model X.prog X.w) X.A X.xe none (EP X pins σ Q) acc C) S hcal hc ht he I2 T st2 f2 q ?_
  intro D C s' H' m' I' hn F' hq
  exact ⟨m', hn, fun h' sb => ⟨.ref D, H', I'.turned (t' := s'.toks) (fun b o hb e => (sb.2 b hb).trans e) F'.1 F'.2.1 F'.2.2.2.1 F'.2.2.2.2.1 F'.2.2.2.2.2, rfl, hq⟩⟩
end
end L2
namespace L2
open PySem PySem.Spec PyProof.Rows
open AutoSeq1 (wpAny_loadPart')
section
variable {prog : Program} {w : World} {A : Around} {E : Value → Shared → Prop} {s : Shared}
end
section
variable {prog : Program} {w : World} {A : Around} {E : Value → Shared → Prop} {s : Shared}
end
end L2
namespace L2
open PySem PySem.Spec PyProof.Rows
section
variable {prog : Program} {w : World} {A : Around} {E : Value → Shared → Prop} {s : Shared}
end
end L2
namespace L2
open PySem PySem.Spec PyProof.Rows
section
variable {X : Cx} {pins : List (Addr × Obj)} {σ : St} {H : Hp} {s : Shared} {h' : Heap}
theorem Inv.turnedNew {t' : Nat} {ch : List Addr} {a : Addr} {o : HO} (I : Inv X pins σ H s) (k : ∀ b u, b ∉ ch → s.heap.get? b = some u → h'.get? b = some u) (hch : ∀ b ∈ ch, FpOk X pins H b)
    (hp : s.heap.objs.size ≤ a) (new : ObjOk X.prog X.w (upd H a o) h' a o) : Inv X pins σ (upd H a o) { s with heap := h', toks := t' } := by
  have hn : H a = none := I.hok.fresh hp
  have nch : ∀ b u, H b = some u → b ∉ ch := fun b u e z => by rw [(hch b z).1] at e; cases e
  refine I.step (g' := s.gens) (d' := s.drawn) (ch := ch) (fun b hb => ⟨(hch b hb).2.2.2.1, (hch b hb).2.1, (hch b hb).2.2.2.2.1, (hch b hb).2.2.2.2.2⟩) (fun b o _ _ hc e _ => k b o hc e) (fun b o _ _ hc e _ => ⟨o.slots, k b o hc e⟩)
    (fun b u hc e n => by rw [upd_ne (Nat.ne_of_lt (Nat.lt_of_lt_of_le (Heap.lt_size e) hp))]; exact n) (fun b o hc e => ⟨o, k b o hc e⟩) (fun b xs e => by rw [upd_ne (ne_of_none e hn)]; exact e) (fun b u xs e => by rw [upd_ne (ne_of_none e hn)]; exact e)
    (fun b ps e => ⟨#[], by rw [upd_ne (ne_of_none e hn), e]; simp⟩) (fun m hm => ?_) (fun b u e => ?_) I.bare
  · obtain ⟨ob, es, ep, ho, r⟩ := hm
    exact ⟨ob, es, ep, k _ ob (fun z => (hch _ z).2.1 rfl) ho, r⟩
  · by_cases hb : b = a
    · subst hb
      rw [upd_same] at e
      cases e
      exact new
    · rw [upd_ne hb] at e
      refine (I.hok b u e).stay (fun c v hc q => k c v ?_ q) (fun c q => by rw [upd_ne (ne_of_none q hn)]; exact q) fun c xs q => by rw [upd_ne (ne_of_none q hn)]; exact q
      rcases hc with z | z
      · rw [z]
        exact nch b u e
      · exact nch c _ z
end
section
variable {M : Model} {A : Around} {E : Value → Shared → Prop} {s : Shared} {env : Env}
end
section
variable {X : Cx} {es : List Expr} {kk : Nat} {pt : Pos}
end
end L2
namespace L2
open PySem PySem.Spec PyProof.Rows
open AutoSeq1 (wpAny_loadPart')
section
variable {X : Cx}
def bothIf {α : Type} (p : α → α → Bool) : Option α → Option α → Bool
  | some a, some b => p a b
  | _, _ => true
theorem all_range {α : Type} (p : α → α → Bool) : ∀ (xs ys : List α), xs.length = ys.length → ((List.range xs.length).all fun j => bothIf p xs[j]? ys[j]?) = (xs.zip ys).all fun q => p q.1 q.2
  | [], _, _ => by simp
  | x :: xs, [], h => by simp at h
  | x :: xs, y :: ys, h => by
    have ih := all_range p xs ys (by simpa using h)
    rw [List.length_cons, List.range_succ_eq_map, List.all_cons, List.all_map, List.zip_cons_cons, List.all_cons, ← ih]
    congr 1
def rInst (K : PySem.W.Frag) : List V → Hp → VK → Prop := fun xs H Q => ∃ x n t b, xs = [x, .ty n] ∧ TyOf K H x t ∧ PySem.W.kitOne K t (.type n) = some b ∧ Q (.bl b) H
theorem call_isinst : CallR X (.builtin "isinstance") (rInst X.K) := by
  intro pins s σ H xs us Q I r h
  obtain ⟨x, n, t, b, e1, ty, e2, q⟩ := h
  subst e1
  obtain ⟨u, v, e3, r1, r2⟩ := vals2 r
  subst e3
  obtain rfl : v = Value.type n := r2
  exact isinst_ok I r1 ty e2 fun tk => ⟨.bl b, H, I.tok tk, rfl, q⟩
end
end L2
namespace L2
open PySem PySem.Spec PyProof.Rows
def compChk (fs : Scope) (N : List Str) (x : Str) (scope : Scope) : Bool :=
  decide (scope.kind = .function) && scope.names.all (fun y => decide (y.2 ≠ .cell)) && scope.names.all (fun y => decide (y.2 = .local → scope.names.lookup y.1 = some .local)) && decide (scope.names.lookup x = some .local) &&
  scope.names.all (fun y => decide (y.2 = .free → fs.names.lookup y.1 = some .cell ∨ fs.names.lookup y.1 = some .free)) &&
  N.all (fun y => match scope.names.lookup y with
    | none => true
    | some .free => decide (fs.names.lookup y = some .cell ∨ fs.names.lookup y = some .free)
    | some _ => false) && decide ((x :: N).Nodup)
theorem compSc_mk {X : Cx} {x : Str} {scope fs : Scope} {N : List Str} (hs : X.env.scope = fs) (hN : X.N = N) (c : compChk fs N x scope = true) : CompSc X x scope := by
  subst hs hN
  unfold compChk at c
  simp only [Bool.and_eq_true, List.all_eq_true, decide_eq_true_eq] at c
  obtain ⟨⟨⟨⟨⟨⟨c1, c2⟩, c3⟩, c4⟩, c5⟩, c6⟩, c7⟩ := c
  refine ⟨c1, c2, c3, c4, c5, fun y hy => ?_, c7⟩
  have q := c6 y hy
  unfold capOk
  cases e : scope.names.lookup y with
  | none => rfl
  | some k =>
    rw [e] at q
    cases k with
    | free =>
      have q2 : X.env.scope.names.lookup y = some .cell ∨ X.env.scope.names.lookup y = some .free := by simpa using q
      show (X.env.kindOf y == some .cell || X.env.kindOf y == some .free) = true
      have e2 : X.env.kindOf y = X.env.scope.names.lookup y := rfl
      rw [e2]
      rcases q2 with z | z <;> rw [z] <;> rfl
    | _ => simp at q
end L2
namespace L2
open PySem PySem.Spec PyProof.Rows
section
variable {X : Cx}
theorem eqs_at {A : Around} {s : Shared} {xs ys : List V} {us ws : List Value} (r : Vals xs us) (r2 : Vals ys ws) (hl : xs.length = ys.length) (fx : xs.all flatV = true) (fy : ys.all flatV = true) (j : Nat) (h1 : j < us.toArray.size) (h2 : j < ws.toArray.size) :
    SeqAt.EqAt A s us.toArray[j] ws.toArray[j] (bothIf eqV xs[j]? ys[j]?) := by
  have l1 := r.length
  have l2 := r2.length
  rw [List.size_toArray] at h1 h2
  have g1 : j < xs.length := by omega
  have g2 : j < ys.length := by omega
  obtain ⟨w1, q1, p1⟩ := r.get (i := j) (x := xs[j]) (by simp [g1])
  obtain ⟨w2, q2, p2⟩ := r2.get (i := j) (x := ys[j]) (by simp [g2])
  have s1 : us.toArray[j] = w1 := by
    rw [List.getElem?_eq_getElem h1] at q1
    simpa using q1
  have s2 : ws.toArray[j] = w2 := by
    rw [List.getElem?_eq_getElem h2] at q2
    simpa using q2
  rw [s1, s2]
  simp only [List.getElem?_eq_getElem g1, List.getElem?_eq_getElem g2]
  exact eqAt_V p1 p2 (List.all_eq_true.mp fx _ (List.getElem_mem g1)) (List.all_eq_true.mp fy _ (List.getElem_mem g2))
def rNeL (K : PySem.W.Frag) : R2 := fun x y H Q => ∃ a b xs ys, x = .ref a ∧ y = .ref b ∧ SqL K H a xs ∧ SqL K H b ys ∧ xs.length = ys.length ∧ xs.all flatV = true ∧ ys.all flatV = true ∧ Q (.bl (!(xs.zip ys).all fun p => eqV p.1 p.2)) H
theorem op_neL (hu : X.A.units < cLine) : OpR X (compareOp .NotEq) (rNeL X.K) := by
  intro pins s σ H x y v u Q I rx ry h
  obtain ⟨a, b, xs, ys, e1, e2, hA, hB, hl, fx, fy, q⟩ := h
  subst e1 e2
  obtain rfl : v = Value.ref a := rx
  obtain rfl : u = Value.ref b := ry
  obtain ⟨its, r, pl, hz⟩ := I.list hA
  obtain ⟨its2, r2, pl2, hz2⟩ := I.list hB
  have l1 := r.length
  have l2 := r2.length
  refine SeqAt.RcNeAt.lists (e := fun j => bothIf eqV xs[j]? ys[j]?) pl.isList pl2.isList (by rw [List.size_toArray, List.size_toArray]; omega) hu (fun j h1 h2 => eqs_at r r2 hl fx fy j h1 h2) _ _ _ _ ⟨.bl _, H, I, rfl, ?_⟩
  rw [List.size_toArray, ← l1, all_range eqV xs ys hl]
  exact q
end
section
variable {X : Cx} {K : PySem.W.Frag}
end
end L2
namespace L2
open PySem
section
variable {prog : Program} {w : World} {A : Around} {R : Result → Shared → Prop} {I Z : Addr} {fp wr : List Addr} {n : Nat} {P : Nat → Value → Prop} {St : Nat → Heap → Prop} {Ok : Heap → Prop}
def CmpAt (prog : Program) (w : World) (A : Around) (op : CmpOp) (Ok : Heap → Prop) (P : Nat → Value → Prop) (bt : Nat → Nat → Bool) : Prop :=
  ∀ i j vi vj (s : Shared) (Q : Value → Shared → Prop) (E : Value → Shared → Prop), Ok s.heap → P i vi → P j vj → Q (.bool (bt i j)) s → wpAny (model prog w) A (richCompare op vi vj) Q E s
theorem minAt_loop (W : Walks prog w A.in1 I fp wr n P St) (bt : Nat → Nat → Bool) (cm : CmpAt prog w A.in1 .Lt Ok P bt) (hz : Z ∉ fp) (ok : ∀ h h', Ok h → (∀ b o, b ∉ wr → b ≠ Z → h.get? b = some o → h'.get? b = some o) → Ok h') :
    ∀ (k j : Nat) (s : Shared) (v0 : Value) (c : Nat), n - (j + 1) = k → j + 1 ≤ n → St (j + 1) s.heap → Ok s.heap → P (argBest bt j) v0 → s.heap.get? Z = some { cls := .type "list", dict := none, data := .seq #[v0, v0] c, slots := #[] } →
    (∀ v h' tk, P (argBest bt (n - 1)) v → (∀ b o, b ∉ wr → b ≠ Z → s.heap.get? b = some o → h'.get? b = some o) → R (.ok (.ret v)) { s with heap := h', toks := tk }) → codeAny (model prog w) A (.builtin "min.loop" ⟨[.ref I, .none, .ref Z], []⟩) R s := by
  have hw : Z ∉ wr := fun q => hz (W.sub _ q)
  have nm : (toString "min" ++ toString ".loop" : String) = "min.loop" := by decide
  intro k
  induction k with
  | zero =>
    intro j s v0 c e1 e2 st0 ok0 p0 z0 fin
    have en : j + 1 = n := by omega
    refine codeAny_builtin F.entry_min_loop ?_
    rw [Around.under_plainId F.plain_min_loop _]
    show wpAny _ A.in1 (seqItems? (.ref Z) >>= _) _ _ s
    refine wpAny_bind (wpAny_seqItems z0 rfl ?_)
    show wpAny _ A.in1 (tryCatch (pyNext (.ref I)) _ >>= _) _ _ s
    refine wpAny_bind (wpAny_tryCatch (W.done s _ _ (en ▸ st0) fun h' tk kp => ?_))
    have z1 := kp Z _ hw z0
    show wpAny _ A.in1 (updateSeq Z (fun _ => #[]) >>= _) _ _ _
    refine wpAny_bind ?_
    refine wpAny_updateSeq z1 rfl (wpAny_bind (wpAny_letGo (wpAny_pure ?_)))
    exact fin v0 _ tk (by rw [← en]; exact p0) fun b o b1 b2 e => (Heap.get?_update_other _ _ (Ne.symm b2)).trans (kp b o b1 e)
  | succ k ih =>
    intro j s v0 c e1 e2 st0 ok0 p0 z0 fin
    have lt : j + 1 < n := by omega
    refine codeAny_builtin F.entry_min_loop ?_
    rw [Around.under_plainId F.plain_min_loop _]
    show wpAny _ A.in1 (seqItems? (.ref Z) >>= _) _ _ s
    refine wpAny_bind (wpAny_seqItems z0 rfl ?_)
    show wpAny _ A.in1 (tryCatch (pyNext (.ref I)) _ >>= _) _ _ s
    refine wpAny_bind (wpAny_tryCatch (W.item (j + 1) s _ _ lt st0 fun v h' tk p1 st1 kp => ?_))
    have z1 := kp Z _ hw z0
    have ok1 : Ok h' := ok _ _ ok0 fun b o b1 _ e => kp b o b1 e
    show wpAny _ A.in1 (tryCatch (holding [v, v] (richCompare .Lt v v0 >>= _)) _ >>= _) _ _ _
    refine wpAny_bind (wpAny_tryCatch (wpAny_holding (wpAny_bind (cm (j + 1) (argBest bt j) v v0 _ _ _ ok1 p1 p0 ?_))))
    refine wpAny_bind (wpAny_holding (wpAny_truthy_bool (wpAny_bind (wpAny_letGo (wpAny_pure ?_)))))
    cases hb : bt (j + 1) (argBest bt j) with
    | true =>
      simp only [if_true]
      refine wpAny_bind ?_
      refine wpAny_updateSeq z1 rfl (wpAny_bind (wpAny_letGo ?_))
      rw [nm]
      have k2 : ∀ b o, b ≠ Z → h'.get? b = some o → (h'.update Z (Obj.mapSeq fun _ => #[v, v])).get? b = some o := fun b o q e => (Heap.get?_update_other _ _ (Ne.symm q)).trans e
      refine wpAny_pure ⟨plainId_quiet F.plain_min_loop _, ih (j + 1) _ v _ (by omega) lt (W.frame _ _ _ st1 fun b q o e => k2 b o (fun z => hz (by rw [← z]; exact q)) e) (ok _ _ ok1 fun b o _ q e => k2 b o q e) (by simp only [argBest, hb, if_true]; exact p1) (Heap.get?_update_self _ z1 rfl) fun v' h'' tk'' p2 kp2 => ?_⟩
      exact fin v' h'' tk'' p2 fun b o b1 b2 e => kp2 b o b1 b2 (k2 b o b2 (kp b o b1 e))
    | false =>
      simp only [Bool.false_eq_true, if_false]
      refine wpAny_bind (wpAny_letGo ?_)
      rw [nm]
      refine wpAny_pure ⟨plainId_quiet F.plain_min_loop _, ih (j + 1) _ v0 c (by omega) lt st1 ok1 (by simp only [argBest, hb, Bool.false_eq_true, if_false]; exact p0) z1 fun v' h'' tk'' p2 kp2 => ?_⟩
      exact fin v' h'' tk'' p2 fun b o b1 b2 e => kp2 b o b1 b2 (kp b o b1 e)
theorem minAt_first (W : Walks prog w A.in1 I fp wr n P St) (bt : Nat → Nat → Bool) (cm : CmpAt prog w A.in1 .Lt Ok P bt) (hz : Z ∉ fp) (ok : ∀ h h', Ok h → (∀ b o, b ∉ wr → b ≠ Z → h.get? b = some o → h'.get? b = some o) → Ok h') (hn : 0 < n) {s : Shared} {c : Nat} (st0 : St 0 s.heap) (ok0 : Ok s.heap)
    (z0 : s.heap.get? Z = some { cls := .type "list", dict := none, data := .seq #[] c, slots := #[] })
    (fin : ∀ v h' tk, P (argBest bt (n - 1)) v → (∀ b o, b ∉ wr → b ≠ Z → s.heap.get? b = some o → h'.get? b = some o) → R (.ok (.ret v)) { s with heap := h', toks := tk }) : codeAny (model prog w) A (.builtin "min.loop" ⟨[.ref I, .none, .ref Z], []⟩) R s := by
  have hw : Z ∉ wr := fun q => hz (W.sub _ q)
  have nm : (toString "min" ++ toString ".loop" : String) = "min.loop" := by decide
  refine codeAny_builtin F.entry_min_loop ?_
  rw [Around.under_plainId F.plain_min_loop _]
  show wpAny _ A.in1 (seqItems? (.ref Z) >>= _) _ _ s
  refine wpAny_bind (wpAny_seqItems z0 rfl ?_)
  show wpAny _ A.in1 (tryCatch (pyNext (.ref I)) _ >>= _) _ _ s
  refine wpAny_bind (wpAny_tryCatch (W.item 0 s _ _ hn st0 fun v h' tk p1 st1 kp => ?_))
  have z1 := kp Z _ hw z0
  show wpAny _ A.in1 (updateSeq Z (fun _ => #[v, v]) >>= _) _ _ _
  refine wpAny_bind ?_
  refine wpAny_updateSeq z1 rfl ?_
  rw [nm]
  have k2 : ∀ b o, b ≠ Z → h'.get? b = some o → (h'.update Z (Obj.mapSeq fun _ => #[v, v])).get? b = some o := fun b o q e => (Heap.get?_update_other _ _ (Ne.symm q)).trans e
  refine wpAny_pure ⟨plainId_quiet F.plain_min_loop _, minAt_loop W bt cm hz ok _ 0 _ v _ rfl hn (W.frame _ _ _ st1 fun b q o e => k2 b o (fun z => hz (by rw [← z]; exact q)) e) (ok _ _ ok0 fun b o b1 b2 e => k2 b o b2 (kp b o b1 e)) p1 (Heap.get?_update_self _ z1 rfl) fun v' h'' tk'' p2 kp2 => ?_⟩
  exact fin v' h'' tk'' p2 fun b o b1 b2 e => kp2 b o b1 b2 (k2 b o b2 (kp b o b1 e))
end
section
variable {prog : Program} {w : World} {A : Around} {E : Value → Shared → Prop} {s : Shared}
theorem minAt_call {x : Value} {Q : Value → Shared → Prop}
    (h : wpAny (model prog w) A.in1 (pyIter x) (fun it s2 => ∃ I fp wr n P St bt Ok, it = .ref I ∧ Walks prog w A.in1 I fp wr n P St ∧ St 0 s2.heap ∧ (∀ b ∈ fp, b < s2.heap.objs.size) ∧ 0 < n ∧ CmpAt prog w A.in1 .Lt Ok P bt ∧ Ok s2.heap ∧
      (∀ h h' : Heap, Ok h → (∀ b o, b ∉ wr → b < s2.heap.objs.size → h.get? b = some o → h'.get? b = some o) → Ok h') ∧ ∀ v h' tk, P (argBest bt (n - 1)) v → (∀ b o, b ∉ wr → s2.heap.get? b = some o → h'.get? b = some o) → Q v { s2 with heap := h', toks := tk }) E s) :
    wpAny (model prog w) A (call (.builtin "min") [x]) Q E s := by
  have nm : (toString "min" ++ toString ".loop" : String) = "min.loop" := by decide
  refine call_function_tree F.kind_min F.plain_min F.entry_min (F.args_min1 _) ?_
  show wpAny _ A.in1 (Builtin.Builtins.bindParams "min" ["key", "default"] 0 ⟨[], []⟩ >>= _) _ _ s
  refine wpAny_bind (wpAny_of_eq (show Builtin.Builtins.bindParams "min" ["key", "default"] 0 ⟨[], []⟩ = pure [none, none] from rfl) ?_)
  refine wpAny_bind (wpAny_pure ?_)
  refine wpAny_bind (wpAny_mono h (fun it s2 h2 => ?_) fun _ _ e => e)
  obtain ⟨I, fp, wr, n, P, St, bt, Ok, rfl, W, st0, hfp, hn, cm, ok0, ok, fin⟩ := h2
  refine wpAny_bind (wpAny_newObj_type ?_)
  have hz : s2.heap.objs.size ∉ fp := fun q => Nat.lt_irrefl _ (hfp _ q)
  rw [nm]
  refine wpAny_pure ⟨plainId_quiet F.plain_min_loop _, minAt_first W bt cm hz (fun h h' o1 kp => ok h h' o1 fun b o b1 b2 e => kp b o b1 (Nat.ne_of_lt b2) e) hn (W.frame _ _ _ st0 fun b _ o e => Heap.get?_push_of_some _ e) (ok _ _ ok0 fun b o _ _ e => Heap.get?_push_of_some _ e) (Heap.get?_push_size _ rfl) fun v h' tk p1 kp => ?_⟩
  exact fin v h' tk p1 fun b o b1 e => kp b o b1 (Nat.ne_of_lt (Heap.lt_size e)) (Heap.get?_push_of_some _ e)
end
end L2
namespace L2
open PySem PySem.Spec PyProof.Rows
theorem Vals.at {xs : List V} {us : List Value} {i : Nat} {u : Value} (r : Vals xs us) (h : us[i]? = some u) : ∃ x, xs[i]? = some x ∧ RelV x u := by
  have hi : i < us.length := (List.getElem?_eq_some_iff.mp h).1
  have hl := r.length
  obtain ⟨w, q, p⟩ := r.get (i := i) (x := xs[i]) (by simp [show i < xs.length by omega])
  rw [h] at q
  cases q
  exact ⟨xs[i], by simp [show i < xs.length by omega], p⟩
theorem bl_at {bs : List Bool} {us : List Value} {i : Nat} {u : Value} (r : Vals (bs.map V.bl) us) (h : us[i]? = some u) : ∃ b, bs[i]? = some b ∧ u = .bool b := by
  obtain ⟨x, hx, p⟩ := r.at h
  rw [List.getElem?_map] at hx
  cases e : bs[i]? with
  | none => rw [e] at hx; cases hx
  | some b =>
    rw [e] at hx
    have q : V.bl b = x := Option.some.inj hx
    subst q
    exact ⟨b, rfl, p⟩
theorem all_getD : ∀ bs : List Bool, ((List.range bs.length).all fun i => (bs[i]?).getD true) = bs.all id
  | [] => rfl
  | b :: bs => by
    have ih := all_getD bs
    rw [List.length_cons, List.range_succ_eq_map, List.all_cons, List.all_map, List.all_cons, ← ih]
    rfl
section
variable {X : Cx}
def rAllL (K : PySem.W.Frag) : List V → Hp → VK → Prop := fun xs H Q => ∃ (p : Addr) (bs : List Bool), xs = [.ref p] ∧ SqL K H p (bs.map V.bl) ∧ Q (.bl (bs.all id)) H
theorem call_allL (hc : X.calm = true) : CallR X (.builtin "all") (rAllL X.K) := by
  intro pins s σ H xs us Q I r h
  obtain ⟨p, bs, e1, hS, q⟩ := h
  subst e1
  obtain ⟨u, e2, ru⟩ := vals1 r
  subst e2
  obtain rfl : u = Value.ref p := ru
  obtain ⟨its, rv, pl, hz⟩ := I.list hS
  have hL := pl.isList
  have lt : p < s.heap.objs.size := by
    obtain ⟨_, e, _⟩ := hL
    exact Heap.lt_size e
  refine call_all_walk (wpAny_pyIter_list hL ?_)
  refine ⟨s.heap.objs.size, [s.heap.objs.size, p], [s.heap.objs.size], its.toArray.size, _, _, fun i => (bs[i]?).getD true, rfl, Walks.list (A := X.A.in1) (I.ok.hd hc) _ p (Nat.ne_of_lt lt) its.toArray,
    ⟨⟨_, Heap.get?_push_size _ rfl, rfl, rfl⟩, hL.push _⟩, fun i v s' Q' E' hP hQ => ?_, fun h' tk hk => ?_⟩
  · obtain ⟨b, e, e3⟩ := bl_at rv (by simpa using hP)
    subst e3
    simp only [e, Option.getD_some] at hQ
    exact wpAny_truthy_bool hQ
  · have e : ((List.range its.toArray.size).all fun i => (bs[i]?).getD true) = bs.all id := by
      have hl := rv.length
      rw [List.length_map] at hl
      rw [List.size_toArray, ← hl, all_getD]
    rw [e]
    refine ⟨.bl _, H, I.kept (t' := tk) fun b o eb => hk b o (fun hm => ?_) (Heap.get?_push_of_some _ eb), rfl, q⟩
    rw [List.mem_singleton.mp hm] at eb
    exact Nat.lt_irrefl _ (Heap.lt_size eb)
def rEqN (K : PySem.W.Frag) (neg : Bool) : R2 := fun x y H Q => ∃ a b xs, x = .ref a ∧ y = .ref b ∧ SqL K H a xs ∧ SqL K H b [] ∧ Q (.bl (if neg then !xs.isEmpty else xs.isEmpty)) H
theorem op_neN (hu : X.A.units < cLine) : OpR X (compareOp .NotEq) (rEqN X.K true) := by
  intro pins s σ H x y v u Q I rx ry h
  obtain ⟨a, b, xs, e1, e2, hA, hB, q⟩ := h
  subst e1 e2
  obtain rfl : v = Value.ref a := rx
  obtain rfl : u = Value.ref b := ry
  obtain ⟨its, r, pl, hz⟩ := I.list hA
  obtain ⟨its2, r2, pl2, hz2⟩ := I.list hB
  have l1 := r.length
  have l2 := r2.length
  rw [List.length_nil] at l2
  cases xs with
  | nil =>
    rw [List.length_nil] at l1
    refine SeqAt.RcNeAt.lists (e := fun _ => true) pl.isList pl2.isList (by rw [List.size_toArray, List.size_toArray]; omega) hu (fun j h1 h2 => by rw [List.size_toArray] at h1; omega) _ _ _ _ ⟨.bl false, H, I, ?_, q⟩
    show Value.bool _ = Value.bool false
    congr 1
    rw [show ((List.range its.toArray.size).all fun _ => true) = true from List.all_eq_true.mpr fun _ _ => rfl]
    rfl
  | cons x0 xs0 =>
    rw [List.length_cons] at l1
    refine SeqAt.RcNeAt.lists_lengths pl.isList pl2.isList ?_ hu _ _ _ _ ⟨.bl true, H, I, rfl, q⟩
    rw [List.size_toArray, List.size_toArray]
    simp
    omega
end
section
variable {X : Cx}
end
end L2
namespace L2
open PySem PySem.Spec PyProof.Rows
section
variable {κ : Type} [DecidableEq κ]
def valV (kvs : List (κ × V)) (k : κ) : Option V := (kvs.find? fun kv => decide (kv.1 = k)).map (·.2)
def putK (kvs : List (κ × V)) (k : κ) (v : V) : List (κ × V) :=
  if (kvs.any fun kv => decide (kv.1 = k)) = true then kvs.map (fun kv => if kv.1 = k then (kv.1, v) else kv) else kvs ++ [(k, v)]
theorem valV_pos {p : κ × V} {r : List (κ × V)} {k : κ} (e : p.1 = k) : valV (p :: r) k = some p.2 := by simp [valV, List.find?_cons, e]
theorem valV_neg {p : κ × V} {r : List (κ × V)} {k : κ} (e : ¬ p.1 = k) : valV (p :: r) k = valV r k := by simp [valV, List.find?_cons, e]
theorem valV_any (k : κ) : ∀ kvs : List (κ × V), (kvs.any fun kv => decide (kv.1 = k)) = (valV kvs k).isSome
  | [] => rfl
  | p :: r => by
    rw [List.any_cons]
    by_cases e : p.1 = k
    · simp only [valV_pos e, decide_eq_true e, Bool.true_or, Option.isSome_some]
    · rw [valV_neg e, decide_eq_false e, Bool.false_or]; exact valV_any k r
theorem length_putK (kvs : List (κ × V)) (k : κ) (v : V) : (putK kvs k v).length ≤ kvs.length + 1 := by
  unfold putK
  split
  · rw [List.length_map]; omega
  · rw [List.length_append, List.length_cons, List.length_nil]; omega
theorem putK_new {kvs : List (κ × V)} {k : κ} (v : V) (h : valV kvs k = none) : putK kvs k v = kvs ++ [(k, v)] := by
  unfold putK
  rw [valV_any, h]
  exact if_neg (by decide)
theorem RelO.isSome_eq {o : Option V} {u : Option Value} (r : RelO o u) : o.isSome = u.isSome := by
  cases o with
  | none => cases u with
    | none => rfl
    | some _ => exact (show False from r).elim
  | some _ => cases u with
    | none => exact (show False from r).elim
    | some _ => rfl
theorem KV.val {kvs : List (κ × V)} {vs : List (κ × Value)} (r : KV kvs vs) (k : κ) : RelO (valV kvs k) (valueAt vs k) := by
  unfold KV at r
  induction r with
  | nil => exact True.intro
  | @cons p q ps qs h t ih =>
    obtain ⟨h1, h2⟩ := h
    by_cases e : p.1 = k
    · have e' : q.1 = k := h1.symm.trans e
      have b : valueAt (q :: qs) k = some q.2 := by simp [valueAt, List.find?_cons, e']
      rw [valV_pos e, b]; exact h2
    · have e' : ¬ q.1 = k := fun z => e (h1.trans z)
      have b : valueAt (q :: qs) k = valueAt qs k := by simp [valueAt, List.find?_cons, e']
      rw [valV_neg e, b]; exact ih
theorem KV.any {kvs : List (κ × V)} {vs : List (κ × Value)} (r : KV kvs vs) (k : κ) : (kvs.any fun kv => decide (kv.1 = k)) = vs.any fun kv => decide (kv.1 = k) := by
  unfold KV at r
  induction r with
  | nil => rfl
  | cons h t ih => rw [List.any_cons, List.any_cons, ih, h.1]
theorem KV.repl {kvs : List (κ × V)} {vs : List (κ × Value)} (r : KV kvs vs) (k : κ) {y : V} {u : Value} (ry : RelV y u) :
    KV (kvs.map fun kv => if kv.1 = k then (kv.1, y) else kv) (vs.map fun kv => if kv.1 = k then (kv.1, u) else kv) := by
  unfold KV at r ⊢
  induction r with
  | nil => exact .nil
  | @cons p q ps qs h t ih =>
    rw [List.map_cons, List.map_cons]
    refine .cons ?_ ih
    obtain ⟨h1, h2⟩ := h
    by_cases e : p.1 = k
    · rw [if_pos e, if_pos (h1.symm.trans e)]; exact ⟨h1, ry⟩
    · rw [if_neg e, if_neg (fun z => e (h1.trans z))]; exact ⟨h1, h2⟩
theorem KV.put {kvs : List (κ × V)} {vs : List (κ × Value)} (r : KV kvs vs) (k : κ) {y : V} {u : Value} (ry : RelV y u) : KV (putK kvs k y) (stored vs k u) := by
  unfold putK stored
  rw [r.any k]
  by_cases e : (vs.any fun kv => decide (kv.1 = k)) = true
  · rw [if_pos e, if_pos e]; exact r.repl k ry
  · rw [if_neg e, if_neg e]; exact Paired.snoc r ⟨rfl, ry⟩
theorem KV.keys {kvs : List (κ × V)} {vs : List (κ × Value)} (r : KV kvs vs) : kvs.map (·.1) = vs.map (·.1) := by
  unfold KV at r
  induction r with
  | nil => rfl
  | cons h t ih => rw [List.map_cons, List.map_cons, ih, h.1]
theorem KV.length {kvs : List (κ × V)} {vs : List (κ × Value)} (r : KV kvs vs) : kvs.length = vs.length := Paired.length r
end
theorem kV_is {P : Program} {w : World} {k : Key} {u : Value} (r : RelV (kV k) u) : (mixKind P w).is k u = true := by
  cases k with
  | inl i => obtain ⟨t, e⟩ := (show ∃ t, u = Value.int i t from r); subst e; exact mixKind_int P w i t
  | inr x => obtain ⟨t, e⟩ := (show ∃ t, u = Value.str x t from r); subst e; exact mixKind_str P w x t
theorem items_are {P : Program} {w : World} : ∀ {ks : List Key} {us : List Value}, Vals (ks.map kV) us → ItemsAre (mixKind P w) ks us
  | [], _, r => by rw [List.map_nil] at r; cases r; exact .nil
  | k :: ks, _, r => by
    rw [List.map_cons] at r
    cases r with
    | cons h t => exact .cons (kV_is h) (items_are t)
abbrev KT (H : Hp) : List (List Key × V) → List (List Key × Addr × Value) → Prop := Paired fun p q => p.1 = q.1 ∧ H q.2.1 = some (.tup (p.1.map kV)) ∧ RelV p.2 q.2.2
theorem KT.val {H : Hp} {kvs : List (List Key × V)} {xs : List (List Key × Addr × Value)} (r : KT H kvs xs) (k : List Key) : RelO (valV kvs k) ((atKey xs k).map (·.2)) := by
  induction r with
  | nil => exact True.intro
  | @cons p q ps qs h t ih =>
    obtain ⟨h1, _, h2⟩ := h
    by_cases e : p.1 = k
    · have e' : q.1 = k := h1.symm.trans e
      have b : atKey (q :: qs) k = some q.2 := by simp [atKey, List.find?_cons, e']
      rw [valV_pos e, b]; exact h2
    · have e' : ¬ q.1 = k := fun z => e (h1.trans z)
      have b : atKey (q :: qs) k = atKey qs k := by simp [atKey, List.find?_cons, e']
      rw [valV_neg e, b]; exact ih
theorem KT.repl {H : Hp} {kvs : List (List Key × V)} {xs : List (List Key × Addr × Value)} (r : KT H kvs xs) (k : List Key) {y : V} {u : Value} (ry : RelV y u) :
    KT H (kvs.map fun kv => if kv.1 = k then (kv.1, y) else kv) (xs.map (putAt k u)) := by
  induction r with
  | nil => exact .nil
  | @cons p q ps qs h t ih =>
    rw [List.map_cons, List.map_cons]
    refine .cons ?_ ih
    obtain ⟨h1, h2, h3⟩ := h
    unfold putAt
    by_cases e : p.1 = k
    · rw [if_pos e, if_pos (h1.symm.trans e)]; exact ⟨h1, h2, ry⟩
    · rw [if_neg e, if_neg (fun z => e (h1.trans z))]; exact ⟨h1, h2, h3⟩
theorem KT.put {H : Hp} {kvs : List (List Key × V)} {xs : List (List Key × Addr × Value)} (r : KT H kvs xs) (k : List Key) {b : Addr} {y : V} {u : Value} (hb : H b = some (.tup (k.map kV))) (ry : RelV y u) :
    KT H (putK kvs k y) (storedH xs k b u) := by
  have e : (kvs.any fun kv => decide (kv.1 = k)) = (atKey xs k).isSome := by
    rw [valV_any, (r.val k).isSome_eq, Option.isSome_map]
  unfold putK storedH
  rw [e]
  by_cases q : (atKey xs k).isSome = true
  · rw [if_pos q, if_pos q]; exact r.repl k ry
  · rw [if_neg q, if_neg q]; exact Paired.snoc r ⟨rfl, hb, ry⟩
theorem KT.keeps {H H' : Hp} {kvs : List (List Key × V)} {xs : List (List Key × Addr × Value)} (r : KT H kvs xs) (ht : ∀ b ys, H b = some (.tup ys) → H' b = some (.tup ys)) : KT H' kvs xs :=
  Paired.mapP r fun _ _ z => ⟨z.1, ht _ _ z.2.1, z.2.2⟩
section
variable {P : Program} {w : World} {H : Hp} {h : Heap} {a : Addr}
theorem rd_of {u : HO} (ok : HOk P w H h) (e : Rd H a u) : ObjOk P w H h a u := e.ok ok
theorem dk_rd {kvs : List (Key × V)} (ok : HOk P w H h) (e : Rd H a (.dK kvs)) : kvs.length ≤ sizeLine ∧ (a == sysModules) = false ∧ ∃ vs, KV kvs vs ∧ h.DictOf (mixKind P w) a vs :=
  show ObjOk P w H h a (.dK kvs) from rd_of ok e
theorem dk_of {kvs : List (Key × V)} (ok : HOk P w H h) (e : H a = some (.dK kvs)) : kvs.length ≤ sizeLine ∧ (a == sysModules) = false ∧ ∃ vs, KV kvs vs ∧ h.DictOf (mixKind P w) a vs := dk_rd ok (.inl e)
theorem key_of {ks : List Key} (ok : HOk P w H h) (e : H a = some (.tup (ks.map kV))) : (tupleKind (mixKind P w)).is h ks a := by
  obtain ⟨_, its, r, o, h1, h2, n, h3⟩ := (show ObjOk P w H h a (.tup (ks.map kV)) from ok a _ e)
  exact ⟨o, its.toArray, n, h1, h2, h3, by simpa using items_are r⟩
theorem dt_rd {kvs : List (List Key × V)} (ok : HOk P w H h) (e : Rd H a (.dT kvs)) : kvs.length ≤ sizeLine ∧ (a == sysModules) = false ∧
    ∃ xs, KT H kvs xs ∧ h.DictOfH (tupleKind (mixKind P w)) a xs := by
  obtain ⟨z, y, xs, r, o, es, ep, h1, h2, h3, h4, h5⟩ := (show ObjOk P w H h a (.dT kvs) from rd_of ok e)
  refine ⟨z, y, xs, r, o, es, ep, h1, h2, h3, h4, fun x hx => ?_, h5⟩
  have all : ∀ {l : List (List Key × V)} {m : List (List Key × Addr × Value)}, KT H l m → ∀ x ∈ m, (tupleKind (mixKind P w)).is h x.1 x.2.1 := by
    intro l m q
    induction q with
    | nil => intro x hx; exact nomatch hx
    | @cons p q ps qs hq t ih =>
      intro x hx
      rcases List.mem_cons.mp hx with e | hx
      · subst e
        exact key_of ok (by rw [← hq.1]; exact hq.2.1)
      · exact ih x hx
  exact all r x hx
theorem dt_of {kvs : List (List Key × V)} (ok : HOk P w H h) (e : H a = some (.dT kvs)) : kvs.length ≤ sizeLine ∧ (a == sysModules) = false ∧
    ∃ xs, KT H kvs xs ∧ h.DictOfH (tupleKind (mixKind P w)) a xs := dt_rd ok (.inl e)
end
def DGet (H : Hp) (a : Addr) (y : V) (r : Option V) : Prop :=
  (∃ kvs k, Rd H a (.dK kvs) ∧ y = kV k ∧ r = valV kvs k) ∨ ∃ kvs k b, Rd H a (.dT kvs) ∧ y = .ref b ∧ H b = some (.tup (k.map kV)) ∧ r = valV kvs k
def DPut (H : Hp) (a : Addr) (y v : V) (H' : Hp) : Prop :=
  (∃ kvs k, H a = some (.dK kvs) ∧ y = kV k ∧ kvs.length < sizeLine ∧ H' = upd H a (.dK (putK kvs k v))) ∨
  ∃ kvs k b, H a = some (.dT kvs) ∧ y = .ref b ∧ H b = some (.tup (k.map kV)) ∧ kvs.length < sizeLine ∧ H' = upd H a (.dT (putK kvs k v))
theorem DGet.k {H : Hp} {a : Addr} {kvs : List (Key × V)} {k : Key} (e : H a = some (.dK kvs)) : DGet H a (kV k) (valV kvs k) := .inl ⟨kvs, k, .inl e, rfl, rfl⟩
theorem DPut.k {H : Hp} {a : Addr} {kvs : List (Key × V)} {k : Key} {v : V} (e : H a = some (.dK kvs)) (hl : kvs.length < sizeLine) : DPut H a (kV k) v (upd H a (.dK (putK kvs k v))) := .inl ⟨kvs, k, e, rfl, hl, rfl⟩
section
variable {X : Cx} {pins : List (Addr × Obj)} {σ : St} {H : Hp} {s : Shared} {a : Addr} {y v : V} {u r : Value} {o : Option V} {A : Around} {E : Value → Shared → Prop}
theorem Inv.big (I : Inv X pins σ H s) : sysModules < s.heap.objs.size := by
  have h : mainGlobals < s.heap.objs.size := (I.mod.glob.keeps I.bk).lt
  exact Nat.lt_trans (by decide) h
theorem d_getItem {Q : Value → Shared → Prop} (hu : A.units + 1 < cLine) (I : Inv X pins σ H s) (g : DGet H a y (some v)) (ry : RelV y u) (h : ∀ w' s', Inv X pins σ H s' → RelV v w' → Q w' s') :
    wpAny (model X.prog X.w) A (getItem (.ref a) u) Q E s := by
  rcases g with ⟨kvs, k, e, ey, l⟩ | ⟨kvs, k, b, e, ey, eb, l⟩
  · subst ey
    obtain ⟨z, hd, vs, rel, dd⟩ := dk_rd I.hok e
    obtain ⟨w', hw, rw'⟩ := RelO.some_of (v := v) (o := valueAt vs k) (by rw [l]; exact rel.val k)
    exact wpAny_getItem_of (kV_is ry) dd.mapOf hw (h w' _ (I.tok _) rw')
  · subst ey
    cases (show u = Value.ref b from ry)
    obtain ⟨z, hd, xs, rel, dd⟩ := dt_rd I.hok e
    obtain ⟨w', hw, rw'⟩ := RelO.some_of (v := v) (o := (atKey xs k).map (·.2)) (by rw [l]; exact rel.val k)
    obtain ⟨p, hp, hp2⟩ := Option.map_eq_some_iff.mp hw
    refine wpAny_getItem_heap (tupleKind_room_in1 hu) (key_of I.hok eb) dd hp ?_
    rw [hp2]
    exact h w' _ (I.tok _) rw'
theorem d_write {h' : Heap} {t' : Nat} {ob : HO} (I : Inv X pins σ H s) (mu : Mut (H a)) (hs : Heap.SameBut a s.heap h') (he : ∃ q, h'.get? a = some q) (new : ObjOk X.prog X.w (upd H a ob) h' a ob) :
    Inv X pins σ (upd H a ob) { s with heap := h', toks := t' } :=
  I.write (x := a) (e := a) mu (.inl rfl) (fun b q hb z => (hs.2 b hb).trans z) he new
theorem dk_new {P : Program} {w : World} {H' : Hp} {h' : Heap} {kvs : List (Key × V)} {vs : List (Key × Value)} (z : kvs.length ≤ sizeLine) (hd : (a == sysModules) = false) (rel : KV kvs vs) (dd : h'.DictOf (mixKind P w) a vs) :
    ObjOk P w H' h' a (.dK kvs) := ⟨z, hd, vs, rel, dd⟩
theorem d_setItem {H' : Hp} {Q : Unit → Shared → Prop} (hu : A.units + 1 < cLine) (I : Inv X pins σ H s) (g : DPut H a y v H') (ry : RelV y u) (rv : RelV v r) (h : ∀ s', Inv X pins σ H' s' → Q () s') :
    wpAny (model X.prog X.w) A (setItem (.ref a) u r) Q E s := by
  rcases g with ⟨kvs, k, e, ey, l, eH⟩ | ⟨kvs, k, b, e, ey, eb, l, eH⟩
  · subst ey eH
    obtain ⟨z, hd, vs, rel, dd⟩ := dk_of I.hok e
    have hz : vs.length ≤ sizeLine := by rw [← rel.length]; exact z
    have hl : (putK kvs k v).length ≤ sizeLine := by have := length_putK kvs k v; omega
    refine wpAny_setItem_pairs (hsz := hz) (kV_is ry) dd fun h' dd' hs => h _ ?_
    have he : ∃ q, h'.get? a = some q := let ⟨q, _, _, hq, _⟩ := dd'; ⟨q, hq⟩
    exact d_write I (by rw [e]; exact True.intro) hs he (dk_new hl hd (rel.put k rv) dd')
  · subst ey eH
    cases (show u = Value.ref b from ry)
    obtain ⟨z, hd, xs, rel, dd⟩ := dt_of I.hok e
    have hz : xs.length ≤ sizeLine := by rw [← Paired.length rel]; exact z
    have hl : (putK kvs k v).length ≤ sizeLine := by have := length_putK kvs k v; omega
    refine wpAny_setItem_heap (hsz := hz) (tupleKind_room_in1 hu) (key_of I.hok eb) dd fun h' dd' hs => h _ ?_
    obtain ⟨q, es, ep, hq, h2, h3, h4, _, h5⟩ := dd'
    refine d_write I (by rw [e]; exact True.intro) hs ⟨q, hq⟩ ⟨hl, hd, _, (rel.put k eb rv).keeps fun c ys ec => ?_, q, es, ep, hq, h2, h3, h4, h5⟩
    rw [upd_ne (ne_of ec e (fun z => nomatch z))]
    exact ec
end
section
variable {X : Cx} {pins : List (Addr × Obj)} {σ : St} {H : Hp} {s : Shared} {a : Addr} {kvs : List (Key × V)} {k : Key} {u : Value} {A : Around} {E : Value → Shared → Prop}
end
def NoSl (i : Expr) : Prop := ∀ ov iv, subscripted i false ov iv = operate [ov, iv] (getItem ov iv)
theorem subD_of {prog : Program} {w : World} {A : Around} {E : Value → Shared → Prop} {s : Shared} {env : Env} {value slice : Expr} {pos : Pos} {T id : String} {Q : Value → Shared → Prop}
    (hl : typeLookup (.type T) "__getitem__" = pure (some (.builtin id))) (hs : NoSl slice)
    (h : wpAny (model prog w) A (eval value env) (fun o s₁ => wpAny (model prog w) A (eval slice env) (fun i s₂ => s₂.TypeIs o T ∧ wpAny (model prog w) A (getItem o i) Q E s₂) E s₁) E s) :
    wpAny (model prog w) A (eval (.Subscript value slice pos) env) Q E s := by
  refine Subscript_ (wpAny_mono h (fun o s₁ h₁ => wpAny_mono h₁ (fun i s₂ h₂ => ?_) fun _ _ x => x) fun _ _ x => x)
  obtain ⟨hT, h₂⟩ := h₂
  unfold subscriptTail
  refine wpAny_bind ?_
  rw [getitemInPython_of_ne hT.not_modules]
  refine wpAny_bind (wpAny_specialOf hT hl ?_)
  have fin : wpAny (model prog w) A (subscripted slice false o i) (fun r s₃ => wpAny (model prog w) A (letTemporaryGo value o r >>= fun _ => pure r) Q E s₃) E s₂ := by
    rw [hs o i]
    exact wpAny_operating (wpAny_mono h₂ (fun r s₃ h₃ => wpAny_bind (wpAny_letTemporaryGo (wpAny_pure h₃))) fun _ _ x => x)
  first
    | exact wpAny_pure (wpAny_bind fin)
    | exact wpAny_bind (wpAny_pure (wpAny_bind fin))
    | exact wpAny_bind fin
theorem dict_typeIs {X : Cx} {pins : List (Addr × Obj)} {σ : St} {H : Hp} {s : Shared} {a : Addr} {y : V} {o : Option V} (I : Inv X pins σ H s) (g : DGet H a y o) : s.TypeIs (.ref a) "dict" := by
  rcases g with ⟨kvs, k, e, _, _⟩ | ⟨kvs, k, b, e, _, _, _⟩
  · obtain ⟨_, _, vs, _, dd⟩ := dk_rd I.hok e
    exact dd.typeIs
  · obtain ⟨_, _, xs, _, dd⟩ := dt_rd I.hok e
    exact dd.typeIs
def tDGet (td ty : TE) : TE := fun σ H Q => td σ H fun x H1 => ty σ H1 fun y H2 => ∃ a v, x = .ref a ∧ DGet H2 a y (some v) ∧ Q v H2
def sDPut (td ty tv : TE) : TS := fun D σ H => tv σ H fun v H1 => td σ H1 fun x H2 => ty σ H2 fun y H3 => ∃ a H4, x = .ref a ∧ DPut H3 a y v H4 ∧ D.nx σ H4
section
variable {X : Cx} {o i e value : Expr} {pos pos' tpos : Pos} {td ty tv : TE}
theorem pe_dget (hu : X.A.units + 1 < cLine) (ho : PE X o td) (hi : PE X i ty) (hs : NoSl i) : PE X (.Subscript o i pos) (tDGet td ty) := by
  intro pins s σ H Q I h
  refine subD_of PySem.F.slot_dict_getitem.lookup hs (thn (ho pins s σ H _ I h) fun u s1 ⟨x, H1, I1, rx, q1⟩ => thn (hi pins s1 σ H1 _ I1 q1) fun iv s2 ⟨y, H2, I2, ry, a, v, ex, g, q2⟩ => ?_)
  subst ex
  obtain rfl : u = Value.ref a := rx
  exact ⟨dict_typeIs I2 g, d_getItem hu I2 g ry fun w' s3 I3 rw' => ⟨v, H2, I3, rw', q2⟩⟩
theorem ps_dput (hu : X.A.units + 1 < cLine) (ho : PE X o td) (hi : PE X i ty) (hv : PE X value tv) (hs : swapsWith value (some (.Subscript o i pos')) pos.line X.env = pure false) :
    PS X (.Assign [.Subscript o i pos'] value pos) (sDPut td ty tv) := by
  intro pins s σ H D I h
  refine wpAny_Assign_Subscript (thn (hv pins s σ H _ I h) fun r s1 ⟨v, H1, I1, rv, q1⟩ => thn (ho pins s1 σ H1 _ I1 q1) fun u s2 ⟨x, H2, I2, rx, q2⟩ => thn (hi pins s2 σ H2 _ I2 q2) fun iv s3 ⟨y, H3, I3, ry, a, H4, ex, g, q3⟩ => ?_) hs
  subst ex
  obtain rfl : u = Value.ref a := rx
  exact d_setItem hu I3 g ry rv fun s4 I4 => ⟨σ, H4, I4, q3⟩
end
theorem dk_empty {P : Program} {w : World} {H : Hp} (h : Heap) (hb : sysModules < h.objs.size) : ObjOk P w H (h.push { cls := .type "dict", data := .dict #[] }) h.objs.size (.dK []) :=
  ⟨Nat.zero_le _, beq_eq_false_iff_ne.mpr (Ne.symm (Nat.ne_of_lt hb)), [], .nil, Heap.DictOf.new h⟩
def tDNewK : TE := fun _ H Q => ∀ p, H p = none → Q (.ref p) (upd H p (.dK []))
section
variable {X : Cx} {pos : Pos}
theorem pe_dnewK : PE X (.Dict [] [] pos) tDNewK := fun pins s σ H Q I h =>
  wpAny_Dict_empty ⟨.ref s.heap.objs.size, _, I.laid (a := s.heap.objs.size) (o := .dK []) (t' := s.toks) (fun _ _ q => Heap.get?_push_of_some _ q) (Nat.le_refl _) (dk_empty s.heap I.big), rfl, h _ (I.hok.fresh (Nat.le_refl _))⟩
end
structure M1 (X : Cx) (o : Expr) (m : Str) (apos : Pos) (e : Expr) (cpos : Pos) : Prop where
  base : attributeBase o m X.env (eval o X.env) = eval o X.env
  few : ((backTo cpos (starEach [e] X.env)).all (fun x => !x.1) && (backToKw cpos (keywordEach [] X.env)).all (fun x => x.1.isSome)
    && decide (([e] : List Expr).length + ([] : List Keyword).length + (if ([] : List Keyword).isEmpty then 0 else 1) < 30)) = true
  line : (apos.endLine == cpos.line) = true
  trees : backTo cpos (starEach [e] X.env) = [(false, eval e X.env)]
structure M2 (X : Cx) (o : Expr) (m : Str) (apos : Pos) (e f : Expr) (cpos : Pos) : Prop where
  base : attributeBase o m X.env (eval o X.env) = eval o X.env
  few : ((backTo cpos (starEach [e, f] X.env)).all (fun x => !x.1) && (backToKw cpos (keywordEach [] X.env)).all (fun x => x.1.isSome)
    && decide (([e, f] : List Expr).length + ([] : List Keyword).length + (if ([] : List Keyword).isEmpty then 0 else 1) < 30)) = true
  line : (apos.endLine == cpos.line) = true
  trees : backTo cpos (starEach [e, f] X.env) = [(false, eval e X.env), (false, eval f X.env)]
def IsD (H : Hp) (a : Addr) : Prop := (∃ kvs, Rd H a (.dK kvs)) ∨ ∃ kvs, Rd H a (.dT kvs)
theorem isD_at {X : Cx} {pins : List (Addr × Obj)} {σ : St} {H : Hp} {s : Shared} {a : Addr} (I : Inv X pins σ H s) (d : IsD H a) :
    s.TypeIs (.ref a) "dict" ∧ (∀ b, Value.ref a = .ref b → ∃ ob, s.heap.get? b = some ob ∧ ob.dict = none) ∧ (a == sysModules) = false := by
  rcases d with ⟨kvs, e⟩ | ⟨kvs, e⟩
  · obtain ⟨_, hd, vs, _, dd⟩ := dk_rd I.hok e
    refine ⟨dd.typeIs, fun b q => ?_, hd⟩
    cases q
    obtain ⟨ob, _, _, h1, h2, _⟩ := dd
    exact ⟨ob, h1, h2.2.1⟩
  · obtain ⟨_, hd, xs, _, dd⟩ := dt_rd I.hok e
    refine ⟨dd.typeIs, fun b q => ?_, hd⟩
    cases q
    obtain ⟨ob, _, _, h1, h2, _⟩ := dd
    exact ⟨ob, h1, h2.2.1⟩
section
variable {X : Cx} {pins : List (Addr × Obj)} {σ : St} {H : Hp} {s : Shared} {a : Addr} {y d : V} {u r : Value} {o : Option V} {A : Around} {E : Value → Shared → Prop}
end
section
variable {X : Cx} {o e f : Expr} {apos cpos : Pos} {td ty tx : TE}
end
section
variable {X : Cx} {pins : List (Addr × Obj)} {σ : St} {H : Hp} {s : Shared} {a : Addr} {kvs : List (Key × V)} {A : Around} {E : Value → Shared → Prop}
theorem d_copyOf {Q : Value → Shared → Prop} (I : Inv X pins σ H s) (e : Rd H a (.dK kvs)) (h : ∀ p s', H p = none → Inv X pins σ (upd H p (.dK kvs)) s' → Q (.ref p) s') : wpAny (model X.prog X.w) A (call (.type "dict") [.ref a]) Q E s := by
  obtain ⟨z, hd, vs, rel, dd⟩ := dk_rd I.hok e
  refine kt_call_dict hd dd (by rw [← rel.length]; exact z) fun h' dd' hs => ?_
  refine h _ _ (I.hok.fresh (Nat.le_refl _)) (I.laid (a := s.heap.objs.size) (o := .dK kvs) (t' := s.toks) (fun b q hq => ?_) (Nat.le_refl _) (dk_new z (beq_eq_false_iff_ne.mpr (Ne.symm (Nat.ne_of_lt I.big))) rel dd'))
  exact (hs.2 b (Nat.ne_of_lt (Heap.lt_size hq))).trans (Heap.get?_push_of_some _ hq)
end
section
variable {X : Cx} {pins : List (Addr × Obj)} {σ : St} {H : Hp} {s : Shared} {a : Addr} {y : V} {u : Value} {A : Around} {E : Value → Shared → Prop}
end
end L2
namespace S2
open PySem L2
theorem Same.put {H H2 : Hp} {l : Addr} {o : HO} (s : Same H H2) (hn : H l = none) : Same H (upd H2 l o) := fun b u e => by
  rw [upd_ne (ne_of_none e hn)]
  exact s b u e
theorem get_lt {α : Type} {l : List α} {i : Nat} {x : α} (h : l[i]? = some x) : i < l.length := (List.getElem?_eq_some_iff.mp h).1
theorem small {n : Nat} (h : n ≤ 100000) : n < sizeLine := Nat.lt_of_le_of_lt h (by decide)
theorem smallE {n : Nat} (h : n ≤ 100000) : n ≤ sizeLine := Nat.le_of_lt (small h)
theorem int_at {ns : List Int} {i : Nat} {y : V} (h : (ns.map V.int)[i]? = some y) : ∃ z, y = V.int z ∧ ns[i]? = some z := by
  rw [List.getElem?_map] at h
  cases e : ns[i]? with
  | none => rw [e] at h; cases h
  | some z => rw [e] at h; exact ⟨z, (Option.some.inj h).symm, rfl⟩
def spCell (K : PySem.W.Frag) : Sp := fun vs H Q _ => ∃ (a : Addr) (k : Nat) (ns : List Int), vs = [.ref a, .int k] ∧ SqL K H a (ns.map V.int) ∧ ns.length ≤ 63 ∧ ∀ z : Int, Q (.int z) H
theorem snoc_at {H : Hp} {l : Addr} {ns : List Int} {x : Int} : (upd H l (.lst (ns.map V.int ++ [V.int x]))) l = some (.lst ((ns ++ [x]).map V.int)) := by
  rw [upd_same, List.map_append]
  rfl
theorem snoc_len {α : Type} {ns : List α} {x : α} : (ns ++ [x]).length = ns.length + 1 := by rw [List.length_append]; rfl
theorem iteB {A B : Prop} {c : Bool} (h : c = true) (a : A) : if c = true then A else B := by rw [if_pos h]; exact a
theorem iteC {A B : Prop} {c : Bool} (h : c = false) (b : B) : if c = true then A else B := by rw [if_neg (by rw [h]; exact Bool.false_ne_true)]; exact b
theorem while_out {c : TT} {tb : TS} {D : Ends} {σ : St} {H : Hp} (W : Nat → St → Hp → Prop) {m0 : Nat} (h0 : W m0 σ H) (out : ∀ m σ H, W m σ H → D.nx σ H)
    (turn : ∀ R : St → Hp → Prop, (∀ m σ H, W m σ H → R σ H) → ∀ m σ H, W m σ H → c σ H fun b H1 => if b = true then ∃ N : St → Hp → Prop, (∀ σ' H', N σ' H' → ∃ m', m' < m ∧ W m' σ' H') ∧ tb { D with nx := N, ct := N, bk := D.nx } σ H1 else R σ H1) : tWhile c tb D σ H :=
  ⟨W, ⟨m0, h0⟩, turn D.nx out⟩
theorem four_at {x y z u : Int} {i : Nat} (h : i < 4) : [V.int x, V.int y, V.int z, V.int u][i]? = some (V.int ([x, y, z, u].getD i 0)) := by
  match i, h with
  | 0, _ => rfl
  | 1, _ => rfl
  | 2, _ => rfl
  | 3, _ => rfl
theorem nat_of {z : Int} {n : Nat} (h0 : 0 ≤ z) (h1 : z < (n : Int)) : ∃ i : Nat, z = (i : Int) ∧ i < n := ⟨z.toNat, by omega, by omega⟩
end S2
namespace L2
open PySem PySem.Spec PyProof.Rows
inductive EqD (K : PySem.W.Frag) (H : Hp) : Nat → V → V → Bool → Prop
  | flat {n : Nat} {x y : V} (fx : flatV x = true) (fy : flatV y = true) : EqD K H n x y (eqV x y)
  | same {n : Nat} {a : Addr} : EqD K H n (.ref a) (.ref a) true
  | lst {n : Nat} {a b : Addr} {xs ys : List V} (ne : a ≠ b) (hA : SqL K H a xs) (hB : SqL K H b ys) (hl : xs.length = ys.length) (e : Nat → Bool)
      (he : ∀ (j : Nat) (x y : V), xs[j]? = some x → ys[j]? = some y → EqD K H n x y (e j)) : EqD K H (n + 1) (.ref a) (.ref b) ((List.range xs.length).all e)
  | tup {n : Nat} {a b : Addr} {xs ys : List V} (ne : a ≠ b) (hA : SqT K H a xs) (hB : SqT K H b ys) (hl : xs.length = ys.length) (e : Nat → Bool)
      (he : ∀ (j : Nat) (x y : V), xs[j]? = some x → ys[j]? = some y → EqD K H n x y (e j)) : EqD K H (n + 1) (.ref a) (.ref b) ((List.range xs.length).all e)
section
variable {X : Cx}
end
end L2
namespace L2
open PySem PySem.Spec PyProof.Rows
structure CompScN (X : Cx) (k : Nat) (N' : List Str) (scope : Scope) : Prop where
  kind : scope.kind = .function
  cell : ∀ y ∈ scope.names, y.2 ≠ .cell
  names : ∀ y ∈ scope.names, y.2 = .local → scope.names.lookup y.1 = some .local
  free : ∀ y ∈ scope.names, y.2 = .free → X.env.kindOf y.1 = some .cell ∨ X.env.kindOf y.1 = some .free
  len : N'.length = k + X.N.length
  cap : ∀ i y, N'[k + i]? = some y → (X.N[i]? = some y ∧ capOk scope X.env y = true) ∨ scope.names.lookup y = none
section
variable {X : Cx} {k : Nat} {N' : List Str} {tg : Expr} {pos : Pos} {elt iter : Expr} {ifs : List Expr} {scope : Scope} {wi : TI} {g : TG} {tt : TT} {te : TE}
end
end L2
namespace L2
open PySem PySem.Spec PyProof.Rows
section
variable {X : Cx} {pins : List (Addr × Obj)} {σ : St} {H : Hp} {s : Shared} {h' : Heap}
theorem Inv.turnedL {t' : Nat} {ch : List Addr} (I : Inv X pins σ H s) (k : ∀ b u, b ∉ ch → s.heap.get? b = some u → h'.get? b = some u) (hch : ∀ b ∈ ch, FpOk X pins H b) : Inv X pins σ H { s with heap := h', toks := t' } := by
  have nch : ∀ b u, H b = some u → b ∉ ch := fun b u e z => by rw [(hch b z).1] at e; cases e
  refine I.step (g' := s.gens) (d' := s.drawn) (ch := ch) (fun b hb => ⟨(hch b hb).2.2.2.1, (hch b hb).2.1, (hch b hb).2.2.2.2.1, (hch b hb).2.2.2.2.2⟩) (fun b o _ _ hc e _ => k b o hc e) (fun b o _ _ hc e _ => ⟨o.slots, k b o hc e⟩)
    (fun _ _ _ _ n => n) (fun b o hc e => ⟨o, k b o hc e⟩) (fun _ _ e => e) (fun _ _ _ e => e) (fun b ps e => ⟨#[], by rw [e]; simp⟩) (fun m hm => ?_) (fun b u e => ?_) I.bare
  · obtain ⟨ob, es, ep, ho, r⟩ := hm
    exact ⟨ob, es, ep, k _ ob (fun z => (hch _ z).2.1 rfl) ho, r⟩
  · refine (I.hok b u e).stay (fun c v hc q => k c v ?_ q) (fun c q => q) fun c xs q => q
    rcases hc with z | z
    · rw [z]
      exact nch b u e
    · exact nch c _ z
end
def Itz (K : PySem.W.Frag) (a b : Addr) : It :=
  ⟨fun i H => ∃ xs ys x y, SqL K H a xs ∧ SqL K H b ys ∧ xs[i]? = some x ∧ ys[i]? = some y, fun i H x H' => ∃ p u v, x = .ref p ∧ H p = none ∧ H' = upd H p (.tup [u, v]) ∧ (∀ xs, SqL K H a xs → xs[i]? = some u) ∧ ∀ ys, SqL K H b ys → ys[i]? = some v,
    fun i H => ∃ xs ys, SqL K H a xs ∧ SqL K H b ys ∧ (xs.length ≤ i ∨ ys.length ≤ i)⟩
theorem turn_zip {P : Program} {w : World} {K : PySem.W.Frag} {es : List Expr} {kk : Nat} {pt : Pos} {z TI TO i1 i2 a b : Addr} (D : ZipApart z TI TO i1 i2 a b) :
    Turn P w K (.Tuple es kk pt) (Itz K a b) [z, TI, TO, i1, i2] z (fun i h => IsZip h z TI TO .none ∧ IsPair h TI (.ref i1) (.ref i2) ∧ (∃ u v, IsPair h TO u v) ∧ h.IsListIter i1 a i ∧ h.IsListIter i2 b i) where
  mem := by simp
  obj := fun i h st c hc => by
    obtain ⟨hz, hTI, ⟨u, v, hTO⟩, ⟨o1, h1, c1, d1⟩, ⟨o2, h2, c2, d2⟩⟩ := st
    simp only [List.mem_cons, List.not_mem_nil, or_false] at hc
    rcases hc with q | q | q | q | q <;> subst q
    · exact ⟨_, hz, fun v q => by cases q⟩
    · exact ⟨_, hTI, fun v q => by cases q⟩
    · exact ⟨_, hTO, fun v q => by cases q⟩
    · exact ⟨o1, h1, fun v q => by rw [d1] at q; cases q⟩
    · exact ⟨o2, h2, fun v q => by rw [d2] at q; cases q⟩
  keep := fun i h h' st kk => by
    obtain ⟨hz, hTI, ⟨u, v, hTO⟩, ⟨o1, h1, c1⟩, ⟨o2, h2, c2⟩⟩ := st
    exact ⟨kk z (by simp) _ hz, kk TI (by simp) _ hTI, ⟨u, v, kk TO (by simp) _ hTO⟩, ⟨o1, kk i1 (by simp) _ h1, c1⟩, ⟨o2, kk i2 (by simp) _ h2, c2⟩⟩
  item := by
    intro X hP hw hK hc i pins s σ H E I hf st hg
    subst hP hw hK
    obtain ⟨xs, ys, x, y, hqa, hqb, hx, hy⟩ := hg
    obtain ⟨its, rv, p, hz1⟩ := I.list hqa
    obtain ⟨u, hu, ru⟩ := rv.get hx
    obtain ⟨its2, rv2, p2, hz2⟩ := I.list hqb
    obtain ⟨v, hv, rv'⟩ := rv2.get hy
    obtain ⟨hz, hTI, ⟨u0, v0, hTO⟩, hi1, hi2⟩ := st
    refine wpAny_pyNext_zip_item D hz hTI hTO hi1 hi2 p.isList p2.isList (x := u) (y := v) (by simpa using hu) (by simpa using hv) fun h' a1 a2 a3 a4 a5 a6 kp => ⟨_, rfl, ?_⟩
    refine wpAny_letOwnedTupleGo_zip a1 fun g2 hz2' sb => ?_
    have lz : z < s.heap.objs.size := Heap.lt_size hz
    have lTI : TI < s.heap.objs.size := Heap.lt_size hTI
    have lTO : TO < s.heap.objs.size := Heap.lt_size hTO
    have l1 : i1 < s.heap.objs.size := by obtain ⟨o, ho, _⟩ := hi1; exact Heap.lt_size ho
    have l2 : i2 < s.heap.objs.size := by obtain ⟨o, ho, _⟩ := hi2; exact Heap.lt_size ho
    have nT : H s.heap.objs.size = none := I.fresh
    have tt2 : g2.get? s.heap.objs.size = some { cls := .type "tuple", data := .seq #[u, v] } := (sb.2 _ (Nat.ne_of_gt lz)).trans a5
    have I1 : Inv X pins σ (upd H s.heap.objs.size (.tup [x, y])) { s with heap := g2, toks := s.toks } := by
      refine I.turnedNew (t' := s.toks) (ch := [z, TI, TO, i1, i2]) (fun c o hb q => ?_) hf (Nat.le_refl _) ⟨?_, [u, v], .cons ru (.cons rv' .nil), ⟨_, tt2, rfl, 0, rfl⟩⟩
      · simp only [List.mem_cons, List.not_mem_nil, or_false, not_or] at hb
        exact (sb.2 c hb.1).trans (kp c o hb.1 hb.2.2.1 hb.2.2.2.1 hb.2.2.2.2 q)
      · show 2 ≤ sizeLine
        decide
    refine ⟨.ref s.heap.objs.size, _, I1, rfl, ⟨_, x, y, rfl, nT, rfl, fun zs hy' => ?_, fun zs hy' => ?_⟩, ⟨hz2', ?_, ⟨u, v, ?_⟩, ?_, ?_⟩, fun c hb => ?_⟩
    · rw [I.list_inj hy' hqa]
      exact hx
    · rw [I.list_inj hy' hqb]
      exact hy
    · exact (sb.2 TI D.TIz).trans (kp TI _ D.TIz D.TITO D.TIi1 D.TIi2 hTI)
    · exact (sb.2 TO D.TOz).trans a2
    · obtain ⟨o, ho, r⟩ := a3
      exact ⟨o, (sb.2 i1 D.i1z).trans ho, r⟩
    · obtain ⟨o, ho, r⟩ := a4
      exact ⟨o, (sb.2 i2 D.i2z).trans ho, r⟩
    · have hb' := (hf c hb).1
      simp only [List.mem_cons, List.not_mem_nil, or_false] at hb
      rcases hb with q | q | q | q | q <;> subst q
      · rw [upd_ne (Nat.ne_of_lt lz)]; exact hb'
      · rw [upd_ne (Nat.ne_of_lt lTI)]; exact hb'
      · rw [upd_ne (Nat.ne_of_lt lTO)]; exact hb'
      · rw [upd_ne (Nat.ne_of_lt l1)]; exact hb'
      · rw [upd_ne (Nat.ne_of_lt l2)]; exact hb'
  done := by
    intro X hP hw hK hc i pins s σ H E I hf st hg
    subst hP hw hK
    obtain ⟨xs, ys, hqa, hqb, hend⟩ := hg
    obtain ⟨its, rv, p, hz1⟩ := I.list hqa
    obtain ⟨its2, rv2, p2, hz2⟩ := I.list hqb
    obtain ⟨hz, hTI, ⟨u0, v0, hTO⟩, hi1, hi2⟩ := st
    have l1 := rv.length
    have l2 := rv2.length
    refine wpAny_pyNext_zip_end (I.ok.hd hc) D hz hTI hTO hi1 hi2 p.isList p2.isList ?_ fun h' kp => ⟨rfl, I.turnedL (t' := s.toks) (ch := [z, TI, TO, i1, i2]) (fun c o hb q => ?_) hf⟩
    · rcases hend with q | q
      · exact .inl (by simp; omega)
      · exact .inr (by simp; omega)
    · simp only [List.mem_cons, List.not_mem_nil, or_false, not_or] at hb
      exact kp c o hb.1 hb.2.2.1 hb.2.2.2.1 hb.2.2.2.2 q
  self := fun _ _ _ _ _ st h => wpAny_pyIter_zip st.1 h
section
variable {X : Cx} {es : List Expr} {kk : Nat} {pt : Pos}
def iZip (K : PySem.W.Frag) (ta : TA) : TI := fun σ H R => ta σ H fun vs H1 => ∃ a b, vs = [.ref a, .ref b] ∧ (∃ xs, SqL K H1 a xs) ∧ (∃ ys, SqL K H1 b ys) ∧ R (Itz K a b) H1
theorem pi_zip {l m : Expr} {ta : TA} {p pos : Pos} (hg : Gl X "zip") (hm : X.mg "zip" = none) (ha : PA X [l, m] ta) (hs : starEach [l, m] X.env = [(false, eval l X.env), (false, eval m X.env)] := by rfl) (hs2 : starEach [m] X.env = [(false, eval m X.env)] := by rfl) :
    PI X (.Tuple es kk pt) (.Call (.Name "zip" p) [l, m] [] pos) (iZip X.K ta) := by
  intro pins s σ H R I h
  refine Call_ (ld_blt I hg hm PyProof.Rows.boot_zip (PyProof.Rows.callWith_type1 (thn (ha pos pins s σ H _ I h) fun us s1 ⟨vs, H1, I1, r1, q1⟩ => ?_) (by rw [hs, hs2]) (by rw [hs2]; rfl)))
  obtain ⟨a, b, e1, ⟨xs, hqa⟩, ⟨ys, hqb⟩, q⟩ := q1
  subst e1
  obtain ⟨u, v, e1, r3, r4⟩ := vals2 r1
  subst e1
  obtain rfl : u = Value.ref a := r3
  obtain rfl : v = Value.ref b := r4
  obtain ⟨its, rv, pl, hz⟩ := I1.list hqa
  obtain ⟨its2, rv2, pl2, hz2⟩ := I1.list hqb
  have la : a < s1.heap.objs.size := by obtain ⟨o, ho, _⟩ := pl.isList; exact Heap.lt_size ho
  have lb : b < s1.heap.objs.size := by obtain ⟨o, ho, _⟩ := pl2.isList; exact Heap.lt_size ho
  refine call_zip_2 pl.isList pl2.isList fun h' hz hTI hTO hi1 hi2 hsz kp => ?_
  have I3 : Inv X pins σ H1 { s1 with heap := h' } := I1.kept (t' := s1.toks) kp
  refine wpAny_pyIter_zip hz ⟨s1.heap.objs.size + 4, [s1.heap.objs.size + 4, s1.heap.objs.size + 2, s1.heap.objs.size + 3, s1.heap.objs.size, s1.heap.objs.size + 1], _, _, H1, rfl, I3, turn_zip (zipApart_new la lb), ⟨hz, hTI, ⟨_, _, hTO⟩, hi1, hi2⟩, fun c hb => ?_, q⟩
  have ge : s1.heap.objs.size ≤ c := by
    simp only [List.mem_cons, List.not_mem_nil, or_false] at hb
    rcases hb with q | q | q | q | q <;> rw [q]
    · exact Nat.le_add_right _ _
    · exact Nat.le_add_right _ _
    · exact Nat.le_add_right _ _
    · exact Nat.le_refl _
    · exact Nat.le_add_right _ _
  exact I1.fpOk ge (I1.hok.fresh ge)
end
end L2
namespace L2
open PySem PySem.Spec PyProof.Rows
abbrev Cx.i1 (X : Cx) : Cx := { X with A := X.A.in1, xe := fun _ _ => False }
theorem Inv.i1 {X : Cx} {pins : List (Addr × Obj)} {σ : St} {H : Hp} {s : Shared} (I : Inv X pins σ H s) : Inv X.i1 pins σ H s :=
  ⟨⟨I.ok.mod, I.ok.kind, I.ok.glob, I.ok.blt, I.ok.above, I.ok.inj, I.ok.has, I.ok.cab, I.ok.hd, I.ok.frames, I.ok.stk, I.ok.exf, I.ok.bs, I.ok.bsz, I.ok.noex, I.ok.exfs, I.ok.funs, I.ok.frf⟩, I.os, I.bare, I.base, I.loc, I.cell, I.free, I.freeC, I.pin, I.hok, I.len⟩
theorem Inv.o1 {X : Cx} {pins : List (Addr × Obj)} {σ : St} {H : Hp} {s : Shared} (I : Inv X.i1 pins σ H s) (hd : X.calm = true → X.A.handled = none) (hf : X.A.frames = some X.stack) : Inv X pins σ H s :=
  ⟨⟨I.ok.mod, I.ok.kind, I.ok.glob, I.ok.blt, I.ok.above, I.ok.inj, I.ok.has, I.ok.cab, hd, hf, I.ok.stk, I.ok.exf, I.ok.bs, I.ok.bsz, I.ok.noex, I.ok.exfs, I.ok.funs, I.ok.frf⟩, I.os, I.bare, I.base, I.loc, I.cell, I.free, I.freeC, I.pin, I.hok, I.len⟩
section
variable {M : Model} {A : Around} {E : Value → Shared → Prop} {s : Shared} {env : Env}
theorem callWith_bK {pos : Pos} {T : String} {e : Expr} {rest : List Expr} {kws : List Keyword} {Q : Value → Shared → Prop}
    (h : wpAny M A (spliced (backTo pos (starEach (e :: rest) env))) (fun vs s1 => wpAny M A (evalAll ((backToKw pos (keywordEach kws env)).map (·.2)))
      (fun kvs s2 => wpAny M A (call (.builtin T) vs (((backToKw pos (keywordEach kws env)).filterMap (·.1)).zip kvs)) Q E s2) E s1) E s)
    (he : backTo pos (starEach (e :: rest) env) = (false, eval e env) :: backTo pos (starEach rest env) := by rfl) (hpl : (backTo pos (starEach (e :: rest) env)).any (·.1) = false := by rfl)
    (hall : (backToKw pos (keywordEach kws env)).all (·.1.isSome) = true := by rfl) (hkw : (backToKw pos (keywordEach kws env)).any (·.1.isNone) = false := by rfl) :
    wpAny M A (callWith pos (.builtin T) [] (backTo pos (starEach (e :: rest) env)) (backToKw pos (keywordEach kws env))) Q E s := by
  have h2 : wpAny M A (evalArgs (.builtin T) true (backTo pos (starEach (e :: rest) env)) (backToKw pos (keywordEach kws env))) (fun a s1 => wpAny M A (call (.builtin T) ([] ++ a.pos) a.kw) Q E s1) E s := by
    rw [he] at h ⊢
    exact evalArgs_kwB hall h
  unfold callWith
  refine wpAny_bind (wpAny_holding (wpAny_mono h2 (fun a s1 h1 => wpAny_bind (wpAny_standAt ?_)) fun _ _ z => z))
  simp only [hpl, hkw, Bool.or_false]
  exact wpAny_bind (wpAny_pure (wpAny_bind (wpAny_mono h1 (fun r s2 hr => wpAny_bind (wpAny_holding (wpAny_point (wpAny_pure hr)))) fun _ _ z => z)))
end
theorem same_none {H H' : Hp} {b : Addr} (s : Same H H') (h : H' b = none) : H b = none := by
  cases e : H b with
  | none => rfl
  | some u => rw [s b u e] at h; cases h
section
variable {X : Cx} {pins : List (Addr × Obj)} {σ : St}
end
section
variable {X : Cx}
end
section
variable {X : Cx} {pins : List (Addr × Obj)} {σ : St}
end
section
variable {X : Cx}
end
end L2
namespace L2
open PySem PySem.Spec PyProof.Rows
end L2
namespace S2
open PySem L2
structure Fl where
  nm : Str
  lf : Bool
  w : Int
  h : Int
structure Pl where
  nm : Str
  x : Int
  y : Int
  w : Int
  h : Int
end S2
namespace L2
open PySem PySem.Spec PyProof.Rows S2
section
variable {X : Cx}
end
end L2
namespace L2
open PySem PySem.Spec PySem.W PyProof.Rows
theorem dictAt_of {prog : Program} {w : World} {K : Type} [DecidableEq K] {knd : KeyKind prog w K} {h : Heap} {a : Addr} {vs : List (K × Value)} (d : h.DictOf knd a vs) : ∃ ep, h.DictAt knd a vs ep := by
  obtain ⟨o, es, ep, h1, h2, h3, h4, h5, h6⟩ := d
  exact ⟨ep, o, es, h1, h2, h3, h4, h5, h6⟩
theorem KV.valAt {kvs : List (Key × V)} {vs : List (Key × Value)} (r : KV kvs vs) {i : Nat} {k : Key} {v : Value} (h : vs[i]? = some (k, v)) : ∃ x, kvs[i]? = some (k, x) ∧ RelV x v := by
  induction r generalizing i with
  | nil => cases h
  | cons p q ih =>
    cases i with
    | zero =>
      cases h
      obtain ⟨e, z⟩ := p
      exact ⟨_, by rw [List.getElem?_cons_zero]; exact congrArg some (Prod.ext e rfl), z⟩
    | succ i => exact ih h
theorem preSum_list : ∀ (ns : List Int) (n : Nat), n ≤ ns.length → preSum (fun i => ns.getD i 0) n = (ns.take n).sum := by
  intro ns n
  induction n with
  | zero => intro _; simp [preSum]
  | succ n ih =>
    intro h
    have e : ns.take (n + 1) = ns.take n ++ [ns.getD n 0] := by
      rw [List.take_succ]; simp [List.getD, List.getElem?_eq_getElem (show n < ns.length by omega)]
    rw [e, List.sum_append, ← ih (by omega)]
    simp [preSum]
def tSumV (td : TE) : TE := fun σ H Q => td σ H fun x H1 => ∃ (a : Addr) (kvs : List (Key × V)) (ns : List Int), x = .ref a ∧ Rd H1 a (.dK kvs) ∧ kvs.map (·.2) = ns.map V.int ∧ Q (.int ns.sum) H1
section
variable {X : Cx} {o : Expr} {apos cpos p pos : Pos} {td : TE}
theorem pe_sumV (hc : X.calm = true) (ho : PE X o td) (hb : attributeBase o "values" X.env (eval o X.env) = eval o X.env) (hl : (apos.endLine == cpos.line) = true) (hg : Gl X "sum") (hm : X.mg "sum" = none)
    (hv : bootBuiltins "sum" = some (.builtin "sum"))
    (he : starEach [.Call (.Attribute o "values" apos) [] [] cpos] X.env = (false, eval (.Call (.Attribute o "values" apos) [] [] cpos) X.env) :: starEach [] X.env := by rfl) :
    PE X (.Call (.Name "sum" p) [.Call (.Attribute o "values" apos) [] [] cpos] [] pos) (tSumV td) := by
  intro pins s σ H Q I h
  refine wpAny_Call_Name_kw (ld_blt I hg hm hv ?_ (by decide) (by decide))
  refine PyProof.Rows.callWith_builtin1 ?_ he rfl
  rw [he]
  show wpAny _ _ (spliced ((false, eval (.Call (.Attribute o "values" apos) [] [] cpos) X.env) :: [])) _ _ s
  refine Calls.spliced_cons ?_
  refine wpAny_Call_method hb rfl hl PySem.F.plainAttrs_dict PySem.F.slot_dict_values PySem.F.type_dict_values (thn (ho pins s σ H _ I h) fun u s1 ⟨x, H1, I1, rx, a, kvs, ns, ex, d, en, q1⟩ => ?_)
  subst ex
  obtain rfl : u = Value.ref a := rx
  obtain ⟨t1, t2, hd⟩ := isD_at I1 (.inl ⟨kvs, d⟩)
  refine ⟨t1, t2, ?_⟩
  obtain ⟨z, _, vs, rel, dd⟩ := dk_rd I1.hok d
  refine Calls.callWith_builtin rfl (PyProof.Rows.evalArgs_empty ?_)
  refine call_meetsIn PySem.F.slot_dict_values dd.typeIs PySem.F.entry_dict_values (PySem.F.args_dict_values_1 _) (meets_dict_values (mixKind X.prog X.w) a hd) ⟨⟨vs, dd⟩, ?_⟩
  refine Calls.spliced_nil ?_
  obtain ⟨ep, da⟩ := dictAt_of dd
  have hh := I1.ok.hd hc
  have hok : (s1.heap.push { cls := .type "dict_values", data := .fields #[.ref a] }).IsValuesView s1.heap.objs.size a ∧ (s1.heap.push { cls := .type "dict_values", data := .fields #[.ref a] }).DictAt (mixKind X.prog X.w) a vs ep :=
    ⟨⟨_, Heap.get?_push_size _ rfl, rfl, rfl⟩, da.push _⟩
  have K := kdl_values (prog := X.prog) (w := X.w) (knd := mixKind X.prog X.w) (r := s1.heap.objs.size) (d := a) (kvs := vs) (ep := ep)
  refine call_sum_walkAnyS ?_
  obtain ⟨oI, St, hit, W, st⟩ := K.iter X.A.in1 { s1 with heap := s1.heap.push { cls := .type "dict_values", data := .fields #[.ref a] } } hh hok
  refine hit _ _ ⟨_, _, _, _, vs.length, _, _, fun i => ns.getD i 0, rfl, W.toS, st, fun b hb => ?_, fun i v hv => ?_, fun s' t' hm => ?_⟩
  · rcases List.mem_cons.mp hb with e | hb
    · rw [e]; exact Nat.lt_of_lt_of_eq (Nat.lt_succ_self _) (size_push' _ _).symm
    · rw [List.mem_singleton.mp hb]; exact Nat.lt_of_lt_of_eq (Nat.lt_succ_of_lt (K.there _ hok).2) (size_push' _ _).symm
  · obtain ⟨k, hk⟩ := hv
    obtain ⟨x, hx, rx⟩ := rel.valAt hk
    have e1 : (kvs.map (·.2))[i]? = some x := by rw [List.getElem?_map, hx]; rfl
    rw [en, List.getElem?_map] at e1
    cases e2 : ns[i]? with
    | none => rw [e2] at e1; cases e1
    | some n =>
      rw [e2] at e1
      cases e1
      obtain ⟨t, et⟩ := rx
      exact ⟨t, by rw [et]; simp [List.getD, e2]⟩
  · have hk : ∀ b o, s1.heap.get? b = some o → s'.heap.get? b = some o := fun b o e =>
      hm.heap b o (fun hI => absurd (Heap.lt_size e) (by rw [List.mem_singleton.mp hI]; show ¬ (s1.heap.push _).objs.size < s1.heap.objs.size; rw [size_push']; exact Nat.not_lt.mpr (Nat.le_succ _))) (Heap.get?_push_of_some _ (Heap.get?_push_of_some _ e))
    rw [Moved.eq_with hm]
    have el : vs.length = ns.length := by rw [← rel.length, ← List.length_map (f := (·.2)), en, List.length_map]
    have e2 : preSum (fun i => ns.getD i 0) vs.length = ns.sum := by rw [el, preSum_list ns ns.length (Nat.le_refl _), List.take_length]
    rw [e2]
    exact ⟨.int _, H1, I1.kept hk, ⟨t', rfl⟩, q1⟩
end
end L2
namespace L2
open PySem PySem.Spec PySem.W PyProof.Rows
theorem samebut_refl {a : Addr} {h : Heap} : Heap.SameBut a h h := ⟨rfl, fun _ _ => rfl⟩
theorem Inv.freeze {X : Cx} {pins : List (Addr × Obj)} {σ : St} {H : Hp} {s : Shared} {a : Addr} {kvs : List (Key × V)} (I : Inv X pins σ H s) (d : Rd H a (.dK kvs)) :
    ∃ o, Inv X pins σ (upd H a (.frz o (.dK kvs))) s ∧ s.heap.get? a = some o ∧ ∃ vs ep, KV kvs vs ∧ s.heap.DictAt (mixKind X.prog X.w) a vs ep := by
  obtain ⟨z, hd, vs, rel, dd⟩ := dk_rd I.hok d
  obtain ⟨ep, da⟩ := dictAt_of dd
  rcases d with e | ⟨o, e⟩
  · obtain ⟨o, es, h1, _⟩ := id da
    refine ⟨o, ?_, h1, vs, ep, rel, da⟩
    exact d_write (t' := s.toks) I (by rw [e]; exact True.intro) samebut_refl ⟨o, h1⟩ ⟨h1, z, hd, vs, rel, dd⟩
  · have x := I.hok a _ e
    refine ⟨o, ?_, x.1, vs, ep, rel, da⟩
    have eq : upd H a (.frz o (.dK kvs)) = H := by
      funext b
      by_cases hb : b = a
      · subst hb; rw [upd_same, e]
      · rw [upd_ne hb]
    rw [eq]
    exact I
def Itd (a : Addr) (o : Obj) (kvs : List (Key × V)) : It :=
  ⟨fun i H => H a = some (.frz o (.dK kvs)) ∧ i < kvs.length, fun i H x H' => ∃ p k v, x = .ref p ∧ H p = none ∧ kvs[i]? = some (k, v) ∧ H' = upd H p (.tup [kV k, v]),
    fun i H => H a = some (.frz o (.dK kvs)) ∧ kvs.length ≤ i⟩
theorem kvAt {kvs : List (Key × V)} {vs : List (Key × Value)} (r : KV kvs vs) {i : Nat} {k : Key} {x : V} (h : kvs[i]? = some (k, x)) : ∃ v, vs[i]? = some (k, v) ∧ RelV x v := by
  induction r generalizing i with
  | nil => cases h
  | cons p q ih =>
    cases i with
    | zero =>
      cases h
      obtain ⟨e, z⟩ := p
      exact ⟨_, by rw [List.getElem?_cons_zero]; exact congrArg some (Prod.ext e.symm rfl), z⟩
    | succ i => exact ih h
theorem kV_of {P : Program} {w : World} {k : Key} {u : Value} (h : (mixKind P w).is k u = true) : RelV (kV k) u := by
  rcases keyIs_shape h with ⟨i, t, rfl, rfl⟩ | ⟨x, t, rfl, rfl⟩
  · exact ⟨t, rfl⟩
  · exact ⟨t, rfl⟩
theorem entry_itemiter : entryFor table "dict_itemiterator.__iter__" = some Builtin.«dict_keyiterator.__iter__» :=
  entryFor_alias (id' := "dict_keyiterator.__iter__") (by kernel_rfl) rfl (by decide +kernel) (by kernel_rfl)
theorem turn_items {P : Program} {w : World} {K : PySem.W.Frag} {es : List Expr} {kk : Nat} {pt : Pos} {it a : Addr} {o : Obj} {kvs : List (Key × V)} {vs : List (Key × Value)} {ep : Nat} (hne : a ≠ it) (rel : KV kvs vs)
    (da : ∀ h : Heap, h.get? a = some o → h.DictAt (mixKind P w) a vs ep) :
    Turn P w K (.Tuple es kk pt) (Itd a o kvs) [it] it (fun i h => ∃ ok ov, IsItemIter h it a i vs.length ep ok ov) where
  mem := by simp
  obj := fun i h st c hc => by
    obtain ⟨ok, ov, st⟩ := st
    cases (List.mem_singleton.mp hc)
    exact ⟨_, st, fun v q => by cases q⟩
  keep := fun i h h' st kk => by
    obtain ⟨ok, ov, st⟩ := st
    exact ⟨ok, ov, kk it (by simp) _ st⟩
  item := by
    intro X hP hw hK hc i pins s σ H E I hf st hg
    subst hP hw hK
    obtain ⟨ok, ov, st⟩ := st
    obtain ⟨hz, hi⟩ := hg
    obtain ⟨⟨k, x⟩, hx⟩ : ∃ p, kvs[i]? = some p := ⟨kvs[i], by simp [hi]⟩
    obtain ⟨v, hv, rv⟩ := kvAt rel hx
    have ho := (I.hok a _ hz).1
    refine wpAny_pyNext_items_item st (da _ ho) hv fun key h' hkey hit' htup hsz kp => ⟨_, rfl, ?_⟩
    refine wpAny_letOwnedTupleGo_items hit' fun g2 hit2 sb => ?_
    have li : it < s.heap.objs.size := Heap.lt_size st
    have nT : H s.heap.objs.size = none := I.fresh
    have tt2 : g2.get? s.heap.objs.size = some { cls := .type "tuple", data := .seq #[key, v] } := (sb.2 _ (Nat.ne_of_gt li)).trans htup
    have I1 : Inv X pins σ (upd H s.heap.objs.size (.tup [kV k, x])) { s with heap := g2, toks := s.toks } := by
      refine I.turnedNew (t' := s.toks) (ch := [it]) (fun c o hb q => ?_) hf (Nat.le_refl _) ⟨?_, [key, v], .cons (kV_of hkey) (.cons rv .nil), ⟨_, tt2, rfl, 0, rfl⟩⟩
      · have hb' : c ≠ it := fun z => hb (by simp [z])
        exact (sb.2 c hb').trans (kp c o hb' q)
      · show 2 ≤ sizeLine
        decide
    refine ⟨.ref s.heap.objs.size, _, I1, rfl, ⟨_, k, x, rfl, nT, hx, rfl⟩, ⟨_, _, hit2⟩, fun c hb => ?_⟩
    have hb' := (hf c hb).1
    cases (List.mem_singleton.mp hb)
    rw [upd_ne (Nat.ne_of_lt li)]
    exact hb'
  done := by
    intro X hP hw hK hc i pins s σ H E I hf st hg
    subst hP hw hK
    obtain ⟨ok, ov, st⟩ := st
    obtain ⟨hz, hi⟩ := hg
    have ho := (I.hok a _ hz).1
    have el := rel.length
    refine wpAny_pyNext_items_end (I.ok.hd hc) st (da _ ho) (List.getElem?_eq_none_iff.mpr (by omega)) fun h' kp => ⟨rfl, I.turnedL (t' := s.toks) (ch := [it]) (fun c o hb q => ?_) hf⟩
    exact kp c o (fun z => hb (by simp [z])) q
  self := fun _ _ _ _ _ st h => by
    obtain ⟨ok, ov, st⟩ := st
    have hT : Shared.TypeIs _ (.ref it) "dict_itemiterator" := ⟨_, st, rfl⟩
    refine wpAny_pyIter_slot hT PySem.F.slot_dict_itemiterator_iter (wpAny_call_entry PySem.F.slot_dict_itemiterator_iter hT entry_itemiter ?_ (PySem.F.args_dict_itemiterator_iter_1 _))
    show wpAny _ _ (ret (.ref it)) _ _ _
    exact wpAny_pure ⟨_, rfl, "dict_itemiterator", _, hT, PySem.F.slot_dict_itemiterator_next.lookup, h⟩
def iItems (td : TE) : TI := fun σ H R => td σ H fun x H1 => ∃ a kvs, x = .ref a ∧ Rd H1 a (.dK kvs) ∧ ∀ o, R (Itd a o kvs) (upd H1 a (.frz o (.dK kvs)))
section
variable {X : Cx} {o : Expr} {es : List Expr} {kk : Nat} {pt : Pos} {apos cpos : Pos} {td : TE}
theorem pi_items (ho : PE X o td) (hb : attributeBase o "items" X.env (eval o X.env) = eval o X.env := by rfl) (hl : (apos.endLine == cpos.line) = true := by rfl) :
    PI X (.Tuple es kk pt) (.Call (.Attribute o "items" apos) [] [] cpos) (iItems td) := by
  intro pins s σ H R I h
  refine wpAny_Call_method hb rfl hl PySem.F.plainAttrs_dict PySem.F.slot_dict_items PySem.F.type_dict_items (thn (ho pins s σ H _ I h) fun u s1 ⟨x, H1, I1, rx, a, kvs, ex, d, q1⟩ => ?_)
  subst ex
  obtain rfl : u = Value.ref a := rx
  obtain ⟨t1, t2, hd⟩ := isD_at I1 (.inl ⟨kvs, d⟩)
  refine ⟨t1, t2, ?_⟩
  obtain ⟨ob, I2, hob, vs, ep, rel, da⟩ := I1.freeze d
  refine Calls.callWith_builtin rfl (PyProof.Rows.evalArgs_empty ?_)
  refine call_meetsIn PySem.F.slot_dict_items da.dictOf.typeIs PySem.F.entry_dict_items (PySem.F.args_dict_items_1 _) (meets_dict_items (mixKind X.prog X.w) a hd) ⟨⟨vs, da.dictOf⟩, ?_⟩
  refine wpAny_pyIter_items (knd := mixKind X.prog X.w) (d := a) (kvs := vs) (ep := ep) ⟨_, Heap.get?_push_size _ rfl, rfl, rfl⟩ (da.push _) ?_
  have la : a < s1.heap.objs.size := Heap.lt_size hob
  refine ⟨_, [_], _, _, _, rfl, I2.kept (t' := s1.toks) fun b o e => Heap.get?_push_of_some _ (Heap.get?_push_of_some _ e), turn_items (ep := ep) (Nat.ne_of_lt (Nat.lt_of_lt_of_eq (Nat.lt_succ_of_lt la) (size_push' _ _).symm)) rel (fun h e => da.at' fun o' e' => by rw [hob] at e'; cases e'; exact e), ⟨_, _, Heap.get?_push_size _ rfl⟩, fun b hb => ?_, q1 ob⟩
  cases (List.mem_singleton.mp hb)
  exact I2.fpOk (by rw [size_push']; omega) (I2.hok.fresh (by rw [size_push']; omega))
end
end L2
namespace DV
open PySem PySem.W PyProof.Rows
def run {α : Type} (lt : Nat → Nat → Bool) : KasT α → α
  | .ret a => a
  | .ask i j k => run lt (k (lt i j))
theorem run_bind {α β : Type} (lt : Nat → Nat → Bool) (f : α → KasT β) : ∀ t : KasT α, run lt (t.bind f) = run lt (f (run lt t))
  | .ret _ => rfl
  | .ask i j k => run_bind lt f (k (lt i j))
section
variable (r : Nat → Int)
def Rk (p : Array Nat) (i : Nat) : Int := r (p.getD i 0)
abbrev ltR (i j : Nat) : Bool := decide (r i < r j)
def Up (p : Array Nat) (k : Nat) : Prop := ∀ i j, i ≤ j → j < k → Rk r p i ≤ Rk r p j
def Dn (p : Array Nat) (k : Nat) : Prop := ∀ i j, i ≤ j → j < k → Rk r p j ≤ Rk r p i
theorem rk_rev {p : Array Nat} {i j : Nat} (hj : j ≤ p.size) (k : Nat) : Rk r (kas_rev p i j) k = if i ≤ k ∧ k < j then Rk r p (i + j - 1 - k) else Rk r p k := by
  unfold Rk kas_rev
  simp only [Array.getD_eq_getD_getElem?]
  rw [getElem?_mirror_all hj k]
  split <;> rfl
theorem size_rev (p : Array Nat) (i j : Nat) : (kas_rev p i j).size = p.size := (mirror_perm p i j _).size_eq
theorem perm_rev (p : Array Nat) (i j : Nat) : (kas_rev p i j).Perm p := mirror_perm p i j _
theorem rk_rev_eq {p : Array Nat} {i j : Nat} (hj : j ≤ p.size) (he : ∀ k, i ≤ k → k < j → Rk r p k = Rk r p (j - 1)) (k : Nat) : Rk r (kas_rev p i j) k = Rk r p k := by
  rw [rk_rev r hj]
  split
  · rw [he _ (by omega) (by omega), he k (by omega) (by omega)]
  · rfl
theorem Up.snoc {p : Array Nat} {n : Nat} (h : Up r p n) (hn : 1 ≤ n) (hs : Rk r p (n - 1) ≤ Rk r p n) : Up r p (n + 1) := by
  intro i j hij hj
  by_cases e : j < n
  · exact h i j hij e
  · have : j = n := by omega
    subst this
    by_cases e2 : i = j
    · subst e2; exact Int.le_refl _
    · exact Int.le_trans (h i (j - 1) (by omega) (by omega)) hs
theorem Dn.snoc {p : Array Nat} {n : Nat} (h : Dn r p n) (hn : 1 ≤ n) (hs : Rk r p n ≤ Rk r p (n - 1)) : Dn r p (n + 1) := by
  intro i j hij hj
  by_cases e : j < n
  · exact h i j hij e
  · have : j = n := by omega
    subst this
    by_cases e2 : i = j
    · subst e2; exact Int.le_refl _
    · exact Int.le_trans hs (h i (j - 1) (by omega) (by omega))
theorem asc_ok (p : Array Nat) : ∀ (f n : Nat), 1 ≤ n → Up r p n → n ≤ run (ltR r) (kas_asc p f n) ∧ run (ltR r) (kas_asc p f n) ≤ n + f ∧ Up r p (run (ltR r) (kas_asc p f n)) ∧
    (run (ltR r) (kas_asc p f n) = n + f ∨ Rk r p (run (ltR r) (kas_asc p f n)) < Rk r p (run (ltR r) (kas_asc p f n) - 1))
  | 0, n, hn, h => ⟨Nat.le_refl _, Nat.le_refl _, h, .inl rfl⟩
  | f + 1, n, hn, h => by
    show n ≤ run (ltR r) (if ltR r (p.getD n 0) (p.getD (n - 1) 0) = true then KasT.ret n else kas_asc p f (n + 1)) ∧ run (ltR r) (if ltR r (p.getD n 0) (p.getD (n - 1) 0) = true then KasT.ret n else kas_asc p f (n + 1)) ≤ n + (f + 1) ∧
      Up r p (run (ltR r) (if ltR r (p.getD n 0) (p.getD (n - 1) 0) = true then KasT.ret n else kas_asc p f (n + 1))) ∧ (run (ltR r) (if ltR r (p.getD n 0) (p.getD (n - 1) 0) = true then KasT.ret n else kas_asc p f (n + 1)) = n + (f + 1) ∨
      Rk r p (run (ltR r) (if ltR r (p.getD n 0) (p.getD (n - 1) 0) = true then KasT.ret n else kas_asc p f (n + 1))) < Rk r p (run (ltR r) (if ltR r (p.getD n 0) (p.getD (n - 1) 0) = true then KasT.ret n else kas_asc p f (n + 1)) - 1))
    by_cases c : ltR r (p.getD n 0) (p.getD (n - 1) 0) = true
    · rw [if_pos c]
      exact ⟨Nat.le_refl _, Nat.le_add_right _ _, h, .inr (of_decide_eq_true c)⟩
    · rw [if_neg c]
      have c' : Rk r p (n - 1) ≤ Rk r p n := Int.not_lt.mp fun z => c (decide_eq_true z)
      obtain ⟨h1, h2, h3, h4⟩ := asc_ok p f (n + 1) (by omega) (h.snoc r hn c')
      exact ⟨by omega, by omega, h3, h4.imp (fun e => by omega) id⟩
theorem desc_ok : ∀ (f : Nat) (p : Array Nat) (n q : Nat), 1 ≤ n → n + f ≤ p.size → q + 1 ≤ n → Dn r p n → (∀ k, n - (q + 1) ≤ k → k < n → Rk r p k = Rk r p (n - 1)) → ∀ z, z = run (ltR r) (kas_desc f p n q) →
    z.1.Perm p ∧ n ≤ z.2.1 ∧ z.2.1 ≤ n + f ∧ Dn r z.1 z.2.1 ∧ z.2.2 + 1 ≤ z.2.1 ∧ ∀ k, z.2.1 - (z.2.2 + 1) ≤ k → k < z.2.1 → Rk r z.1 k = Rk r z.1 (z.2.1 - 1)
  | 0, p, n, q, hn, hs, hq, h, he, z, ez => by subst ez; exact ⟨.refl _, Nat.le_refl _, Nat.le_refl _, h, hq, he⟩
  | f + 1, p, n, q, hn, hs, hq, h, he, z, ez => by
    have ez' : z = run (ltR r) (if ltR r (p.getD n 0) (p.getD (n - 1) 0) = true then (if q > 0 then kas_desc f (kas_rev p (n - (q + 1)) n) (n + 1) 0 else kas_desc f p (n + 1) 0)
      else .ask (p.getD (n - 1) 0) (p.getD n 0) fun d => if d = true then .ret (p, n, q) else kas_desc f p (n + 1) (q + 1)) := ez
    by_cases c : ltR r (p.getD n 0) (p.getD (n - 1) 0) = true
    · rw [if_pos c] at ez'
      have c' : Rk r p n < Rk r p (n - 1) := of_decide_eq_true c
      by_cases hq0 : q > 0
      · rw [if_pos hq0] at ez'
        have e1 : ∀ k, Rk r (kas_rev p (n - (q + 1)) n) k = Rk r p k := rk_rev_eq r (by omega) he
        have h' : Dn r (kas_rev p (n - (q + 1)) n) (n + 1) := by
          intro i j hij hj
          rw [e1, e1]
          exact (h.snoc r hn (Int.le_of_lt c')) i j hij hj
        obtain ⟨a1, a2, a3, a4, a5, a6⟩ := desc_ok f _ (n + 1) 0 (by omega) (by rw [size_rev]; omega) (by omega) h' (fun k k1 k2 => congrArg (Rk r _) (by omega)) z ez'
        exact ⟨a1.trans (perm_rev _ _ _), by omega, by omega, a4, a5, a6⟩
      · rw [if_neg hq0] at ez'
        obtain ⟨a1, a2, a3, a4, a5, a6⟩ := desc_ok f p (n + 1) 0 (by omega) (by omega) (by omega) (h.snoc r hn (Int.le_of_lt c')) (fun k k1 k2 => congrArg (Rk r _) (by omega)) z ez'
        exact ⟨a1, by omega, by omega, a4, a5, a6⟩
    · rw [if_neg c] at ez'
      have c' : Rk r p (n - 1) ≤ Rk r p n := Int.not_lt.mp fun z => c (decide_eq_true z)
      have ez2 : z = run (ltR r) (if ltR r (p.getD (n - 1) 0) (p.getD n 0) = true then .ret (p, n, q) else kas_desc f p (n + 1) (q + 1)) := ez'
      by_cases d : ltR r (p.getD (n - 1) 0) (p.getD n 0) = true
      · rw [if_pos d] at ez2
        subst ez2
        exact ⟨.refl _, Nat.le_refl _, Nat.le_add_right _ _, h, hq, he⟩
      · rw [if_neg d] at ez2
        have d' : Rk r p n ≤ Rk r p (n - 1) := Int.not_lt.mp fun z => d (decide_eq_true z)
        have e : Rk r p (n - 1) = Rk r p n := Int.le_antisymm c' d'
        obtain ⟨a1, a2, a3, a4, a5, a6⟩ := desc_ok f p (n + 1) (q + 1) (by omega) (by omega) (by omega) (h.snoc r hn d') (fun k k1 k2 => by
          show Rk r p k = Rk r p n
          by_cases ek : k = n
          · rw [ek]
          · rw [he k (by omega) (by omega), e]) z ez2
        exact ⟨a1, by omega, by omega, a4, a5, a6⟩
theorem tail3_ok {p : Array Nat} {n nrem : Nat} (hn : 1 ≤ n) (hs : n ≤ p.size) (hr : n ≤ nrem) (h : Dn r p n) : ∀ z, z = run (ltR r) (kas_tail3 n nrem p) → z.2.Perm p ∧ 1 ≤ z.1 ∧ z.1 ≤ nrem ∧ Up r z.2 z.1 := by
  intro z ez
  unfold kas_tail3 at ez
  rw [run_bind] at ez
  have hu : Up r (kas_rev p 0 n) n := by
    intro i j hij hj
    rw [rk_rev r hs, rk_rev r hs, if_pos (by omega), if_pos (by omega)]
    exact h _ _ (by omega) (by omega)
  obtain ⟨a1, a2, a3, a4⟩ := asc_ok r (kas_rev p 0 n) (nrem - n) n hn hu
  subst ez
  exact ⟨perm_rev _ _ _, Nat.le_trans hn a1, by show run (ltR r) (kas_asc (kas_rev p 0 n) (nrem - n) n) ≤ nrem; omega, a3⟩
theorem descPart_ok {p : Array Nat} {n nrem : Nat} (hn : 1 ≤ n) (hs : nrem ≤ p.size) (hr : n + 1 ≤ nrem) (h : Dn r p (n + 1)) : ∀ z, z = run (ltR r) (kas_descPart n nrem p) → z.2.Perm p ∧ 1 ≤ z.1 ∧ z.1 ≤ nrem ∧ Up r z.2 z.1 := by
  intro z ez
  unfold kas_descPart at ez
  rw [run_bind] at ez
  obtain ⟨a1, a2, a3, a4, a5, a6⟩ := desc_ok r (nrem - (n + 1)) p (n + 1) 0 (by omega) (by omega) (by omega) h (fun k k1 k2 => congrArg (Rk r _) (by omega)) _ rfl
  generalize run (ltR r) (kas_desc (nrem - (n + 1)) p (n + 1) 0) = y at *
  have hsz : y.1.size = p.size := a1.size_eq
  by_cases c : y.2.2 > 0
  · rw [if_pos c] at ez
    have e1 : ∀ k, Rk r (kas_rev y.1 (y.2.1 - (y.2.2 + 1)) y.2.1) k = Rk r y.1 k := rk_rev_eq r (by omega) a6
    have h' : Dn r (kas_rev y.1 (y.2.1 - (y.2.2 + 1)) y.2.1) y.2.1 := by
      intro i j hij hj
      rw [e1, e1]
      exact a4 i j hij hj
    obtain ⟨b1, b2, b3, b4⟩ := tail3_ok r (nrem := nrem) (by omega) (by rw [size_rev]; omega) (by omega) h' z ez
    exact ⟨(b1.trans (perm_rev _ _ _)).trans a1, b2, b3, b4⟩
  · rw [if_neg c] at ez
    obtain ⟨b1, b2, b3, b4⟩ := tail3_ok r (nrem := nrem) (by omega) (by omega) (by omega) a4 z ez
    exact ⟨b1.trans a1, b2, b3, b4⟩
theorem count_ok {p : Array Nat} {nrem : Nat} (h1 : 1 ≤ nrem) (hs : nrem ≤ p.size) : ∀ z, z = run (ltR r) (kas_count nrem p) → z.2.Perm p ∧ 1 ≤ z.1 ∧ z.1 ≤ nrem ∧ Up r z.2 z.1 := by
  intro z ez
  unfold kas_count at ez
  rw [run_bind] at ez
  have hu : Up r p 1 := fun i j hij hj => by
    have e : i = j := by omega
    rw [e]; exact Int.le_refl _
  obtain ⟨a1, a2, a3, a4⟩ := asc_ok r p (nrem - 1) 1 (Nat.le_refl _) hu
  generalize run (ltR r) (kas_asc p (nrem - 1) 1) = n at *
  by_cases c : (n == nrem) = true
  · rw [if_pos c] at ez
    subst ez
    exact ⟨.refl _, a1, by show n ≤ nrem; omega, a3⟩
  · rw [if_neg c] at ez
    have ne : n ≠ nrem := fun z => c (by rw [z]; exact beq_self_eq_true _)
    have lt : Rk r p n < Rk r p (n - 1) := a4.resolve_left (by omega)
    by_cases c2 : n > 1
    · rw [if_pos c2] at ez
      have ez2 : z = run (ltR r) (if ltR r (p.getD 0 0) (p.getD (n - 1) 0) = true then .ret (n, p) else kas_descPart n nrem (kas_rev p 0 n)) := ez
      by_cases d : ltR r (p.getD 0 0) (p.getD (n - 1) 0) = true
      · rw [if_pos d] at ez2
        subst ez2
        exact ⟨.refl _, a1, by show n ≤ nrem; omega, a3⟩
      · rw [if_neg d] at ez2
        have d' : Rk r p (n - 1) ≤ Rk r p 0 := Int.not_lt.mp fun z => d (decide_eq_true z)
        have eqs : ∀ k, 0 ≤ k → k < n → Rk r p k = Rk r p (n - 1) := fun k _ k2 => Int.le_antisymm (a3 k (n - 1) (by omega) (by omega)) (Int.le_trans d' (a3 0 k (by omega) k2))
        have e1 : ∀ k, Rk r (kas_rev p 0 n) k = Rk r p k := rk_rev_eq r (by omega) eqs
        have h' : Dn r (kas_rev p 0 n) (n + 1) := by
          intro i j hij hj
          rw [e1, e1]
          by_cases ej : j < n
          · rw [eqs i (by omega) (by omega), eqs j (by omega) ej]; exact Int.le_refl _
          · have : j = n := by omega
            subst this
            by_cases ei : i = j
            · rw [ei]; exact Int.le_refl _
            · rw [eqs i (by omega) (by omega)]; exact Int.le_of_lt lt
        obtain ⟨b1, b2, b3, b4⟩ := descPart_ok r (nrem := nrem) (by omega) (by rw [size_rev]; omega) (by omega) h' z ez2
        exact ⟨b1.trans (perm_rev _ _ _), b2, b3, b4⟩
    · rw [if_neg c2] at ez
      have e1 : n = 1 := by omega
      subst e1
      exact descPart_ok r (nrem := nrem) (by omega) (by omega) (by omega) (by
        intro i j hij hj
        by_cases ei : i = j
        · rw [ei]; exact Int.le_refl _
        · have z1 : i = 0 := by omega
          have z2 : j = 1 := by omega
          rw [z1, z2]; exact Int.le_of_lt lt) z ez
theorem place_ok {p : Array Nat} {k : Nat} : ∀ (f l q : Nat), l ≤ q → q ≤ k → q - l ≤ f → Up r p k → (∀ i, i < l → Rk r p i ≤ Rk r p k) → (∀ i, q ≤ i → i < k → Rk r p k ≤ Rk r p i) → ∀ z, z = run (ltR r) (kas_place p k f l q) →
    z ≤ k ∧ (∀ i, i < z → Rk r p i ≤ Rk r p k) ∧ ∀ i, z ≤ i → i < k → Rk r p k ≤ Rk r p i
  | 0, l, q, hl, hq, hf, hu, h1, h2, z, ez => by
    have e : l = q := by omega
    subst e
    subst ez
    exact ⟨hq, h1, h2⟩
  | f + 1, l, q, hl, hq, hf, hu, h1, h2, z, ez => by
    unfold kas_place at ez
    by_cases c : l ≥ q
    · rw [if_pos c] at ez
      have e : l = q := by omega
      subst e
      subst ez
      exact ⟨hq, h1, h2⟩
    · rw [if_neg c] at ez
      have ez2 : z = run (ltR r) (if ltR r (p.getD k 0) (p.getD ((l + q) / 2) 0) = true then kas_place p k f l ((l + q) / 2) else kas_place p k f ((l + q) / 2 + 1) q) := ez
      by_cases d : ltR r (p.getD k 0) (p.getD ((l + q) / 2) 0) = true
      · rw [if_pos d] at ez2
        have d' : Rk r p k < Rk r p ((l + q) / 2) := of_decide_eq_true d
        exact place_ok f l ((l + q) / 2) (by omega) (by omega) (by omega) hu h1 (fun i i1 i2 => Int.le_trans (Int.le_of_lt d') (hu _ i i1 i2)) z ez2
      · rw [if_neg d] at ez2
        have d' : Rk r p ((l + q) / 2) ≤ Rk r p k := Int.not_lt.mp fun z => d (decide_eq_true z)
        exact place_ok f ((l + q) / 2 + 1) q (by omega) hq (by omega) hu (fun i i1 => Int.le_trans (hu i ((l + q) / 2) (by omega) (by omega)) d') h2 z ez2
theorem rk_bubble {p : Array Nat} {src d : Nat} (hs : src < p.size) (hd : d ≤ src) (k : Nat) :
    Rk r (bubble p src d) k = if k = src - d then Rk r p src else if src - d < k ∧ k ≤ src then Rk r p (k - 1) else Rk r p k := by
  unfold Rk
  simp only [Array.getD_eq_getD_getElem?]
  rw [getElem?_bubble hs d hd k]
  split
  · rfl
  · split <;> rfl
theorem bin_ok : ∀ (f : Nat) (p : Array Nat) (k : Nat), k + f ≤ p.size → Up r p k → (run (ltR r) (kas_bin f p k)).Perm p ∧ Up r (run (ltR r) (kas_bin f p k)) (k + f)
  | 0, p, k, hs, h => ⟨.refl _, h⟩
  | f + 1, p, k, hs, h => by
    unfold kas_bin
    rw [run_bind]
    obtain ⟨l1, l2, l3⟩ := place_ok r (p := p) (k := k) k 0 k (by omega) (Nat.le_refl _) (by omega) h (fun i hi => absurd hi (Nat.not_lt_zero _)) (fun i i1 i2 => absurd i2 (by omega)) _ rfl
    generalize run (ltR r) (kas_place p k k 0 k) = l at *
    have hb : ∀ j, Rk r (bubble p k (k - l)) j = if j = l then Rk r p k else if l < j ∧ j ≤ k then Rk r p (j - 1) else Rk r p j := fun j => by
      rw [rk_bubble r (by omega) (by omega), show k - (k - l) = l by omega]
    have hu : Up r (bubble p k (k - l)) (k + 1) := by
      intro i j hij hj
      rw [hb, hb]
      by_cases e1 : i = l
      · rw [if_pos e1]
        by_cases e2 : j = l
        · rw [if_pos e2]; exact Int.le_refl _
        · rw [if_neg e2, if_pos (by omega)]; exact l3 _ (by omega) (by omega)
      · rw [if_neg e1]
        by_cases e2 : j = l
        · rw [if_pos e2, if_neg (by omega)]; exact l2 _ (by omega)
        · rw [if_neg e2]
          by_cases e3 : l < i ∧ i ≤ k
          · rw [if_pos e3, if_pos (by omega)]; exact h _ _ (by omega) (by omega)
          · rw [if_neg e3]
            by_cases e4 : l < j ∧ j ≤ k
            · rw [if_pos e4]; exact h _ _ (by omega) (by omega)
            · rw [if_neg e4]; exact h _ _ (by omega) (by omega)
    obtain ⟨a1, a2⟩ := bin_ok f (bubble p k (k - l)) (k + 1) (by rw [bubble_size]; omega) hu
    exact ⟨a1.trans (bubble_perm _ _ _), by rw [show k + (f + 1) = k + 1 + f by omega]; exact a2⟩
theorem sort_ok {n : Nat} (hn : 1 ≤ n) : (run (ltR r) (kas_sort n)).Perm (List.toArray (List.range n)) ∧ Up r (run (ltR r) (kas_sort n)) n := by
  unfold kas_sort
  rw [run_bind]
  have hsz : (List.toArray (List.range n)).size = n := by simp
  obtain ⟨a1, a2, a3, a4⟩ := count_ok r (p := List.toArray (List.range n)) hn (by omega) _ rfl
  generalize run (ltR r) (kas_count n (List.toArray (List.range n))) = y at *
  have hy : y.2.size = n := by rw [a1.size_eq, hsz]
  have hm : max y.1 1 = y.1 := Nat.max_eq_left a2
  by_cases c : y.1 < n
  · rw [if_pos c, hm]
    obtain ⟨b1, b2⟩ := bin_ok r (n - y.1) y.2 y.1 (by omega) a4
    exact ⟨b1.trans a1, by rw [show y.1 + (n - y.1) = n by omega] at b2; exact b2⟩
  · rw [if_neg c]
    have e : y.1 = n := by omega
    exact ⟨a1, by rw [e] at a4; exact a4⟩
end
end DV
namespace DV
open PySem PySem.W PyProof.Rows
def En {α : Type} (n : Nat) (G : α → Prop) : KasT α → Prop
  | .ret a => G a
  | .ask i j k => i < n ∧ j < n ∧ ∀ b, En n G (k b)
theorem En.bind {α β : Type} {n : Nat} {f : α → KasT β} {G : α → Prop} {G' : β → Prop} : ∀ {t : KasT α}, En n G t → (∀ a, G a → En n G' (f a)) → En n G' (t.bind f)
  | .ret a, g, h => h a g
  | .ask i j k, g, h => ⟨g.1, g.2.1, fun b => En.bind (g.2.2 b) h⟩
theorem En.ask {α : Type} {n i j : Nat} {k : Bool → KasT α} {G : α → Prop} (hi : i < n) (hj : j < n) (h : ∀ b, En n G (k b)) : En n G (.ask i j k) := ⟨hi, hj, h⟩
def Bd (n : Nat) (p : Array Nat) : Prop := ∀ i, p.getD i 0 < n
theorem Bd.of {n : Nat} {p q : Array Nat} (h : Bd n p) (hq : q.Perm p) (hn : 0 < n) : Bd n q := by
  intro i
  by_cases hi : i < q.size
  · have e : q.getD i 0 = q[i] := by simp [Array.getD, hi]
    rw [e]
    have m : q[i] ∈ p := hq.mem_iff.mp (Array.getElem_mem hi)
    obtain ⟨j, hj, ej⟩ := Array.mem_iff_getElem.mp m
    have := h j
    rw [show p.getD j 0 = p[j] by simp [Array.getD, hj], ej] at this
    exact this
  · rw [show q.getD i 0 = 0 by simp [Array.getD, hi]]
    exact hn
section
variable {n : Nat} (hn : 0 < n)
theorem en_asc {p : Array Nat} (h : Bd n p) : ∀ f k, En n (fun _ => True) (kas_asc p f k)
  | 0, _ => trivial
  | f + 1, k => .ask (h _) (h _) fun b => by
    cases b
    · rw [if_neg (by simp)]; exact en_asc h f (k + 1)
    · rw [if_pos rfl]; exact trivial
include hn in
theorem en_desc : ∀ f (p : Array Nat) k q, Bd n p → En n (fun z => Bd n z.1) (kas_desc f p k q)
  | 0, _, _, _, h => h
  | f + 1, p, k, q, h => .ask (h _) (h _) fun b => by
    cases b
    · rw [if_neg (by simp)]
      refine .ask (h _) (h _) fun d => ?_
      cases d
      · rw [if_neg (by simp)]; exact en_desc f p (k + 1) (q + 1) h
      · rw [if_pos rfl]; exact h
    · rw [if_pos rfl]
      split
      · exact en_desc f _ (k + 1) 0 (h.of (perm_rev _ _ _) hn)
      · exact en_desc f p (k + 1) 0 h
include hn in
theorem en_tail3 {k m : Nat} {p : Array Nat} (h : Bd n p) : En n (fun z => Bd n z.2) (kas_tail3 k m p) :=
  (en_asc (h.of (perm_rev p 0 k) hn) _ _).bind fun _ _ => h.of (perm_rev p 0 k) hn
include hn in
theorem en_descPart {k m : Nat} {p : Array Nat} (h : Bd n p) : En n (fun z => Bd n z.2) (kas_descPart k m p) := by
  refine (en_desc hn _ p _ 0 h).bind fun z hz => ?_
  split
  · exact en_tail3 hn (hz.of (perm_rev _ _ _) hn)
  · exact en_tail3 hn hz
include hn in
theorem en_count {m : Nat} {p : Array Nat} (h : Bd n p) : En n (fun z => Bd n z.2) (kas_count m p) := by
  refine (en_asc h _ _).bind fun k _ => ?_
  split
  · exact h
  · split
    · refine .ask (h _) (h _) fun b => ?_
      cases b
      · rw [if_neg (by simp)]; exact en_descPart hn (h.of (perm_rev _ _ _) hn)
      · rw [if_pos rfl]; exact h
    · exact en_descPart hn h
theorem en_place {p : Array Nat} {k : Nat} (h : Bd n p) : ∀ f l q, En n (fun _ => True) (kas_place p k f l q)
  | 0, _, _ => trivial
  | f + 1, l, q => by
    unfold kas_place
    split
    · exact trivial
    · refine .ask (h _) (h _) fun b => ?_
      cases b
      · rw [if_neg (by simp)]; exact en_place h f _ _
      · rw [if_pos rfl]; exact en_place h f _ _
include hn in
theorem en_bin : ∀ f (p : Array Nat) k, Bd n p → En n (fun z => Bd n z) (kas_bin f p k)
  | 0, _, _, h => h
  | f + 1, p, k, h => (en_place h _ _ _).bind fun l _ => en_bin f _ (k + 1) (h.of (bubble_perm _ _ _) hn)
include hn in
theorem en_sort : En n (fun _ => True) (kas_sort n) := by
  have h0 : Bd n (List.toArray (List.range n)) := fun i => by
    by_cases hi : i < n
    · simp [Array.getD, hi]
    · simp [Array.getD, hi, hn]
  refine (en_count hn h0).bind fun z hz => ?_
  split
  · have mono : ∀ {t : KasT (Array Nat)}, En n (fun z => Bd n z) t → En n (fun _ => True) t := fun {t} => by
      induction t with
      | ret a => exact fun _ => trivial
      | ask i j k ih => exact fun h => ⟨h.1, h.2.1, fun b => ih b (h.2.2 b)⟩
    exact mono (en_bin hn _ _ _ hz)
  · exact trivial
end
theorem wp_en {α : Type} {n : Nat} {cmp : Nat → Nat → (Bool → Shared → Prop) → Shared → Prop} {lt : Nat → Nat → Bool} {J : Shared → Prop} (h : ∀ i j, i < n → j < n → ∀ C s, J s → (∀ s', J s' → C (lt i j) s') → cmp i j C s) {G : α → Prop} {Q : α → Shared → Prop} :
    ∀ (t : KasT α) (s : Shared), En n G t → J s → (∀ s', J s' → Q (run lt t) s') → t.kasWp cmp Q s
  | .ret a, s, _, js, q => q s js
  | .ask i j k, s, e, js, q => h i j e.1 e.2.1 _ s js fun s' js' => wp_en h (k (lt i j)) s' (e.2.2 _) js' q
def rank (lt : Nat → Nat → Bool) (n i : Nat) : Int := ((List.range n).countP fun j => lt j i : Nat)
theorem countP_lt {α : Type} {l : List α} {p q : α → Bool} (h : ∀ x ∈ l, p x = true → q x = true) {a : α} (ha : a ∈ l) (hp : p a = false) (hq : q a = true) : l.countP p < l.countP q := by
  induction l with
  | nil => cases ha
  | cons b l ih =>
    have m := List.countP_mono_left (l := l) (p := p) (q := q) fun x hx => h x (List.mem_cons_of_mem _ hx)
    rcases List.mem_cons.mp ha with e | ha
    · subst e
      rw [List.countP_cons_of_neg (by simp [hp]), List.countP_cons_of_pos hq]
      omega
    · have i1 := ih (fun x hx => h x (List.mem_cons_of_mem _ hx)) ha
      by_cases hb : p b = true
      · rw [List.countP_cons_of_pos hb, List.countP_cons_of_pos (h b (List.mem_cons_self ..) hb)]
        omega
      · rw [List.countP_cons_of_neg hb]
        by_cases hb2 : q b = true
        · rw [List.countP_cons_of_pos hb2]; omega
        · rw [List.countP_cons_of_neg hb2]; exact i1
structure Ord (lt : Nat → Nat → Bool) (n : Nat) : Prop where
  irr : ∀ i, i < n → lt i i = false
  tr : ∀ i j k, i < n → j < n → k < n → lt i j = true → lt j k = true → lt i k = true
  neg : ∀ i j k, i < n → j < n → k < n → lt i k = true → lt i j = true ∨ lt j k = true
theorem rank_lt {lt : Nat → Nat → Bool} {n i j : Nat} (o : Ord lt n) (hi : i < n) (hj : j < n) : ltR (rank lt n) i j = lt i j := by
  unfold ltR rank
  cases e : lt i j with
  | true =>
    refine decide_eq_true (Int.ofNat_lt.mpr (countP_lt (fun x hx h => ?_) (List.mem_range.mpr hi) (o.irr i hi) e))
    exact o.tr x i j (List.mem_range.mp hx) hi hj h e
  | false =>
    refine decide_eq_false (Int.not_lt.mpr (Int.ofNat_le.mpr (List.countP_mono_left fun x hx h => ?_)))
    rcases o.neg x i j (List.mem_range.mp hx) hi hj h with z | z
    · exact z
    · rw [e] at z; cases z
theorem sort_wp {n : Nat} (hn : 1 ≤ n) {cmp : Nat → Nat → (Bool → Shared → Prop) → Shared → Prop} {lt : Nat → Nat → Bool} {J : Shared → Prop} (o : Ord lt n) (h : ∀ i j, i < n → j < n → ∀ C s, J s → (∀ s', J s' → C (lt i j) s') → cmp i j C s)
    {Q : Array Nat → Shared → Prop} {s : Shared} (js : J s) (hq : ∀ p : Array Nat, p.Perm (List.toArray (List.range n)) → (∀ i j, i ≤ j → j < n → lt (p.getD j 0) (p.getD i 0) = false) → ∀ s', J s' → Q p s') : (kas_sort n).kasWp cmp Q s := by
  refine wp_en (lt := ltR (rank lt n)) (J := J) (G := fun _ => True) (fun i j hi hj C s js hc => h i j hi hj C s js fun s' js' => by rw [← rank_lt o hi hj]; exact hc s' js') (kas_sort n) s (en_sort (by omega)) js fun s' js' => ?_
  obtain ⟨a1, a2⟩ := sort_ok (rank lt n) hn
  refine hq _ a1 (fun i j hij hj => ?_) s' js'
  have h0 : Bd n (List.toArray (List.range n)) := fun i => by
    by_cases hi : i < n
    · simp [Array.getD, hi]
    · simp [Array.getD, hi]; omega
  have b := h0.of a1 (by omega)
  rw [← rank_lt o (b j) (b i)]
  exact decide_eq_false (Int.not_lt.mpr (a2 i j hij hj))
end DV
namespace L2
open PySem PySem.Spec PySem.W PyProof.Rows
section
variable {X : Cx}
def rListD : List V → Hp → VK → Prop := fun xs H Q => ∃ (a : Addr) (kvs : List (Key × V)), xs = [.ref a] ∧ Rd H a (.dK kvs) ∧ ∀ p, H p = none → Q (.ref p) (upd H p (.lst (kvs.map fun kv => kV kv.1)))
theorem call_listD (hc : X.calm = true) : CallR X (.type "list") rListD := by
  intro pins s σ H xs us Q I r h
  obtain ⟨a, kvs, e1, d, q⟩ := h
  subst e1
  obtain ⟨u, e2, ru⟩ := vals1 r
  subst e2
  obtain rfl : u = Value.ref a := ru
  obtain ⟨z, hd, vs, rel, dd⟩ := dk_rd I.hok d
  obtain ⟨ep, da⟩ := dictAt_of dd
  refine kdl_call (kdl_dict (knd := mixKind X.prog X.w) (kvs := vs) (ep := ep) hd) (I.ok.hd hc) da (by rw [← rel.length]; exact z) fun h' tk acc c hk hg hacc => ?_
  have rv : Vals (kvs.map fun kv => kV kv.1) acc.toList := by
    have el : acc.toList.length = vs.length := by rw [Array.length_toList]; exact hacc.1
    have go : ∀ (ks : List (Key × V)) (us : List (Key × Value)) (as : List Value), KV ks us → as.length = us.length → (∀ (j : Nat) (v : Value), as[j]? = some v → ∃ k x, us[j]? = some (k, x) ∧ (mixKind X.prog X.w).is k v = true) → Vals (ks.map fun kv => kV kv.1) as := by
      intro ks us as kv
      induction kv generalizing as with
      | nil => intro l _; cases as with
        | nil => exact .nil
        | cons => cases l
      | cons p t ih =>
        intro l hh
        cases as with
        | nil => cases l
        | cons v as =>
          refine .cons ?_ (ih as (by simpa using l) fun j w e => hh (j + 1) w (by simpa using e))
          obtain ⟨k, x, e, m⟩ := hh 0 v rfl
          have e' := Option.some.inj e
          show RelV (kV _) v
          rw [p.1, e']
          exact kV_of m
    exact go kvs vs _ rel el fun j v e => hacc.2 j v (by rw [← Array.getElem?_toList]; exact e)
  refine ⟨.ref s.heap.objs.size, _, I.laid (a := s.heap.objs.size) (o := .lst (kvs.map fun kv => kV kv.1)) (t' := tk) hk (Nat.le_refl _) ⟨by rw [List.length_map]; exact z, acc.toList, c, rv, by simpa using hg⟩, rfl, q _ (I.hok.fresh (Nat.le_refl _))⟩
def rEqDD (neg : Bool) : R2 := fun x y H Q => ∃ (a b : Addr) (kvs : List (Key × V)), x = .ref a ∧ y = .ref b ∧ Rd H a (.dK kvs) ∧ Rd H b (.dK kvs) ∧ (∀ kv ∈ kvs, ∃ n, kv.2 = V.int n) ∧ Q (.bl (!neg)) H
theorem hits_of {P : Program} {w : World} {A : Around} {s : Shared} {kvs : List (Key × V)} {us vs : List (Key × Value)} (r2 : KV kvs vs) (nd : (kvs.map (·.1)).Nodup) (hi : ∀ kv ∈ kvs, ∃ n, kv.2 = V.int n) : 
    ∀ (ks : List (Key × V)) (us : List (Key × Value)), KV ks us → (∀ kv ∈ ks, kv ∈ kvs) → KeqHits A s vs us true := by
  intro ks us kv
  induction kv with
  | nil => intro _; exact .nil
  | @cons p q l1 l2 h t ih =>
    intro sub
    have hp := sub p (List.mem_cons_self ..)
    obtain ⟨n, en⟩ := hi p hp
    have e : valV kvs p.1 = some p.2 := by
      clear ih h t r2 hi sub
      induction kvs with
      | nil => cases hp
      | cons k kvs ih =>
        rcases List.mem_cons.mp hp with z | z
        · rw [z]; exact valV_pos rfl
        · rw [List.map_cons, List.nodup_cons] at nd
          rw [valV_neg (fun e => nd.1 (by rw [e]; exact List.mem_map_of_mem z))]
          exact ih nd.2 z
    have rv := r2.val p.1
    rw [e, en] at rv
    obtain ⟨q1, q2⟩ := q
    obtain ⟨e1, rq⟩ := h
    rw [en] at rq
    obtain ⟨t1, e2⟩ := rq
    cases ev : valueAt vs p.1 with
    | none => rw [ev] at rv; exact rv.elim
    | some y =>
      rw [ev] at rv
      obtain ⟨t2, e3⟩ := rv
      have := KeqHits.hit (A := A) (s := s) (kb := vs) (k := q1) (v := q2) (y := y) (r := l2) (e := true) (b := true) (by rw [← ev]; exact congrArg _ e1.symm) (fun P' w' E' Q' h' => by
        rw [show q2 = Value.int n t1 from e2, e3]
        exact wpAny_eqBool_int (by simpa using h')) (ih fun kv hk => sub kv (List.mem_cons_of_mem _ hk))
      exact this
theorem nodup_of {P : Program} {w : World} {H : Hp} {h : Heap} {a : Addr} {kvs : List (Key × V)} {vs : List (Key × Value)} (rel : KV kvs vs) (dd : h.DictOf (mixKind P w) a vs) : (kvs.map (·.1)).Nodup := by
  obtain ⟨_, _, _, _, _, _, _, _, hn⟩ := dd
  rw [rel.keys]
  exact hn
theorem op_eqDD (hu : X.A.units < cLine) : OpR X (compareOp .Eq) (rEqDD false) := by
  intro pins s σ H x y v u Q I rx ry h
  obtain ⟨a, b, kvs, e1, e2, da, db, hi, q⟩ := h
  subst e1 e2
  cases rx
  cases ry
  obtain ⟨z, ha, vs, r1, d1⟩ := dk_rd I.hok da
  obtain ⟨_, hb, us, r2, d2⟩ := dk_rd I.hok db
  have el : vs.length = us.length := by rw [← r1.length, r2.length]
  refine keq_eq ha hb d1 d2 hu (fun _ => hits_of (P := X.prog) (w := X.w) (us := us) r2 (nodup_of (H := H) r1 d1) hi kvs vs r1 fun _ h => h) ?_
  rw [el, beq_self_eq_true, Bool.and_true]
  exact ⟨.bl true, H, I, rfl, q⟩
theorem op_neDD (hu : X.A.units < cLine) : OpR X (compareOp .NotEq) (rEqDD true) := by
  intro pins s σ H x y v u Q I rx ry h
  obtain ⟨a, b, kvs, e1, e2, da, db, hi, q⟩ := h
  subst e1 e2
  cases rx
  cases ry
  obtain ⟨z, ha, vs, r1, d1⟩ := dk_rd I.hok da
  obtain ⟨_, hb, us, r2, d2⟩ := dk_rd I.hok db
  have el : vs.length = us.length := by rw [← r1.length, r2.length]
  refine keq_ne ha hb d1 d2 hu (fun _ => hits_of (P := X.prog) (w := X.w) (us := us) r2 (nodup_of (H := H) r1 d1) hi kvs vs r1 fun _ h => h) ?_
  rw [el, beq_self_eq_true, Bool.and_true]
  exact ⟨.bl false, H, I, rfl, q⟩
end
end L2
namespace DV
open PySem PySem.W PyProof.Rows
def lexLt (p q : Int × Str) : Bool := if p.1 = q.1 then (if p.2 = q.2 then false else decide (p.2.cps.toList < q.2.cps.toList)) else decide (p.1 < q.1)
section
variable {prog : Program} {w : World} {A : Around} {E : Value → Shared → Prop} {s : Shared}
theorem cmp_pair {x y : Addr} {ox oy : Obj} {a b : Int} {m n : Str} {t1 t2 u1 u2 : Tok} {c d : Nat} {Q : Bool → Shared → Prop} (hx : s.heap.get? x = some ox) (dx : ox.data = .seq #[.int a t1, .str m t2] c) (hy : s.heap.get? y = some oy) (dy : oy.data = .seq #[.int b u1, .str n u2] d)
    (h : Q (lexLt (a, m) (b, n)) s) : wpAny (model prog w) A (keyLt' (tuples' true) (.ref x) (.ref y)) Q E s := by
  refine kat_lt hx dx hy dy ?_
  show KatLex prog w A true (decide (2 < 2)) Q [(.int a t1, .int b u1), (.str m t2, .str n u2)] 0 s
  refine kat_cons (wpAny_eqBool_int ?_)
  unfold lexLt at h
  by_cases e : a = b
  · rw [show (a == b) = true by simp [e]]
    refine kat_yes (kat_cons (wpAny_eqBool_str ?_))
    dsimp only at h
    rw [if_pos e] at h
    by_cases e2 : m = n
    · rw [decide_eq_true e2]
      rw [if_pos e2] at h
      exact kat_yes (kat_nil h)
    · rw [decide_eq_false e2]
      rw [if_neg e2] at h
      exact kat_no (kat_one _ _ (lt_str h))
  · rw [show (a == b) = false by simp [e]]
    dsimp only at h
    rw [if_neg e] at h
    exact kat_no (oneLt_int h)
theorem tailS {a kS : Addr} {e1 e : Nat} {ks : List Value} {out : List Value} {st : SortSt} {P : PySem.Fin → Shared → Prop} (ha : s.heap.get? a = some (seqObj "list" #[] e1)) (hk : s.heap.get? kS = some (seqObj "list" (List.toArray ks) e)) (hne : kS ≠ a)
    (hout : (arrOf st).map (·.2) = List.toArray out) (hz : out.length < 64) (hkz : ks.length < 64) (hf : failedOf st = none)
    (h : ∀ h' c, (∀ b, b ≠ kS → b ≠ a → h'.get? b = s.heap.get? b) → h'.get? a = some (seqObj "list" (List.toArray out) c) → P (.done (.ret .none)) { s with heap := h' }) : wpAny (model prog w) A (ksk_tail a false e1 (.ref kS) st) P E s := by
  have s1 := Heap.SameBut.update s.heap kS (Obj.mapSeq fun _ => (#[] : Array Value))
  have na : (s.heap.update kS (Obj.mapSeq fun _ => (#[] : Array Value))).get? a = some (seqObj "list" #[] e1) := (s1.2 a (Ne.symm hne)).trans ha
  have s2 := Heap.SameBut.update (s.heap.update kS (Obj.mapSeq fun _ => (#[] : Array Value))) a (Obj.mapSeq fun _ => List.toArray out)
  obtain ⟨c2, hc2⟩ : ∃ c2, ((s.heap.update kS (Obj.mapSeq fun _ => (#[] : Array Value))).update a (Obj.mapSeq fun _ => List.toArray out)).get? a = some (seqObj "list" (List.toArray out) c2) := ⟨_, get?_update_seq na fun _ => List.toArray out⟩
  unfold ksk_tail
  try dsimp only
  rw [hout]
  refine wpAny_bind (listUpdate_at hk rfl ?_ (by rw [List.size_toArray, sizeLine_eq]; omega) (Nat.zero_le _))
  refine wpAny_bind (wpAny_letGo ?_)
  refine wpAny_bind (seqEpoch_at na rfl ?_)
  refine wpAny_bind (listUpdate_at na rfl ?_ (Nat.zero_le _) (by simp only [Bool.false_eq_true, if_false, List.size_toArray, sizeLine_eq]; omega))
  rw [hf]
  simp only [bne_self_eq_false, Bool.false_eq_true, if_false]
  exact wpAny_pure (h _ c2 (fun b b1 b2 => (s2.2 b b2).trans (s1.2 b b1)) hc2)
end
theorem lexOrd (ps : List (Int × Str)) (n : Nat) : Ord (fun i j => lexLt (ps.getD i (0, "")) (ps.getD j (0, ""))) n := by
  have irr : ∀ p, lexLt p p = false := fun p => by unfold lexLt; rw [if_pos rfl, if_pos rfl]
  have ltl : ∀ x y z : Str, x.cps.toList < y.cps.toList → y.cps.toList < z.cps.toList → x.cps.toList < z.cps.toList := fun x y z h1 h2 => List.lt_trans h1 h2
  have neq : ∀ x y : Str, x.cps.toList < y.cps.toList → x ≠ y := fun x y h e => by subst e; exact List.lt_irrefl _ h
  have tot : ∀ x y : Str, x ≠ y → x.cps.toList < y.cps.toList ∨ y.cps.toList < x.cps.toList := fun x y h => by
    by_cases c : x.cps.toList < y.cps.toList
    · exact .inl c
    · by_cases d : y.cps.toList < x.cps.toList
      · exact .inr d
      · exfalso
        apply h
        have e : x.cps.toList = y.cps.toList := List.le_antisymm (List.not_lt.mp d) (List.not_lt.mp c)
        have e2 : x.cps = y.cps := Array.toList_inj.mp e
        cases x; cases y; simp_all
  have sp : ∀ p q, lexLt p q = true ↔ (p.1 < q.1 ∨ p.1 = q.1 ∧ p.2.cps.toList < q.2.cps.toList) := fun p q => by
    unfold lexLt
    by_cases e : p.1 = q.1
    · rw [if_pos e]
      by_cases e2 : p.2 = q.2
      · rw [if_pos e2]
        constructor
        · intro h; cases h
        · rintro (h | ⟨_, h⟩)
          · omega
          · exact absurd e2 (neq _ _ h)
      · rw [if_neg e2]
        constructor
        · intro h; exact .inr ⟨e, of_decide_eq_true h⟩
        · rintro (h | ⟨_, h⟩)
          · omega
          · exact decide_eq_true h
    · rw [if_neg e]
      constructor
      · intro h; exact .inl (of_decide_eq_true h)
      · rintro (h | ⟨h, _⟩)
        · exact decide_eq_true h
        · exact absurd h e
  refine ⟨fun i _ => irr _, fun i j k _ _ _ h1 h2 => ?_, fun i j k _ _ _ h => ?_⟩
  · rw [sp] at *
    rcases h1 with h1 | ⟨h1, h1'⟩ <;> rcases h2 with h2 | ⟨h2, h2'⟩
    · exact .inl (by omega)
    · exact .inl (by omega)
    · exact .inl (by omega)
    · exact .inr ⟨by omega, ltl _ _ _ h1' h2'⟩
  · rw [sp] at h
    rw [sp, sp]
    generalize ps.getD i (0, "") = p at *
    generalize ps.getD j (0, "") = q at *
    generalize ps.getD k (0, "") = z at *
    by_cases c1 : p.1 < q.1
    · exact .inl (.inl c1)
    · by_cases c2 : q.1 < z.1
      · exact .inr (.inl c2)
      · rcases h with h | ⟨h, h'⟩
        · omega
        · have e1 : p.1 = q.1 := by omega
          have e2 : q.1 = z.1 := by omega
          by_cases c : p.2.cps.toList < q.2.cps.toList
          · exact .inl (.inr ⟨e1, c⟩)
          · refine .inr (.inr ⟨e2, ?_⟩)
            by_cases c3 : q.2 = p.2
            · rw [c3]; exact h'
            · rcases tot _ _ c3 with d | d
              · exact ltl _ _ _ d h'
              · exact absurd d c
end DV
namespace DV
open PySem PySem.W PyProof.Rows
def KeyAt (h : Heap) (k : Value) (p : Int × Str) : Prop := ∃ x ox t1 t2 c, k = .ref x ∧ h.get? x = some ox ∧ ox.cls = .type "tuple" ∧ ox.data = .seq #[.int p.1 t1, .str p.2 t2] c
def KeysAt (h : Heap) (ks : List Value) (ps : List (Int × Str)) : Prop := ks.length = ps.length ∧ ∀ (i : Nat) (k : Value) (p : Int × Str), ks[i]? = some k → ps[i]? = some p → KeyAt h k p
section
variable {prog : Program} {w : World} {A : Around} {E : Value → Shared → Prop} {s : Shared}
theorem katTups_of {h : Heap} : ∀ {ks : List Value} {ps : List (Int × Str)}, KeysAt h ks ps → ∃ fs, KatTups h ks fs ∧ fs.length = ks.length ∧ ∀ v ∈ fs, ∃ a t, v = Value.int a t
  | [], [], _ => ⟨[], trivial, rfl, fun v z => nomatch z⟩
  | [], _ :: _, hk => by cases hk.1
  | _ :: _, [], hk => by cases hk.1
  | k :: ks, p :: ps, hk => by
    obtain ⟨fs, h1, h2, h3⟩ := katTups_of (h := h) (ks := ks) (ps := ps) ⟨by simpa using hk.1, fun i k p e1 e2 => hk.2 (i + 1) k p (by simpa using e1) (by simpa using e2)⟩
    obtain ⟨x, ox, t1, t2, c, e, ho, hc, hd⟩ := hk.2 0 k p rfl rfl
    subst e
    refine ⟨.int p.1 t1 :: fs, KatTups.cons ho hc hd rfl h1, by simp [h2], fun v hv => ?_⟩
    rcases List.mem_cons.mp hv with z | z
    · exact ⟨p.1, t1, z⟩
    · exact h3 v z
theorem endS {a kS : Addr} {e1 e : Nat} {ks vs : List Value} {ps : List (Int × Str)} {P : PySem.Fin → Shared → Prop} (hl : ks.length = vs.length) (h64 : vs.length < 64) (ha : s.heap.get? a = some (seqObj "list" #[] e1))
    (hk : s.heap.get? kS = some (seqObj "list" (List.toArray ks) e)) (hne : kS ≠ a) (hks : KeysAt s.heap ks ps)
    (h : ∀ p : Array Nat, p.Perm (List.toArray (List.range vs.length)) → (∀ i j, i ≤ j → j < vs.length → lexLt (ps.getD (p.getD j 0) (0, "")) (ps.getD (p.getD i 0) (0, "")) = false) →
      ∀ h' c, (∀ b, b ≠ kS → b ≠ a → h'.get? b = s.heap.get? b) → h'.get? a = some (seqObj "list" (List.toArray (p.toList.map fun i => vs.getD i Value.none)) c) → P (.done (.ret .none)) { s with heap := h' }) :
    wpAny (model prog w) A (ksk_end a false vs.toArray e1 (.ref kS) (List.toArray ks)) P E s := by
  unfold ksk_end
  try dsimp only
  simp only [Bool.false_eq_true, if_false]
  by_cases h2 : vs.length < 2
  · have hn2 : vs.toArray.size < 2 := by rw [List.size_toArray]; exact h2
    rw [if_pos hn2, if_pos hn2]
    refine wpAny_bind (wpAny_pure ?_)
    refine wpAny_bind (wpAny_pure ?_)
    try dsimp only
    have hr : (List.toArray (List.range vs.length)).toList.map (fun i => vs.getD i Value.none) = vs := by
      apply List.ext_getElem?
      intro i
      by_cases hi : i < vs.length
      · simp [hi, List.getD]
      · simp [hi]
    have ho : (arrOf (SortSt.mk' general' ((List.toArray ks).zip vs.toArray) #[] 7 none)).map (·.2) = List.toArray vs := by
      show ((List.toArray ks).zip vs.toArray).map (·.2) = _
      apply Array.toList_inj.mp
      rw [Array.toList_map, ksk_zip]
      exact List.map_snd_zip (Nat.le_of_eq hl.symm)
    refine tailS ha hk hne ho h64 (by omega) rfl fun h' c hb hc => h (List.toArray (List.range vs.length)) (.refl _) (fun i j hij hj => ?_) h' c hb (by rw [hr]; exact hc)
    have e0 : i = j := by omega
    rw [e0]
    unfold lexLt
    rw [if_pos rfl, if_pos rfl]
  · have hn2 : ¬ vs.toArray.size < 2 := by rw [List.size_toArray]; exact h2
    rw [if_neg hn2, if_neg hn2]
    obtain ⟨fs, t1, t2, t3⟩ := katTups_of hks
    refine wpAny_bind (kat_kind (T := .type "int") t1 (by omega) (fun v hv => ?_) (by decide) ?_)
    · obtain ⟨z, t, rfl⟩ := t3 v hv
      exact .now
    rw [show (Value.type "int" != Value.type "tuple") = true by decide]
    refine wpAny_bind (wpAny_mono (kat_run (Q := fun st' s' => ∃ p : Array Nat, arrOf st' = p.map (kas_item ((List.toArray ks).zip (List.toArray vs))) ∧ failedOf st' = none ∧ s' = s ∧
      p.Perm (List.toArray (List.range vs.length)) ∧ ∀ i j, i ≤ j → j < vs.length → lexLt (ps.getD (p.getD j 0) (0, "")) (ps.getD (p.getD i 0) (0, "")) = false)
      (G := fun p s' => s' = s ∧ p.Perm (List.toArray (List.range vs.length)) ∧ ∀ i j, i ≤ j → j < vs.length → lexLt (ps.getD (p.getD j 0) (0, "")) (ps.getD (p.getD i 0) (0, "")) = false)
      hl (by omega) h64 (fun p' st' s' _ a2 a3 a4 => ⟨p', a2, a3, a4⟩) ?_) ?_ fun _ _ x => x)
    · refine sort_wp (J := fun s' => s' = s) (by omega) (lexOrd ps vs.length) (fun i j hi hj C s' js hc => ?_) rfl fun p hp hs s' js => ⟨js, hp, hs⟩
      subst js
      have li : i < ks.length := by omega
      have lj : j < ks.length := by omega
      have lps := hks.1
      obtain ⟨x, ox, u1, u2, c1, ex, hx, _, dx⟩ := hks.2 i ks[i] (ps[i]'(by omega)) (by simp [li]) (by simp [show i < ps.length by omega])
      obtain ⟨y, oy, w1, w2, c2, ey, hy, _, dy⟩ := hks.2 j ks[j] (ps[j]'(by omega)) (by simp [lj]) (by simp [show j < ps.length by omega])
      show wpAny _ _ (keyLt' (tuples' true) (ks.getD i Value.none) (ks.getD j Value.none)) _ _ _
      rw [show ks.getD i Value.none = .ref x by simp [List.getD, li, ex], show ks.getD j Value.none = .ref y by simp [List.getD, lj, ey]]
      refine cmp_pair hx dx hy dy ?_
      have := hc _ rfl
      simpa [List.getD, show i < ps.length by omega, show j < ps.length by omega] using this
    · rintro ⟨⟨⟩, st'⟩ s' ⟨p, har, hf, rfl, hp, hs⟩
      try dsimp only
      exact tailS ha hk hne (kat_snds hl har) (by rw [List.length_map, Array.length_toList, hp.size_eq]; simpa using h64) (by omega) hf fun h' c hb hc => h p hp hs h' c hb hc
end
end DV
namespace L2
open PySem PySem.Spec PySem.W PyProof.Rows
abbrev Cx.i2 (X : Cx) : Cx := X.i1.i1
def KeyF (X : Cx) (f : Value) (pins : List (Addr × Obj)) (σ : St) (H : Hp) (names : List Str) (kf : Str → Int) : Prop :=
  ∀ (more : List (Addr × Obj)) (s : Shared) (H1 : Hp) (x : Str) (t : Tok), x ∈ names → Inv X.i2 (pins ++ more) σ H1 s → Same H H1 →
    wpAny (model X.prog X.w) X.i2.A (call f [.str x t]) (fun v s' => ∃ p H2, v = .ref p ∧ Same H1 H2 ∧ H2 p = some (.tup [.int (kf x), .str x]) ∧ Inv X.i2 (pins ++ more) σ H2 s') (fun _ _ => False) s
def KeysH (H : Hp) (ks : List Value) (ps : List (Int × Str)) : Prop := ks.length = ps.length ∧ ∀ (i : Nat) (k : Value) (p : Int × Str), ks[i]? = some k → ps[i]? = some p → ∃ x, k = .ref x ∧ H x = some (.tup [.int p.1, .str p.2])
theorem KeysH.keep {H H' : Hp} {ks : List Value} {ps : List (Int × Str)} (h : KeysH H ks ps) (s : Same H H') : KeysH H' ks ps := ⟨h.1, fun i k p e1 e2 => by
  obtain ⟨x, ex, hx⟩ := h.2 i k p e1 e2
  exact ⟨x, ex, s _ _ hx⟩⟩
theorem KeysH.snoc {H : Hp} {ks : List Value} {ps : List (Int × Str)} (h : KeysH H ks ps) {p : Int × Str} {x : Addr} (hx : H x = some (.tup [.int p.1, .str p.2])) : KeysH H (ks ++ [.ref x]) (ps ++ [p]) := by
  refine ⟨by simp [h.1], fun i k q e1 e2 => ?_⟩
  by_cases hi : i < ks.length
  · rw [List.getElem?_append_left hi] at e1
    rw [List.getElem?_append_left (by rw [← h.1]; exact hi)] at e2
    exact h.2 i k q e1 e2
  · rw [List.getElem?_append_right (by omega)] at e1
    rw [List.getElem?_append_right (by rw [← h.1]; omega)] at e2
    have hz : i - ks.length = 0 := by
      cases z : i - ks.length with
      | zero => rfl
      | succ m => rw [z] at e1; simp at e1
    rw [hz] at e1
    rw [← h.1, hz] at e2
    cases e1
    cases e2
    exact ⟨x, rfl, hx⟩
section
variable {X : Cx} {pins : List (Addr × Obj)} {σ : St} {E : Value → Shared → Prop}
theorem KeysH.at {H : Hp} {s : Shared} {ks : List Value} {ps : List (Int × Str)} (I : Inv X pins σ H s) (h : KeysH H ks ps) : DV.KeysAt s.heap ks ps := ⟨h.1, fun i k p e1 e2 => by
  obtain ⟨x, ex, hx⟩ := h.2 i k p e1 e2
  obtain ⟨_, its, rv, o, ho, hc, n, hd⟩ := I.hok x _ hx
  obtain ⟨u, v, e3, ru, rv'⟩ := vals2 rv
  obtain ⟨t1, e4⟩ := ru
  obtain ⟨t2, e5⟩ := rv'
  exact ⟨x, o, t1, t2, n, ex, ho, hc, by rw [hd, e3, e4, e5]⟩⟩
theorem loopS {f : Value} {H : Hp} {names : List Str} {kf : Str → Int} {a kS : Addr} {e1 : Nat} {body : Value → PUnit → Sem (ForInStep PUnit)} (hK : KeyF X f pins σ H names kf) (hne : kS ≠ a)
    (hb : ∀ x (s : Shared) (R : Value → Shared → Prop), wpAny (model X.prog X.w) X.i2.A (call f [x]) (fun k s' => ∃ ks e, s'.heap.get? kS = some (seqObj "list" (List.toArray ks) e) ∧ ks.length < 64 ∧
        ∀ h' c, Heap.SameBut kS s'.heap h' → h'.get? kS = some (seqObj "list" (List.toArray (ks ++ [k])) c) → R k { s' with heap := h' }) (fun _ _ => False) s →
      wpAny (model X.prog X.w) X.i2.A (body x ⟨⟩) (fun r s' => r = .yield ⟨⟩ ∧ ∃ k, R k s') E s) :
    ∀ (nr : List Str) (r ks : List Value) (ps : List (Int × Str)) (s : Shared) (H1 : Hp) (e : Nat), Vals (nr.map V.str) r → (∀ x ∈ nr, x ∈ names) → Inv X pins σ H1 s → Same H H1 → (∀ b ∈ [a, kS], FpOk X pins H1 b) →
      s.heap.get? a = some (seqObj "list" #[] e1) → s.heap.get? kS = some (seqObj "list" (List.toArray ks) e) → KeysH H1 ks ps → ks.length + r.length < 64 →
      wpAny (model X.prog X.w) X.i2.A (forIn r PUnit.unit body) (fun _ s' => ∃ ks' H2 e', Inv X pins σ H2 s' ∧ Same H H2 ∧ (∀ b ∈ [a, kS], FpOk X pins H2 b) ∧ s'.heap.get? a = some (seqObj "list" #[] e1) ∧
        s'.heap.get? kS = some (seqObj "list" (List.toArray ks') e') ∧ ks'.length = ks.length + r.length ∧ KeysH H2 ks' (ps ++ nr.map fun x => (kf x, x))) E s
  | [], r, ks, ps, s, H1, e, rv, _, I, sm, fp, ha, hk, kh, hl => by
    cases rv
    rw [List.forIn_nil]
    exact wpAny_pure ⟨ks, H1, e, I, sm, fp, ha, hk, by simp, by simpa using kh⟩
  | x :: nr, r, ks, ps, s, H1, e, rv, sub, I, sm, fp, ha, hk, kh, hl => by
    obtain ⟨u, r', er, ru, rv'⟩ : ∃ u r', r = u :: r' ∧ RelV (V.str x) u ∧ Vals (nr.map V.str) r' := by
      cases rv with
      | cons a b => exact ⟨_, _, rfl, a, b⟩
    subst er
    obtain ⟨t, eu⟩ := ru
    subst eu
    rw [List.forIn_cons]
    have ob : ∀ b ∈ [a, kS], ∃ o, s.heap.get? b = some o ∧ ∀ v, o.data ≠ .cell v := fun b hb => by
      simp only [List.mem_cons, List.not_mem_nil, or_false] at hb
      rcases hb with q | q <;> subst q
      · exact ⟨_, ha, fun v q => by cases q⟩
      · exact ⟨_, hk, fun v q => by cases q⟩
    have Ip := I.pinned fp ob
    refine wpAny_bind (wpAny_mono (hb _ s (fun k s' => ∃ ks' ps' H2 e', k = k ∧ Inv X pins σ H2 s' ∧ Same H H2 ∧ (∀ b ∈ [a, kS], FpOk X pins H2 b) ∧ s'.heap.get? a = some (seqObj "list" #[] e1) ∧ s'.heap.get? kS = some (seqObj "list" (List.toArray ks') e') ∧
        ks'.length = ks.length + 1 ∧ ps' = ps ++ [(kf x, x)] ∧ KeysH H2 ks' ps')
      (wpAny_mono (hK (pinsAt [a, kS] s.heap) s H1 x t (sub x (List.mem_cons_self ..)) Ip.i1.i1 sm) (fun v s2 hq => ?_) fun _ _ z => z)) (fun q s' hq => ?_) fun _ _ z => z)
    · obtain ⟨p, H2, ev, sm2, hp, I2⟩ := hq
      subst ev
      have I3' : Inv X (pins ++ pinsAt [a, kS] s.heap) σ H2 s2 := (I2.o1 Ip.i1.ok.hd Ip.i1.ok.frames).o1 Ip.ok.hd Ip.ok.frames
      have pin : ∀ b o, b ∈ [a, kS] → s.heap.get? b = some o → s2.heap.get? b = some o ∧ H2 b = none := fun b o hb e => by
        have z := I3'.pin (b, o) (List.mem_append_right _ (List.mem_append_right _ (mem_pinsAt hb e)))
        exact ⟨z.1, z.2.1⟩
      have fp2 : ∀ b ∈ [a, kS], FpOk X pins H2 b := fun b hb => by
        obtain ⟨o, e, _⟩ := ob b hb
        exact ⟨(pin b o hb e).2, (fp b hb).2⟩
      have I3 : Inv X pins σ H2 s2 := I3'.unpinned
      refine ⟨ks, e, (pin kS _ (by simp) hk).1, by omega, fun h' c sb hk' => ⟨ks ++ [.ref p], _, H2, c, rfl, ?_, sm.trans sm2, fp2, (sb.2 a (Ne.symm hne)).trans (pin a _ (by simp) ha).1, hk', by simp, rfl, (kh.keep sm2).snoc hp⟩⟩
      exact I3.turnedL (t' := s2.toks) (ch := [a, kS]) (fun b o hb e => (sb.2 b (fun q => hb (by simp [q]))).trans e) fp2
    · obtain ⟨rfl, k, ks', ps', H2, e', _, I2, sm2, fp2, ha2, hk2, l2, ep, kh2⟩ := hq
      subst ep
      show wpAny (model X.prog X.w) X.i2.A (forIn r' PUnit.unit body) _ E s'
      refine wpAny_mono (loopS hK hne hb nr r' ks' _ s' H2 e' rv' (fun y hy => sub y (List.mem_cons_of_mem _ hy)) I2 sm2 fp2 ha2 hk2 kh2 (by rw [List.length_cons] at hl; omega)) (fun _ s3 hq => ?_) fun _ _ z => z
      obtain ⟨ks3, H3, e3, b1, b2, b3, b4, b5, b6, b7⟩ := hq
      refine ⟨ks3, H3, e3, b1, b2, b3, b4, b5, by rw [List.length_cons]; omega, ?_⟩
      rw [List.map_cons]
      rw [List.append_assoc] at b7
      exact b7
end
end L2
namespace L2
open PySem PySem.Spec PySem.W PyProof.Rows
section
variable {X : Cx} {pins : List (Addr × Obj)} {σ : St} {H : Hp} {s : Shared} {h' : Heap}
theorem Inv.adopt {t' : Nat} {ch : List Addr} {a : Addr} {o : HO} (I : Inv X pins σ H s) (k : ∀ b u, b ∉ ch → s.heap.get? b = some u → h'.get? b = some u) (hch : ∀ b ∈ ch, FpOk X pins H b) (ha : a ∈ ch) (new : ObjOk X.prog X.w (upd H a o) h' a o) : Inv X pins σ (upd H a o) { s with heap := h', toks := t' } := by
  have hn : H a = none := (hch a ha).1
  have nch : ∀ b u, H b = some u → b ∉ ch := fun b u e z => by rw [(hch b z).1] at e; cases e
  refine I.step (g' := s.gens) (d' := s.drawn) (ch := ch) (fun b hb => ⟨(hch b hb).2.2.2.1, (hch b hb).2.1, (hch b hb).2.2.2.2.1, (hch b hb).2.2.2.2.2⟩) (fun b o _ _ hc e _ => k b o hc e) (fun b o _ _ hc e _ => ⟨o.slots, k b o hc e⟩)
    (fun b u hc e n => by rw [upd_ne (fun z => hc (by rw [z]; exact ha))]; exact n) (fun b o hc e => ⟨o, k b o hc e⟩) (fun b xs e => by rw [upd_ne (ne_of_none e hn)]; exact e) (fun b u xs e => by rw [upd_ne (ne_of_none e hn)]; exact e)
    (fun b ps e => ⟨#[], by rw [upd_ne (ne_of_none e hn), e]; simp⟩) (fun m hm => ?_) (fun b u e => ?_) I.bare
  · obtain ⟨ob, es, ep, ho, r⟩ := hm
    exact ⟨ob, es, ep, k _ ob (fun z => (hch _ z).2.1 rfl) ho, r⟩
  · by_cases hb : b = a
    · subst hb
      rw [upd_same] at e
      cases e
      exact new
    · rw [upd_ne hb] at e
      refine (I.hok b u e).stay (fun c v hc q => k c v ?_ q) (fun c q => by rw [upd_ne (ne_of_none q hn)]; exact q) fun c xs q => by rw [upd_ne (ne_of_none q hn)]; exact q
      rcases hc with z | z
      · rw [z]
        exact nch b u e
      · exact nch c _ z
end
theorem vals_str {P : List Str} : ∀ {us : List Value}, Vals (P.map V.str) us → ∀ (p : List Nat), Vals ((p.map fun i => P.getD i "").map V.str) (p.map fun i => us.getD i Value.none) ∨ ∃ i ∈ p, P.length ≤ i := by
  intro us r p
  induction p with
  | nil => exact .inl .nil
  | cons i p ih =>
    rcases ih with ih | ⟨j, hj, l⟩
    · by_cases hi : i < P.length
      · refine .inl (.cons ?_ ih)
        obtain ⟨u, hu, ru⟩ := r.get (i := i) (x := V.str P[i]) (by simp [hi])
        show RelV (V.str (P.getD i "")) (us.getD i Value.none)
        rw [show us.getD i Value.none = u by simp [List.getD, hu], show P.getD i "" = P[i] by simp [List.getD, hi]]
        exact ru
      · exact .inr ⟨i, List.mem_cons_self .., by omega⟩
    · exact .inr ⟨j, List.mem_cons_of_mem _ hj, l⟩
theorem map_range {names : List Str} : (List.range names.length).map (fun i => names.getD i "") = names := by
  apply List.ext_getElem?
  intro i
  by_cases hi : i < names.length
  · simp [hi, List.getD]
  · simp [hi]
section
variable {X : Cx} {pins : List (Addr × Obj)} {σ : St} {E : Value → Shared → Prop}
theorem call_sortK {f : Addr} {names : List Str} {kf : Str → Int} {l : Addr} {H : Hp} {s : Shared} {Q : VK} (I : Inv X pins σ H s) (hS : SqL X.K H l (names.map V.str)) (h64 : names.length < 64) (hK : KeyF X (.ref f) pins σ H names kf)
    (q : ∀ (D : Addr) (out : List Str) (H2 : Hp), H2 D = none → Same H H2 → out.Perm names → out.Pairwise (fun x y => DV.lexLt (kf y, y) (kf x, x) = false) → Q (.ref D) (upd H2 D (.lst (out.map V.str)))) :
    wpAny (model X.prog X.w) X.A (call (.builtin "sorted") [.ref l] [(Str.ofString "key", .ref f)]) (EP X pins σ Q) E s := by
  obtain ⟨vs, rv, pl, hz⟩ := I.list hS
  have hlen : names.length = vs.length := by rw [← rv.length, List.length_map]
  have hl := pl.isList
  refine call_function_entry_kw kind_sorted plain_sorted entry_sorted (ksk_s1 _ _) ?_
  unfold Builtin.«sorted»
  refine wpAny_bind (m := checkCount "sorted" 1 1 _) (wpAny_pure ?_)
  refine wpAny_bind (collect_list hl ?_ (by rw [sizeLine_eq]; omega))
  refine wpAny_bind (wpAny_newList ?_ (by rw [sizeLine_eq]; omega))
  have hsz : ((s.heap.push (seqObj "list" #[] 0)).update s.heap.objs.size (Obj.mapSeq (· ++ vs.toArray))).objs.size = s.heap.objs.size + 1 := by
    rw [Heap.size_update, size_push']
  have hoL : (((s.heap.push (seqObj "list" #[] 0)).update s.heap.objs.size (Obj.mapSeq (· ++ vs.toArray))).push (seqObj "list" vs.toArray 0)).get? (s.heap.objs.size + 1) = some (seqObj "list" vs.toArray 0) := by
    rw [← hsz]; exact Heap.get?_push_size _ rfl
  have keep : ∀ b o, s.heap.get? b = some o → (((s.heap.push (seqObj "list" #[] 0)).update s.heap.objs.size (Obj.mapSeq (· ++ vs.toArray))).push (seqObj "list" vs.toArray 0)).get? b = some o := fun b o q => by
    have hlt : b < s.heap.objs.size := Heap.lt_size q
    rw [Heap.get?_push_ne _ _ _ (by rw [hsz]; exact Nat.ne_of_lt (Nat.lt_succ_of_lt hlt)), Heap.get?_update_ne _ _ _ _ (Nat.ne_of_lt hlt), Heap.get?_push_ne _ _ _ (Nat.ne_of_lt hlt)]
    exact q
  have hsz2 : (((s.heap.push (seqObj "list" #[] 0)).update s.heap.objs.size (Obj.mapSeq (· ++ vs.toArray))).push (seqObj "list" vs.toArray 0)).objs.size = s.heap.objs.size + 2 := by rw [size_push', hsz]
  show wpAny _ _ _ _ _ { s with heap := ((s.heap.push (seqObj "list" #[] 0)).update s.heap.objs.size (Obj.mapSeq (· ++ vs.toArray))).push (seqObj "list" vs.toArray 0) }
  rw [hsz]
  generalize ((s.heap.push (seqObj "list" #[] 0)).update s.heap.objs.size (Obj.mapSeq (· ++ vs.toArray))).push (seqObj "list" vs.toArray 0) = g1 at *
  refine wpAny_bind (wpAny_holding (wpAny_call_entry_kw slot_list_sort ⟨_, hoL, rfl⟩ entry_list_sort ?body (ksk_l1 _ _)))
  case body =>
    show wpAny (model X.prog X.w) X.A.in1.in1 (Builtin.«list.sort» ⟨[.ref (s.heap.objs.size + 1)], [(Str.ofString "key", .ref f)]⟩) _ _ _
    rw [ksk_t1]
    have s1 := Heap.SameBut.update g1 (s.heap.objs.size + 1) (Obj.mapSeq fun _ => (#[] : Array Value))
    obtain ⟨e1, ho1⟩ : ∃ e1, (g1.update (s.heap.objs.size + 1) (Obj.mapSeq fun _ => (#[] : Array Value))).get? (s.heap.objs.size + 1) = some (seqObj "list" #[] e1) := ⟨_, get?_update_seq hoL fun _ => #[]⟩
    have hkS : ((g1.update (s.heap.objs.size + 1) (Obj.mapSeq fun _ => (#[] : Array Value))).push (seqObj "tuple" vs.toArray 0)).objs.size = s.heap.objs.size + 3 := by rw [size_push', Heap.size_update, hsz2]
    unfold ksk_tree
    refine wpAny_bind (listItems_at hoL rfl ?_)
    refine wpAny_bind (listUpdate_at hoL rfl ?_ (by rw [List.size_toArray, sizeLine_eq]; omega) (Nat.zero_le _))
    refine wpAny_bind (seqEpoch_at ho1 rfl ?_)
    refine wpAny_bind (wpAny_newTuple ?_ (by show vs.length ≤ _; rw [sizeLine_eq]; omega))
    refine wpAny_bind (wpAny_newList ?_ (Nat.zero_le _))
    refine wpAny_holding ?_
    have keep4 : ∀ b o, s.heap.get? b = some o → (((g1.update (s.heap.objs.size + 1) (Obj.mapSeq fun _ => (#[] : Array Value))).push (seqObj "tuple" vs.toArray 0)).push (seqObj "list" #[] 0)).get? b = some o := fun b o e =>
      Heap.get?_push_of_some _ (Heap.get?_push_of_some _ ((s1.2 b (Nat.ne_of_lt (Nat.lt_succ_of_lt (Heap.lt_size e)))).trans (keep b o e)))
    have ha4 := Heap.get?_push_of_some (seqObj "list" #[] 0) (Heap.get?_push_of_some (seqObj "tuple" vs.toArray 0) ho1)
    have hk4 : (((g1.update (s.heap.objs.size + 1) (Obj.mapSeq fun _ => (#[] : Array Value))).push (seqObj "tuple" vs.toArray 0)).push (seqObj "list" #[] 0)).get? (s.heap.objs.size + 3) = some (seqObj "list" #[] 0) := by
      rw [← hkS]; exact Heap.get?_push_size _ rfl
    show wpAny _ _ (ksk_rest (s.heap.objs.size + 1) (.ref f) false vs.toArray e1 (.ref ((g1.update (s.heap.objs.size + 1) (Obj.mapSeq fun _ => (#[] : Array Value))).push (seqObj "tuple" vs.toArray 0)).objs.size)) _ _ { s with heap := ((g1.update (s.heap.objs.size + 1) (Obj.mapSeq fun _ => (#[] : Array Value))).push (seqObj "tuple" vs.toArray 0)).push (seqObj "list" #[] 0) }
    rw [hkS]
    generalize ((g1.update (s.heap.objs.size + 1) (Obj.mapSeq fun _ => (#[] : Array Value))).push (seqObj "tuple" vs.toArray 0)).push (seqObj "list" #[] 0) = g4 at *
    have I4 : Inv X pins σ H { s with heap := g4 } := I.kept (t' := s.toks) keep4
    have fp : ∀ b ∈ [s.heap.objs.size + 1, s.heap.objs.size + 3], FpOk X pins H b := fun b hb => by
      have ge : s.heap.objs.size ≤ b := by
        simp only [List.mem_cons, List.not_mem_nil, or_false] at hb
        rcases hb with q | q <;> rw [q] <;> omega
      exact I.fpOk ge (I.hok.fresh ge)
    have hne : s.heap.objs.size + 3 ≠ s.heap.objs.size + 1 := by omega
    generalize s.heap.objs.size + 1 = D at *
    generalize s.heap.objs.size + 3 = kS at *
    unfold ksk_rest
    refine wpAny_bind (wpAny_rule ?_)
    first
      | rw [List.forIn_toArray]
      | (rw [← Array.forIn_toList]; simp only [List.toList_toArray])
      | rw [← Array.forIn_toList]
    refine wpAny_bind (wpAny_mono (loopS (a := D) (kS := kS) (e1 := e1) hK hne (fun x s' R hx => ?_) names vs [] [] _ H 0 rv (fun _ h => h) I4 (Same.refl H) fp ha4 hk4 ⟨rfl, fun i k p e => by simp at e⟩ (by simp; omega)) (fun _ s' hd => ?_) fun _ _ x => x)
    · refine wpAny_bind (wpAny_attempt (wpAny_mono hx (fun k s'' hk => ?_) fun _ _ hF => hF.elim))
      obtain ⟨ks, e, hk1, hkl, c⟩ := hk
      have s1 := Heap.SameBut.update s''.heap kS (Obj.mapSeq (·.push k))
      have ea : (List.toArray ks).push k = List.toArray (ks ++ [k]) := by simp
      obtain ⟨c2, hc2⟩ : ∃ c2, (s''.heap.update kS (Obj.mapSeq (·.push k))).get? kS = some (seqObj "list" (List.toArray (ks ++ [k])) c2) := ⟨_, by rw [← ea]; exact get?_update_seq hk1 (·.push k)⟩
      try dsimp only
      refine wpAny_bind (listUpdate_at hk1 rfl ?_ (by rw [List.size_toArray, sizeLine_eq]; omega) (Nat.le_trans (Nat.le_of_eq (Array.size_push ..)) (by rw [List.size_toArray, sizeLine_eq]; omega)))
      exact wpAny_pure ⟨rfl, k, c _ c2 s1 hc2⟩
    · obtain ⟨ks, H2, e', I2, sm, fp2, ha2, hk2, hl2, kh⟩ := hd
      try dsimp only
      refine wpAny_bind (listItems_at hk2 rfl ?_)
      rw [List.nil_append] at kh
      refine DV.endS (by simpa using hl2) (by omega) ha2 hk2 hne (kh.at I2) fun p hp hs h5 c5 hb5 hc5 => ⟨_, rfl, wpAny_pure ⟨_, rfl, ?_⟩⟩
      have hpl : p.toList.Perm (List.range vs.length) := by simpa using hp.toList
      have hin : ∀ i ∈ p.toList, i < vs.length := fun i hi => List.mem_range.mp (hpl.mem_iff.mp hi)
      have rv5 := (vals_str rv p.toList).resolve_right fun ⟨i, hi, l⟩ => by have := hin i hi; omega
      refine ⟨.ref D, _, I2.adopt (t' := s'.toks) (ch := [D, kS]) (a := D) (o := .lst ((p.toList.map fun i => names.getD i "").map V.str)) (fun b u hb e => (hb5 b (fun z => hb (by simp [z])) (fun z => hb (by simp [z]))).trans e) fp2 (by simp) ⟨?_, _, c5, rv5, hc5⟩, rfl, q D _ H2 (fp2 D (by simp)).1 sm ?_ ?_⟩
      · rw [List.length_map, List.length_map, hpl.length_eq, List.length_range, sizeLine_eq]; omega
      · have := hpl.map fun i => names.getD i ""
        rw [← hlen, map_range] at this
        exact this
      · rw [List.pairwise_map, List.pairwise_iff_getElem]
        intro i j hi hj hij
        have hj2 : j < p.size := by simpa using hj
        have hi2 : i < p.size := by simpa using hi
        have hps : p.size = vs.length := by rw [hp.size_eq]; simp
        have := hs i j (by omega) (by omega)
        have ei : p.getD i 0 = p.toList[i] := by simp [Array.getD, hi2]
        have ej : p.getD j 0 = p.toList[j] := by simp [Array.getD, hj2]
        rw [ei, ej] at this
        have li := hin _ (List.getElem_mem hi)
        have lj := hin _ (List.getElem_mem hj)
        have f : ∀ k, k < vs.length → (names.map fun x => (kf x, x)).getD k (0, "") = (kf (names.getD k ""), names.getD k "") := fun k hk => by
          have : k < names.length := by omega
          simp [List.getD, this]
        rw [f _ li, f _ lj] at this
        exact this
end
end L2
namespace L2
open PySem PySem.Spec PySem.W PyProof.Rows
section
variable (p1 p2 p3 p4 p5 p6 p7 : Pos) (k0 : Nat)
abbrev lamArgs : Arguments := { posonlyargs := [], args := [{ arg := "name", annotation := none, pos := p1 }], vararg := none, kwonlyargs := [], kw_defaults := [], kwarg := none, defaults := [] }
abbrev lamBody : Expr := .Tuple [.UnaryOp .USub (.Subscript (.Name "rests" p2) (.Name "name" p3) p4) p5, .Name "name" p6] k0 p7
end
theorem lam_call {X : Cx} {pins : List (Addr × Obj)} {σ : St} {H : Hp} {s : Shared} {f c c' d : Addr} {qual : Str} {scope : Scope} {pm ctv : Value} {p1 p2 p3 p4 p5 p6 p7 : Pos} {k0 : Nat} {x : Str} {t : Tok} {kvs : List (Key × V)} {n : Int}
    (I : Inv X pins σ H s) (hroom : X.A.depth < recursionLimit) (hf : s.heap.get? f = some (kla_obj "<lambda>" qual (lamArgs p1) (lamBody p2 p3 p4 p5 p6 p7 k0) scope [(("rests" : Str), c)] pm c' ctv))
    (hsc : scope.names = [(("name" : Str), NameKind.local), (("rests" : Str), NameKind.free)]) (hco : scope.isCoroutine = false) (hgen : scope.isGenerator = false) (hkd : scope.kind = .function)
    (hcd : s.heap.CodeRec (.ref c') qual) (hcell : s.heap.IsCell c (some (.ref d))) (hd : Rd H d (.dK kvs)) (hv : valV kvs (.inr x) = some (.int n)) :
    wpAny (model X.prog X.w) X.A (call (.ref f) [.str x t]) (fun v s' => ∃ p H2, v = .ref p ∧ H p = none ∧ H2 = upd H p (.tup [.int (-n), .str x]) ∧ Inv X pins σ H2 s') (fun _ _ => False) s := by
  refine wpAny_call ?_
  refine kla_callFunE hroom hf rfl hco hgen rfl hcd ?_
  rw [show bindArgs (kla_fn "<lambda>" qual (lamArgs p1) (lamBody p2 p3 p4 p5 p6 p7 k0) scope [(("rests" : Str), c)] pm (.ref c') ctv) ⟨[.str x t], []⟩ = pure [(("name" : Str), Value.str x t)] from rfl]
  refine wpAny_pure (wpAny_newFunctionEnv (by rw [hsc]; decide) (by intro y hy; rw [hsc]; rw [List.mem_singleton.mp hy]; show List.lookup (("name" : Str)) _ = _; decide) (fun h₁ hns hsb => ⟨I.nolimit.fresh _ hsb, ?_⟩) hkd)
  show codeAny _ _ (.expr (lamBody p2 p3 p4 p5 p6 p7 k0) (envX qual scope s.heap.objs.size f (.ref c') [(("rests" : Str), c)])) _ _
  have hk₁ : ∀ b o, s.heap.get? b = some o → h₁.get? b = some o := fun b o e => hsb.extBut b o (Nat.ne_of_lt (Heap.lt_size e)) (Heap.get?_push_of_some _ e)
  have I1 : Inv X pins σ H { s with heap := h₁, toks := s.toks + [(("name" : Str), Value.str x t)].length } := I.kept hk₁
  refine kla_codeExpr ?_
  have kn : (envX qual scope s.heap.objs.size f (.ref c') [(("rests" : Str), c)]).kindOf "name" = some .local := by
    show scope.names.lookup (("name" : Str)) = some NameKind.local
    rw [hsc]; rfl
  have kr : (envX qual scope s.heap.objs.size f (.ref c') [(("rests" : Str), c)]).kindOf "rests" = some .free := by
    show scope.names.lookup (("rests" : Str)) = some NameKind.free
    rw [hsc]; rfl
  have hnm : ∀ (s' : Shared) (Q : Value → Shared → Prop) (E : Value → Shared → Prop) (A : Around) (p : Pos), s'.heap.Ns s.heap.objs.size (fun y => ([("name", Value.str x t)] : List (Str × Value)).reverse.lookup y) → Q (.str x t) s' →
      wpAny (model X.prog X.w) A (eval (.Name "name" p) (envX qual scope s.heap.objs.size f (.ref c') [(("rests" : Str), c)])) Q E s' := fun s' Q E A p hn hq =>
    wpAny_Name (wpAny_loadName_local hkd kn hn rfl hq) (by decide)
  refine wpAny_Tuple_spliced ?_
  show wpAny _ _ (spliced [(false, eval (.UnaryOp .USub (.Subscript (.Name "rests" p2) (.Name "name" p3) p4) p5) _), (false, eval (.Name "name" p6) _)]) _ _ _
  refine Calls.spliced_cons (UnaryOp_ (subD_of PySem.F.slot_dict_getitem.lookup (fun _ _ => rfl) ?_))
  have cell1 : h₁.IsCell c (some (.ref d)) := by
    obtain ⟨o, ho, hd'⟩ := hcell
    exact ⟨o, hk₁ c o ho, hd'⟩
  refine wpAny_Name (wpAny_loadName_free hkd kr (c := c) rfl cell1 ?_ (by decide)) (by decide)
  refine hnm _ _ _ _ _ hns ?_
  obtain ⟨z, hdm, vs, rel, dd⟩ := dk_rd I1.hok hd
  obtain ⟨w', hw, rw'⟩ := RelO.some_of (v := .int n) (o := valueAt vs (.inr x)) (by rw [← hv]; exact rel.val _)
  obtain ⟨t3, rfl⟩ := rw'
  refine ⟨dd.typeIs, wpAny_getItem_of (k := .inr x) (kV_is (k := .inr x) ⟨t, rfl⟩) dd.mapOf hw ?_⟩
  refine neg_int ?_
  refine Calls.spliced_cons (hnm _ _ _ _ _ hns (Calls.spliced_nil ⟨(show 2 ≤ sizeLine by decide), ?_⟩))
  refine ⟨_, _, rfl, I1.hok.fresh (Nat.le_refl _), rfl, ?_⟩
  refine (I1.laid (a := h₁.objs.size) (o := .tup [.int (-n), .str x]) (fun b u e => Heap.get?_push_of_some _ e) (Nat.le_refl _) ?_)
  exact ⟨(show 2 ≤ sizeLine by decide), _, .cons ⟨_, rfl⟩ (.cons ⟨t, rfl⟩ .nil), ⟨_, Heap.get?_push_size _ rfl, rfl, _, rfl⟩⟩
end L2
namespace L2
open PySem PySem.Spec PySem.W PyProof.Rows
abbrev CodeO (c : Addr) (q : Str) : HO := .ext fun h => h.CodeRec (.ref c) q
def TabOk (H : Hp) (pos : Pos) (q : Str) (ps : Array Value) : Prop := TriplesOk ps.toList ∧ (codeAmong pos ps.toList = none ∨ ∃ c, codeAmong pos ps.toList = some (.ref c) ∧ H c = some (CodeO c q))
section
variable {X : Cx} {pins : List (Addr × Obj)} {σ : St} {H : Hp} {s : Shared} {h' : Heap}
theorem Inv.grow {t' : Nat} {P : Addr} {ps more : Array Value} (I : Inv X pins σ H s) (hP : H P = some (.tbl ps)) (k : ∀ b u, b ≠ P → s.heap.get? b = some u → h'.get? b = some u) (hn : h'.get? P = some (tabObj (ps ++ more))) :
    Inv X pins σ (upd H P (.tbl (ps ++ more))) { s with heap := h', toks := t' } := by
  have nP : ∀ b, H b = none → b ≠ P := fun b e z => by rw [z, hP] at e; cases e
  refine I.step (g' := s.gens) (d' := s.drawn) (ch := []) (fun _ z => nomatch z) (fun b o _ _ _ e n => k b o (nP b n) e) (fun b o _ _ _ e n => ⟨o.slots, k b o (nP b n) e⟩)
    (fun b u _ e n => by rw [upd_ne (nP b n)]; exact n) (fun b o _ e => ?_) (fun b xs e => by rw [upd_ne (fun z => by rw [z, hP] at e; cases e)]; exact e) (fun b u xs e => by rw [upd_ne (fun z => by rw [z, hP] at e; cases e)]; exact e)
    (fun b qs e => ?_) (fun m hm => ?_) (fun b u e => ?_) I.bare
  · by_cases hb : b = P
    · rw [hb]; exact ⟨_, hn⟩
    · exact ⟨o, k b o hb e⟩
  · by_cases hb : b = P
    · rw [hb, hP] at e
      cases e
      exact ⟨more, by rw [hb, upd_same]⟩
    · exact ⟨#[], by rw [upd_ne hb, e]; simp⟩
  · obtain ⟨ob, es, ep, ho, r⟩ := hm
    exact ⟨ob, es, ep, k _ ob (nP _ I.free) ho, r⟩
  · by_cases hb : b = P
    · subst hb
      rw [upd_same] at e
      cases e
      exact hn
    · rw [upd_ne hb] at e
      refine (I.hok b u e).stay (fun c v hc q => k c v (fun z => ?_) q) (fun c q => by rw [upd_ne (fun z => by rw [z, hP] at q; cases q)]; exact q) fun c xs q => by rw [upd_ne (fun z => by rw [z, hP] at q; cases q)]; exact q
      rcases hc with y | y
      · exact hb (y.symm.trans z)
      · rw [z, hP] at y; cases y
theorem lam_make {A : Around} {E : Value → Shared → Prop} {c0 P : Addr} {ps : Array Value} {params : Arguments} {body : Expr} {scope : Scope} {pos : Pos} {qual : Str} {clos : List (Str × Addr)} {Q : Value → Shared → Prop}
    (I : Inv X pins σ H s) (hcl : closureFor scope X.env = pure clos) (hcode : X.env.code = .ref c0) (hch : codeHdIn X.K c0 P = true) (hP : H P = some (.tbl ps)) (ht : TabOk H pos qual ps) (hb : X.base.BuiltinsAt X.mg P)
    (h : ∀ f c' ctv pm s' H' ps', Inv X pins σ H' s' → s'.heap.get? f = some (kla_obj "<lambda>" qual params body scope clos pm c' ctv) → FpOk X pins H' f → H' c' = some (CodeO c' qual) → H' P = some (.tbl ps') → TabOk H' pos qual ps' →
      (∀ b o, b ≠ P → H b = some o → H' b = some o) → (∀ b o, s.heap.get? b = some o → b ≠ P → s'.heap.get? b = some o) → Q (.ref f) s') :
    wpAny (model X.prog X.w) A (makeFunction "<lambda>" qual params (.expr body) scope X.env [] [] [] pos pos.line) Q E s := by
  have hg : s.heap.Ns mainGlobals X.mg := I.ok.mod.glob.keeps I.bk
  have C : CodeHd s.heap c0 P := codeHd_of_K I.kIn hch
  have hPo : s.heap.get? P = some (tabObj ps) := I.hok P _ hP
  have nbP : ∀ b o, X.base.get? b = some o → b ≠ P := fun b o e z => by have := (I.bs b o e).2; rw [z, hP] at this; cases this
  have hgP : mainGlobals ≠ P := by
    obtain ⟨o, es, ep, e, _⟩ := I.ok.mod.glob
    exact nbP _ _ e
  have hb' : s.heap.BuiltinsAt X.mg P := by
    obtain ⟨bm, o, b1, b2, b3, b4, b5, b6⟩ := hb
    exact ⟨bm, o, b1, b2, b3, b4, I.bk _ _ b5, b6⟩
  rcases ht.2 with hnf | ⟨c', hf, hc'⟩
  · refine kla_makeFunction hcl I.ok.glob hg hcode C hPo ht.1 hnf hgP hb' fun c' ctv h1 tk hx hge hlt hrec htb => ?_
    have hc0 : H c' = none := I.hok.fresh hge
    have ncP : c' ≠ P := fun z => by rw [z, hP] at hc0; cases hc0
    have I1 : Inv X pins σ (upd H P (.tbl (ps ++ #[rawInt pos.line, rawInt pos.col, .ref c']))) { s with heap := h1.push (kla_obj "<lambda>" qual params body scope clos ((X.mg "__name__").getD .none) c' ctv), toks := tk } :=
      I.grow hP (fun b u hb e => Heap.get?_push_of_some _ (hx b u hb e)) (Heap.get?_push_of_some _ htb)
    have fp1 : FpOk X pins (upd H P (.tbl (ps ++ #[rawInt pos.line, rawInt pos.col, .ref c']))) c' := I.fpOk hge (by rw [upd_ne ncP]; exact hc0)
    have hrec2 : (h1.push (kla_obj "<lambda>" qual params body scope clos ((X.mg "__name__").getD .none) c' ctv)).CodeRec (.ref c') qual := by
      obtain ⟨c2, oc, vs, tq, e1, e2, e3⟩ := hrec
      exact ⟨c2, oc, vs, tq, e1, Heap.get?_push_of_some _ e2, e3⟩
    have I2 := I1.adopt (t' := tk) (h' := h1.push (kla_obj "<lambda>" qual params body scope clos ((X.mg "__name__").getD .none) c' ctv)) (ch := [c']) (a := c') (o := CodeO c' qual) (fun b u _ e => e) (fun b hb => by rw [List.mem_singleton.mp hb]; exact fp1) (by simp) ⟨hrec2, ?_, ?_⟩
    · have szle : s.heap.objs.size ≤ h1.objs.size := Nat.le_trans hge (Nat.le_of_lt hlt)
      have hfn : H h1.objs.size = none := I.hok.fresh szle
      refine h _ c' ctv _ _ _ (ps ++ #[rawInt pos.line, rawInt pos.col, .ref c']) I2 (Heap.get?_push_size _ rfl) (I.fpOk szle ?_) upd_same ?_ ⟨?_, .inr ⟨c', ?_, upd_same⟩⟩ (fun b o hb e => ?_) fun b o e hb => Heap.get?_push_of_some _ (hx b o hb e)
      · rw [upd_ne (Nat.ne_of_gt hlt), upd_ne (fun z => by rw [z, hP] at hfn; cases hfn)]; exact hfn
      · rw [upd_ne (Ne.symm ncP), upd_same]
      · rw [Array.toList_append]; exact TriplesOk_snoc _ _ _ _ ht.1
      · rw [Array.toList_append]; exact codeAmong_snoc _ ht.1 hnf
      · rw [upd_ne (ne_of_none e hc0), upd_ne hb]; exact e
    · obtain ⟨c2, oc, vs, tq, e1, e2, e3⟩ := hrec2
      cases e1
      exact ⟨oc, e2⟩
    · intro h1 h2 x k
      obtain ⟨c2, oc, vs, tq, e1, e2, e3⟩ := x
      cases e1
      exact ⟨_, oc, vs, tq, rfl, k _ e2, e3⟩
  · refine kla_makeFunctionHit hcl I.ok.glob hg hcode C hPo ht.1 hf hb' fun ctv h1 tk hk hsz => ?_
    have hfn : H h1.objs.size = none := I.hok.fresh hsz
    exact h _ c' ctv _ _ H ps (I.kept fun b o e => Heap.get?_push_of_some _ (hk b o e)) (Heap.get?_push_size _ rfl) (I.fpOk hsz hfn) hc' hP ht (fun b o _ e => e) fun b o e _ => Heap.get?_push_of_some _ (hk b o e)
end
end L2
namespace L2
open PySem PySem.Spec PySem.W PyProof.Rows
def tSortL (K : PySem.W.Frag) (P : Addr) (i : Nat) (lpos : Pos) (qual : Str) (tl : TE) : TE := fun σ H Q => tl σ H fun x H1 => ∃ (l : Addr) (names : List Str) (d : Addr) (kvs : List (Key × V)) (kf : Str → Int) (ps : Array Value),
  x = .ref l ∧ SqL K H1 l (names.map V.str) ∧ names.length < 64 ∧ H1 P = some (.tbl ps) ∧ TabOk H1 lpos qual ps ∧ σ[i]? = some (some (.ref d)) ∧ Rd H1 d (.dK kvs) ∧ (∀ x ∈ names, valV kvs (.inr x) = some (.int (kf x))) ∧
  ∀ (D : Addr) (out : List Str) (H2 : Hp) (ps' : Array Value), H2 D = none → (∀ b o, b ≠ P → H1 b = some o → H2 b = some o) → H2 P = some (.tbl ps') → TabOk H2 lpos qual ps' → out.Perm names →
    out.Pairwise (fun x y => DV.lexLt (-(kf y), y) (-(kf x), x) = false) → Q (.ref D) (upd H2 D (.lst (out.map V.str)))
theorem Rd.keep {H H' : Hp} {a : Addr} {u : HO} (r : Rd H a u) (k : ∀ o, H a = some o → H' a = some o) : Rd H' a u := by
  rcases r with r | ⟨o, r⟩
  · exact .inl (k _ r)
  · exact .inr ⟨o, k _ r⟩
theorem lam_closure {env : Env} {scope : Scope} {c : Addr} (hsc : scope.names = [(("name" : Str), NameKind.local), (("rests" : Str), NameKind.free)]) (hc : env.cells.lookup ("rests" : Str) = some c) : closureFor scope env = pure [(("rests" : Str), c)] := by
  unfold closureFor
  rw [hsc]
  simp [cellOf, hc]
section
variable {X : Cx} {l : Expr} {tl : TE} {p pos kpos lpos p1 p2 p3 p4 p5 p6 p7 : Pos} {k0 : Nat} {scope : Scope} {c0 P : Addr} {i : Nat}
theorem pe_sortL (hroom : X.i2.A.depth < recursionLimit) (hN : X.N[i]? = some ("rests" : Str)) (hvis : Vis X.env.scope ("rests" : Str)) (hkr : X.env.kindOf ("rests" : Str) = some .cell) (hcode : X.env.code = .ref c0) (hch : codeHdIn X.K c0 P = true) (hb : X.base.BuiltinsAt X.mg P)
    (hsc : scope.names = [(("name" : Str), NameKind.local), (("rests" : Str), NameKind.free)]) (hco : scope.isCoroutine = false) (hgen : scope.isGenerator = false) (hkd : scope.kind = .function)
    (hg : Gl X "sorted") (hm : X.mg "sorted" = none) (hv : bootBuiltins "sorted" = some (.builtin "sorted")) (hl : PE X l tl)
    (he : backTo pos (starEach [l] X.env) = (false, eval l X.env) :: backTo pos (starEach [] X.env) := by rfl) (hpl : (backTo pos (starEach [l] X.env)).any (·.1) = false := by rfl) :
    PE X (.Call (.Name "sorted" p) [l] [⟨some "key", .Lambda (lamArgs p1) (lamBody p2 p3 p4 p5 p6 p7 k0) scope lpos, kpos⟩] pos) (tSortL X.K P i lpos (X.env.qual ++ "<lambda>") tl) := by
  intro pins s σ H Q I h
  refine wpAny_Call_Name_kw (ld_blt I hg hm hv (callWith_bK ?_ he hpl) (by decide) (by decide))
  rw [he]
  refine Calls.spliced_cons (thn (hl pins s σ H _ I h) fun u s1 ⟨x, H1, I1, rx, q1⟩ => Calls.spliced_nil ?_)
  obtain ⟨la, names, d, kvs, kf, ps, ex, hS, h64, hP, hT, hσ, hd, hkf, q⟩ := q1
  subst ex
  obtain rfl : u = Value.ref la := rx
  show wpAny _ _ (evalAll ((do let v ← eval (.Lambda (lamArgs p1) (lamBody p2 p3 p4 p5 p6 p7 k0) scope lpos) X.env; standAt pos; pure v) :: [])) _ _ s1
  refine wpAny_evalAll_cons (wpAny_bind (kla_eval rfl ?_))
  have cellOfI : ∀ {Y : Cx} {pins' : List (Addr × Obj)} {H' : Hp} {s' : Shared}, Y.env = X.env → Y.N = X.N → Inv Y pins' σ H' s' → ∃ c, X.env.cells.lookup ("rests" : Str) = some c ∧ s'.heap.IsCell c (some (.ref d)) := fun e1 e2 I' => by
    obtain ⟨m, _, hl'⟩ := I'.loc
    rw [e1, e2] at hl'
    obtain ⟨u, r, lk⟩ := hl' i _ _ hN hσ hvis
    obtain rfl : u = Value.ref d := r
    rcases lk with ⟨z, _⟩ | ⟨_, c, hc, hcell⟩
    · rw [hkr] at z; cases z
    · exact ⟨c, hc, hcell⟩
  obtain ⟨c, hc, hcell⟩ := cellOfI rfl rfl I1
  refine lam_make I1 (lam_closure hsc hc) hcode hch hP hT hb fun f c' ctv pm s2 H2 ps' I2 hf fpf hc' hP' hT' hk hk2 => ?_
  refine wpAny_bind (wpAny_standAt (wpAny_pure (wpAny_evalAll_nil ?_)))
  have nd : ∀ {b : Addr} {o : HO}, (∀ ps, o ≠ .tbl ps) → H1 b = some o → H2 b = some o := fun {b o} ne e => hk b o (fun z => by rw [z, hP] at e; cases e; exact ne _ rfl) e
  have hS2 : SqL X.K H2 la (names.map V.str) := by
    rcases hS with r | r
    · refine .inl ?_
      rcases r with r | ⟨o, r⟩
      · exact .inl (nd (fun ps z => by cases z) r)
      · exact .inr ⟨o, nd (fun ps z => by cases z) r⟩
    · exact .inr r
  have hd2 : Rd H2 d (.dK kvs) := by
    rcases hd with r | ⟨o, r⟩
    · exact .inl (nd (fun ps z => by cases z) r)
    · exact .inr ⟨o, nd (fun ps z => by cases z) r⟩
  have Ip := I2.pinned (fp := [f]) (fun b hb => by rw [List.mem_singleton.mp hb]; exact fpf) (fun b hb => by rw [List.mem_singleton.mp hb]; exact ⟨_, hf, fun v q => by cases q⟩)
  show wpAny _ _ (call (.builtin "sorted") [.ref la] [(Str.ofString "key", .ref f)]) _ _ s2
  refine wpAny_mono (call_sortK (X := X) (pins := pins ++ pinsAt [f] s2.heap) (Q := Q) (kf := fun x => -(kf x)) (E := X.xe) Ip hS2 h64 ?_ fun D out H3 hD sm hp hs => ?_) (fun v s3 hq => ?_) fun _ _ z => z
  · intro more s4 H4 x t hx I4 sm
    have pf : s4.heap.get? f = some (kla_obj "<lambda>" (X.env.qual ++ "<lambda>") (lamArgs p1) (lamBody p2 p3 p4 p5 p6 p7 k0) scope [(("rests" : Str), c)] pm c' ctv) :=
      (I4.pin (f, _) (List.mem_append_right _ (List.mem_append_left _ (List.mem_append_right _ (mem_pinsAt (by simp) hf))))).1
    obtain ⟨c2, hc2, hcell2⟩ := cellOfI (Y := X.i2) rfl rfl I4
    rw [hc] at hc2
    cases hc2
    have hrec : s4.heap.CodeRec (.ref c') (X.env.qual ++ "<lambda>") := (I4.hok c' _ (sm _ _ hc')).1
    refine wpAny_mono (lam_call (X := X.i2) I4 hroom pf hsc hco hgen hkd hrec hcell2 (hd2.keep fun o e => sm _ _ e) (hkf x hx)) (fun v s5 hq => ?_) fun _ _ z => z
    obtain ⟨pp, H5, ev, hn, eH, I5⟩ := hq
    subst eH
    exact ⟨pp, _, ev, fun b o e => by rw [upd_ne (ne_of_none e hn)]; exact e, upd_same, I5⟩
  · refine q D out H3 ps' hD (fun b o hb e => sm _ _ (hk b o hb e)) (sm _ _ hP') ⟨hT'.1, hT'.2.imp id fun ⟨c, e1, e2⟩ => ⟨c, e1, sm _ _ e2⟩⟩ hp hs
  · obtain ⟨y, H3, I3, ry, qq⟩ := hq
    exact ⟨y, H3, I3.unpinned, ry, qq⟩
end
end L2
namespace L2
open PySem PySem.Spec PySem.W PyProof.Rows
def OnlyT (P : Addr) (H : Hp) : Prop := H P = some (.tbl #[]) ∧ ∀ b, b ≠ P → H b = none ∨ ∃ o xs, H b = some (.frz o (.lst xs))
theorem law_callT {Pg : Program} {w : World} {K : PySem.W.Frag} {mg mb : Str → Option Value} {CX : CXT} {k : Nat} {fa a P c0 : Addr} {fd : FuncData} {x : Str} {sp : Sp} {s₁ : Shared} {vs : List Value} {ns : List Int}
    (KX : K.In s₁.heap) (hns : s₁.heap.Ns mainGlobals mg) (hb : s₁.heap.Ns builtinsNs mb) (hbb : ∀ x : Str, x ≠ "__name__" → mb x = bootBuiltins x) (hlim : s₁.heap.NoLimit) (hg : s₁.gens = #[])
    (hPt : s₁.heap.get? P = some (tabObj #[])) (hPK : K.lookup P = none) (hch : codeHdIn K c0 P = true) (hbm : s₁.heap.BuiltinsAt mg P)
    (ha : s₁.heap.get? a = some { cls := .type "list", data := .seq vs.toArray }) (hi : IntsAre vs ns) (hl : ns.length ≤ sizeLine) (hr : Room k callerA)
    (F : ∀ base : Heap, K.In base → base.Ns mainGlobals mg → base.BuiltinsAt mg P → FnOk Pg w K mg base CX k fa fd [x] sp) (hbind : ∀ (s : Shared) (u : Value), BindsTo s fd ⟨[u], []⟩ [(x, u)])
    (hsp : ∀ H : Hp, OnlyT P H → SqL K H a (ns.map V.int) → sp [.ref a] H (fun v _ => v = .bl true) fun _ _ _ => False)
    (hCX : ∀ H e s', CX [] H s₁ (fun _ _ _ => False) e s' → False) :
    codeAny (model Pg w) callerA (.call (.ref fa) ⟨[.ref a], []⟩) (fun r s' => r = .ok (.ret (.bool true)) ∧ OldK s₁.heap s'.heap ∧ s'.os = s₁.os ∧ AllBare s'.gens) s₁ := by
  have rv := vals_ints hi
  have lenV := hi.length
  have haP : a ≠ P := fun z => by rw [z, hPt] at ha; cases ha
  have core : ∀ H : Hp, OnlyT P H → SqL K H a (ns.map V.int) → HOk Pg w H s₁.heap → (∀ b, H b ≠ none → b = a ∨ b = P) → (H a ≠ none → K.lookup a = none) →
      codeAny (model Pg w) callerA (.call (.ref fa) ⟨[.ref a], []⟩) (fun r s' => r = .ok (.ret (.bool true)) ∧ OldK s₁.heap s'.heap ∧ s'.os = s₁.os ∧ AllBare s'.gens) s₁ := by
    intro H hO hS hok hA hK
    have base_of : ∀ {b : Addr} {o : Obj}, s₁.heap.get? b = some o → H b = none → (hidT s₁.heap H).get? b = some o := fun e n => hidT_get e n
    have noA : ∀ {b : Addr} {o : Obj}, s₁.heap.get? b = some o → (∀ es ep, o.data ≠ .seq es ep) → (∀ fs, o.data ≠ .fields fs) → H b = none := fun {b o} e d1 d2 => by
      cases q : H b with
      | none => rfl
      | some u =>
        rcases hA b (by rw [q]; simp) with e' | e' <;> subst e'
        · rw [ha] at e; cases e; exact absurd rfl (d1 _ _)
        · rw [hPt] at e; cases e; exact absurd rfl (d2 _)
    have nsK : ∀ {b : Addr} {m : Str → Option Value}, s₁.heap.Ns b m → (hidT s₁.heap H).Ns b m := fun {b m} ⟨o, es, ep, e, d, r⟩ => ⟨o, es, ep, base_of e (noA e (fun _ _ z => by rw [d] at z; cases z) (fun _ z => by rw [d] at z; cases z)), d, r⟩
    have hKb : K.In (hidT s₁.heap H) := fun b o e => base_of (KX b o e) (by
      cases q : H b with
      | none => rfl
      | some u =>
        rcases hA b (by rw [q]; simp) with e' | e' <;> subst e'
        · rw [hK (by rw [q]; simp)] at e; cases e
        · rw [hPK] at e; cases e)
    have hM : Mod K mg (hidT s₁.heap H) := ⟨hKb, nsK hns, ⟨mb, nsK hb, hbb⟩, let ⟨mc, h1, h2⟩ := hlim; ⟨mc, nsK h1, h2⟩⟩
    have hBb : (hidT s₁.heap H).BuiltinsAt mg P := by
      obtain ⟨bm, o, b1, b2, b3, b4, b5, b6, b7, b8⟩ := hbm
      exact ⟨bm, o, b1, b2, b3, b4, base_of b5 (noA b5 (fun _ _ z => by rw [b8] at z; cases z) (fun _ z => by rw [b8] at z; cases z)), b6, b7, b8⟩
    have e0 : Env0 Pg w K mg (hidT s₁.heap H) callerA [] s₁ H := ⟨rfl, hM, fun b o e => of_hidT e, Nat.le_of_eq (hidT_size _ _), trivial, fun b hb => absurd (show b ∈ ([] : List Addr) from hb) (by simp), hok, .of_eq hg⟩
    refine codeAny_mono ((F _ hKb (nsK hns) hBb).run callerA [] s₁ H ⟨[.ref a], []⟩ [.ref a] [.ref a] _ _ hr e0 (hbind s₁ (.ref a)) (.cons rfl .nil) (hsp H hO hS)) fun r s' h => ?_
    cases r with
    | error e => exact (hCX H e s' h).elim
    | ok fl =>
      cases fl with
      | next => exact False.elim h
      | brk => exact False.elim h
      | cont => exact False.elim h
      | ret u =>
        obtain ⟨v, H', os, bare, un, hok', r', q⟩ := h
        have q' : v = .bl true := q
        subst q'
        obtain rfl : u = Value.bool true := r'
        have kept : ∀ b o, b ≠ P → s₁.heap.get? b = some o → s'.heap.get? b = some o := fun b o hbP e => by
          cases q : H b with
          | none => exact un.keep b o e q (by intro z; exact absurd (show b ∈ ([] : List Addr) from z) (by simp)) (by simp)
          | some u =>
            rcases hO.2 b hbP with z | ⟨ob, xs, z⟩
            · rw [q] at z; cases z
            · have z2 := un.frzs b ob _ z
              obtain ⟨e1, _⟩ := hok b _ z
              obtain ⟨e2, _⟩ := hok' b _ z2
              rw [e] at e1; cases e1
              exact e2
        obtain ⟨more, hm⟩ := un.tbls P _ hO.1
        have hP2 : s'.heap.get? P = some (tabObj (#[] ++ more)) := hok' P _ hm
        obtain ⟨oc, cvs, _, _, _, _, _, _, _, h1, h2, h3, h4, _⟩ := codeHd_of_K KX hch
        refine ⟨rfl, ⟨fun b o e => ?_, fun b o e => ?_⟩, os, bare⟩
        · by_cases hbP : b = P
          · subst hbP
            rw [hPt] at e
            cases e
            exact .inr (.inl ⟨⟨c0, oc, cvs, h1, h2, h3, h4⟩, rfl, #[], more, rfl, hP2⟩)
          · exact .inl (kept b o hbP e)
        · by_cases hbP : b = P
          · subst hbP; exact ⟨_, hP2⟩
          · exact ⟨o, kept b o hbP e⟩
  cases hk : K.lookup a with
  | some o =>
    have e := KX a o hk
    rw [ha] at e
    cases e
    refine core (fun b => if b = P then some (.tbl #[]) else none) ⟨if_pos rfl, fun b hb => .inl (if_neg hb)⟩ (.inr ⟨_, vs.toArray, _, hk, rfl, rfl, rfl, by rw [List.size_toArray, lenV]; exact hl, by simpa using rv⟩) (fun b u z => ?_) (fun b z => ?_) fun z => absurd (if_neg haP) z
    · by_cases hb : b = P
      · have z' := (if_pos hb).symm.trans z
        cases z'
        subst hb
        exact hPt
      · have z' := (if_neg hb).symm.trans z
        cases z'
    · by_cases hb : b = P
      · exact .inr hb
      · exact absurd (if_neg hb) z
  | none =>
    refine core (fun b => if b = P then some (.tbl #[]) else if b = a then some (.frz { cls := .type "list", data := .seq vs.toArray } (.lst (ns.map V.int))) else none) ⟨if_pos rfl, fun b hb => ?_⟩ (.inl (.inr ⟨{ cls := .type "list", data := .seq vs.toArray }, by dsimp only; rw [if_neg haP, if_pos rfl]⟩)) (fun b u z => ?_) (fun b z => ?_) fun _ => hk
    · by_cases hb2 : b = a
      · exact .inr ⟨_, _, by dsimp only; rw [if_neg hb, if_pos hb2]⟩
      · exact .inl (by dsimp only; rw [if_neg hb, if_neg hb2])
    · by_cases hb : b = P
      · have z' := (if_pos hb).symm.trans z
        cases z'
        subst hb
        exact hPt
      · have z' := (if_neg hb).symm.trans z
        by_cases hb2 : b = a
        · rw [if_pos hb2] at z'
          cases z'
          subst hb2
          exact ⟨ha, by rw [List.length_map]; exact hl, vs, _, rv, ha⟩
        · rw [if_neg hb2] at z'
          cases z'
    · by_cases hb : b = P
      · exact .inr hb
      · by_cases hb2 : b = a
        · exact .inl hb2
        · exact absurd ((if_neg hb).trans (if_neg hb2)) z
theorem walk_ofT {l : PySem.W.OpenLaw} {n k : Nat} {q : Program} {loose : List Str} {XP : (Str → Option Value) → Heap → Prop} {YP : World → Heap → Prop} {d : DefRec} {K : Params → PySem.W.Frag} {CX : World → CXT} {sp : World → Sp} {x : Str} {P : Addr}
    (hn : l.most = some n) (hn2 : n ≤ sizeLine) (hdf : d.params.defaults = []) (hr : Room k callerA)
    (hY : ∀ (w : World) (h : Heap), YP w h → (K w.params).In h ∧ h.get? P = some (tabObj #[]))
    (F : ∀ (w : World) (mg : Str → Option Value) (fa : Addr) (h : Heap), (K w.params).In h → h.Ns mainGlobals mg → mg d.name = some (.ref fa) →
      ∃ (fd : FuncData) (c0 : Addr), (∀ (s : Shared) (u : Value), BindsTo s fd ⟨[u], []⟩ [(x, u)]) ∧ (K w.params).lookup P = none ∧ codeHdIn (K w.params) c0 P = true ∧
        ∀ base : Heap, (K w.params).In base → base.Ns mainGlobals mg → base.BuiltinsAt mg P → FnOk l.prog w (K w.params) mg base (CX w) k fa fd [x] (sp w))
    (hsp : ∀ (w : World) (H : Hp) (a : Addr) (ns : List Int), ns.length ≤ n → OnlyT P H → SqL (K w.params) H a (ns.map V.int) → sp w [.ref a] H (fun v _ => v = .bl true) fun _ _ _ => False)
    (hCX : ∀ (w : World) (H : Hp) (s : Shared) (e : Value) (s' : Shared), CX w [] H s (fun _ _ _ => False) e s' → False) :
    PySem.W.WalkO q loose XP YP l.row.toRowW d [] (fun f vs => PySem.call f vs) := by
  refine Att.attach_call hn hdf fun w s₀ s₁ mg mb fa o pm cd doc a vs ns G Y ho hd hcd hmg hobj hints hlen hg => ?_
  obtain ⟨KX, hPt⟩ := hY w _ Y
  obtain ⟨fd, c0, hb, hPK, hch, hF⟩ := F w mg fa _ KX G.T.g hmg
  obtain ⟨bm, ob, b1, b2, b3, b4, b5, b6⟩ := G.T.bmain
  have hbG : bm ≠ mainGlobals := fun q => by
    obtain ⟨o, es, ep, e, hd, _⟩ := G.T.g
    rw [q, e] at b3; cases b3; rw [hd] at b6; cases b6
  have hbP : bm ≠ P := fun q => by rw [q, hPt] at b3; cases b3; cases b4
  exact law_callT KX G.T.g G.T.b G.T.builtins G.T.nolimit hg hPt hPK hch ⟨bm, ob, b1, b2, hbG, hbP, b3, b4, b5, b6⟩ hobj hints (Nat.le_trans hlen hn2) hr hF hb (fun H hO hS => hsp w H a ns hlen hO hS) fun H e s' => hCX w H s₁ e s'
end L2
namespace L2
open PySem PySem.Spec PySem.W PyProof.Rows
def Itv (a : Addr) (o : Obj) (kvs : List (Key × V)) : It :=
  ⟨fun i H => H a = some (.frz o (.dK kvs)) ∧ i < kvs.length, fun i H x H' => H' = H ∧ ∃ k, kvs[i]? = some (k, x), fun i H => H a = some (.frz o (.dK kvs)) ∧ kvs.length ≤ i⟩
theorem turn_values {P : Program} {w : World} {K : PySem.W.Frag} {tg : Expr} {it a : Addr} {o : Obj} {kvs : List (Key × V)} {vs : List (Key × Value)} {ep : Nat} (hne : a ≠ it) (rel : KV kvs vs)
    (da : ∀ h : Heap, h.get? a = some o → h.DictAt (mixKind P w) a vs ep) :
    Turn P w K tg (Itv a o kvs) [it] it (fun i h => h.IsValIter it a i vs.length ep) where
  mem := by simp
  obj := fun i h st c hc => by
    obtain ⟨o', ho, hc', hd⟩ := st
    cases (List.mem_singleton.mp hc)
    exact ⟨_, ho, fun v q => by rw [hd] at q; cases q⟩
  keep := fun i h h' st kk => by
    obtain ⟨o', ho, hc', hd⟩ := st
    exact ⟨o', kk it (by simp) _ ho, hc', hd⟩
  item := by
    intro X hP hw hK hc i pins s σ H E I hf st hg
    subst hP hw hK
    obtain ⟨hz, hi⟩ := hg
    obtain ⟨⟨k, x⟩, hx⟩ : ∃ p, kvs[i]? = some p := ⟨kvs[i], by simp [hi]⟩
    obtain ⟨v, hv, rv⟩ := kvAt rel hx
    have ho := (I.hok a _ hz).1
    refine wpAny_pyNext_values_item st (da _ ho) hv fun h' hit' hs' => ⟨_, rfl, ?_⟩
    obtain ⟨o', ho', hc', hd'⟩ := id hit'
    refine go_of ho' hc' hd' (by decide) ⟨x, H, ?_, rv, ⟨rfl, k, hx⟩, hit', fun c hb => (hf c hb).1⟩
    exact I.turnedL (t' := s.toks) (ch := [it]) (fun c o hb q => (hs'.2 c (fun z => hb (by simp [z]))).trans q) hf
  done := by
    intro X hP hw hK hc i pins s σ H E I hf st hg
    subst hP hw hK
    obtain ⟨hz, hi⟩ := hg
    have ho := (I.hok a _ hz).1
    have el := rel.length
    refine wpAny_pyNext_values_end (I.ok.hd hc) st (da _ ho) (List.getElem?_eq_none_iff.mpr (by omega)) fun h' kp => ⟨rfl, I.turnedL (t' := s.toks) (ch := [it]) (fun c o hb q => ?_) hf⟩
    exact kp c o (fun z => hb (by simp [z])) q
  self := fun _ _ _ _ _ st h => wpAny_pyIter_valiter st h
def iValues (td : TE) : TI := fun σ H R => td σ H fun x H1 => ∃ a kvs, x = .ref a ∧ Rd H1 a (.dK kvs) ∧ ∀ o, R (Itv a o kvs) (upd H1 a (.frz o (.dK kvs)))
section
variable {X : Cx} {o tg : Expr} {apos cpos : Pos} {td : TE}
theorem pi_values (ho : PE X o td) (hb : attributeBase o "values" X.env (eval o X.env) = eval o X.env := by rfl) (hl : (apos.endLine == cpos.line) = true := by rfl) :
    PI X tg (.Call (.Attribute o "values" apos) [] [] cpos) (iValues td) := by
  intro pins s σ H R I h
  refine wpAny_Call_method hb rfl hl PySem.F.plainAttrs_dict PySem.F.slot_dict_values PySem.F.type_dict_values (thn (ho pins s σ H _ I h) fun u s1 ⟨x, H1, I1, rx, a, kvs, ex, d, q1⟩ => ?_)
  subst ex
  obtain rfl : u = Value.ref a := rx
  obtain ⟨t1, t2, hd⟩ := isD_at I1 (.inl ⟨kvs, d⟩)
  refine ⟨t1, t2, ?_⟩
  obtain ⟨ob, I2, hob, vs, ep, rel, da⟩ := I1.freeze d
  refine Calls.callWith_builtin rfl (PyProof.Rows.evalArgs_empty ?_)
  refine call_meetsIn PySem.F.slot_dict_values da.dictOf.typeIs PySem.F.entry_dict_values (PySem.F.args_dict_values_1 _) (meets_dict_values (mixKind X.prog X.w) a hd) ⟨⟨vs, da.dictOf⟩, ?_⟩
  refine wpAny_pyIter_values (knd := mixKind X.prog X.w) (d := a) (kvs := vs) (ep := ep) ⟨_, Heap.get?_push_size _ rfl, rfl, rfl⟩ (da.push _) ?_
  have la : a < s1.heap.objs.size := Heap.lt_size hob
  refine ⟨_, [_], _, _, _, rfl, I2.kept (t' := s1.toks) fun b o e => Heap.get?_push_of_some _ (Heap.get?_push_of_some _ e), turn_values (ep := ep) (Nat.ne_of_lt (Nat.lt_of_lt_of_eq (Nat.lt_succ_of_lt la) (size_push' _ _).symm)) rel (fun h e => da.at' fun o' e' => by rw [hob] at e'; cases e'; exact e), ⟨_, Heap.get?_push_size _ rfl, rfl, rfl⟩, fun b hb => ?_, q1 ob⟩
  cases (List.mem_singleton.mp hb)
  exact I2.fpOk (by rw [size_push']; omega) (I2.hok.fresh (by rw [size_push']; omega))
end
end L2
namespace L2
open PySem PySem.Spec PySem.W PyProof.Rows
section
variable {X : Cx} {pins : List (Addr × Obj)} {σ : St} {H : Hp} {s : Shared}
theorem Inv.thaw {a : Addr} {o : Obj} {kvs : List (Key × V)} (I : Inv X pins σ H s) (e : H a = some (.frz o (.dK kvs))) (e0 : X.H₀ a = none) : Inv X pins σ (upd H a (.dK kvs)) s := by
  have nn : ∀ b, H b = none → b ≠ a := fun b q z => by rw [z, e] at q; cases q
  refine ⟨I.ok, I.os, I.bare, ⟨I.base.keep, I.base.slot, fun b ob q n hx => ?_, I.base.there, fun b xs q => ?_, fun b ob u q => ?_, fun b ps q => ?_⟩, I.loc, I.cell, ?_, fun x c q => ?_, fun p hp => ?_, fun b u q => ?_, I.len⟩
  · have z := I.base.free b ob q n hx
    rw [upd_ne (nn b z)]; exact z
  · have z := I.base.tups b xs q
    rw [upd_ne (fun y => by rw [y, e] at z; cases z)]; exact z
  · have z := I.base.frzs b ob u q
    rw [upd_ne (fun y => by rw [y, e0] at q; cases q)]; exact z
  · obtain ⟨more, z⟩ := I.base.tbls b ps q
    exact ⟨more, by rw [upd_ne (fun y => by rw [y, e] at z; cases z)]; exact z⟩
  · rw [upd_ne (nn _ I.free)]; exact I.free
  · rw [upd_ne (nn _ (I.freeC x c q))]; exact I.freeC x c q
  · obtain ⟨p1, p2, p3⟩ := I.pin p hp
    exact ⟨p1, by rw [upd_ne (nn _ p2)]; exact p2, p3⟩
  · by_cases hb : b = a
    · subst hb
      rw [upd_same] at q
      cases q
      obtain ⟨_, z, hd, vs, rel, dd⟩ := I.hok b _ e
      exact ⟨z, hd, vs, rel, dd⟩
    · rw [upd_ne hb] at q
      exact (I.hok b u q).stay (fun c v _ z => z) (fun c z => by rw [upd_ne (fun y => by rw [y, e] at z; cases z)]; exact z) fun c xs z => by rw [upd_ne (fun y => by rw [y, e] at z; cases z)]; exact z
theorem pss_thaw {st : List Stmt} {t : TS} (h : PSs X st t) : PSs X st (fun D σ H => t D σ H ∨ ∃ (a : Addr) (o : Obj) (kvs : List (Key × V)), H a = some (.frz o (.dK kvs)) ∧ X.H₀ a = none ∧ t D σ (upd H a (.dK kvs))) := by
  intro pins s σ H D I q
  rcases q with q | ⟨a, o, kvs, e, e0, q⟩
  · exact h pins s σ H D I q
  · exact h pins s σ _ D (I.thaw e e0) q
end
end L2
namespace L2
open PySem PySem.Spec PySem.W PyProof.Rows
theorem for_items {a : Addr} {o : Obj} {kvs : List (Key × V)} {g : TG} {tb : TS} {D : Ends} {σ : St} {H : Hp} (Pv : Nat → St → Hp → Prop) (h0 : Pv 0 σ H) (hl : ∀ i σ H, i ≤ kvs.length → Pv i σ H → H a = some (.frz o (.dK kvs)))
    (hs : ∀ (i : Nat) (k : Key) (v : V) (p : Addr) (σ : St) (H : Hp), kvs[i]? = some (k, v) → H p = none → Pv i σ H → g (.ref p) σ (upd H p (.tup [kV k, v])) fun σ2 H2 => tb { D with nx := Pv (i + 1), ct := Pv (i + 1), bk := D.nx } σ2 H2) (hd : ∀ σ H, Pv kvs.length σ H → D.nx σ H) :
    ∃ W : Nat → Nat → St → Hp → Prop, (∃ m, W 0 m σ H) ∧ ∀ i m σ H, W i m σ H →
      ((Itd a o kvs).stop i H ∧ D.nx σ H) ∨ ((Itd a o kvs).go i H ∧ ∃ N : St → Hp → Prop, (∀ σ' H', N σ' H' → ∃ m', m' < m ∧ W (i + 1) m' σ' H') ∧ ∀ x H', (Itd a o kvs).yld i H x H' → g x σ H' fun σ2 H2 => tb { D with nx := N, ct := N, bk := D.nx } σ2 H2) := by
  refine ⟨fun i m σ H => m = kvs.length - i ∧ i ≤ kvs.length ∧ Pv i σ H, ⟨kvs.length, by simp, Nat.zero_le _, h0⟩, ?_⟩
  rintro i m σ H ⟨rfl, hi, p⟩
  have q := hl i σ H hi p
  by_cases hlt : i < kvs.length
  · refine .inr ⟨⟨q, hlt⟩, Pv (i + 1), fun σ' H' p' => ⟨kvs.length - (i + 1), by omega, rfl, hlt, p'⟩, fun x H' y => ?_⟩
    obtain ⟨b, k, v, e1, hn, e3, e2⟩ := y
    subst e1 e2
    exact hs i k v b σ H e3 hn p
  · have e : i = kvs.length := by omega
    subst e
    exact .inl ⟨⟨q, Nat.le_refl _⟩, hd σ H p⟩
def kvW (ws : List (Str × Int)) : List (Key × V) := ws.map fun p => (Sum.inr p.1, V.int p.2)
theorem kvW_vals (ws : List (Str × Int)) : (kvW ws).map (·.2) = (ws.map (·.2)).map V.int := by simp [kvW]
theorem kvW_keys (ws : List (Str × Int)) : (kvW ws).map (fun kv => kV kv.1) = (ws.map (·.1)).map V.str := by simp [kvW, kV]
theorem kvW_at {ws : List (Str × Int)} {i : Nat} {k : Key} {v : V} (h : (kvW ws)[i]? = some (k, v)) : ∃ x n, ws[i]? = some (x, n) ∧ k = .inr x ∧ v = .int n := by
  unfold kvW at h
  rw [List.getElem?_map] at h
  cases e : ws[i]? with
  | none => rw [e] at h; cases h
  | some p => rw [e] at h; cases h; exact ⟨p.1, p.2, rfl, rfl, rfl⟩
theorem valW {ws : List (Str × Int)} (nd : (ws.map (·.1)).Nodup) {x : Str} {n : Int} (h : (x, n) ∈ ws) : valV (kvW ws) (.inr x) = some (.int n) := by
  induction ws with
  | nil => cases h
  | cons p ws ih =>
    rw [List.map_cons, List.nodup_cons] at nd
    show valV ((Sum.inr p.1, V.int p.2) :: kvW ws) (.inr x) = _
    rcases List.mem_cons.mp h with e | e
    · rw [← e]; exact valV_pos rfl
    · rw [valV_neg (fun z => nd.1 (by rw [Sum.inr.inj z]; exact List.mem_map_of_mem (f := (·.1)) e))]
      exact ih nd.2 e
theorem valW_none {ws : List (Str × Int)} {x : Str} (h : x ∉ ws.map (·.1)) : valV (kvW ws) (.inr x) = none := by
  induction ws with
  | nil => rfl
  | cons p ws ih =>
    rw [List.map_cons, List.mem_cons, not_or] at h
    show valV ((Sum.inr p.1, V.int p.2) :: kvW ws) (.inr x) = _
    rw [valV_neg (fun z => h.1 (Sum.inr.inj z).symm)]
    exact ih h.2
theorem putW_new {ws : List (Str × Int)} {x : Str} {n : Int} (h : x ∉ ws.map (·.1)) : putK (kvW ws) (.inr x) (.int n) = kvW (ws ++ [(x, n)]) := by
  rw [putK_new _ (valW_none h)]
  simp [kvW]
theorem putW_old {ws : List (Str × Int)} {x : Str} {n : Int} (h : x ∈ ws.map (·.1)) : putK (kvW ws) (.inr x) (.int n) = kvW (ws.map fun p => if p.1 = x then (p.1, n) else p) := by
  unfold putK
  have ha : ((kvW ws).any fun kv => decide (kv.1 = .inr x)) = true := by
    obtain ⟨p, hp, e⟩ := List.mem_map.mp h
    rw [List.any_eq_true]
    exact ⟨(.inr p.1, .int p.2), List.mem_map_of_mem (f := fun p : Str × Int => ((Sum.inr p.1 : Key), V.int p.2)) hp, by rw [← e]; exact decide_eq_true rfl⟩
  rw [if_pos ha]
  unfold kvW
  rw [List.map_map, List.map_map]
  refine List.map_congr_left fun p _ => ?_
  show (if (Sum.inr p.1 : Key) = Sum.inr x then ((Sum.inr p.1 : Key), V.int n) else (Sum.inr p.1, V.int p.2)) = _
  by_cases e : p.1 = x
  · rw [if_pos (congrArg _ e)]; simp [e]
  · rw [if_neg (fun z => e (Sum.inr.inj z))]; simp [e]
end L2
namespace DV
open PySem PySem.W PyProof.Rows
def whole (ws : List (Str × Int)) : Int := (ws.map (·.2)).sum
def part (R W w : Int) : Int := R * w / W
def rest (R W w : Int) : Int := R * w - part R W w * W
theorem rest_pos {R W w : Int} (h : 0 < W) : 0 ≤ rest R W w ∧ rest R W w < W := by
  unfold rest part
  have h1 := Int.emod_nonneg (R * w) (by omega : W ≠ 0)
  have h2 := Int.emod_lt_of_pos (R * w) h
  have h3 := Int.mul_ediv_add_emod (R * w) W
  have h4 : R * w / W * W = W * (R * w / W) := Int.mul_comm _ _
  omega
theorem parts_sum (R W : Int) : ∀ ws : List (Str × Int), W * (ws.map fun p => part R W p.2).sum + (ws.map fun p => rest R W p.2).sum = R * whole ws
  | [] => by simp [whole]
  | p :: ws => by
    have := parts_sum R W ws
    unfold whole at *
    simp only [List.map_cons, List.sum_cons]
    rw [Int.mul_add, Int.mul_add, ← this]
    unfold rest
    have h4 : part R W p.2 * W = W * part R W p.2 := Int.mul_comm _ _
    omega
theorem rests_lt {R W : Int} (h : 0 < W) : ∀ {ws : List (Str × Int)}, 0 ≤ (ws.map fun p => rest R W p.2).sum ∧ (ws.map fun p => rest R W p.2).sum ≤ W * ws.length ∧ (ws ≠ [] → (ws.map fun p => rest R W p.2).sum < W * ws.length)
  | [] => by simp
  | p :: ws => by
    have ⟨a, b, _⟩ := rests_lt (R := R) h (ws := ws)
    have ⟨c, d⟩ := rest_pos (R := R) (w := p.2) h
    simp only [List.map_cons, List.sum_cons, List.length_cons]
    have e : W * ((ws.length + 1 : Nat) : Int) = W * ws.length + W := by
      rw [Int.natCast_add, Int.mul_add]; simp
    rw [e]
    exact ⟨by omega, by omega, fun _ => by omega⟩
theorem left_ok {R : Int} {ws : List (Str × Int)} (h : 0 < whole ws) (hne : ws ≠ []) : 0 ≤ R - (ws.map fun p => part R (whole ws) p.2).sum ∧ R - (ws.map fun p => part R (whole ws) p.2).sum < ws.length := by
  have h1 := parts_sum R (whole ws) ws
  have ⟨a, _, c⟩ := rests_lt (R := R) h (ws := ws)
  have c := c hne
  generalize (ws.map fun p => rest R (whole ws) p.2).sum = T at *
  generalize (ws.map fun p => part R (whole ws) p.2).sum = S at *
  generalize whole ws = W at *
  have e : W * (R - S) = T := by rw [Int.mul_sub, ← Int.mul_comm R W]; omega
  constructor
  · by_cases z : 0 ≤ R - S
    · exact z
    · exfalso
      have := Int.mul_lt_mul_of_pos_left (show R - S < 0 by omega) h
      rw [Int.mul_zero, e] at this
      omega
  · have : W * (R - S) < W * (ws.length : Int) := by rw [e]; exact c
    exact Int.lt_of_mul_lt_mul_left this (Int.le_of_lt h)
end DV
namespace L2
open PySem PySem.Spec PySem.W PyProof.Rows
section
variable {X : Cx}
def rCopyD : List V → Hp → VK → Prop := fun xs H Q => ∃ (a : Addr) (kvs : List (Key × V)), xs = [.ref a] ∧ Rd H a (.dK kvs) ∧ ∀ p, H p = none → Q (.ref p) (upd H p (.dK kvs))
theorem call_copyD : CallR X (.type "dict") rCopyD := by
  intro pins s σ H xs us Q I r h
  obtain ⟨a, kvs, e1, d, q⟩ := h
  subst e1
  obtain ⟨u, e2, ru⟩ := vals1 r
  subst e2
  obtain rfl : u = Value.ref a := ru
  exact d_copyOf I d fun p s' hp I' => ⟨.ref p, _, I', rfl, q p hp⟩
theorem strsAre_of : ∀ {ss : List Str} {us : List Value}, Vals (ss.map V.str) us → StrsAre us ss
  | [], _, .nil => .nil
  | _ :: _, _, .cons ⟨t, e⟩ r => by subst e; exact .cons _ t (strsAre_of r)
theorem vals_strs : ∀ {us : List Value} {ss : List Str}, StrsAre us ss → Vals (ss.map V.str) us
  | _, _, .nil => .nil
  | _, _, .cons y t h => .cons ⟨t, rfl⟩ (vals_strs h)
theorem keys_vals {P : Program} {w : World} : ∀ {ks : List (Key × V)} {us : List (Key × Value)} {as : List Value}, KV ks us → as.length = us.length → (∀ (j : Nat) (v : Value), as[j]? = some v → ∃ k x, us[j]? = some (k, x) ∧ (mixKind P w).is k v = true) → Vals (ks.map fun kv => kV kv.1) as := by
  intro ks us as kv
  induction kv generalizing as with
  | nil => intro l _; cases as with
    | nil => exact .nil
    | cons => cases l
  | cons p t ih =>
    intro l hh
    cases as with
    | nil => cases l
    | cons v as =>
      refine .cons ?_ (ih (by simpa using l) fun j w e => hh (j + 1) w (by simpa using e))
      obtain ⟨k, x, e, m⟩ := hh 0 v rfl
      have e' := Option.some.inj e
      show RelV (kV _) v
      rw [p.1, e']
      exact kV_of m
def rSortS (K : PySem.W.Frag) : List V → Hp → VK → Prop := fun xs H Q => ∃ (l : Addr) (ss : List Str), xs = [.ref l] ∧ (SqL K H l (ss.map V.str) ∨ ∃ kvs, Rd H l (.dK kvs) ∧ kvs.map (fun kv => kV kv.1) = ss.map V.str) ∧ ss.length < 64 ∧
  ∀ (p : Addr) (out : List Str), H p = none → out.Perm ss → sortedS out = true → Q (.ref p) (upd H p (.lst (out.map V.str)))
theorem call_sortS (hc : X.calm = true) : CallR X (.builtin "sorted") (rSortS X.K) := by
  intro pins s σ H xs us Q I r h
  obtain ⟨l, ss, e1, hS, h64, q⟩ := h
  subst e1
  obtain ⟨u, e2, ru⟩ := vals1 r
  subst e2
  obtain rfl : u = Value.ref l := ru
  rcases hS with hS | ⟨kvs, hd, hks⟩
  · obtain ⟨vs, rv, pl, hz⟩ := I.list hS
    have hlen : vs.length = ss.length := by rw [← rv.length, List.length_map]
    refine sorted_strs pl.isList (strsAre_of rv) (by omega) fun out ss' a1 a2 a3 => ?_
    obtain ⟨e, he⟩ := sortedAll_at s.heap vs out
    refine ⟨.ref (s.heap.objs.size + 1), _, I.laid (a := s.heap.objs.size + 1) (o := .lst (ss'.map V.str)) (t' := s.toks) (fun _ _ => sortedAll_old) (Nat.le_succ _) ⟨?_, out.toList, e, vals_strs a1, by simpa using he⟩, rfl, q _ ss' (I.hok.fresh (Nat.le_succ _)) a2 a3⟩
    rw [List.length_map, a2.length_eq, sizeLine_eq]; omega
  · obtain ⟨z, hm, ws, rel, dd⟩ := dk_rd I.hok hd
    obtain ⟨ep, da⟩ := dictAt_of dd
    have kl : ss.length = kvs.length := by rw [← List.length_map (f := V.str), ← hks, List.length_map]
    refine Calls.call_function_entry kind_sorted plain_sorted entry_sorted (args_sorted1 _) ?_
    unfold Builtin.«sorted»
    refine wpAny_bind (m := checkCount "sorted" 1 1 _) (wpAny_pure ?_)
    refine wpAny_bind (kdu_collect (A := X.A.in1) (kdl_dict (knd := mixKind X.prog X.w) (kvs := ws) (ep := ep) hm) (I.ok.hd hc) da (by rw [← rel.length]; exact z) fun h' tk acc hk hacc => ?_)
    have rv : Vals (ss.map V.str) acc.toList := by
      rw [← hks]
      exact keys_vals rel (by rw [Array.length_toList]; exact hacc.1) fun j v e => hacc.2 j v (by rw [← Array.getElem?_toList]; exact e)
    have hlen : acc.toList.length = ss.length := by rw [← rv.length, List.length_map]
    refine wpAny_bind (wpAny_newList ?_ (by rw [hlen, sizeLine_eq]; omega))
    have hoL : (h'.push (seqObj "list" acc.toList.toArray 0)).get? h'.objs.size = some (seqObj "list" acc.toList.toArray 0) := Heap.get?_push_size _ rfl
    have I' : Inv X pins σ H { s with heap := h', toks := tk } := I.kept hk
    have hS := strsAre_of rv
    refine wpAny_bind (wpAny_holding (wpAny_call_entry slot_list_sort ⟨_, hoL, rfl⟩ entry_list_sort (list_sort_treeK strKind_oneLt hoL hS.keysOf (fun v₁ v₂ rest e => keyKind_strs (by rw [← e]; exact hS)) (by rw [hlen]; exact h64) fun st' hp hs => ⟨_, rfl, ?_⟩) (args_list_sort _)))
    obtain ⟨ss', b1, b2, b3⟩ := sorted_out_str hS hp hs
    obtain ⟨e, he⟩ := sortedHeap_at (out := (arrOf st').map (·.2)) hoL
    refine wpAny_pure ⟨_, rfl, .ref h'.objs.size, _, I'.laid (a := h'.objs.size) (o := .lst (ss'.map V.str)) (t' := tk) (fun b u eb => ?_) (Nat.le_refl _) ⟨?_, ((arrOf st').map (·.2)).toList, e, vals_strs b1, by rw [Array.toArray_toList]; exact he⟩, rfl, q _ ss' (I'.hok.fresh (Nat.le_refl _)) b2 b3⟩
    · have hlt : b < h'.objs.size := Heap.lt_size eb
      rw [sortedHeap_old (Nat.ne_of_lt hlt) (by rw [size_push']; exact Nat.lt_succ_of_lt hlt)]
      exact Heap.get?_push_of_some _ eb
    · rw [List.length_map, b2.length_eq, sizeLine_eq]; omega
end
end L2
namespace DV
open PySem PySem.W PyProof.Rows
theorem lexA {a c : Int} {m k : Str} (h : ¬ a = c) : lexLt (a, m) (c, k) = decide (a < c) := by unfold lexLt; rw [if_neg h]
theorem lexB {a c : Int} {m k : Str} (h : a = c) (e : ¬ m = k) : lexLt (a, m) (c, k) = decide (m.cps.toList < k.cps.toList) := by unfold lexLt; rw [if_pos h, if_neg e]
theorem lexC {a c : Int} {m k : Str} (h : a = c) (e : m = k) : lexLt (a, m) (c, k) = false := by unfold lexLt; rw [if_pos h, if_pos e]
theorem lexA' {a c : Int} {m k : Str} (h : ¬ a = c) : lexLt (c, k) (a, m) = decide (a > c) := lexA (fun z => h z.symm)
theorem lexB' {a c : Int} {m k : Str} (h : a = c) (e : ¬ m = k) : lexLt (c, k) (a, m) = decide (k.cps.toList < m.cps.toList) := lexB h.symm (fun z => e z.symm)
theorem lexC' {a c : Int} {m k : Str} (h : a = c) (e : m = k) : lexLt (c, k) (a, m) = false := lexC h.symm e.symm
section
variable {prog : Program} {w : World} {A : Around} {E : Value → Shared → Prop} {s : Shared} {Q : Value → Shared → Prop}
theorem rcLI {a c : Int} {t u : Tok} (h : Q (.bool (decide (a < c))) s) : wpAny (model prog w) A (richCompare .Lt (.int a t) (.int c u)) Q E s := (PyProof.Rows.lt_int h : wpAny (model prog w) A (compareOp .Lt (.int a t) (.int c u)) Q E s)
theorem rcLS {x y : Str} {t u : Tok} (h : Q (.bool (decide (x.cps.toList < y.cps.toList))) s) : wpAny (model prog w) A (richCompare .Lt (.str x t) (.str y u)) Q E s := (lt_str h : wpAny (model prog w) A (compareOp .Lt (.str x t) (.str y u)) Q E s)
theorem rcGI {a c : Int} {t u : Tok} (h : Q (.bool (decide (a > c))) s) : wpAny (model prog w) A (richCompare .Gt (.int a t) (.int c u)) Q E s := (PyProof.Rows.gt_int h : wpAny (model prog w) A (compareOp .Gt (.int a t) (.int c u)) Q E s)
theorem rcGS {x y : Str} {t u : Tok} (h : Q (.bool (decide (y.cps.toList < x.cps.toList))) s) : wpAny (model prog w) A (richCompare .Gt (.str x t) (.str y u)) Q E s := (PySem.P.gt_str h : wpAny (model prog w) A (compareOp .Gt (.str x t) (.str y u)) Q E s)
end
open PySem.SeqAt
open PySem.AutoSeq1 (wpAny_loadPart')
open PySem.MeetsSeq PySem.MeetsSeq2 PySem.MeetsSeq3
theorem tuple_lt_is (l b : Addr) (n n2 : Nat) (dd dd2 : Option Addr) (sl sl2 : Array (Option Value)) (a c : Int) (m k : Str) (t1 t2 u1 u2 : Tok) :
    Meets (Builtin.«tuple.__lt__» ⟨[.ref l, .ref b], []⟩)
      (fun _ R s => s.heap.get? l = some { cls := .type "tuple", dict := dd, data := .seq #[.int a t1, .str m t2] n, slots := sl } ∧ s.heap.get? b = some { cls := .type "tuple", dict := dd2, data := .seq #[.int c u1, .str k u2] n2, slots := sl2 } ∧
        R (.ok (.ret (.bool (lexLt (a, m) (c, k))))) s) :=
  .of_wp fun prog w A R s h => by
    obtain ⟨hp, g, d, tk, os⟩ := s; obtain ⟨hl, hb, h⟩ := h
    have f2 := AutoSeq1.sub_tuple_tuple
    wp_walk using wpAny_loadPart' hl, wpAny_loadPart' hb, wpAny_forIn_list _ (fun rest b s' => b.1 = none ∧ s' = ⟨hp, g, d, tk, os⟩ ∧ (rest = [(Value.int a t1, Value.int c u1), (Value.str m t2, Value.str k u2)] ∨ (a = c ∧ rest = [(Value.str m t2, Value.str k u2)]) ∨ (a = c ∧ m = k ∧ rest = []))) _
    case turn =>
      rintro ⟨y, x⟩ rest b s' ⟨hb', rfl, hz⟩
      rcases hz with hz | ⟨hac, hz⟩ | ⟨_, _, hz⟩
      · injection hz with hyx hrest
        injection hyx with hy hx
        subst hy hx
        obtain ⟨e, he, hiff⟩ := HT.eqAt_int A.in1 ⟨hp, g, d, tk, os⟩ a t1 c u1
        refine wpAny_bind (he prog w _ _ ?_)
        cases e with
        | true =>
          wp_walk
          exact ⟨rfl, rfl, .inr (.inl ⟨hiff.mp rfl, hrest⟩)⟩
        | false =>
          have hn : ¬ a = c := fun q => absurd (hiff.mpr q) Bool.false_ne_true
          have hri := fun E Q h => (rcLI (prog := prog) (w := w) (A := A.in1) (E := E) (s := ⟨hp, g, d, tk, os⟩) (a := a) (t := t1) (c := c) (u := u1) (Q := Q) h)
          wp_walk using hri
          exact ⟨_, rfl, by rw [lexA hn] at h; simpa using h⟩
      · injection hz with hyx hrest
        injection hyx with hy hx
        subst hy hx
        refine wpAny_bind (wpAny_eqBool_str ?_)
        by_cases e : m = k
        · rw [decide_eq_true e]
          wp_walk
          exact ⟨rfl, rfl, .inr (.inr ⟨hac, e, hrest⟩)⟩
        · rw [decide_eq_false e]
          have hri := fun E Q h => (rcLS (prog := prog) (w := w) (A := A.in1) (E := E) (s := ⟨hp, g, d, tk, os⟩) (x := m) (t := t2) (y := k) (u := u2) (Q := Q) h)
          wp_walk using hri
          exact ⟨_, rfl, by rw [lexB hac e] at h; simpa using h⟩
      · cases hz
    case fin =>
      rintro ⟨b1, b2⟩ s' ⟨hb', rfl, hz⟩
      simp only at hb'
      subst hb'
      rcases hz with hz | ⟨_, hz⟩ | ⟨hac, hmk, _⟩
      · cases hz
      · cases hz
      · rw [lexC hac hmk] at h
        wp_walk
        exact ⟨_, rfl, by simpa [Builtin.Tuple.tupleCompareSizes] using h⟩
    case h =>
      exact ⟨rfl, rfl, .inl rfl⟩
theorem tuple_gt_is (l b : Addr) (n n2 : Nat) (dd dd2 : Option Addr) (sl sl2 : Array (Option Value)) (a c : Int) (m k : Str) (t1 t2 u1 u2 : Tok) :
    Meets (Builtin.«tuple.__gt__» ⟨[.ref l, .ref b], []⟩)
      (fun _ R s => s.heap.get? l = some { cls := .type "tuple", dict := dd, data := .seq #[.int a t1, .str m t2] n, slots := sl } ∧ s.heap.get? b = some { cls := .type "tuple", dict := dd2, data := .seq #[.int c u1, .str k u2] n2, slots := sl2 } ∧
        R (.ok (.ret (.bool (lexLt (c, k) (a, m))))) s) :=
  .of_wp fun prog w A R s h => by
    obtain ⟨hp, g, d, tk, os⟩ := s; obtain ⟨hl, hb, h⟩ := h
    have f2 := AutoSeq1.sub_tuple_tuple
    wp_walk using wpAny_loadPart' hl, wpAny_loadPart' hb, wpAny_forIn_list _ (fun rest b s' => b.1 = none ∧ s' = ⟨hp, g, d, tk, os⟩ ∧ (rest = [(Value.int a t1, Value.int c u1), (Value.str m t2, Value.str k u2)] ∨ (a = c ∧ rest = [(Value.str m t2, Value.str k u2)]) ∨ (a = c ∧ m = k ∧ rest = []))) _
    case turn =>
      rintro ⟨y, x⟩ rest b s' ⟨hb', rfl, hz⟩
      rcases hz with hz | ⟨hac, hz⟩ | ⟨_, _, hz⟩
      · injection hz with hyx hrest
        injection hyx with hy hx
        subst hy hx
        obtain ⟨e, he, hiff⟩ := HT.eqAt_int A.in1 ⟨hp, g, d, tk, os⟩ a t1 c u1
        refine wpAny_bind (he prog w _ _ ?_)
        cases e with
        | true =>
          wp_walk
          exact ⟨rfl, rfl, .inr (.inl ⟨hiff.mp rfl, hrest⟩)⟩
        | false =>
          have hn : ¬ a = c := fun q => absurd (hiff.mpr q) Bool.false_ne_true
          have hri := fun E Q h => (rcGI (prog := prog) (w := w) (A := A.in1) (E := E) (s := ⟨hp, g, d, tk, os⟩) (a := a) (t := t1) (c := c) (u := u1) (Q := Q) h)
          wp_walk using hri
          exact ⟨_, rfl, by rw [lexA' hn] at h; simpa using h⟩
      · injection hz with hyx hrest
        injection hyx with hy hx
        subst hy hx
        refine wpAny_bind (wpAny_eqBool_str ?_)
        by_cases e : m = k
        · rw [decide_eq_true e]
          wp_walk
          exact ⟨rfl, rfl, .inr (.inr ⟨hac, e, hrest⟩)⟩
        · rw [decide_eq_false e]
          have hri := fun E Q h => (rcGS (prog := prog) (w := w) (A := A.in1) (E := E) (s := ⟨hp, g, d, tk, os⟩) (x := m) (t := t2) (y := k) (u := u2) (Q := Q) h)
          wp_walk using hri
          exact ⟨_, rfl, by rw [lexB' hac e] at h; simpa using h⟩
      · cases hz
    case fin =>
      rintro ⟨b1, b2⟩ s' ⟨hb', rfl, hz⟩
      simp only at hb'
      subst hb'
      rcases hz with hz | ⟨_, hz⟩ | ⟨hac, hmk, _⟩
      · cases hz
      · cases hz
      · rw [lexC' hac hmk] at h
        wp_walk
        exact ⟨_, rfl, by simpa [Builtin.Tuple.tupleCompareSizes] using h⟩
    case h =>
      exact ⟨rfl, rfl, .inl rfl⟩
section
variable {prog : Program} {w : World} {A : Around} {E : Value → Shared → Prop} {s : Shared}
def PairAt (h : Heap) (l : Addr) (p : Int × Str) : Prop := ∃ o t1 t2 n, h.get? l = some o ∧ o.cls = .type "tuple" ∧ o.data = .seq #[.int p.1 t1, .str p.2 t2] n
theorem lt_pair {l b : Addr} {p q : Int × Str} {Q : Value → Shared → Prop} (hl : PairAt s.heap l p) (hb : PairAt s.heap b q) (hu : A.units < cLine) (h : Q (.bool (lexLt p q)) s) : wpAny (model prog w) A (compareOp .Lt (.ref l) (.ref b)) Q E s := by
  obtain ⟨⟨cls, dd, data, sl⟩, t1, t2, n, ho, hc, hd⟩ := hl
  obtain ⟨⟨cls2, dd2, data2, sl2⟩, u1, u2, n2, ho2, hc2, hd2⟩ := hb
  simp only at hc hd hc2 hd2
  subst hc hd hc2 hd2
  exact richCompare_meets_room (op := .Lt) ⟨_, ho, rfl⟩ ⟨_, ho2, rfl⟩ PySem.F.slot_tuple_lt PySem.F.entry_tuple_lt (PySem.F.args_tuple_lt_2 _ _) (tuple_lt_is l b n n2 dd dd2 sl sl2 p.1 q.1 p.2 q.2 t1 t2 u1 u2)
    ⟨ho, ho2, show Value.bool (lexLt p q) ≠ Value.notImplemented ∧ Q (.bool (lexLt p q)) s from ⟨(fun x => nomatch x), h⟩⟩ hu
theorem gt_pair {l b : Addr} {p q : Int × Str} {Q : Value → Shared → Prop} (hl : PairAt s.heap l p) (hb : PairAt s.heap b q) (hu : A.units < cLine) (h : Q (.bool (lexLt q p)) s) : wpAny (model prog w) A (compareOp .Gt (.ref l) (.ref b)) Q E s := by
  obtain ⟨⟨cls, dd, data, sl⟩, t1, t2, n, ho, hc, hd⟩ := hl
  obtain ⟨⟨cls2, dd2, data2, sl2⟩, u1, u2, n2, ho2, hc2, hd2⟩ := hb
  simp only at hc hd hc2 hd2
  subst hc hd hc2 hd2
  exact richCompare_meets_room (op := .Gt) ⟨_, ho, rfl⟩ ⟨_, ho2, rfl⟩ PySem.F.slot_tuple_gt PySem.F.entry_tuple_gt (PySem.F.args_tuple_gt_2 _ _) (tuple_gt_is l b n n2 dd dd2 sl sl2 p.1 q.1 p.2 q.2 t1 t2 u1 u2)
    ⟨ho, ho2, show Value.bool (lexLt q p) ≠ Value.notImplemented ∧ Q (.bool (lexLt q p)) s from ⟨(fun x => nomatch x), h⟩⟩ hu
end
end DV
namespace L2
open PySem
section
variable {prog : Program} {w : World} {A : Around} {R : Result → Shared → Prop} {I Z : Addr} {fp wr : List Addr} {n : Nat} {P : Nat → Value → Prop} {St : Nat → Heap → Prop} {Ok : Heap → Prop}
theorem maxAt_loop (W : Walks prog w A.in1 I fp wr n P St) (bt : Nat → Nat → Bool) (cm : CmpAt prog w A.in1 .Gt Ok P bt) (hz : Z ∉ fp) (ok : ∀ h h', Ok h → (∀ b o, b ∉ wr → b ≠ Z → h.get? b = some o → h'.get? b = some o) → Ok h') :
    ∀ (k j : Nat) (s : Shared) (v0 : Value) (c : Nat), n - (j + 1) = k → j + 1 ≤ n → St (j + 1) s.heap → Ok s.heap → P (argBest bt j) v0 → s.heap.get? Z = some { cls := .type "list", dict := none, data := .seq #[v0, v0] c, slots := #[] } →
    (∀ v h' tk, P (argBest bt (n - 1)) v → (∀ b o, b ∉ wr → b ≠ Z → s.heap.get? b = some o → h'.get? b = some o) → R (.ok (.ret v)) { s with heap := h', toks := tk }) → codeAny (model prog w) A (.builtin "max.loop" ⟨[.ref I, .none, .ref Z], []⟩) R s := by
  have hw : Z ∉ wr := fun q => hz (W.sub _ q)
  have nm : (toString "max" ++ toString ".loop" : String) = "max.loop" := by decide
  intro k
  induction k with
  | zero =>
    intro j s v0 c e1 e2 st0 ok0 p0 z0 fin
    have en : j + 1 = n := by omega
    refine codeAny_builtin F.entry_max_loop ?_
    rw [Around.under_plainId F.plain_max_loop _]
    show wpAny _ A.in1 (seqItems? (.ref Z) >>= _) _ _ s
    refine wpAny_bind (wpAny_seqItems z0 rfl ?_)
    show wpAny _ A.in1 (tryCatch (pyNext (.ref I)) _ >>= _) _ _ s
    refine wpAny_bind (wpAny_tryCatch (W.done s _ _ (en ▸ st0) fun h' tk kp => ?_))
    have z1 := kp Z _ hw z0
    show wpAny _ A.in1 (updateSeq Z (fun _ => #[]) >>= _) _ _ _
    refine wpAny_bind ?_
    refine wpAny_updateSeq z1 rfl (wpAny_bind (wpAny_letGo (wpAny_pure ?_)))
    exact fin v0 _ tk (by rw [← en]; exact p0) fun b o b1 b2 e => (Heap.get?_update_other _ _ (Ne.symm b2)).trans (kp b o b1 e)
  | succ k ih =>
    intro j s v0 c e1 e2 st0 ok0 p0 z0 fin
    have lt : j + 1 < n := by omega
    refine codeAny_builtin F.entry_max_loop ?_
    rw [Around.under_plainId F.plain_max_loop _]
    show wpAny _ A.in1 (seqItems? (.ref Z) >>= _) _ _ s
    refine wpAny_bind (wpAny_seqItems z0 rfl ?_)
    show wpAny _ A.in1 (tryCatch (pyNext (.ref I)) _ >>= _) _ _ s
    refine wpAny_bind (wpAny_tryCatch (W.item (j + 1) s _ _ lt st0 fun v h' tk p1 st1 kp => ?_))
    have z1 := kp Z _ hw z0
    have ok1 : Ok h' := ok _ _ ok0 fun b o b1 _ e => kp b o b1 e
    show wpAny _ A.in1 (tryCatch (holding [v, v] (richCompare .Gt v v0 >>= _)) _ >>= _) _ _ _
    refine wpAny_bind (wpAny_tryCatch (wpAny_holding (wpAny_bind (cm (j + 1) (argBest bt j) v v0 _ _ _ ok1 p1 p0 ?_))))
    refine wpAny_bind (wpAny_holding (wpAny_truthy_bool (wpAny_bind (wpAny_letGo (wpAny_pure ?_)))))
    cases hb : bt (j + 1) (argBest bt j) with
    | true =>
      simp only [if_true]
      refine wpAny_bind ?_
      refine wpAny_updateSeq z1 rfl (wpAny_bind (wpAny_letGo ?_))
      rw [nm]
      have k2 : ∀ b o, b ≠ Z → h'.get? b = some o → (h'.update Z (Obj.mapSeq fun _ => #[v, v])).get? b = some o := fun b o q e => (Heap.get?_update_other _ _ (Ne.symm q)).trans e
      refine wpAny_pure ⟨plainId_quiet F.plain_max_loop _, ih (j + 1) _ v _ (by omega) lt (W.frame _ _ _ st1 fun b q o e => k2 b o (fun z => hz (by rw [← z]; exact q)) e) (ok _ _ ok1 fun b o _ q e => k2 b o q e) (by simp only [argBest, hb, if_true]; exact p1) (Heap.get?_update_self _ z1 rfl) fun v' h'' tk'' p2 kp2 => ?_⟩
      exact fin v' h'' tk'' p2 fun b o b1 b2 e => kp2 b o b1 b2 (k2 b o b2 (kp b o b1 e))
    | false =>
      simp only [Bool.false_eq_true, if_false]
      refine wpAny_bind (wpAny_letGo ?_)
      rw [nm]
      refine wpAny_pure ⟨plainId_quiet F.plain_max_loop _, ih (j + 1) _ v0 c (by omega) lt st1 ok1 (by simp only [argBest, hb, Bool.false_eq_true, if_false]; exact p0) z1 fun v' h'' tk'' p2 kp2 => ?_⟩
      exact fin v' h'' tk'' p2 fun b o b1 b2 e => kp2 b o b1 b2 (kp b o b1 e)
theorem maxAt_first (W : Walks prog w A.in1 I fp wr n P St) (bt : Nat → Nat → Bool) (cm : CmpAt prog w A.in1 .Gt Ok P bt) (hz : Z ∉ fp) (ok : ∀ h h', Ok h → (∀ b o, b ∉ wr → b ≠ Z → h.get? b = some o → h'.get? b = some o) → Ok h') (hn : 0 < n) {s : Shared} {c : Nat} (st0 : St 0 s.heap) (ok0 : Ok s.heap)
    (z0 : s.heap.get? Z = some { cls := .type "list", dict := none, data := .seq #[] c, slots := #[] })
    (fin : ∀ v h' tk, P (argBest bt (n - 1)) v → (∀ b o, b ∉ wr → b ≠ Z → s.heap.get? b = some o → h'.get? b = some o) → R (.ok (.ret v)) { s with heap := h', toks := tk }) : codeAny (model prog w) A (.builtin "max.loop" ⟨[.ref I, .none, .ref Z], []⟩) R s := by
  have hw : Z ∉ wr := fun q => hz (W.sub _ q)
  have nm : (toString "max" ++ toString ".loop" : String) = "max.loop" := by decide
  refine codeAny_builtin F.entry_max_loop ?_
  rw [Around.under_plainId F.plain_max_loop _]
  show wpAny _ A.in1 (seqItems? (.ref Z) >>= _) _ _ s
  refine wpAny_bind (wpAny_seqItems z0 rfl ?_)
  show wpAny _ A.in1 (tryCatch (pyNext (.ref I)) _ >>= _) _ _ s
  refine wpAny_bind (wpAny_tryCatch (W.item 0 s _ _ hn st0 fun v h' tk p1 st1 kp => ?_))
  have z1 := kp Z _ hw z0
  show wpAny _ A.in1 (updateSeq Z (fun _ => #[v, v]) >>= _) _ _ _
  refine wpAny_bind ?_
  refine wpAny_updateSeq z1 rfl ?_
  rw [nm]
  have k2 : ∀ b o, b ≠ Z → h'.get? b = some o → (h'.update Z (Obj.mapSeq fun _ => #[v, v])).get? b = some o := fun b o q e => (Heap.get?_update_other _ _ (Ne.symm q)).trans e
  refine wpAny_pure ⟨plainId_quiet F.plain_max_loop _, maxAt_loop W bt cm hz ok _ 0 _ v _ rfl hn (W.frame _ _ _ st1 fun b q o e => k2 b o (fun z => hz (by rw [← z]; exact q)) e) (ok _ _ ok0 fun b o b1 b2 e => k2 b o b2 (kp b o b1 e)) p1 (Heap.get?_update_self _ z1 rfl) fun v' h'' tk'' p2 kp2 => ?_⟩
  exact fin v' h'' tk'' p2 fun b o b1 b2 e => kp2 b o b1 b2 (k2 b o b2 (kp b o b1 e))
end
section
variable {prog : Program} {w : World} {A : Around} {E : Value → Shared → Prop} {s : Shared}
theorem maxAt_call {x : Value} {Q : Value → Shared → Prop}
    (h : wpAny (model prog w) A.in1 (pyIter x) (fun it s2 => ∃ I fp wr n P St bt Ok, it = .ref I ∧ Walks prog w A.in1 I fp wr n P St ∧ St 0 s2.heap ∧ (∀ b ∈ fp, b < s2.heap.objs.size) ∧ 0 < n ∧ CmpAt prog w A.in1 .Gt Ok P bt ∧ Ok s2.heap ∧
      (∀ h h' : Heap, Ok h → (∀ b o, b ∉ wr → b < s2.heap.objs.size → h.get? b = some o → h'.get? b = some o) → Ok h') ∧ ∀ v h' tk, P (argBest bt (n - 1)) v → (∀ b o, b ∉ wr → s2.heap.get? b = some o → h'.get? b = some o) → Q v { s2 with heap := h', toks := tk }) E s) :
    wpAny (model prog w) A (call (.builtin "max") [x]) Q E s := by
  have nm : (toString "max" ++ toString ".loop" : String) = "max.loop" := by decide
  refine call_function_tree F.kind_max F.plain_max F.entry_max (F.args_max1 _) ?_
  show wpAny _ A.in1 (Builtin.Builtins.bindParams "max" ["key", "default"] 0 ⟨[], []⟩ >>= _) _ _ s
  refine wpAny_bind (wpAny_of_eq (show Builtin.Builtins.bindParams "max" ["key", "default"] 0 ⟨[], []⟩ = pure [none, none] from rfl) ?_)
  refine wpAny_bind (wpAny_pure ?_)
  refine wpAny_bind (wpAny_mono h (fun it s2 h2 => ?_) fun _ _ e => e)
  obtain ⟨I, fp, wr, n, P, St, bt, Ok, rfl, W, st0, hfp, hn, cm, ok0, ok, fin⟩ := h2
  refine wpAny_bind (wpAny_newObj_type ?_)
  have hz : s2.heap.objs.size ∉ fp := fun q => Nat.lt_irrefl _ (hfp _ q)
  rw [nm]
  refine wpAny_pure ⟨plainId_quiet F.plain_max_loop _, maxAt_first W bt cm hz (fun h h' o1 kp => ok h h' o1 fun b o b1 b2 e => kp b o b1 (Nat.ne_of_lt b2) e) hn (W.frame _ _ _ st0 fun b _ o e => Heap.get?_push_of_some _ e) (ok _ _ ok0 fun b o _ _ e => Heap.get?_push_of_some _ e) (Heap.get?_push_size _ rfl) fun v h' tk p1 kp => ?_⟩
  exact fin v h' tk p1 fun b o b1 e => kp b o b1 (Nat.ne_of_lt (Heap.lt_size e)) (Heap.get?_push_of_some _ e)
end
end L2
namespace DV
open PySem
theorem lexIrr (p : Int × Str) : lexLt p p = false := (lexOrd [p] 1).irr 0 (by decide)
theorem lexTr {p q r : Int × Str} (h1 : lexLt p q = true) (h2 : lexLt q r = true) : lexLt p r = true := (lexOrd [p, q, r] 3).tr 0 1 2 (by decide) (by decide) (by decide) h1 h2
theorem lexAnti {p q : Int × Str} (h1 : lexLt p q = false) (h2 : lexLt q p = false) : p = q := by
  obtain ⟨a, m⟩ := p
  obtain ⟨c, k⟩ := q
  by_cases h : a = c
  · by_cases e : m = k
    · rw [h, e]
    · rw [lexB h e] at h1
      rw [lexB h.symm (fun z => e z.symm)] at h2
      exfalso
      apply e
      have e1 : m.cps.toList = k.cps.toList := List.le_antisymm (List.not_lt.mp (of_decide_eq_false h2)) (List.not_lt.mp (of_decide_eq_false h1))
      have e2 : m.cps = k.cps := Array.toList_inj.mp e1
      cases m; cases k; simp_all
  · rw [lexA h] at h1
    rw [lexA (fun z => h z.symm)] at h2
    have := of_decide_eq_false h1
    have := of_decide_eq_false h2
    omega
theorem best_of {β : Type} (lt : β → β → Bool) (irr : ∀ p, lt p p = false) (tr : ∀ p q r, lt p q = true → lt q r = true → lt p r = true) (t : Nat → β) : ∀ k, argBest (fun i j => lt (t i) (t j)) k ≤ k ∧ ∀ j, j ≤ k → lt (t j) (t (argBest (fun i j => lt (t i) (t j)) k)) = false
  | 0 => ⟨Nat.le_refl _, fun j hj => by
      have : j = 0 := by omega
      subst this
      exact irr _⟩
  | k + 1 => by
    obtain ⟨h1, h2⟩ := best_of lt irr tr t k
    show (if lt (t (k + 1)) (t (argBest _ k)) = true then k + 1 else argBest _ k) ≤ k + 1 ∧ ∀ j, j ≤ k + 1 → lt (t j) (t (if lt (t (k + 1)) (t (argBest _ k)) = true then k + 1 else argBest _ k)) = false
    by_cases c : lt (t (k + 1)) (t (argBest (fun i j => lt (t i) (t j)) k)) = true
    · rw [if_pos c]
      refine ⟨Nat.le_refl _, fun j hj => ?_⟩
      by_cases e : j = k + 1
      · subst e; exact irr _
      · cases q : lt (t j) (t (k + 1)) with
        | false => rfl
        | true =>
          have z := tr _ _ _ q c
          rw [h2 j (by omega)] at z
          cases z
    · rw [if_neg c]
      refine ⟨by omega, fun j hj => ?_⟩
      by_cases e : j = k + 1
      · subst e
        simpa using c
      · exact h2 j (by omega)
end DV
namespace L2
open PySem PySem.Spec PySem.W PyProof.Rows
def tIS (p : Int × Str) : List V := [.int p.1, .str p.2]
section
variable {X : Cx}
theorem pairAt_of {pins : List (Addr × Obj)} {σ : St} {H : Hp} {s : Shared} (I : Inv X pins σ H s) {a : Addr} {p : Int × Str} (h : H a = some (.tup (tIS p))) : DV.PairAt s.heap a p := by
  obtain ⟨ws, r1, ⟨o, ho, hc2, n, hd⟩, _⟩ := I.tuple (SqT.of h)
  obtain ⟨u, v, e, r2, r3⟩ := vals2 r1
  subst e
  obtain ⟨t1, e1⟩ := r2
  obtain ⟨t2, e2⟩ := r3
  exact ⟨o, t1, t2, n, ho, hc2, by rw [hd, e1, e2]⟩
def rGtP : R2 := fun x y H Q => ∃ (a b : Addr) (p q : Int × Str), x = .ref a ∧ y = .ref b ∧ H a = some (.tup (tIS p)) ∧ H b = some (.tup (tIS q)) ∧ Q (.bl (DV.lexLt q p)) H
theorem op_gtP (hu : X.A.units < cLine) : OpR X (compareOp .Gt) rGtP := by
  intro pins s σ H x y v u Q I rx ry h
  obtain ⟨a, b, p, q, e1, e2, ha, hb, k⟩ := h
  subst e1 e2
  obtain rfl : v = Value.ref a := rx
  obtain rfl : u = Value.ref b := ry
  exact DV.gt_pair (pairAt_of I ha) (pairAt_of I hb) hu ⟨.bl _, H, I, rfl, k⟩
def rMulS : R2 := fun x y H Q => ∃ (z : Str) (n : Int), x = .str z ∧ y = .int n ∧ 1 ≤ n ∧ n ≤ 1000 ∧ z.length ≤ 1000 ∧ ∀ r : Str, r.length = z.length * n.toNat → Q (.str r) H
theorem rep_len (x : Array Nat) : ∀ (n : Nat) (acc : Array Nat), ((List.replicate n x).foldl (· ++ ·) acc).size = acc.size + n * x.size
  | 0, acc => by simp
  | n + 1, acc => by
    rw [List.replicate_succ, List.foldl_cons, rep_len x n, Array.size_append, Nat.succ_mul]
    omega
theorem op_mulS : OpR X (binaryOp .Mult) rMulS := by
  intro pins s σ H x y v u Q I rx ry h
  obtain ⟨z, n, e1, e2, h1, h2, h3, k⟩ := h
  subst e1 e2
  obtain ⟨t, rfl⟩ := rx
  obtain ⟨t2, rfl⟩ := ry
  have hm : z.length * n.toNat ≤ 1000 * 1000 := Nat.mul_le_mul h3 (by omega)
  refine P.mul_str ?_ (fun _ _ => ?_) (fun _ _ => ?_) ?_
  · have a1 : ¬ n < -(2 ^ 63 : Int) := by omega
    have a2 : ¬ n ≥ 2 ^ 63 := by omega
    rw [decide_eq_false a1, decide_eq_false a2]; rfl
  · have q : (9223372036854775 : Int) ≤ (2 ^ 63 - 1) / n := by
      rw [Int.le_ediv_iff_mul_le (by omega)]
      omega
    omega
  · show decide (z.length * n.toNat > sizeLine) = false
    exact decide_eq_false (by rw [sizeLine_eq]; omega)
  · rw [if_neg (by omega)]
    by_cases c : (n == 1 || z.length == 0) = true
    · rw [if_pos c]
      refine ⟨.str z, H, I, ⟨t, rfl⟩, k z ?_⟩
      rw [Bool.or_eq_true] at c
      rcases c with c | c
      · have : n = 1 := by simpa using c
        subst this
        simp
      · have : z.length = 0 := by simpa using c
        rw [this]; simp
    · rw [if_neg c]
      refine ⟨?_, .str _, H, I.tok _, ⟨_, rfl⟩, k _ ?_⟩
      · show (List.foldl (fun x1 x2 => x1 ++ x2) #[] (List.replicate n.toNat z.cps)).size ≤ _
        rw [rep_len]
        show 0 + n.toNat * z.cps.size ≤ sizeLine
        have e : z.cps.size * n.toNat ≤ 1000 * 1000 := hm
        rw [Nat.mul_comm] at e
        rw [sizeLine_eq]
        omega
      · show (List.foldl (fun x1 x2 => x1 ++ x2) #[] (List.replicate n.toNat z.cps)).size = _
        rw [rep_len]
        show 0 + n.toNat * z.cps.size = z.cps.size * n.toNat
        rw [Nat.zero_add, Nat.mul_comm]
def rMinP (K : PySem.W.Frag) : List V → Hp → VK → Prop := fun xs H Q => ∃ (p : Addr) (as : List Addr) (ts : List (Int × Str)), xs = [.ref p] ∧ SqL K H p (as.map V.ref) ∧ as.length = ts.length ∧ 0 < as.length ∧
  (∀ (i : Nat) (a : Addr) (t : Int × Str), as[i]? = some a → ts[i]? = some t → H a = some (.tup (tIS t))) ∧ ∀ (a : Addr) (t : Int × Str), t ∈ ts → H a = some (.tup (tIS t)) → (∀ u ∈ ts, DV.lexLt u t = false) → Q (.ref a) H
theorem call_minP (hc : X.calm = true) (hu : X.A.units + 1 < cLine) : CallR X (.builtin "min") (rMinP X.K) := by
  intro pins s σ H xs us Q I r h
  obtain ⟨p, as, ts, e1, hS, hlen, hn, hall, q⟩ := h
  subst e1
  obtain ⟨u, e2, ru⟩ := vals1 r
  subst e2
  obtain rfl : u = Value.ref p := ru
  obtain ⟨its, rv, pl, hz⟩ := I.list hS
  have hu1 : X.A.in1.units < cLine := hu
  have hL := pl.isList
  have l1 := rv.length
  rw [List.length_map] at l1
  have lt : p < s.heap.objs.size := by
    obtain ⟨_, e, _⟩ := hL
    exact Heap.lt_size e
  let tt : Nat → Int × Str := fun i => (ts[i]?).getD (0, "")
  let Ok : Heap → Prop := fun h => ∀ (i : Nat) (a : Addr) (t : Int × Str), as[i]? = some a → ts[i]? = some t → DV.PairAt h a t
  have ok0 : ∀ h : Heap, (∀ b o, s.heap.get? b = some o → h.get? b = some o) → Ok h := fun h k i a t e1 e2 => by
    obtain ⟨o, t1, t2, n, ho, hc2, hd⟩ := pairAt_of I (hall i a t e1 e2)
    exact ⟨o, t1, t2, n, k _ _ ho, hc2, hd⟩
  have ati : ∀ (i : Nat) (v : Value), its.toArray[i]? = some v → ∃ (a : Addr) (t : Int × Str), as[i]? = some a ∧ ts[i]? = some t ∧ v = Value.ref a := fun i v hv => by
    obtain ⟨x, hx, pp⟩ := rv.at (show its[i]? = some v by simpa using hv)
    rw [List.getElem?_map] at hx
    cases e : as[i]? with
    | none => rw [e] at hx; cases hx
    | some b =>
      rw [e] at hx
      have e3 : V.ref b = x := Option.some.inj hx
      subst e3
      have hk2 : i < ts.length := by
        have := (List.getElem?_eq_some_iff.mp e).1
        omega
      exact ⟨b, ts[i], rfl, by simp [hk2], pp⟩
  refine minAt_call (wpAny_pyIter_list hL ?_)
  refine ⟨s.heap.objs.size, [s.heap.objs.size, p], [s.heap.objs.size], its.toArray.size, _, _, fun i j => DV.lexLt (tt i) (tt j), Ok, rfl, Walks.list (A := X.A.in1) (I.ok.hd hc) _ p (Nat.ne_of_lt lt) its.toArray,
    ⟨⟨_, Heap.get?_push_size _ rfl, rfl, rfl⟩, hL.push _⟩, fun b hb => ?_, by rw [List.size_toArray, ← l1]; exact hn, fun i j vi vj s' Q' E' okk pi pj hQ => ?_, ok0 _ (fun b o e => Heap.get?_push_of_some _ e), fun h h' o1 kp i a t e1 e2 => ?_, fun v h' tk hP hk => ?_⟩
  · show b < (s.heap.push _).objs.size
    rw [Heap.size_push]
    rcases List.mem_cons.mp hb with z | z
    · exact z ▸ Nat.lt_succ_self _
    · exact List.mem_singleton.mp z ▸ Nat.lt_succ_of_lt lt
  · obtain ⟨a, t, e1, e2, e3⟩ := ati i vi pi
    obtain ⟨b, t', e4, e5, e6⟩ := ati j vj pj
    subst e3 e6
    have et : tt i = t := by show (ts[i]?).getD (0, "") = t; rw [e2]; rfl
    have et' : tt j = t' := by show (ts[j]?).getD (0, "") = t'; rw [e5]; rfl
    have hQ : Q' (Value.bool (DV.lexLt (tt i) (tt j))) s' := hQ
    rw [et, et'] at hQ
    exact (DV.lt_pair (E := E') (okk i a t e1 e2) (okk j b t' e4 e5) hu1 hQ : wpAny (model X.prog X.w) X.A.in1 (compareOp .Lt (.ref a) (.ref b)) Q' E' s')
  · obtain ⟨o, t1, t2, n, ho, hc2, hd⟩ := o1 i a t e1 e2
    have ha : a < s.heap.objs.size := by
      obtain ⟨o', _, _, _, ho', _⟩ := pairAt_of I (hall i a t e1 e2)
      exact Heap.lt_size ho'
    refine ⟨o, t1, t2, n, kp a o (fun hm => ?_) ?_ ho, hc2, hd⟩
    · rw [List.mem_singleton.mp hm] at ha; exact absurd ha (Nat.lt_irrefl _)
    · show a < (s.heap.push _).objs.size
      rw [Heap.size_push]; exact Nat.lt_succ_of_lt ha
  · obtain ⟨a, t, e1, e2, e3⟩ := ati _ v hP
    subst e3
    obtain ⟨b1, b2⟩ := DV.best_of DV.lexLt DV.lexIrr (fun _ _ _ => DV.lexTr) tt (its.toArray.size - 1)
    refine ⟨.ref a, H, I.kept (t' := tk) fun b o eb => hk b o (fun hm => ?_) (Heap.get?_push_of_some _ eb), rfl, q a t (List.mem_of_getElem? e2) (hall _ a t e1 e2) fun u hu2 => ?_⟩
    · rw [List.mem_singleton.mp hm] at eb
      exact Nat.lt_irrefl _ (Heap.lt_size eb)
    · obtain ⟨k, hk2⟩ := List.getElem?_of_mem hu2
      have hk3 : k < ts.length := (List.getElem?_eq_some_iff.mp hk2).1
      have z := b2 k (by rw [List.size_toArray]; omega)
      have et : tt k = u := by show (ts[k]?).getD (0, "") = u; rw [hk2]; rfl
      have et' : tt (argBest (fun i j => DV.lexLt (tt i) (tt j)) (its.toArray.size - 1)) = t := by show (ts[_]?).getD ((0 : Int), ("" : Str)) = t; rw [e2]; rfl
      rw [et, et'] at z
      exact z
def rMaxP (K : PySem.W.Frag) : List V → Hp → VK → Prop := fun xs H Q => ∃ (p : Addr) (as : List Addr) (ts : List (Int × Str)), xs = [.ref p] ∧ SqL K H p (as.map V.ref) ∧ as.length = ts.length ∧ 0 < as.length ∧
  (∀ (i : Nat) (a : Addr) (t : Int × Str), as[i]? = some a → ts[i]? = some t → H a = some (.tup (tIS t))) ∧ ∀ (a : Addr) (t : Int × Str), t ∈ ts → H a = some (.tup (tIS t)) → (∀ u ∈ ts, DV.lexLt t u = false) → Q (.ref a) H
theorem call_maxP (hc : X.calm = true) (hu : X.A.units + 1 < cLine) : CallR X (.builtin "max") (rMaxP X.K) := by
  intro pins s σ H xs us Q I r h
  obtain ⟨p, as, ts, e1, hS, hlen, hn, hall, q⟩ := h
  subst e1
  obtain ⟨u, e2, ru⟩ := vals1 r
  subst e2
  obtain rfl : u = Value.ref p := ru
  obtain ⟨its, rv, pl, hz⟩ := I.list hS
  have hu1 : X.A.in1.units < cLine := hu
  have hL := pl.isList
  have l1 := rv.length
  rw [List.length_map] at l1
  have lt : p < s.heap.objs.size := by
    obtain ⟨_, e, _⟩ := hL
    exact Heap.lt_size e
  let tt : Nat → Int × Str := fun i => (ts[i]?).getD (0, "")
  let Ok : Heap → Prop := fun h => ∀ (i : Nat) (a : Addr) (t : Int × Str), as[i]? = some a → ts[i]? = some t → DV.PairAt h a t
  have ok0 : ∀ h : Heap, (∀ b o, s.heap.get? b = some o → h.get? b = some o) → Ok h := fun h k i a t e1 e2 => by
    obtain ⟨o, t1, t2, n, ho, hc2, hd⟩ := pairAt_of I (hall i a t e1 e2)
    exact ⟨o, t1, t2, n, k _ _ ho, hc2, hd⟩
  have ati : ∀ (i : Nat) (v : Value), its.toArray[i]? = some v → ∃ (a : Addr) (t : Int × Str), as[i]? = some a ∧ ts[i]? = some t ∧ v = Value.ref a := fun i v hv => by
    obtain ⟨x, hx, pp⟩ := rv.at (show its[i]? = some v by simpa using hv)
    rw [List.getElem?_map] at hx
    cases e : as[i]? with
    | none => rw [e] at hx; cases hx
    | some b =>
      rw [e] at hx
      have e3 : V.ref b = x := Option.some.inj hx
      subst e3
      have hk2 : i < ts.length := by
        have := (List.getElem?_eq_some_iff.mp e).1
        omega
      exact ⟨b, ts[i], rfl, by simp [hk2], pp⟩
  refine maxAt_call (wpAny_pyIter_list hL ?_)
  refine ⟨s.heap.objs.size, [s.heap.objs.size, p], [s.heap.objs.size], its.toArray.size, _, _, fun i j => DV.lexLt (tt j) (tt i), Ok, rfl, Walks.list (A := X.A.in1) (I.ok.hd hc) _ p (Nat.ne_of_lt lt) its.toArray,
    ⟨⟨_, Heap.get?_push_size _ rfl, rfl, rfl⟩, hL.push _⟩, fun b hb => ?_, by rw [List.size_toArray, ← l1]; exact hn, fun i j vi vj s' Q' E' okk pi pj hQ => ?_, ok0 _ (fun b o e => Heap.get?_push_of_some _ e), fun h h' o1 kp i a t e1 e2 => ?_, fun v h' tk hP hk => ?_⟩
  · show b < (s.heap.push _).objs.size
    rw [Heap.size_push]
    rcases List.mem_cons.mp hb with z | z
    · exact z ▸ Nat.lt_succ_self _
    · exact List.mem_singleton.mp z ▸ Nat.lt_succ_of_lt lt
  · obtain ⟨a, t, e1, e2, e3⟩ := ati i vi pi
    obtain ⟨b, t', e4, e5, e6⟩ := ati j vj pj
    subst e3 e6
    have et : tt i = t := by show (ts[i]?).getD (0, "") = t; rw [e2]; rfl
    have et' : tt j = t' := by show (ts[j]?).getD (0, "") = t'; rw [e5]; rfl
    have hQ : Q' (Value.bool (DV.lexLt (tt j) (tt i))) s' := hQ
    rw [et, et'] at hQ
    exact (DV.gt_pair (E := E') (okk i a t e1 e2) (okk j b t' e4 e5) hu1 hQ : wpAny (model X.prog X.w) X.A.in1 (compareOp .Gt (.ref a) (.ref b)) Q' E' s')
  · obtain ⟨o, t1, t2, n, ho, hc2, hd⟩ := o1 i a t e1 e2
    have ha : a < s.heap.objs.size := by
      obtain ⟨o', _, _, _, ho', _⟩ := pairAt_of I (hall i a t e1 e2)
      exact Heap.lt_size ho'
    refine ⟨o, t1, t2, n, kp a o (fun hm => ?_) ?_ ho, hc2, hd⟩
    · rw [List.mem_singleton.mp hm] at ha; exact absurd ha (Nat.lt_irrefl _)
    · show a < (s.heap.push _).objs.size
      rw [Heap.size_push]; exact Nat.lt_succ_of_lt ha
  · obtain ⟨a, t, e1, e2, e3⟩ := ati _ v hP
    subst e3
    obtain ⟨b1, b2⟩ := DV.best_of (fun p q => DV.lexLt q p) DV.lexIrr (fun _ _ _ h1 h2 => DV.lexTr h2 h1) tt (its.toArray.size - 1)
    refine ⟨.ref a, H, I.kept (t' := tk) fun b o eb => hk b o (fun hm => ?_) (Heap.get?_push_of_some _ eb), rfl, q a t (List.mem_of_getElem? e2) (hall _ a t e1 e2) fun u hu2 => ?_⟩
    · rw [List.mem_singleton.mp hm] at eb
      exact Nat.lt_irrefl _ (Heap.lt_size eb)
    · obtain ⟨k, hk2⟩ := List.getElem?_of_mem hu2
      have hk3 : k < ts.length := (List.getElem?_eq_some_iff.mp hk2).1
      have z := b2 k (by rw [List.size_toArray]; omega)
      have et : tt k = u := by show (ts[k]?).getD (0, "") = u; rw [hk2]; rfl
      have et' : tt (argBest (fun i j => DV.lexLt (tt j) (tt i)) (its.toArray.size - 1)) = t := by show (ts[_]?).getD ((0 : Int), ("" : Str)) = t; rw [e2]; rfl
      rw [et, et'] at z
      exact z
theorem comp_values {a : Addr} {o : Obj} {kvs : List (Key × V)} {te : TE} {σ : St} {H : Hp} {Q : VK} (f : V → V) (hq : H a = some (.frz o (.dK kvs))) (hn : kvs.length < sizeLine)
    (he : ∀ (D : Addr) (i : Nat) (k : Key) (x : V) (l : List V) (Q' : VK), H D = none → kvs[i]? = some (k, x) → Q' (f x) (upd H D (.lst l)) → te (some x :: σ) (upd H D (.lst l)) Q') (hd : ∀ D, H D = none → Q (.ref D) (upd H D (.lst (kvs.map fun kv => f kv.2)))) :
    CompGo (Itv a o kvs) H σ ttAll te Q := by
  intro D hD
  refine ⟨fun i m H' => m = kvs.length - i ∧ i ≤ kvs.length ∧ H' = upd H D (.lst ((kvs.take i).map fun kv => f kv.2)), ⟨kvs.length, by omega, Nat.zero_le _, rfl⟩, ?_⟩
  rintro i m H' ⟨rfl, hi, rfl⟩
  have q : (upd H D (.lst ((kvs.take i).map fun kv => f kv.2))) a = some (.frz o (.dK kvs)) := by rw [upd_ne (ne_of_none hq hD)]; exact hq
  by_cases hlt : i < kvs.length
  · refine .inr ⟨⟨q, hlt⟩, fun x H2 y => ?_⟩
    obtain ⟨e, k, hx⟩ := y
    subst e
    unfold ttAll
    refine iteT ?_
    refine he D i k x _ _ hD hx ⟨_, upd_same, ?_, kvs.length - (i + 1), by omega, rfl, hlt, ?_⟩
    · rw [List.length_map, List.length_take]; omega
    · rw [upd_upd, List.take_add_one, hx, List.map_append]
      rfl
  · have e : i = kvs.length := by omega
    subst e
    refine .inl ⟨⟨q, Nat.le_refl _⟩, ?_⟩
    rw [List.take_length]
    exact hd D hD
end
end L2
namespace B01
open PySem L2 S2
def top (i : Nat) : Stmt := PySem.Challenge.pw_boxgalley_k01_dealt.main.body.getD i (.Pass ⟨0, 0, 0, 0⟩)
abbrev sDeal : Stmt := top 1
abbrev sAt : Stmt := top 3
abbrev sMixed : Stmt := top 4
abbrev sDraws : Stmt := top 5
abbrev sLNames : Stmt := top 6
abbrev sLaw : Stmt := top 7
structure Names (mg : Str → Option Value) : Prop where
  sum : mg "sum" = none
  list : mg "list" = none
  sorted : mg "sorted" = none
  dict : mg "dict" = none
  len : mg "len" = none
  range : mg "range" = none
  zip : mg "zip" = none
  inst : mg "isinstance" = none
  all : mg "all" = none
  int : mg "int" = none
  bool : mg "bool" = none
  max : mg "max" = none
  min : mg "min" = none
abbrev lamPos : Pos := ⟨12, 40, 12, 73⟩
abbrev lamQual : Str := (("deal" : Str) ++ ".<locals>.") ++ "<lambda>"
def wOf (ws : List (Str × Int)) (x : Str) : Int := ((ws.find? fun p => decide (p.1 = x)).map (·.2)).getD 0
def restOf (R : Int) (ws : List (Str × Int)) (x : Str) : Int := DV.rest R (DV.whole ws) (wOf ws x)
def dealt (R : Int) (ws : List (Str × Int)) (more : List Str) : List (Str × Int) := ws.map fun p => (p.1, DV.part R (DV.whole ws) p.2 + if p.1 ∈ more then 1 else 0)
def leftOf (R : Int) (ws : List (Str × Int)) : Int := R - (ws.map fun p => DV.part R (DV.whole ws) p.2).sum
def spDeal (T : Addr) : Sp := fun vs H Q _ => ∃ (d : Addr) (R : Int) (ws : List (Str × Int)) (ps : Array Value), vs = [.int R, .ref d] ∧ Rd H d (.dK (kvW ws)) ∧ (ws.map (·.1)).Nodup ∧ ws ≠ [] ∧ ws.length < 64 ∧ 0 ≤ R ∧ R < 2 ^ 32 ∧ 0 < DV.whole ws ∧ DV.whole ws < 1073741824 ∧
  H T = some (.tbl ps) ∧ TabOk H lamPos lamQual ps ∧ ∀ (S : Addr) (H' : Hp) (ps' : Array Value) (out : List Str), H S = none → (∀ b u, b ≠ T → b ≠ d → H b = some u → H' b = some u) → Rd H' d (.dK (kvW ws)) → H' T = some (.tbl ps') → TabOk H' lamPos lamQual ps' →
    out.Perm (ws.map (·.1)) → out.Pairwise (fun x y => DV.lexLt (-(restOf R ws y), y) (-(restOf R ws x), x) = false) → H' S = some (.dK (kvW (dealt R ws (out.take (leftOf R ws).toNat)))) → Q (.ref S) H'
theorem notin_take {ws : List (Str × Int)} (nd : (ws.map (·.1)).Nodup) {i : Nat} {x : Str} {n : Int} (h : ws[i]? = some (x, n)) (f : Str × Int → Int) : x ∉ ((ws.take i).map fun p => (p.1, f p)).map (·.1) := by
  intro hx
  rw [List.map_map] at hx
  obtain ⟨p, hp, e⟩ := List.mem_map.mp hx
  obtain ⟨j, hj, ej⟩ := List.mem_iff_getElem.mp hp
  rw [List.length_take] at hj
  obtain ⟨hi, ei⟩ := List.getElem?_eq_some_iff.mp h
  rw [List.getElem_take] at ej
  have e' : p.1 = x := e
  have := (List.pairwise_iff_getElem.mp nd) j i (by rw [List.length_map]; omega) (by rw [List.length_map]; exact hi) (by omega)
  apply this
  rw [List.getElem_map, List.getElem_map, ej, ei]
  exact e'
theorem take_next {ws : List (Str × Int)} {i : Nat} {x : Str} {n : Int} (h : ws[i]? = some (x, n)) (f : Str × Int → Int) : ((ws.take i).map fun p => (p.1, f p)) ++ [(x, f (x, n))] = (ws.take (i + 1)).map fun p => (p.1, f p) := by
  rw [List.take_succ, h, List.map_append]
  rfl
theorem putTake {ws : List (Str × Int)} (nd : (ws.map (·.1)).Nodup) {i : Nat} {x : Str} {n m : Int} (h : ws[i]? = some (x, n)) (f : Str × Int → Int) (e : m = f (x, n)) :
    putK (kvW ((ws.take i).map fun p => (p.1, f p))) (.inr x) (.int m) = kvW ((ws.take (i + 1)).map fun p => (p.1, f p)) := by
  rw [putW_new (notin_take nd h _), e, take_next h f]
theorem wOf_of {ws : List (Str × Int)} (nd : (ws.map (·.1)).Nodup) {x : Str} {p : Str × Int} (h : (x, p.2) ∈ ws) : wOf ws x = p.2 := by
  unfold wOf
  induction ws with
  | nil => cases h
  | cons q ws ih =>
    rw [List.map_cons, List.nodup_cons] at nd
    rcases List.mem_cons.mp h with e | e
    · rw [List.find?_cons_of_pos (by rw [← e]; exact decide_eq_true rfl), ← e]
      rfl
    · rw [List.find?_cons_of_neg (fun z => nd.1 (by rw [of_decide_eq_true z]; exact List.mem_map_of_mem (f := (·.1)) e))]
      exact ih nd.2 e
theorem cut_take {xs : List Str} {v : Int} (h : 0 ≤ v) : cutV (xs.map V.str) none (some v) = (xs.take v.toNat).map V.str := by
  unfold cutV
  rw [HT.sIx_none]
  unfold HT.sIx
  dsimp only
  rw [if_neg (by omega), List.drop_zero, Nat.sub_zero, List.length_map, ← List.map_take]
  congr 1
  rw [List.take_eq_take_iff]
  omega
theorem notin_more {more : List Str} (nd : more.Nodup) {j : Nat} {x : Str} (h : more[j]? = some x) : x ∉ more.take j := by
  intro hx
  obtain ⟨i, hi, ei⟩ := List.mem_iff_getElem.mp hx
  rw [List.length_take] at hi
  rw [List.getElem_take] at ei
  obtain ⟨hj, ej⟩ := List.getElem?_eq_some_iff.mp h
  exact (List.pairwise_iff_getElem.mp nd) i j (by omega) hj (by omega) (by rw [ei, ej])
theorem dealt_next {R : Int} {ws : List (Str × Int)} (nd : (ws.map (·.1)).Nodup) {more : List Str} {j : Nat} {x : Str} {n : Int} (hx : (x, n) ∈ ws) (h : more[j]? = some x) :
    ((dealt R ws (more.take j)).map fun p => if p.1 = x then (p.1, DV.part R (DV.whole ws) n + 1) else p) = dealt R ws (more.take (j + 1)) := by
  unfold dealt
  rw [List.map_map]
  refine List.map_congr_left fun p hp => ?_
  have em : ∀ y, y ∈ more.take (j + 1) ↔ y ∈ more.take j ∨ y = x := fun y => by rw [List.take_succ, h]; simp
  show (if p.1 = x then (p.1, DV.part R (DV.whole ws) n + 1) else (p.1, DV.part R (DV.whole ws) p.2 + if p.1 ∈ more.take j then 1 else 0)) = _
  by_cases e : p.1 = x
  · have e2 : p.2 = n := (wOf_of nd (p := p) (x := x) (by rw [← e]; exact hp)).symm.trans (wOf_of nd (p := (x, n)) hx)
    rw [if_pos e, if_pos ((em _).mpr (.inr e)), e2]
  · rw [if_neg e]
    by_cases e3 : p.1 ∈ more.take j
    · rw [if_pos e3, if_pos ((em _).mpr (.inl e3))]
    · rw [if_neg e3, if_neg (fun z => ((em _).mp z).elim e3 e)]
theorem okC {P : Program} {w : World} {K : PySem.W.Frag} {mg : Str → Option Value} {base : Heap} {x qual : Str} {st : Stmt} {f : Addr} {fd : FuncData} {N ps : List Str} {k : Nat} {sp : Sp} (F : Fun K x qual st f fd) (S : FnScope N ps (defScope st)) (len : ∀ vs H Q E, sp vs H Q E → vs.length = ps.length)
    (hbody : ∀ (cdv : Value), fd.code = cdv → ∀ (A : Around) (outer : List Env) (s : Shared) (H : Hp) (vs : List V) (Q : VK) (E : XK), Room k (A.deeper (PyProof.Rows.envOfC qual (defScope st) s.heap.objs.size f cdv)) → sp vs H Q E →
      ∃ t, PSs (cxOf CX0 P w K mg base N qual (defScope st) f cdv A outer s H E).nox (defBody st) t ∧ t { nx := fun _ H' => Q .non H', rt := Q } (L2.start N vs) H) : FnOk P w K mg base CX0 (k + 1) f fd ps sp := by
  obtain ⟨oc, od, kV, doc, pm, an, cdv, ct, osl, rfl, lk, hcd⟩ := F.ex
  refine fn_of lk hcd S len fun A outer s H vs Q E hr hsp => ?_
  obtain ⟨t, h, q⟩ := hbody cdv rfl A outer s H vs Q E hr hsp
  exact ⟨t, h.nox, q⟩
theorem pe_never {X : Cx} {e : Expr} : PE X e (fun _ _ _ => False) := fun _ _ _ _ _ _ h => h.elim
section
variable {P : Program} {w : World} {K : PySem.W.Frag} {mg : Str → Option Value} {base : Heap}
theorem scDeal : FnScope ["room", "weights", "whole", "sizes", "rests", "name", "weight", "left", "in_turn"] ["room", "weights"] (defScope sDeal) := ⟨rfl, rfl, rfl, by decide +kernel, rfl, by decide +kernel, by decide +kernel⟩
set_option maxHeartbeats 2000000 in
theorem ok_deal {f T c0 : Addr} {fd : FuncData} (F : Fun K "deal" "deal" sDeal f fd) (N : Names mg) (hcd : fd.code = .ref c0) (hch : PySem.W.codeHdIn K c0 T = true) (hbm : base.BuiltinsAt mg T) : FnOk P w K mg base CX0 2 f fd ["room", "weights"] (spDeal T) := by
  refine okC F scDeal (fun vs H Q E h => ?_) (fun cdv hce A outer s H vs Q E hr h => ?_)
  · obtain ⟨d, R, ws, ps, e, _⟩ := h
    rw [e]
    rfl
  · obtain ⟨d, R, ws, ps, e, hd, nd, hne, h64, hR, hR2, hw, hw2, hT, hT2, q⟩ := h
    subst e
    have hu : (A.deeper (PyProof.Rows.envOfC "deal" (defScope sDeal) s.heap.objs.size f cdv)).units + 1 < cLine := by have := hr.units; omega
    have hcdv : cdv = .ref c0 := hce.symm.trans hcd
    refine ⟨_, pss_cons (ps_set (i := 2) scDeal.nd rfl (Or.inl rfl) (pe_sumV rfl (pv 1) (by rfl) (by rfl) (by rfl) N.sum PyProof.Rows.boot_sum))
      (pss_cons (ps_if (pt_cmpR op_eq (pv 2) pe_int (nomark _)) (pss_one (ps_ret pe_never)) pss_nil)
      (pss_cons (ps_set (i := 3) scDeal.nd rfl (Or.inl rfl) pe_dnewK)
      (pss_cons (ps_set (i := 4) scDeal.nd rfl (Or.inr rfl) pe_dnewK)
      (pss_cons (ps_for PassesOwn.never rfl (pi_items (pv 1)) (pg_tup rfl (pgs_cons (pg_name (i := 5) scDeal.nd rfl (Or.inl rfl)) (pgs_cons (pg_name (i := 6) scDeal.nd rfl (Or.inl rfl)) pgs_nil)))
        (pss_cons (ps_dput hu (pv 3) (pv 5) (pe_op op_fdiv (pe_op op_mul (pv 0) (pv 6)) (pv 2)) rfl)
        (pss_one (ps_dput hu (pv 4) (pv 5) (pe_op op_sub (pe_op op_mul (pv 0) (pv 6)) (pe_op op_mul (pe_dget hu (pv 3) (pv 5) (fun _ _ => rfl)) (pv 2))) rfl))))
      (pss_cons (ps_set (i := 7) scDeal.nd rfl (Or.inl rfl) (pe_op op_sub (pv 0) (pe_sumV rfl (pv 3) (by rfl) (by rfl) (by rfl) N.sum PyProof.Rows.boot_sum)))
      (pss_cons (ps_set (i := 8) scDeal.nd rfl (Or.inl rfl) (pe_sortL (P := T) (c0 := c0) (i := 4) (Nat.lt_of_le_of_lt (Nat.le_trans (Nat.le_add_right _ _) (Nat.le_add_right _ _)) hr.dp) (by rfl) (by exact Or.inr (Or.inl rfl)) (by rfl) hcdv hch hbm (by rfl) (by rfl) (by rfl) (by rfl) (by rfl) N.sorted PyProof.Rows.boot_sorted (pe_callTy (call_listD rfl) (by rfl) N.list PyProof.Rows.boot_list (pa_cons (pv 1) pa_nil))))
      (pss_cons (ps_for PassesOwn.never rfl (pi_list (pe_slice sl_list (pv 8) po_none (po_some (pv 7)))) (pg_name (i := 5) scDeal.nd rfl (Or.inl rfl))
        (pss_one (ps_dput hu (pv 3) (pv 5) (pe_op op_add (pe_dget hu (pv 3) (pv 5) (fun _ _ => rfl)) pe_int) rfl)))
      (pss_one (ps_ret (pv 3)))))))))), ?_⟩
    refine ⟨_, rfl, d, _, ws.map (·.2), rfl, hd, kvW_vals ws, ?_⟩
    have hW : DV.whole ws ≠ 0 := by omega
    refine ⟨_, rfl, rfl, _, rfl, ?_⟩
    refine iteC (by show decide (V.int (DV.whole ws) = V.int 0) = false; exact decide_eq_false fun z => hW (V.int.inj z)) ?_
    intro S hS B hB
    have hSB : S ≠ B := fun z => by rw [← z, upd_same] at hB; cases hB
    have hBH : H B = none := by rw [upd_ne (Ne.symm hSB)] at hB; exact hB
    have k1 : ∀ b u, H b = some u → (upd (upd H S (.dK [])) B (.dK [])) b = some u := fun b u e => by rw [upd_ne (ne_of_none e hBH), upd_ne (ne_of_none e hS)]; exact e
    have hS1 : (upd (upd H S (.dK [])) B (.dK [])) S = some (.dK []) := by rw [upd_ne hSB, upd_same]
    have hB1 : (upd (upd H S (.dK [])) B (.dK [])) B = some (.dK []) := upd_same
    generalize upd (upd H S (.dK [])) B (.dK []) = H1 at *
    have hdn : H d ≠ none := by rcases hd with r | ⟨_, r⟩ <;> rw [r] <;> exact fun z => nomatch z
    have dS : S ≠ d := fun z => hdn (by rw [← z]; exact hS)
    have dB : B ≠ d := fun z => hdn (by rw [← z]; exact hBH)
    have dT : d ≠ T := fun z => by rw [z] at hd; rcases hd with r | ⟨_, r⟩ <;> rw [hT] at r <;> cases r
    refine ⟨_, rfl, d, _, rfl, hd.keep fun o e => k1 _ _ e, fun o => for_items (fun i σ H9 => ∃ (u5 u6 : Option V), σ = [some (.int R), some (.ref d), some (.int (DV.whole ws)), some (.ref S), some (.ref B), u5, u6, none, none] ∧
      H9 d = some (.frz o (.dK (kvW ws))) ∧ (∀ b u, b ≠ d → H b = some u → H9 b = some u) ∧ H9 S = some (.dK (kvW ((ws.take i).map fun p => (p.1, DV.part R (DV.whole ws) p.2)))) ∧ H9 B = some (.dK (kvW ((ws.take i).map fun p => (p.1, DV.rest R (DV.whole ws) p.2)))))
      ⟨none, none, rfl, upd_same, fun b u hb e => by rw [upd_ne hb]; exact k1 _ _ e, by rw [upd_ne dS]; exact hS1, by rw [upd_ne dB]; exact hB1⟩ (fun i σ H9 _ ⟨_, _, _, z, _⟩ => z) ?_ ?_⟩
    · rintro i k v p0 σ H9 hkv hp0 ⟨u5, u6, rfl, h9d, h9k, h9S, h9B⟩
      obtain ⟨x, n, ex, rfl, rfl⟩ := kvW_at hkv
      have k10 : ∀ b u, H9 b = some u → (upd H9 p0 (.tup [kV (.inr x), .int n])) b = some u := fun b u e => by rw [upd_ne (ne_of_none e hp0)]; exact e
      have hp10 : (upd H9 p0 (.tup [kV (.inr x), .int n])) p0 = some (.tup [kV (.inr x), .int n]) := upd_same
      generalize upd H9 p0 (.tup [kV (.inr x), .int n]) = H10 at *
      have hi : i < ws.length := (List.getElem?_eq_some_iff.mp ex).1
      have lt : ∀ f : Str × Int → Int, (kvW ((ws.take i).map fun p => (p.1, f p))).length < sizeLine := fun f => by
        simp only [kvW, List.length_map, List.length_take, sizeLine_eq]; omega
      have cm1 : CMul R n := .inl ⟨by omega, by omega⟩
      refine ⟨p0, _, rfl, SqT.of hp10, rfl, _, _, rfl, _, _, rfl, rfl, ?_⟩
      refine ⟨_, rfl, _, rfl, _, _, rfl, rfl, cm1, _, rfl, _, _, rfl, rfl, ⟨hw, hw2⟩, _, rfl, _, rfl, S, _, rfl, DPut.k (k := .inr x) (k10 _ _ h9S) (lt _), ?_⟩
      rw [putTake nd ex (fun p => DV.part R (DV.whole ws) p.2) (m := R * n / DV.whole ws) rfl]
      have k11 : ∀ b u, b ≠ S → H10 b = some u → (upd H10 S (.dK (kvW ((ws.take (i + 1)).map fun p => (p.1, DV.part R (DV.whole ws) p.2))))) b = some u := fun b u hb e => by rw [upd_ne hb]; exact e
      have h11 : (upd H10 S (.dK (kvW ((ws.take (i + 1)).map fun p => (p.1, DV.part R (DV.whole ws) p.2))))) S = some (.dK (kvW ((ws.take (i + 1)).map fun p => (p.1, DV.part R (DV.whole ws) p.2)))) := upd_same
      generalize upd H10 S (.dK (kvW ((ws.take (i + 1)).map fun p => (p.1, DV.part R (DV.whole ws) p.2)))) = H11 at *
      have nd2 : (((ws.take (i + 1)).map fun p => (p.1, DV.part R (DV.whole ws) p.2)).map (·.1)).Nodup := by
        rw [List.map_map]
        exact (List.Sublist.map _ (List.take_sublist _ _)).nodup nd
      have m2 : (x, DV.part R (DV.whole ws) n) ∈ (ws.take (i + 1)).map fun p => (p.1, DV.part R (DV.whole ws) p.2) := by
        rw [← take_next ex (fun p => DV.part R (DV.whole ws) p.2)]
        simp
      have hv : DGet H11 S (kV (.inr x)) (some (.int (DV.part R (DV.whole ws) n))) := by
        rw [← valW nd2 m2]
        exact DGet.k h11
      have h11B := k11 _ _ (Ne.symm hSB) (k10 _ _ h9B)
      refine ⟨_, rfl, _, rfl, _, _, rfl, rfl, cm1, _, rfl, _, rfl, S, _, rfl, hv, _, rfl, _, _, rfl, rfl, .inr ⟨by omega, by omega⟩, _, _, rfl, rfl, _, rfl, _, rfl, B, _, rfl, DPut.k (k := .inr x) h11B (lt _), ?_⟩
      rw [putTake nd ex (fun p => DV.rest R (DV.whole ws) p.2) (m := R * n - DV.part R (DV.whole ws) n * DV.whole ws) rfl]
      refine (show ∃ u5 u6, _ from ⟨_, _, rfl, ?_, fun b u hb e => ?_, ?_, upd_same⟩)
      · rw [upd_ne (Ne.symm dB)]; exact k11 _ _ (Ne.symm dS) (k10 _ _ h9d)
      · rw [upd_ne (ne_of_none e hBH)]; exact k11 _ _ (ne_of_none e hS) (k10 _ _ (h9k b u hb e))
      · rw [upd_ne hSB]; exact h11
    · rintro σ H9 ⟨u5, u6, rfl, h9d, h9k, h9S, h9B⟩
      rw [show (kvW ws).length = ws.length by simp [kvW], List.take_length] at h9S h9B
      refine ⟨_, rfl, _, rfl, S, _, (ws.map fun p => DV.part R (DV.whole ws) p.2), rfl, .inl h9S, by simp [kvW], _, _, rfl, rfl, ?_⟩
      refine ⟨_, rfl, d, _, rfl, .inr ⟨o, h9d⟩, fun l hl => ?_⟩
      rw [kvW_keys]
      have k10 : ∀ b u, H9 b = some u → (upd H9 l (.lst ((ws.map (·.1)).map V.str))) b = some u := fun b u e => by rw [upd_ne (ne_of_none e hl)]; exact e
      have h10l : (upd H9 l (.lst ((ws.map (·.1)).map V.str))) l = some (.lst ((ws.map (·.1)).map V.str)) := upd_same
      generalize upd H9 l (.lst ((ws.map (·.1)).map V.str)) = H10 at *
      have hT10 : H10 T = some (.tbl ps) := k10 _ _ (h9k _ _ (Ne.symm dT) hT)
      refine ⟨l, ws.map (·.1), B, _, restOf R ws, ps, rfl, SqL.of h10l, by rw [List.length_map]; exact h64, hT10, ⟨hT2.1, hT2.2.imp id fun ⟨c, e1, e2⟩ => ⟨c, e1, k10 _ _ (h9k _ _ (fun z => by rw [z] at e2; rcases hd with r | ⟨_, r⟩ <;> rw [e2] at r <;> cases r) e2)⟩⟩, rfl, .inl (k10 _ _ h9B), fun x hx => ?_, fun D out H2 ps' hD hk hP' hT' hp hs => ?_⟩
      · obtain ⟨p, hp, e⟩ := List.mem_map.mp hx
        have ew : wOf ws x = p.2 := wOf_of nd (by rw [← e]; exact hp)
        refine valW (by rw [List.map_map]; exact nd) ?_
        unfold restOf
        rw [ew, ← e]
        exact List.mem_map_of_mem (f := fun p : Str × Int => (p.1, DV.rest R (DV.whole ws) p.2)) hp
      · have hlf := DV.left_ok (R := R) hw hne
        have hS2 := hk _ _ (fun z => by rw [z] at h9S; have := h9k _ _ (Ne.symm dT) hT; rw [h9S] at this; cases this) (k10 _ _ h9S)
        have k3 : ∀ b u, H2 b = some u → (upd H2 D (.lst (out.map V.str))) b = some u := fun b u e => by rw [upd_ne (ne_of_none e hD)]; exact e
        have h3D : (upd H2 D (.lst (out.map V.str))) D = some (.lst (out.map V.str)) := upd_same
        generalize upd H2 D (.lst (out.map V.str)) = H3 at *
        refine ⟨_, rfl, _, rfl, leftOf R ws, rfl, D, _, rfl, SqL.of h3D, fun L hL => ⟨L, rfl, ⟨_, SqL.of upd_same⟩, ?_⟩⟩
        have ec : cutV (out.map V.str) none (some (leftOf R ws)) = (out.take (leftOf R ws).toNat).map V.str := cut_take hlf.1
        rw [ec]
        have k4 : ∀ b u, H3 b = some u → (upd H3 L (.lst ((out.take (leftOf R ws).toNat).map V.str))) b = some u := fun b u e => by rw [upd_ne (ne_of_none e hL)]; exact e
        have h4L : (upd H3 L (.lst ((out.take (leftOf R ws).toNat).map V.str))) L = some (.lst ((out.take (leftOf R ws).toNat).map V.str)) := upd_same
        generalize upd H3 L (.lst ((out.take (leftOf R ws).toNat).map V.str)) = H4 at *
        have ndo : (out.take (leftOf R ws).toNat).Nodup := (List.take_sublist _ _).nodup (hp.nodup_iff.mpr nd)
        have sub : ∀ x ∈ out.take (leftOf R ws).toNat, x ∈ ws.map (·.1) := fun x hx => hp.mem_iff.mp (List.mem_of_mem_take hx)
        have h4S : H4 S = some (.dK (kvW (dealt R ws []))) := by
          rw [k4 _ _ (k3 _ _ hS2)]
          simp [dealt]
        have nLS : L ≠ S := fun z => by rw [z, h4S] at h4L; cases h4L
        generalize hmo : out.take (leftOf R ws).toNat = more at *
        refine for_list (xs := more.map V.str) (fun j σ H9 => ∃ (u5 u6 : Option V), σ = [some (.int R), some (.ref d), some (.int (DV.whole ws)), some (.ref S), some (.ref B), u5, u6, some (.int (leftOf R ws)), some (.ref D)] ∧
          (∀ b u, b ≠ S → H4 b = some u → H9 b = some u) ∧ H9 S = some (.dK (kvW (dealt R ws (more.take j))))) ⟨_, _, rfl, fun _ _ _ e => e, h4S⟩ (fun j σ H9 _ ⟨_, _, _, z, _⟩ => SqL.of (z _ _ nLS h4L)) ?_ ?_
        · rintro j v σ H9' hv ⟨u5, u6, rfl, hk9, hS9⟩
          obtain ⟨x, ex, rfl⟩ : ∃ x, more[j]? = some x ∧ v = .str x := by
            rw [List.getElem?_map] at hv
            cases e : more[j]? with
            | none => rw [e] at hv; cases hv
            | some x => rw [e] at hv; exact ⟨x, rfl, (Option.some.inj hv).symm⟩
          obtain ⟨p, hpm, e⟩ := List.mem_map.mp (sub x (List.mem_of_getElem? ex))
          have hxw : (x, p.2) ∈ ws := by rw [← e]; exact hpm
          have nx : x ∉ more.take j := notin_more ndo ex
          have hin : (x, DV.part R (DV.whole ws) p.2) ∈ dealt R ws (more.take j) := by
            refine List.mem_map.mpr ⟨p, hpm, ?_⟩
            rw [e, if_neg nx, Int.add_zero]
          have ndd : ((dealt R ws (more.take j)).map (·.1)).Nodup := by unfold dealt; rw [List.map_map]; exact nd
          have hg : DGet H9' S (kV (.inr x)) (some (.int (DV.part R (DV.whole ws) p.2))) := by
            rw [← valW ndd hin]
            exact DGet.k hS9
          refine ⟨_, rfl, _, rfl, S, _, rfl, hg, _, _, rfl, rfl, _, rfl, _, rfl, S, _, rfl, DPut.k (k := .inr x) hS9 (by simp only [kvW, dealt, List.length_map, sizeLine_eq]; omega), ?_⟩
          rw [putW_old (n := DV.part R (DV.whole ws) p.2 + 1) (List.mem_map_of_mem (f := (·.1)) hin), dealt_next nd hxw ex]
          refine (show ∃ u5 u6, _ from ⟨_, _, rfl, fun b u hb e => ?_, upd_same⟩)
          rw [upd_ne hb]; exact hk9 b u hb e
        · rintro σ H9' ⟨u5, u6, rfl, hk9, hS9⟩
          rw [List.length_map, List.take_length] at hS9
          have nTS : T ≠ S := fun z => by rw [z] at hT; rw [hT] at hS; cases hS
          have kk : ∀ b u, b ≠ S → H3 b = some u → H9' b = some u := fun b u hb e => hk9 b u hb (k4 _ _ e)
          refine ⟨_, rfl, q S H9' ps' out hS (fun b u hbT hbd e => kk b u (ne_of_none e hS) (k3 _ _ (hk b u hbT (k10 _ _ (h9k b u hbd e))))) (.inr ⟨o, kk d _ (Ne.symm dS) (k3 _ _ (hk d _ dT (k10 _ _ h9d)))⟩) (kk T _ nTS (k3 _ _ hP'))
            ⟨hT'.1, hT'.2.imp id fun ⟨c, e1, e2⟩ => ⟨c, e1, kk c _ (fun z => ?_) (k3 _ _ e2)⟩⟩ hp hs (by rw [hmo]; exact hS9)⟩
          rw [z, hS2] at e2
          cases e2
end
end B01
namespace B01
open PySem L2 S2
theorem perm_unique {α : Type} {le : α → α → Prop} (anti : ∀ a b, le a b → le b a → a = b) : ∀ {l1 l2 : List α}, l1.Perm l2 → l1.Pairwise le → l2.Pairwise le → l1 = l2
  | [], l2, p, _, _ => (List.nil_perm.mp p).symm
  | a :: t1, l2, p, h1, h2 => by
    cases l2 with
    | nil => exact absurd (List.perm_nil.mp p) (by simp)
    | cons b t2 =>
      rw [List.pairwise_cons] at h1 h2
      have e : a = b := by
        rcases List.mem_cons.mp (p.mem_iff.mp (List.mem_cons_self (a := a) (l := t1))) with e | e
        · exact e
        · rcases List.mem_cons.mp (p.mem_iff.mpr (List.mem_cons_self (a := b) (l := t2))) with z | z
          · exact z.symm
          · exact anti _ _ (h1.1 b z) (h2.1 a e)
      subst e
      rw [perm_unique anti ((List.perm_cons a).mp p) h1.2 h2.2]
theorem sum_perm {α : Type} {f : α → Int} {l1 l2 : List α} (p : l1.Perm l2) : (l1.map f).sum = (l2.map f).sum := by
  induction p with
  | nil => rfl
  | cons x _ ih => simp only [List.map_cons, List.sum_cons, ih]
  | swap x y l => simp only [List.map_cons, List.sum_cons]; omega
  | trans _ _ h1 h2 => exact h1.trans h2
abbrev keyOf (R : Int) (ws : List (Str × Int)) (x : Str) : Int × Str := (-(restOf R ws x), x)
abbrev InTurn (R : Int) (ws : List (Str × Int)) (out : List Str) : Prop := out.Pairwise (fun x y => DV.lexLt (keyOf R ws y) (keyOf R ws x) = false)
theorem turn_unique {R : Int} {ws : List (Str × Int)} {o1 o2 : List Str} (p : o1.Perm o2) (h1 : InTurn R ws o1) (h2 : InTurn R ws o2) : o1 = o2 :=
  perm_unique (fun a b e1 e2 => congrArg Prod.snd (DV.lexAnti e2 e1)) p h1 h2
theorem rest_of {R : Int} {ws : List (Str × Int)} (nd : (ws.map (·.1)).Nodup) {p : Str × Int} (h : p ∈ ws) : restOf R ws p.1 = DV.rest R (DV.whole ws) p.2 := by
  unfold restOf
  rw [wOf_of nd (x := p.1) (p := p) h]
theorem rests_eq {R : Int} {ws : List (Str × Int)} (nd : (ws.map (·.1)).Nodup) {out : List Str} (p : out.Perm (ws.map (·.1))) : (out.map (restOf R ws)).sum = (ws.map fun p => DV.rest R (DV.whole ws) p.2).sum := by
  rw [sum_perm p, List.map_map]
  congr 1
  exact List.map_congr_left fun q hq => rest_of nd hq
theorem sum_le {α : Type} {f : α → Int} {W : Int} : ∀ {l : List α}, (∀ x ∈ l, f x ≤ W) → (l.map f).sum ≤ W * l.length
  | [], _ => by simp
  | x :: l, h => by
    have := sum_le (f := f) (W := W) (l := l) fun y hy => h y (List.mem_cons_of_mem _ hy)
    have := h x List.mem_cons_self
    simp only [List.map_cons, List.sum_cons, List.length_cons]
    have e : W * ((l.length + 1 : Nat) : Int) = W * l.length + W := by rw [Int.natCast_add, Int.mul_add]; simp
    omega
theorem more_pos {R : Int} {ws : List (Str × Int)} (nd : (ws.map (·.1)).Nodup) (hw : 0 < DV.whole ws) (hne : ws ≠ []) {out : List Str} (p : out.Perm (ws.map (·.1))) (hs : InTurn R ws out) {x : Str} (hx : x ∈ out.take (leftOf R ws).toNat) : 0 < restOf R ws x := by
  obtain ⟨l0, l1⟩ := DV.left_ok (R := R) hw hne
  have ps := DV.parts_sum R (DV.whole ws) ws
  rw [← rests_eq nd p] at ps
  by_cases c : 0 < restOf R ws x
  · exact c
  exfalso
  obtain ⟨j, hj, ej⟩ := List.mem_iff_getElem.mp hx
  rw [List.length_take] at hj
  rw [List.getElem_take] at ej
  have hj2 : j < out.length := by omega
  have pos : ∀ y, 0 ≤ restOf R ws y ∧ restOf R ws y < DV.whole ws := fun y => DV.rest_pos hw
  have hd : ∀ y ∈ out.drop j, restOf R ws y ≤ 0 := fun y hy => by
    obtain ⟨i, hi, ei⟩ := List.mem_iff_getElem.mp hy
    rw [List.length_drop] at hi
    rw [List.getElem_drop] at ei
    by_cases z : i = 0
    · subst z
      have : y = x := by rw [← ei, ← ej]; rfl
      rw [this]; omega
    · have q := (List.pairwise_iff_getElem.mp hs) j (j + i) hj2 (by omega) (by omega)
      rw [ei, ej] at q
      have : ¬ (-(restOf R ws y) < -(restOf R ws x)) := fun lt => by
        rw [DV.lexA (by omega), decide_eq_true lt] at q
        cases q
      omega
  have s1 := sum_le (f := restOf R ws) (W := DV.whole ws) (l := out.take j) fun y _ => Int.le_of_lt (pos y).2
  have s2 := sum_le (f := restOf R ws) (W := 0) (l := out.drop j) hd
  rw [List.length_take, Nat.min_eq_left (Nat.le_of_lt hj2)] at s1
  have e : (out.map (restOf R ws)).sum = ((out.take j).map (restOf R ws)).sum + ((out.drop j).map (restOf R ws)).sum := by
    rw [← List.sum_append, ← List.map_append, List.take_append_drop]
  have l0' : 0 ≤ leftOf R ws := l0
  have hjl : (j : Int) + 1 ≤ leftOf R ws := by omega
  have m1 : DV.whole ws * ((j : Int) + 1) ≤ DV.whole ws * leftOf R ws := Int.mul_le_mul_of_nonneg_left hjl (Int.le_of_lt hw)
  rw [Int.mul_add, Int.mul_one] at m1
  have m2 : DV.whole ws * leftOf R ws = R * DV.whole ws - DV.whole ws * (ws.map fun p => DV.part R (DV.whole ws) p.2).sum := by
    unfold leftOf
    rw [Int.mul_sub, Int.mul_comm R]
  omega
theorem more_ahead {R : Int} {ws : List (Str × Int)} {out : List Str} (hs : InTurn R ws out) {n : Nat} {x y : Str} (hx : x ∈ out.take n) (hy : y ∈ out) (ny : y ∉ out.take n) : DV.lexLt (keyOf R ws y) (keyOf R ws x) = false := by
  have hs' : (out.take n ++ out.drop n).Pairwise (fun x y => DV.lexLt (keyOf R ws y) (keyOf R ws x) = false) := by rw [List.take_append_drop]; exact hs
  refine (List.pairwise_append.mp hs').2.2 x hx y ?_
  rw [← List.take_append_drop n out] at hy
  exact (List.mem_append.mp hy).resolve_left ny
theorem ones_of {out : List Str} (nd : out.Nodup) {n : Nat} (hn : n ≤ out.length) : (out.map fun x => if x ∈ out.take n then (1 : Int) else 0).sum = n := by
  have h1 : ∀ l : List Str, (∀ x ∈ l, x ∈ out.take n) → (l.map fun x => if x ∈ out.take n then (1 : Int) else 0).sum = l.length := by
    intro l
    induction l with
    | nil => intro _; rfl
    | cons a l ih =>
      intro h
      rw [List.map_cons, List.sum_cons, ih fun x hx => h x (List.mem_cons_of_mem _ hx), if_pos (h a List.mem_cons_self), List.length_cons]
      omega
  have h0 : ∀ l : List Str, (∀ x ∈ l, x ∉ out.take n) → (l.map fun x => if x ∈ out.take n then (1 : Int) else 0).sum = 0 := by
    intro l
    induction l with
    | nil => intro _; rfl
    | cons a l ih =>
      intro h
      rw [List.map_cons, List.sum_cons, ih fun x hx => h x (List.mem_cons_of_mem _ hx), if_neg (h a List.mem_cons_self)]
      rfl
  have nd' : (out.take n ++ out.drop n).Nodup := by rw [List.take_append_drop]; exact nd
  have hdis := (List.pairwise_append.mp nd').2.2
  have a1 := h1 (out.take n) fun _ h => h
  have a2 := h0 (out.drop n) fun x hx hx2 => hdis x hx2 x hx rfl
  have e : (out.map fun x => if x ∈ out.take n then (1 : Int) else 0).sum = ((out.take n).map fun x => if x ∈ out.take n then (1 : Int) else 0).sum + ((out.drop n).map fun x => if x ∈ out.take n then (1 : Int) else 0).sum := by
    rw [← List.sum_append, ← List.map_append, List.take_append_drop]
  rw [e, a1, a2, List.length_take, Nat.min_eq_left hn]
  omega
theorem dealt_sum {R : Int} {ws : List (Str × Int)} (nd : (ws.map (·.1)).Nodup) (hw : 0 < DV.whole ws) (hne : ws ≠ []) {out : List Str} (p : out.Perm (ws.map (·.1))) : ((dealt R ws (out.take (leftOf R ws).toNat)).map (·.2)).sum = R := by
  obtain ⟨l0, l1⟩ := DV.left_ok (R := R) hw hne
  have hlen : out.length = ws.length := by rw [p.length_eq, List.length_map]
  have l0' : 0 ≤ leftOf R ws := l0
  have l1' : leftOf R ws < ws.length := l1
  have o1 := ones_of (p.nodup_iff.mpr nd) (n := (leftOf R ws).toNat) (by omega)
  rw [sum_perm p, List.map_map] at o1
  unfold dealt
  rw [List.map_map]
  have add : ∀ (f g : Str × Int → Int) (l : List (Str × Int)), (l.map fun p => f p + g p).sum = (l.map f).sum + (l.map g).sum := by
    intro f g l
    induction l with
    | nil => rfl
    | cons a l ih => simp only [List.map_cons, List.sum_cons, ih]; omega
  have e := add (fun p => DV.part R (DV.whole ws) p.2) (fun p => if p.1 ∈ out.take (leftOf R ws).toNat then 1 else 0) ws
  have e2 : (ws.map ((fun x : Str × Int => x.2) ∘ fun p => (p.1, DV.part R (DV.whole ws) p.2 + if p.1 ∈ out.take (leftOf R ws).toNat then 1 else 0))).sum = R := by
    refine Eq.trans e ?_
    have o2 : (ws.map fun p => if p.1 ∈ out.take (leftOf R ws).toNat then (1 : Int) else 0).sum = ((leftOf R ws).toNat : Int) := o1
    rw [o2]
    have : leftOf R ws = R - (ws.map fun p => DV.part R (DV.whole ws) p.2).sum := rfl
    omega
  exact e2
theorem dealt_keys (R : Int) (ws : List (Str × Int)) (more : List Str) : (dealt R ws more).map (·.1) = ws.map (·.1) := by
  unfold dealt
  rw [List.map_map]
  rfl
theorem nonneg_whole : ∀ {ws : List (Str × Int)}, (∀ p ∈ ws, 0 ≤ p.2 ∧ p.2 ≤ 1000000) → 0 ≤ DV.whole ws ∧ DV.whole ws ≤ 1000000 * ws.length ∧ ∀ p ∈ ws, p.2 ≤ DV.whole ws
  | [], _ => ⟨by decide, by decide, fun p h => nomatch h⟩
  | q :: ws, h => by
    obtain ⟨a, b, c⟩ := nonneg_whole (ws := ws) fun p hp => h p (List.mem_cons_of_mem _ hp)
    obtain ⟨d, e⟩ := h q List.mem_cons_self
    have z : DV.whole (q :: ws) = q.2 + DV.whole ws := by unfold DV.whole; rw [List.map_cons, List.sum_cons]
    rw [z, List.length_cons]
    refine ⟨by omega, by omega, fun p hp => ?_⟩
    rcases List.mem_cons.mp hp with r | r
    · rw [r]; omega
    · have := c p r; omega
theorem pw_rising : ∀ (p : Str) (l : List Str), PyProof.Rows.risingS p l = true → (p :: l).Pairwise (fun a b => PySem.Spec.ltCps b.cps.toList a.cps.toList = false)
  | p, [], _ => by simp
  | p, x :: r, h => by
    have h' : (!PySem.Spec.ltCps x.cps.toList p.cps.toList && PyProof.Rows.risingS x r) = true := h
    rw [Bool.and_eq_true] at h'
    have h1 : PySem.Spec.ltCps x.cps.toList p.cps.toList = false := by simpa using h'.1
    have ih := pw_rising x r h'.2
    refine List.pairwise_cons.mpr ⟨fun b hb => ?_, ih⟩
    rcases List.mem_cons.mp hb with e | e
    · rw [e]; exact h1
    · have h3 := (List.pairwise_cons.mp ih).1 b e
      rw [PyProof.Rows.ltCps_eq] at h1 h3 ⊢
      refine decide_eq_false fun z => ?_
      exact (List.not_lt.mpr (List.le_trans (List.not_lt.mp (of_decide_eq_false h1)) (List.not_lt.mp (of_decide_eq_false h3)))) z
theorem sortedS_unique {l1 l2 : List Str} (p : l1.Perm l2) (h1 : PyProof.Rows.sortedS l1 = true) (h2 : PyProof.Rows.sortedS l2 = true) : l1 = l2 := by
  have go : ∀ l : List Str, PyProof.Rows.sortedS l = true → l.Pairwise (fun a b => PySem.Spec.ltCps b.cps.toList a.cps.toList = false) := fun l h => by
    cases l with
    | nil => exact .nil
    | cons x r => exact pw_rising x r h
  refine perm_unique (fun a b e1 e2 => ?_) p (go _ h1) (go _ h2)
  rw [PyProof.Rows.ltCps_eq] at e1 e2
  have e : a.cps.toList = b.cps.toList := List.le_antisymm (List.not_lt.mp (of_decide_eq_false e1)) (List.not_lt.mp (of_decide_eq_false e2))
  have e3 : a.cps = b.cps := Array.toList_inj.mp e
  cases a; cases b; simp_all
abbrev alpha : Str := "abcdefghijklmnopqrstuvwxyz"
theorem alpha_at {i : Int} (h0 : 0 ≤ i) (h1 : i < 26) : atI alpha.cps.toList i = some (97 + i.toNat) := by
  obtain ⟨k, rfl, hk⟩ := nat_of (z := i) (n := 26) h0 h1
  have := (by decide +kernel : ∀ k : Fin 26, alpha.cps.toList[k.val]? = some (97 + k.val)) ⟨k, hk⟩
  exact atI_nat this
theorem alpha_len : alpha.length = 26 := by decide +kernel
abbrev twoOf (c : Int) (j : Nat) : Str := ⟨#[97 + (((j : Int) + c) % 26).toNat]⟩ ++ ⟨#[97 + ((j : Int) / 26 + c / 26 % 20).toNat]⟩
theorem names_nodup {c : Int} {nms : List Str} (h : ∀ (j : Nat) (x : Str), nms[j]? = some x → ∃ r : Str, x = twoOf c j ++ r) : nms.Nodup := by
  refine List.pairwise_iff_getElem.mpr fun i j hi hj hij e => ?_
  obtain ⟨r, e1⟩ := h i _ (List.getElem?_eq_getElem hi)
  obtain ⟨r', e2⟩ := h j _ (List.getElem?_eq_getElem hj)
  rw [e1, e2] at e
  have q : [97 + (((i : Int) + c) % 26).toNat, 97 + ((i : Int) / 26 + c / 26 % 20).toNat] ++ r.cps.toList = [97 + (((j : Int) + c) % 26).toNat, 97 + ((j : Int) / 26 + c / 26 % 20).toNat] ++ r'.cps.toList := by
    have := congrArg (fun s : Str => s.cps.toList) e
    have a : ∀ (k : Nat) (r : Str), (twoOf c k ++ r).cps.toList = [97 + (((k : Int) + c) % 26).toNat, 97 + ((k : Int) / 26 + c / 26 % 20).toNat] ++ r.cps.toList := fun k r => by
      show ((#[97 + (((k : Int) + c) % 26).toNat] ++ #[97 + ((k : Int) / 26 + c / 26 % 20).toNat]) ++ r.cps).toList = _
      rw [Array.toList_append]
      rfl
    rw [← a, ← a]
    exact this
  injection q with q1 q2
  injection q2 with q3 _
  omega
def spMixed : Sp := fun vs H Q _ => ∃ c : Int, vs = [.int c] ∧ ∀ z : Int, Q (.int z) H
def spDraws (K : PySem.W.Frag) : Sp := fun vs H Q _ => ∃ (a : Addr) (f m : Nat) (b : Int) (ns : List Int), vs = [.ref a, .int f, .int m, .int b] ∧ SqL K H a (ns.map V.int) ∧ ns.length ≤ 63 ∧ m ≤ 100 ∧ 0 < b ∧ b < 1073741824 ∧
  ∀ (l : Addr) (ys : List Int) (H' : Hp), H l = none → Same H H' → H' l = some (.lst (ys.map V.int)) → ys.length = m → (∀ y ∈ ys, 0 ≤ y ∧ y < b) → Q (.ref l) H'
def spLNames : Sp := fun vs H Q _ => ∃ (m : Nat) (c : Int), vs = [.int m, .int c] ∧ m ≤ 60 ∧ ∀ (l : Addr) (nms : List Str) (H' : Hp), H l = none → Same H H' → H' l = some (.lst (nms.map V.str)) → nms.length = m → nms.Nodup → Q (.ref l) H'
section
variable {P : Program} {w : World} {K : PySem.W.Frag} {mg : Str → Option Value} {base : Heap}
theorem scAt : FnScope ["_law_script", "_law_k"] ["_law_script", "_law_k"] (defScope sAt) := ⟨rfl, rfl, rfl, by decide +kernel, rfl, by decide +kernel, by decide +kernel⟩
theorem ok_at {f : Addr} {fd : FuncData} (F : Fun K "_law_at" "_law_at" sAt f fd) (N : Names mg) : FnOk P w K mg base CX0 1 f fd ["_law_script", "_law_k"] (spCell K) := by
  refine F.ok scAt (fun vs H Q E h => ?_) (fun cdv A outer s H vs Q E hr h => ?_)
  · obtain ⟨a, k, ns, e, _⟩ := h
    rw [e]
    rfl
  · obtain ⟨a, k, ns, e, hS, hn, q⟩ := h
    subst e
    refine ⟨_, pss_cons (ps_if (pt_cmpR op_lt (pv 1) (pe_callB call_len_seq (by rfl) N.len PySem.boot_len (pa_cons (pv 0) pa_nil)) (nomark _)) (pss_one (ps_ret (pe_ix ix_list (pv 0) (pv 1) (fun _ _ => rfl)))) pss_nil) (pss_one (ps_ret pe_int)), ?_⟩
    refine ⟨_, rfl, _, rfl, a, _, rfl, .inl hS, _, _, rfl, rfl, _, rfl, ?_⟩
    refine ite2 (fun hc => ?_) (fun hc => q 0)
    have hk : k < ns.length := by
      have z := of_decide_eq_true hc
      rw [List.length_map] at z
      omega
    exact ⟨_, rfl, _, rfl, a, _, _, _, rfl, rfl, hS, atI_nat (by rw [List.getElem?_map, List.getElem?_eq_getElem hk]; rfl), q _⟩
theorem scMixed : FnScope ["_law_cell", "_law_n"] ["_law_cell"] (defScope sMixed) := ⟨rfl, rfl, rfl, by decide +kernel, rfl, by decide +kernel, by decide +kernel⟩
theorem ok_mixed {f : Addr} {fd : FuncData} (F : Fun K "_law_mixed" "_law_mixed" sMixed f fd) : FnOk P w K mg base CX0 1 f fd ["_law_cell"] spMixed := by
  refine F.ok scMixed (fun vs H Q E h => ?_) (fun cdv A outer s H vs Q E hr h => ?_)
  · obtain ⟨c, e, _⟩ := h
    rw [e]
    rfl
  · obtain ⟨c, e, q⟩ := h
    subst e
    refine ⟨_, pss_cons (ps_set (i := 1) scMixed.nd rfl (Or.inl rfl) (pe_op op_mod (pe_op op_mul (pv 0) pe_int) pe_int))
      (pss_cons (ps_set (i := 1) scMixed.nd rfl (Or.inl rfl) (pe_op op_mod (pe_op op_add (pe_op op_fdiv (pv 1) pe_int) (pe_op op_mul (pv 1) pe_int)) pe_int))
      (pss_one (ps_ret (pe_op op_mod (pe_op op_mul (pv 1) (pe_op op_add (pe_op op_mod (pv 1) pe_int) pe_int)) pe_int)))), ?_⟩
    refine ⟨_, rfl, _, _, rfl, rfl, .inr ⟨by decide, by decide⟩, _, _, rfl, rfl, (by show (0 : Int) < 2147483647; decide), ?_⟩
    refine ⟨_, rfl, _, _, rfl, rfl, ⟨by decide, by decide⟩, _, rfl, _, _, rfl, rfl, .inr ⟨by decide, by decide⟩, _, _, rfl, rfl, _, _, rfl, rfl, (by show (0 : Int) < 2147483629; decide), ?_⟩
    dsimp only
    generalize (c * 48271 % 2147483647 / 65536 + c * 48271 % 2147483647 * 16807) % 2147483629 = n
    exact ⟨_, rfl, _, rfl, _, _, rfl, rfl, (by show (0 : Int) < 32768; decide), _, _, rfl, rfl, _, _, rfl, rfl, .inr ⟨by show -(2 ^ 64) < n % 32768 + 40961; omega, by show n % 32768 + 40961 < 2 ^ 64; omega⟩, _, _, rfl, rfl, (by show (0 : Int) < 1000000000039; decide), q _⟩
theorem scDraws : FnScope ["_law_script", "_law_first", "_law_many", "_law_base", "_law_found", "_law_cell", "_law_k", "_law_n"] ["_law_script", "_law_first", "_law_many", "_law_base"] (defScope sDraws) := ⟨rfl, rfl, rfl, by decide +kernel, rfl, by decide +kernel, by decide +kernel⟩
set_option maxHeartbeats 4000000 in
theorem ok_draws {f f1 f2 : Addr} {fd d1 d2 : FuncData} (F : Fun K "_law_draws" "_law_draws" sDraws f fd) (N : Names mg)
    (G1 : FnOk P w K mg base CX0 1 f1 d1 ["_law_script", "_law_k"] (spCell K)) (b1 : Binds K d1 ["_law_script", "_law_k"] []) (m1 : mg "_law_at" = some (.ref f1)) (k1 : PySem.W.keepIn K (.ref f1) = true)
    (G2 : FnOk P w K mg base CX0 1 f2 d2 ["_law_cell"] spMixed) (b2 : Binds K d2 ["_law_cell"] []) (m2 : mg "_law_mixed" = some (.ref f2)) (k2 : PySem.W.keepIn K (.ref f2) = true) :
    FnOk P w K mg base CX0 2 f fd ["_law_script", "_law_first", "_law_many", "_law_base"] (spDraws K) := by
  refine F.ok scDraws (fun vs H Q E h => ?_) (fun cdv A outer s H vs Q E hr h => ?_)
  · obtain ⟨a, f, m, b, ns, e, _⟩ := h
    rw [e]
    rfl
  · obtain ⟨a, fi, m, b, ns, e, hS, hn, hm, hb0, hb1, k⟩ := h
    subst e
    refine ⟨_, pss_cons (ps_set (i := 4) scDraws.nd rfl (Or.inl rfl) (pe_lst pa_nil))
      (pss_cons (ps_set (i := 5) scDraws.nd rfl (Or.inl rfl) (pe_call G1 hr (by rfl) m1 k1 b1 .nil pass0 (pa_cons (pv 0) (pa_cons (pv 1) pa_nil))))
      (pss_cons (ps_while PassesOwn.never (pw_and (pt_cmpR op_ge (pv 5) (pe_op op_pow pe_int pe_int) (nomark _)) (pw_and1 (pt_cmpR op_lt (pe_callB call_len_seq (by rfl) N.len PySem.boot_len (pa_cons (pv 4) pa_nil)) (pv 2) (nomark _)))).pt
        (pss_cons (ps_expr (pe_bm PySem.F.plainAttrs_list PySem.F.slot_list_append PySem.F.type_list_append mt_append (pv 4) (pa_cons (pe_op op_mod (pv 5) (pv 3)) pa_nil)))
          (pss_one (ps_set (i := 5) scDraws.nd rfl (Or.inl rfl) (pe_op op_fdiv (pv 5) (pv 3))))))
      (pss_cons (ps_for PassesOwn.never rfl (pi_range1 rfl N.range (pa_cons (pe_op op_sub (pv 2) (pe_callB call_len_seq (by rfl) N.len PySem.boot_len (pa_cons (pv 4) pa_nil))) pa_nil)) (pg_name (i := 6) scDraws.nd rfl (Or.inl rfl))
        (pss_cons (ps_set (i := 7) scDraws.nd rfl (Or.inl rfl) (pe_call G2 hr (by rfl) m2 k2 b2 .nil pass0 (pa_cons (pe_op op_add (pe_call G1 hr (by rfl) m1 k1 b1 .nil pass0 (pa_cons (pv 0) (pa_cons (pe_op op_add (pe_op op_add (pv 1) pe_int) (pv 6)) pa_nil))) (pe_op op_mul (pe_op op_mul pe_int (pv 6)) (pv 6))) pa_nil)))
          (pss_one (ps_expr (pe_bm PySem.F.plainAttrs_list PySem.F.slot_list_append PySem.F.type_list_append mt_append (pv 4) (pa_cons (pe_op op_mod (pe_op op_add (pe_op op_mul (pv 7) pe_int) (pe_call G2 hr (by rfl) m2 k2 b2 .nil pass0 (pa_cons (pe_op op_add (pe_op op_add (pv 7) (pe_op op_mul pe_int (pv 6))) pe_int) pa_nil))) (pv 3)) pa_nil))))))
      (pss_one (ps_ret (pv 4)))))), ?_⟩
    refine ⟨smallE (by simp), fun l hl => ?_⟩
    have s0 : Same H (upd H l (.lst [])) := Same.put (Same.refl H) hl
    refine ⟨_, rfl, _, rfl, a, fi, ns, rfl, s0.seq hS, hn, fun z0 => ?_⟩
    refine while_out (fun m' σ H2 => ∃ (z : Int) (xs : List Int), σ = [some (.ref a), some (.int fi), some (.int m), some (.int b), some (.ref l), some (.int z), none, none] ∧ Same H H2 ∧ H2 l = some (.lst (xs.map V.int)) ∧ xs.length ≤ m ∧ (∀ y ∈ xs, 0 ≤ y ∧ y < b) ∧ m' = m - xs.length) (m0 := m) ⟨_, [], rfl, s0, upd_same, Nat.zero_le _, (fun y hy => nomatch hy), rfl⟩ ?_ ?_
    · rintro m' σ H2 ⟨z, xs, rfl, s2, h2, hlen, hb, rfl⟩
      refine ⟨_, rfl, _, rfl, l, _, rfl, .inl (SqL.of h2), _, _, rfl, rfl, _, rfl, by rw [List.length_map]; omega, by rw [List.length_map]; omega, ?_⟩
      have en : ((m : Int) - ((xs.map V.int).length : Int)).toNat = m - xs.length := by rw [List.length_map]; omega
      rw [en]
      refine for_range (n := m - xs.length) (fun i σ H3 => ∃ (u6 u7 : Option V) (ys : List Int), σ = [some (.ref a), some (.int fi), some (.int m), some (.int b), some (.ref l), some (.int z), u6, u7] ∧ Same H H3 ∧ H3 l = some (.lst (ys.map V.int)) ∧ ys.length = xs.length + i ∧ ∀ y ∈ ys, 0 ≤ y ∧ y < b) ⟨_, _, xs, rfl, s2, h2, rfl, hb⟩ ?_ ?_
      · rintro i σ H3 hi ⟨u6, u7, ys, rfl, s3, h3, hl3, hb3⟩
        refine ⟨_, rfl, _, rfl, _, _, rfl, rfl, _, rfl, _, _, rfl, rfl, a, fi + 1 + i, ns, (by simp; try omega), s3.seq hS, hn, fun z1 => ?_⟩
        refine ⟨_, rfl, _, _, rfl, rfl, .inl ⟨by decide, by decide⟩, _, rfl, _, _, rfl, rfl, .inr ⟨by omega, by omega⟩, _, _, rfl, rfl, _, rfl, fun z2 => ?_⟩
        refine ⟨_, rfl, .inl ⟨rfl, _, SqL.of h3⟩, _, rfl, _, _, rfl, rfl, .inr ⟨by decide, by decide⟩, _, rfl, _, rfl, _, _, rfl, rfl, .inl ⟨by decide, by decide⟩, _, _, rfl, rfl, _, _, rfl, rfl, _, rfl, fun z3 => ?_⟩
        refine ⟨_, _, rfl, rfl, _, rfl, _, _, rfl, rfl, hb0, l, _, _, rfl, rfl, h3, small (by rw [List.length_map]; omega), ?_⟩
        refine ⟨_, _, ys ++ [(z2 * 1000000000039 + z3) % b], rfl, Same.put s3 hl, snoc_at, by rw [snoc_len]; omega, fun y hy => ?_⟩
        rcases List.mem_append.mp hy with q | q
        · exact hb3 y q
        · rw [List.mem_singleton.mp q]
          exact ⟨Int.emod_nonneg _ (by omega), Int.emod_lt_of_pos _ hb0⟩
      · rintro σ H3 ⟨u6, u7, ys, rfl, s3, h3, hl3, hb3⟩
        exact ⟨_, rfl, k l ys H3 hl s3 h3 (by omega) hb3⟩
    · rintro R out m' σ H2 ⟨z, xs, rfl, s2, h2, hlen, hb, rfl⟩
      have go : R [some (.ref a), some (.int fi), some (.int m), some (.int b), some (.ref l), some (.int z), none, none] H2 := out _ _ _ ⟨z, xs, rfl, s2, h2, hlen, hb, rfl⟩
      refine ⟨_, rfl, _, _, rfl, rfl, ⟨by decide, by decide, by decide⟩, _, _, rfl, rfl, _, rfl, ite2 (fun _ => ?_) (fun _ => iteF go)⟩
      refine ⟨_, rfl, l, _, rfl, .inl (SqL.of h2), _, rfl, _, _, rfl, rfl, _, rfl, ite2 (fun hc => ?_) (fun _ => go)⟩
      have hc' := of_decide_eq_true hc
      rw [List.length_map] at hc'
      refine ⟨fun σ' H' => ∃ (z : Int) (xs' : List Int), σ' = [some (.ref a), some (.int fi), some (.int m), some (.int b), some (.ref l), some (.int z), none, none] ∧ Same H H' ∧ H' l = some (.lst (xs'.map V.int)) ∧ xs'.length = xs.length + 1 ∧ (∀ y ∈ xs', 0 ≤ y ∧ y < b), fun σ' H' ⟨z', xs', e1, e2, e3, e4, e5⟩ => ⟨m - xs'.length, by omega, z', xs', e1, e2, e3, by omega, e5, rfl⟩, ?_⟩
      refine ⟨_, rfl, .inl ⟨rfl, _, SqL.of h2⟩, _, rfl, _, rfl, _, _, rfl, rfl, hb0, l, _, _, rfl, rfl, h2, small (by rw [List.length_map]; omega), ?_⟩
      refine ⟨_, rfl, _, rfl, _, _, rfl, rfl, ⟨hb0, hb1⟩, ?_⟩
      refine ⟨_, xs ++ [z % b], rfl, Same.put s2 hl, snoc_at, snoc_len, fun y hy => ?_⟩
      rcases List.mem_append.mp hy with q | q
      · exact hb y q
      · rw [List.mem_singleton.mp q]
        exact ⟨Int.emod_nonneg _ (by omega), Int.emod_lt_of_pos _ hb0⟩
theorem scLNames : FnScope ["_law_many", "_law_cell", "_law_letters", "_law_some", "_law_k", "_law_word"] ["_law_many", "_law_cell"] (defScope sLNames) := ⟨rfl, rfl, rfl, by decide +kernel, rfl, by decide +kernel, by decide +kernel⟩
set_option maxHeartbeats 4000000 in
theorem ok_lnames {f : Addr} {fd : FuncData} (F : Fun K "_law_names" "_law_names" sLNames f fd) (N : Names mg) : FnOk P w K mg base CX0 1 f fd ["_law_many", "_law_cell"] spLNames := by
  refine F.ok scLNames (fun vs H Q E h => ?_) (fun cdv A outer s H vs Q E hr h => ?_)
  · obtain ⟨m, c, e, _⟩ := h
    rw [e]
    rfl
  · obtain ⟨m, c, e, hm, k⟩ := h
    subst e
    refine ⟨_, pss_cons (ps_set (i := 2) scLNames.nd rfl (Or.inl rfl) pe_str)
      (pss_cons (ps_set (i := 3) scLNames.nd rfl (Or.inl rfl) (pe_lst pa_nil))
      (pss_cons (ps_for PassesOwn.never rfl (pi_range1 rfl N.range (pa_cons (pv 0) pa_nil)) (pg_name (i := 4) scLNames.nd rfl (Or.inl rfl))
        (pss_cons (ps_set (i := 5) scLNames.nd rfl (Or.inl rfl) (pe_op op_add_str (pe_ix ix_str (pv 2) (pe_op op_mod (pe_op op_add (pv 4) (pv 1)) pe_int) (fun _ _ => rfl)) (pe_ix ix_str (pv 2) (pe_op op_add (pe_op op_fdiv (pv 4) pe_int) (pe_op op_mod (pe_op op_fdiv (pv 1) pe_int) pe_int)) (fun _ _ => rfl))))
          (pss_one (ps_expr (pe_bm PySem.F.plainAttrs_list PySem.F.slot_list_append PySem.F.type_list_append mt_append (pv 3) (pa_cons (pe_op op_add_str (pv 5) (pe_op op_mulS (pe_ix ix_str (pv 2) (pe_op op_mod (pe_op op_add (pe_op op_mul (pv 4) pe_int) (pv 1)) pe_int) (fun _ _ => rfl)) (pe_op op_add pe_int (pe_op op_mod (pe_op op_add (pv 4) (pv 1)) pe_int)))) pa_nil))))))
      (pss_one (ps_ret (pv 3))))), ?_⟩
    refine ⟨smallE (by simp), fun l hl => ?_⟩
    have s0 : Same H (upd H l (.lst [])) := Same.put (Same.refl H) hl
    refine ⟨_, rfl, (m : Int), rfl, by omega, by omega, ?_⟩
    have en : ((m : Int)).toNat = m := by omega
    rw [en]
    refine for_range (n := m) (fun i σ H2 => ∃ (u4 u5 : Option V) (nms : List Str), σ = [some (.int m), some (.int c), some (.str alpha), some (.ref l), u4, u5] ∧ Same H H2 ∧ H2 l = some (.lst (nms.map V.str)) ∧ nms.length = i ∧ ∀ (j : Nat) (x : Str), nms[j]? = some x → ∃ r : Str, x = twoOf c j ++ r) ⟨_, _, [], rfl, s0, upd_same, rfl, fun j x e => nomatch e⟩ ?_ ?_
    · rintro i σ H2 hi ⟨u4, u5, nms, rfl, s2, h2, hlen, hx⟩
      have ei : (0 : Int) + (i : Int) = (i : Int) := Int.zero_add _
      refine ⟨_, rfl, _, rfl, _, rfl, _, _, rfl, rfl, _, _, rfl, rfl, (by show (0 : Int) < 26; decide), alpha, _, _, rfl, rfl, smallE (by rw [alpha_len]; omega), alpha_at (by omega) (by omega), ?_⟩
      refine ⟨_, rfl, _, rfl, _, _, rfl, rfl, ⟨by decide, by decide⟩, _, rfl, _, _, rfl, rfl, ⟨by decide, by decide⟩, _, _, rfl, rfl, (by show (0 : Int) < 20; decide), _, _, rfl, rfl, alpha, _, _, rfl, rfl, smallE (by rw [alpha_len]; omega), alpha_at (by omega) (by omega), _, _, rfl, rfl, smallE (by show 1 + 1 ≤ 100000; omega), ?_⟩
      rw [ei]
      refine ⟨_, rfl, .inl ⟨rfl, _, SqL.of h2⟩, _, rfl, _, rfl, _, rfl, _, _, rfl, rfl, .inr ⟨by decide, by decide⟩, _, rfl, _, _, rfl, rfl, _, _, rfl, rfl, (by show (0 : Int) < 26; decide), alpha, _, _, rfl, rfl, smallE (by rw [alpha_len]; omega), alpha_at (by omega) (by omega), _, rfl, _, rfl, _, _, rfl, rfl, _, _, rfl, rfl, (by show (0 : Int) < 3; decide), _, _, rfl, rfl, ?_⟩
      refine ⟨_, _, rfl, rfl, by show (1 : Int) ≤ 1 + ((i : Int) + c) % 3; omega, by show 1 + ((i : Int) + c) % 3 ≤ 1000; omega, by show 1 ≤ 1000; omega, fun r hr' => ?_⟩
      have hr2 : r.length = 1 * (1 + ((i : Int) + c) % 3).toNat := hr'
      refine ⟨_, _, rfl, rfl, smallE (by show 2 + r.length ≤ 100000; omega), l, _, _, rfl, rfl, h2, small (by rw [List.length_map]; omega), ?_⟩
      refine ⟨_, _, nms ++ [twoOf c i ++ r], rfl, Same.put s2 hl, ?_, by rw [snoc_len]; omega, fun j x e => ?_⟩
      · rw [upd_same, List.map_append]
        rfl
      · by_cases hj : j < nms.length
        · rw [List.getElem?_append_left hj] at e
          exact hx j x e
        · rw [List.getElem?_append_right (by omega)] at e
          have e2 : j - nms.length = 0 := by
            have := get_lt e
            simp at this
            omega
          rw [e2] at e
          have e3 : x = twoOf c i ++ r := (Option.some.inj e).symm
          have e4 : j = i := by omega
          rw [e4]
          exact ⟨r, e3⟩
    · rintro σ H2 ⟨u4, u5, nms, rfl, s2, h2, hlen, hx⟩
      exact ⟨_, rfl, k l nms H2 hl s2 h2 hlen (names_nodup hx)⟩
end
end B01
namespace B01
open PySem L2 S2
theorem for_zip {K : PySem.W.Frag} {a b : Addr} {xs ys : List V} {g : TG} {tb : TS} {D : Ends} {σ : St} {H : Hp} (Pv : Nat → St → Hp → Prop) (h0 : Pv 0 σ H) (hlen : xs.length = ys.length) (hl : ∀ i σ H, i ≤ xs.length → Pv i σ H → SqL K H a xs ∧ SqL K H b ys)
    (hs : ∀ i x y p σ H, xs[i]? = some x → ys[i]? = some y → H p = none → Pv i σ H → g (.ref p) σ (upd H p (.tup [x, y])) fun σ2 H2 => tb { D with nx := Pv (i + 1), ct := Pv (i + 1), bk := D.nx } σ2 H2) (hd : ∀ σ H, Pv xs.length σ H → D.nx σ H) :
    ∃ W : Nat → Nat → St → Hp → Prop, (∃ m, W 0 m σ H) ∧ ∀ i m σ H, W i m σ H →
      ((Itz K a b).stop i H ∧ D.nx σ H) ∨ ((Itz K a b).go i H ∧ ∃ N : St → Hp → Prop, (∀ σ' H', N σ' H' → ∃ m', m' < m ∧ W (i + 1) m' σ' H') ∧ ∀ x H', (Itz K a b).yld i H x H' → g x σ H' fun σ2 H2 => tb { D with nx := N, ct := N, bk := D.nx } σ2 H2) := by
  refine ⟨fun i m σ H => m = xs.length - i ∧ i ≤ xs.length ∧ Pv i σ H, ⟨xs.length, by simp, Nat.zero_le _, h0⟩, ?_⟩
  rintro i m σ H ⟨rfl, hi, p⟩
  obtain ⟨qa, qb⟩ := hl i σ H hi p
  by_cases hlt : i < xs.length
  · refine .inr ⟨⟨xs, ys, xs[i], ys[i]'(by omega), qa, qb, by simp [hlt], by simp [show i < ys.length by omega]⟩, Pv (i + 1), fun σ' H' p' => ⟨xs.length - (i + 1), by omega, rfl, hlt, p'⟩, fun x H' y => ?_⟩
    obtain ⟨p0, u, v, e1, hn, e2, yu, yv⟩ := y
    subst e1 e2
    exact hs i u v p0 σ H (yu xs qa) (yv ys qb) hn p
  · have e : i = xs.length := by omega
    subst e
    exact .inl ⟨⟨xs, ys, qa, qb, .inl (Nat.le_refl _)⟩, hd σ H p⟩
theorem if_join {c : Bool} {A : Prop} {R : St → Hp → Prop} {σ : St} {H : Hp} (M : St → Hp → Prop) (hr : ∀ σ' H', M σ' H' → R σ' H') (h1 : c = true → (∀ σ' H', M σ' H' → R σ' H') → A) (h0 : c = false → M σ H) : if c = true then A else R σ H := by
  cases c with
  | true => exact h1 rfl hr
  | false => exact hr _ _ (h0 rfl)
theorem kit_dict {K : PySem.W.Frag} : PySem.W.kitOne K (.type "dict") (.type "dict") = some true := by rfl
theorem kit_ints {K : PySem.W.Frag} : PySem.W.kitOne K (.type "int") (.type "int") = some true := by rfl
theorem kit_intb {K : PySem.W.Frag} : PySem.W.kitOne K (.type "int") (.type "bool") = some false := by rfl
theorem tab_keep {H H' : Hp} {pos : Pos} {q : Str} {ps : Array Value} (h : TabOk H pos q ps) (k : ∀ c, H c = some (CodeO c q) → H' c = some (CodeO c q)) : TabOk H' pos q ps :=
  ⟨h.1, h.2.imp id fun ⟨c, e1, e2⟩ => ⟨c, e1, k c e2⟩⟩
def wAt (n : Int) : Int := [n / 4 % 100, 0, n / 4 % 3, n / 4].getD (n % 4).toNat 0
theorem wAt_ok {n : Int} (h0 : 0 ≤ n) (h1 : n < 4000000) : 0 ≤ wAt n ∧ wAt n ≤ 1000000 := by
  unfold wAt
  obtain ⟨i, e, hi⟩ := nat_of (z := n % 4) (n := 4) (by omega) (by omega)
  rw [e]
  match i, hi with
  | 0, _ => show 0 ≤ n / 4 % 100 ∧ n / 4 % 100 ≤ 1000000; omega
  | 1, _ => show (0 : Int) ≤ 0 ∧ (0 : Int) ≤ 1000000; omega
  | 2, _ => show 0 ≤ n / 4 % 3 ∧ n / 4 % 3 ≤ 1000000; omega
  | 3, _ => show 0 ≤ n / 4 ∧ n / 4 ≤ 1000000; omega
theorem wAt_at (n : Int) : atI [V.int (n / 4 % 100), V.int 0, V.int (n / 4 % 3), V.int (n / 4)] (n % 4) = some (.int (wAt n)) := by
  obtain ⟨i, e, hi⟩ := nat_of (z := n % 4) (n := 4) (by omega) (by omega)
  unfold wAt
  rw [e, show ((i : Int)).toNat = i by omega]
  exact atI_nat (four_at hi)
def wsOf (nms : List Str) (ys : List Int) : List (Str × Int) := List.zipWith (fun x y => (x, wAt y)) nms ys
theorem wsOf_keys : ∀ {nms : List Str} {ys : List Int}, nms.length = ys.length → (wsOf nms ys).map (·.1) = nms
  | [], [], _ => rfl
  | x :: nms, y :: ys, h => by
    show x :: (wsOf nms ys).map (·.1) = _
    rw [wsOf_keys (by simpa using h)]
theorem wsOf_at {nms : List Str} {ys : List Int} {i : Nat} {x : Str} {y : Int} (hx : nms[i]? = some x) (hy : ys[i]? = some y) : (wsOf nms ys)[i]? = some (x, wAt y) := by
  unfold wsOf
  rw [List.getElem?_zipWith, hx, hy]
theorem wsOf_mem {nms : List Str} {ys : List Int} (hb : ∀ y ∈ ys, 0 ≤ y ∧ y < 4000000) : ∀ p ∈ wsOf nms ys, 0 ≤ p.2 ∧ p.2 ≤ 1000000 := fun p hp => by
  obtain ⟨i, hi⟩ := List.getElem?_of_mem hp
  unfold wsOf at hi
  rw [List.getElem?_zipWith] at hi
  cases e1 : nms[i]? with
  | none => rw [e1] at hi; cases hi
  | some x =>
    cases e2 : ys[i]? with
    | none => rw [e1, e2] at hi; cases hi
    | some y =>
      rw [e1, e2] at hi
      cases hi
      obtain ⟨a, b⟩ := hb y (List.mem_of_getElem? e2)
      exact wAt_ok a b
theorem str_at {ss : List Str} {i : Nat} {y : V} (h : (ss.map V.str)[i]? = some y) : ∃ z, y = V.str z ∧ ss[i]? = some z := by
  rw [List.getElem?_map] at h
  cases e : ss[i]? with
  | none => rw [e] at h; cases h
  | some z => rw [e] at h; exact ⟨z, (Option.some.inj h).symm, rfl⟩
theorem kvW_ints (ws : List (Str × Int)) : ∀ kv ∈ kvW ws, ∃ n, kv.2 = V.int n := fun kv h => by
  obtain ⟨p, _, rfl⟩ := List.mem_map.mp h
  exact ⟨p.2, rfl⟩
theorem strs_eq (ss : List Str) : ((ss.map V.str).zip (ss.map V.str)).all (fun p => eqV p.1 p.2) = true := by
  rw [List.all_eq_true]
  intro p hp
  obtain ⟨i, hi⟩ := List.getElem?_of_mem hp
  have h1 : (ss.map V.str)[i]? = some p.1 ∧ (ss.map V.str)[i]? = some p.2 := by
    rw [List.getElem?_zip_eq_some] at hi
    exact hi
  obtain ⟨z, e, _⟩ := str_at h1.1
  have e2 : p.2 = p.1 := Option.some.inj (h1.2.symm.trans h1.1)
  rw [e2, e]
  simp [eqV]
theorem flat_strs (ss : List Str) : (ss.map V.str).all flatV = true := by
  rw [List.all_map]
  exact List.all_eq_true.mpr fun _ _ => rfl
theorem putNext {ws : List (Str × Int)} (nd : (ws.map (·.1)).Nodup) {i : Nat} {x : Str} {n : Int} (h : ws[i]? = some (x, n)) : putK (kvW (ws.take i)) (.inr x) (.int n) = kvW (ws.take (i + 1)) := by
  have := putTake nd h (fun p => p.2) (m := n) rfl
  simpa using this
def spLaw (K : PySem.W.Frag) (T : Addr) : Sp := fun vs H Q _ => ∃ (a : Addr) (ns : List Int) (ps : Array Value), vs = [.ref a] ∧ SqL K H a (ns.map V.int) ∧ ns.length ≤ 63 ∧ H T = some (.tbl ps) ∧ TabOk H lamPos lamQual ps ∧ ∀ H', Q (.bl true) H'
def TupsAt (H : Hp) (as : List Addr) (ts : List (Int × Str)) : Prop := as.length = ts.length ∧ ∀ (i : Nat) (a : Addr) (t : Int × Str), as[i]? = some a → ts[i]? = some t → H a = some (.tup (tIS t))
theorem TupsAt.keep {H H' : Hp} {as : List Addr} {ts : List (Int × Str)} (h : TupsAt H as ts) (k : ∀ b xs, H b = some (.tup xs) → H' b = some (.tup xs)) : TupsAt H' as ts := ⟨h.1, fun i a t e1 e2 => k a _ (h.2 i a t e1 e2)⟩
theorem TupsAt.snoc {H : Hp} {as : List Addr} {ts : List (Int × Str)} {a : Addr} {t : Int × Str} (h : TupsAt H as ts) (e : H a = some (.tup (tIS t))) : TupsAt H (as ++ [a]) (ts ++ [t]) := by
  refine ⟨by rw [List.length_append, List.length_append, h.1]; rfl, fun i b u e1 e2 => ?_⟩
  by_cases hi : i < as.length
  · rw [List.getElem?_append_left hi] at e1
    rw [List.getElem?_append_left (by rw [← h.1]; exact hi)] at e2
    exact h.2 i b u e1 e2
  · rw [List.getElem?_append_right (by omega)] at e1
    rw [List.getElem?_append_right (by rw [← h.1]; omega)] at e2
    have z : i - as.length = 0 := by
      have := get_lt e1
      simp at this
      omega
    rw [← h.1] at e2
    rw [z] at e1 e2
    cases e1
    cases e2
    exact e
section
variable {P : Program} {w : World} {K : PySem.W.Frag} {mg : Str → Option Value} {base : Heap}
abbrev nLaw : List Str := ["_law_script", "_law_many", "_law_names_here", "_law_weights", "_law_name", "_law_n", "_law_room", "_law_handed", "_law_found", "_law_total", "_law_more", "_law_others", "_law_rest", "_law_kept"]
theorem scLaw : FnScope nLaw ["_law_script"] (defScope sLaw) := ⟨rfl, rfl, rfl, by decide +kernel, rfl, by decide +kernel, by decide +kernel⟩
set_option maxHeartbeats 16000000 in
theorem ok_law {f f1 f3 f4 f5 T : Addr} {fd d1 d3 d4 d5 : FuncData} (F : Fun K "law" "law" sLaw f fd) (N : Names mg)
    (G1 : FnOk P w K mg base CX0 1 f1 d1 ["_law_script", "_law_k"] (spCell K)) (b1 : Binds K d1 ["_law_script", "_law_k"] []) (m1 : mg "_law_at" = some (.ref f1)) (k1 : PySem.W.keepIn K (.ref f1) = true)
    (G3 : FnOk P w K mg base CX0 1 f3 d3 ["_law_many", "_law_cell"] spLNames) (b3 : Binds K d3 ["_law_many", "_law_cell"] []) (m3 : mg "_law_names" = some (.ref f3)) (k3 : PySem.W.keepIn K (.ref f3) = true)
    (G4 : FnOk P w K mg base CX0 2 f4 d4 ["_law_script", "_law_first", "_law_many", "_law_base"] (spDraws K)) (b4 : Binds K d4 ["_law_script", "_law_first", "_law_many", "_law_base"] []) (m4 : mg "_law_draws" = some (.ref f4)) (k4 : PySem.W.keepIn K (.ref f4) = true)
    (G5 : FnOk P w K mg base CX0 2 f5 d5 ["room", "weights"] (spDeal T)) (b5 : Binds K d5 ["room", "weights"] []) (m5 : mg "deal" = some (.ref f5)) (k5 : PySem.W.keepIn K (.ref f5) = true) :
    FnOk P w K mg base CX0 3 f fd ["_law_script"] (spLaw K T) := by
  refine F.ok scLaw (fun vs H Q E h => ?_) (fun cdv A outer s H vs Q E hr h => ?_)
  · obtain ⟨a, ns, ps, e, _⟩ := h
    rw [e]
    rfl
  · obtain ⟨a, ns, ps, e, hS, hn, hT, hTk, k⟩ := h
    subst e
    have hr1 := hr.mono (j := 1) (by decide)
    have hu1 : (A.deeper (PyProof.Rows.envOfC "law" (defScope sLaw) s.heap.objs.size f cdv)).units + 1 < cLine := by have := hr.units; omega
    have hu0 : (A.deeper (PyProof.Rows.envOfC "law" (defScope sLaw) s.heap.objs.size f cdv)).units < cLine := by have := hr.units; omega
    refine ⟨_, pss_cons (ps_set (i := 1) scLaw.nd rfl (Or.inl rfl) (pe_op op_add pe_int (pe_op op_mod (pe_op op_fdiv (pe_call G1 hr1 (by rfl) m1 k1 b1 .nil pass0 (pa_cons (pv 0) (pa_cons pe_int pa_nil))) pe_int) pe_int)))
      (pss_cons (ps_set (i := 2) scLaw.nd rfl (Or.inl rfl) (pe_call G3 hr1 (by rfl) m3 k3 b3 .nil pass0 (pa_cons (pv 1) (pa_cons (pe_op op_fdiv (pe_call G1 hr1 (by rfl) m1 k1 b1 .nil pass0 (pa_cons (pv 0) (pa_cons pe_int pa_nil))) pe_int) pa_nil))))
      (pss_cons (ps_set (i := 3) scLaw.nd rfl (Or.inl rfl) pe_dnewK)
      (pss_cons (ps_for PassesOwn.never rfl (pi_zip (by rfl) N.zip (pa_cons (pv 2) (pa_cons (pe_call G4 hr (by rfl) m4 k4 b4 .nil pass0 (pa_cons (pv 0) (pa_cons pe_int (pa_cons (pv 1) (pa_cons (pe_op op_mul pe_int (pe_op op_pow pe_int pe_int)) pa_nil))))) pa_nil))) (pg_tup rfl (pgs_cons (pg_name (i := 4) scLaw.nd rfl (Or.inl rfl)) (pgs_cons (pg_name (i := 5) scLaw.nd rfl (Or.inl rfl)) pgs_nil)))
        (pss_one (ps_dput hu1 (pv 3) (pv 4) (pe_ix ix_list (pe_lst (pa_cons (pe_op op_mod (pe_op op_fdiv (pv 5) pe_int) pe_int) (pa_cons pe_int (pa_cons (pe_op op_mod (pe_op op_fdiv (pv 5) pe_int) pe_int) (pa_cons (pe_op op_fdiv (pv 5) pe_int) pa_nil))))) (pe_op op_mod (pv 5) pe_int) (fun _ _ => rfl)) rfl)))
      (pss_cons (ps_if (pt_cmpR op_eq (pe_sumV rfl (pv 3) (by rfl) (by rfl) (by rfl) N.sum PyProof.Rows.boot_sum) pe_int (nomark _)) (pss_one (ps_dput hu1 (pv 3) (pe_ix ix_list (pv 2) pe_int (fun _ _ => rfl)) pe_int rfl)) pss_nil)
      (pss_cons (ps_set (i := 6) scLaw.nd rfl (Or.inl rfl) (pe_op op_mod (pe_call G1 hr1 (by rfl) m1 k1 b1 .nil pass0 (pa_cons (pv 0) (pa_cons pe_int pa_nil))) (pe_op op_add (pe_op op_pow pe_int pe_int) pe_int)))
      (pss_cons (ps_set (i := 7) scLaw.nd rfl (Or.inl rfl) (pe_callTy call_copyD (by rfl) N.dict PyProof.Rows.boot_dict (pa_cons (pv 3) pa_nil)))
      (pss_cons (ps_set (i := 8) scLaw.nd rfl (Or.inl rfl) (pe_call G5 hr (by rfl) m5 k5 b5 .nil pass0 (pa_cons (pv 6) (pa_cons (pv 7) pa_nil))))
      (pss_cons (ps_set (i := 9) scLaw.nd rfl (Or.inl rfl) (pe_sumV rfl (pv 3) (by rfl) (by rfl) (by rfl) N.sum PyProof.Rows.boot_sum))
      (pss_cons (ps_if (pw_or (pt_not (pt_val (pe_callB call_isinst (by rfl) N.inst PyProof.Rows.boot_isinstance (pa_cons (pv 8) (pa_cons (pe_bltn (v := .ty "dict") (by rfl) N.dict PyProof.Rows.boot_dict rfl (by decide)) pa_nil))))) (pw_or (pt_cmpR (op_neL hu0) (pe_callB (call_sortS rfl) (by rfl) N.sorted PyProof.Rows.boot_sorted (pa_cons (pv 8) pa_nil)) (pe_callB (call_sortS rfl) (by rfl) N.sorted PyProof.Rows.boot_sorted (pa_cons (pv 2) pa_nil)) (nomark _)) (pw_or1 (pt_cmpR (op_neDD hu0) (pv 7) (pv 3) (nomark _))))).pt (pss_one (ps_ret pe_bl)) pss_nil)
      (pss_cons (ps_if (pt_not (pt_val (pe_callB (call_allL rfl) (by rfl) N.all PyProof.Rows.boot_all (pa_cons (pe_comp (compSc_mk (fs := defScope sLaw) (N := nLaw) rfl rfl (by decide +kernel)) rfl (pi_values (pv 8)) (fun _ _ _ _ _ => pts_nil)
          (fun _ _ _ _ _ => pe_and (pe_callB (r := rInst K) call_isinst (by rfl) N.inst PyProof.Rows.boot_isinstance (pa_cons (pv 0) (pa_cons (pe_bltn (v := .ty "int") (by rfl) N.int PyProof.Rows.boot_int rfl (by decide)) pa_nil)))
            (pe_one (pe_not (pe_callB (r := rInst K) call_isinst (by rfl) N.inst PyProof.Rows.boot_isinstance (pa_cons (pv 0) (pa_cons (pe_bltn (v := .ty "bool") (by rfl) N.bool PyProof.Rows.boot_bool rfl (by decide)) pa_nil))))))) pa_nil)))) (pss_one (ps_ret pe_bl)) pss_nil)
      (pss_cons (ps_set (i := 10) scLaw.nd rfl (Or.inl rfl) (pe_lst pa_nil))
      (pss_cons (ps_set (i := 11) scLaw.nd rfl (Or.inl rfl) (pe_lst pa_nil))
      (pss_cons (ps_for PassesOwn.never rfl (pi_list (pv 2)) (pg_name (i := 4) scLaw.nd rfl (Or.inl rfl))
        (pss_cons (ps_set (i := 12) scLaw.nd rfl (Or.inl rfl) (pe_op op_sub (pe_op op_mul (pv 6) (pe_dget hu1 (pv 3) (pv 4) (fun _ _ => rfl))) (pe_op op_mul (pv 9) (pe_dget hu1 (pv 8) (pv 4) (fun _ _ => rfl)))))
        (pss_cons (ps_if (pw_or (pt_cmpR op_le (pv 12) (pe_un un_neg (pv 9)) (nomark _)) (pw_or1 (pt_cmpR op_ge (pv 12) (pv 9) (nomark _)))).pt (pss_one (ps_ret pe_bl)) pss_nil)
        (pss_one (ps_if (pt_cmpR op_lt (pv 12) pe_int (nomark _))
          (pss_one (ps_expr (pe_bm PySem.F.plainAttrs_list PySem.F.slot_list_append PySem.F.type_list_append mt_append (pv 10) (pa_cons (pe_tup (pa_cons (pe_un un_neg (pe_op op_add (pv 12) (pv 9))) (pa_cons (pv 4) pa_nil))) pa_nil))))
          (pss_one (ps_expr (pe_bm PySem.F.plainAttrs_list PySem.F.slot_list_append PySem.F.type_list_append mt_append (pv 11) (pa_cons (pe_tup (pa_cons (pe_un un_neg (pv 12)) (pa_cons (pv 4) pa_nil))) pa_nil)))))))))
      (pss_cons (ps_set (i := 13) scLaw.nd rfl (Or.inl rfl) (pe_callTy call_copyD (by rfl) N.dict PyProof.Rows.boot_dict (pa_cons (pv 8) pa_nil)))
      (pss_thaw (pss_cons (ps_dput hu1 (pv 8) (pe_ix ix_list (pv 2) pe_int (fun _ _ => rfl)) (pe_un un_neg pe_int) rfl)
      (pss_cons (ps_if (pw_or (pt_cmpR op_ne (pe_sumV rfl (pv 13) (by rfl) (by rfl) (by rfl) N.sum PyProof.Rows.boot_sum) (pv 6) (nomark _)) (pw_or1 (pw_and (pt_cmpR (op_neN hu0) (pv 10) (pe_lst pa_nil) (nomark _)) (pw_and (pt_cmpR (op_neN hu0) (pv 11) (pe_lst pa_nil) (nomark _)) (pw_and1 (pt_cmpR (op_gtP hu0) (pe_callB (call_maxP rfl hu1) (by rfl) N.max PyProof.Rows.boot_max (pa_cons (pv 10) pa_nil)) (pe_callB (call_minP rfl hu1) (by rfl) N.min PyProof.Rows.boot_min (pa_cons (pv 11) pa_nil)) (nomark _))))).pt)).pt (pss_one (ps_ret pe_bl)) pss_nil)
      (pss_one (ps_ret (pe_cmpR (op_eqDD hu0) (pe_call G5 hr (by rfl) m5 k5 b5 .nil pass0 (pa_cons (pv 6) (pa_cons (pv 7) pa_nil))) (pv 13) (nomark _))))))))))))))))))))), ?_⟩
    -- how many, the names
    refine ⟨_, rfl, a, 0, ns, rfl, hS, hn, fun z0 => ⟨_, _, rfl, rfl, ⟨by decide, by decide⟩, _, _, rfl, rfl, (by show (0 : Int) < 60; decide), _, _, rfl, rfl, ?_⟩⟩
    obtain ⟨m, em, hm1, hm2⟩ : ∃ m : Nat, 1 + z0 / 2 % 60 = (m : Int) ∧ 1 ≤ m ∧ m ≤ 60 := ⟨(1 + z0 / 2 % 60).toNat, by omega, by omega, by omega⟩
    dsimp only
    rw [em]
    refine ⟨_, rfl, _, rfl, a, 0, ns, rfl, hS, hn, fun z1 => ⟨_, _, rfl, rfl, ⟨by decide, by decide⟩, m, _, rfl, hm2, fun ln nms H1 hln s1 h1 hl1 hnd => ?_⟩⟩
    -- the weights
    intro dW hdW
    have hdW0 : H dW = none := same_none s1 hdW
    have s2 : Same H (upd H1 dW (.dK [])) := Same.put s1 hdW0
    have k2 : Same H1 (upd H1 dW (.dK [])) := Same.put (Same.refl _) hdW
    have hW2 : (upd H1 dW (.dK [])) dW = some (.dK []) := upd_same
    have nW : ln ≠ dW := ne_of_none h1 hdW
    generalize upd H1 dW (.dK []) = H2 at *
    refine ⟨_, rfl, _, rfl, _, rfl, _, _, rfl, rfl, ⟨by decide, by decide, by decide⟩, _, _, rfl, rfl, .inl ⟨by decide, by decide⟩, a, 2, m, _, ns, rfl, s2.seq hS, hn, by omega, by decide, by decide, fun ld ys H3 hld s3 h3 hl3 hb3 => ?_⟩
    have hb4 : ∀ y ∈ ys, 0 ≤ y ∧ y < 4000000 := hb3
    have h1n := s3 _ _ (k2 _ _ h1)
    have hW3 := s3 _ _ hW2
    have s03 : Same H H3 := Same.trans s2 s3
    have nD : ld ≠ dW := Ne.symm (ne_of_none hW2 hld)
    refine ⟨ln, ld, rfl, ⟨_, SqL.of h1n⟩, ⟨_, SqL.of h3⟩, ?_⟩
    have hlen : nms.length = ys.length := by omega
    have hkeys := wsOf_keys hlen
    have nd : ((wsOf nms ys).map (·.1)).Nodup := by rw [hkeys]; exact hnd
    have hwm := wsOf_mem (nms := nms) hb4
    have hwl : (wsOf nms ys).length = m := by rw [← List.length_map (f := (·.1)), hkeys]; exact hl1
    refine for_zip (K := K) (a := ln) (b := ld) (xs := nms.map V.str) (ys := ys.map V.int) (fun i σ H9 => ∃ (u4 u5 : Option V), σ = [some (.ref a), some (.int m), some (.ref ln), some (.ref dW), u4, u5, none, none, none, none, none, none, none, none] ∧ (∀ b u, b ≠ dW → H3 b = some u → H9 b = some u) ∧ H9 dW = some (.dK (kvW ((wsOf nms ys).take i)))) ⟨none, none, rfl, fun _ _ _ e => e, hW3⟩ (by rw [List.length_map, List.length_map]; exact hlen) (fun i σ H9 _ ⟨_, _, _, z, _⟩ => ⟨SqL.of (z _ _ nW h1n), SqL.of (z _ _ nD h3)⟩) ?_ ?_
    · rintro i x y p0 σ H9 hx hy hp0 ⟨u4, u5, rfl, h9k, h9W⟩
      obtain ⟨nm, rfl, enm⟩ := str_at hx
      obtain ⟨n, rfl, en⟩ := int_at hy
      have hiw : i < m := by have := get_lt enm; omega
      have k10 : Same H9 (upd H9 p0 (.tup [V.str nm, V.int n])) := Same.put (Same.refl _) hp0
      have hp10 : (upd H9 p0 (.tup [V.str nm, V.int n])) p0 = some (.tup [V.str nm, V.int n]) := upd_same
      generalize upd H9 p0 (.tup [V.str nm, V.int n]) = H10 at *
      refine ⟨p0, _, rfl, SqT.of hp10, rfl, _, _, rfl, _, _, rfl, rfl, ?_⟩
      refine ⟨_, rfl, _, _, rfl, rfl, ⟨by decide, by decide⟩, _, _, rfl, rfl, (by show (0 : Int) < 100; decide), _, rfl, _, _, rfl, rfl, ⟨by decide, by decide⟩, _, _, rfl, rfl, (by show (0 : Int) < 3; decide), _, rfl, _, _, rfl, rfl, ⟨by decide, by decide⟩, (by show 4 ≤ sizeLine; decide), fun L hL => ?_⟩
      refine ⟨_, rfl, _, _, rfl, rfl, (by show (0 : Int) < 4; decide), L, _, _, _, rfl, rfl, SqL.of upd_same, wAt_at n, ?_⟩
      have k11 : Same H9 (upd H10 L (.lst [V.int (n / 4 % 100), V.int 0, V.int (n / 4 % 3), V.int (n / 4)])) := Same.put k10 (same_none k10 hL)
      generalize upd H10 L (.lst [V.int (n / 4 % 100), V.int 0, V.int (n / 4 % 3), V.int (n / 4)]) = H11 at *
      refine ⟨_, rfl, _, rfl, dW, _, rfl, DPut.k (k := .inr nm) (k11 _ _ h9W) (by simp only [kvW, List.length_map, List.length_take, sizeLine_eq]; omega), ?_⟩
      rw [putNext nd (wsOf_at enm en)]
      refine (show ∃ u4 u5, _ from ⟨_, _, rfl, fun b u hb e => ?_, upd_same⟩)
      rw [upd_ne hb]
      exact k11 _ _ (h9k b u hb e)
    · rintro σ H9 ⟨u4, u5, rfl, h9k, h9W⟩
      rw [show (nms.map V.str).length = (wsOf nms ys).length by rw [List.length_map, hwl, hl1], List.take_length] at h9W
      generalize wsOf nms ys = ws0 at *
      refine ⟨_, rfl, dW, _, ws0.map (·.2), rfl, .inl h9W, kvW_vals ws0, rfl, _, rfl, ?_⟩
      have h9n : H9 ln = some (.lst (nms.map V.str)) := h9k _ _ nW h1n
      have s09 : Same H H9 := fun b u e => h9k b u (ne_of_none e hdW0) (s03 b u e)
      obtain ⟨x0, enm0⟩ : ∃ x0, nms[0]? = some x0 := ⟨nms[0]'(by omega), List.getElem?_eq_getElem _⟩
      have e0 : (nms.map V.str)[0]? = some (V.str x0) := by rw [List.getElem?_map, enm0]; rfl
      refine if_join (fun σ' H' => σ' = [some (.ref a), some (.int m), some (.ref ln), some (.ref dW), u4, u5, none, none, none, none, none, none, none, none] ∧ ∃ ws : List (Str × Int), ws.map (·.1) = nms ∧ (∀ p ∈ ws, 0 ≤ p.2 ∧ p.2 ≤ 1000000) ∧ 0 < DV.whole ws ∧ H' dW = some (.dK (kvW ws)) ∧ ∀ b u, b ≠ dW → H9 b = some u → H' b = some u) ?_ (fun hc go => ?_) (fun hc => ?_)
      · rintro σ' H10 ⟨rfl, ws, ek, hwm2, hpos, h10W, k10⟩
        have nd2 : (ws.map (·.1)).Nodup := by rw [ek]; exact hnd
        have hwl2 : ws.length = m := by rw [← List.length_map (f := (·.1)), ek]; exact hl1
        obtain ⟨w0, w1, w2⟩ := nonneg_whole hwm2
        have hne : ws ≠ [] := fun z => by rw [z] at hwl2; simp at hwl2; omega
        have s010 : Same H H10 := fun b u e => k10 b u (ne_of_none e hdW0) (s09 b u e)
        have h10n : H10 ln = some (.lst (nms.map V.str)) := k10 _ _ nW h9n
        -- room, handed, found
        refine ⟨_, rfl, a, 1, ns, rfl, s010.seq hS, hn, fun z2 => ⟨_, _, rfl, rfl, ⟨by decide, by decide, by decide⟩, _, _, rfl, rfl, _, _, rfl, rfl, (by show (0 : Int) < 10 ^ Int.toNat 9 + 1; decide), ?_⟩⟩
        obtain ⟨R, eR, hR0, hR1⟩ : ∃ R : Int, z2 % (10 ^ (9 : Int).toNat + 1) = R ∧ 0 ≤ R ∧ R < 2 ^ 32 := ⟨_, rfl, Int.emod_nonneg _ (by decide), Int.lt_trans (Int.emod_lt_of_pos _ (by decide)) (by decide)⟩
        dsimp only
        rw [eR]
        refine ⟨_, rfl, dW, _, rfl, .inl h10W, fun dH hdH => ?_⟩
        have s11 : Same H10 (upd H10 dH (.dK (kvW ws))) := Same.put (Same.refl _) hdH
        have h11H : (upd H10 dH (.dK (kvW ws))) dH = some (.dK (kvW ws)) := upd_same
        have nWH : dW ≠ dH := ne_of_none h10W hdH
        have nnH : ln ≠ dH := ne_of_none h10n hdH
        generalize upd H10 dH (.dK (kvW ws)) = H11 at *
        have s011 : Same H H11 := s010.trans s11
        have hT11 := s011 _ _ hT
        have hTk11 : TabOk H11 lamPos lamQual ps := tab_keep hTk fun c e => s011 _ _ e
        have h11W := s11 _ _ h10W
        have h11n := s11 _ _ h10n
        have nTW : dW ≠ T := ne_of h11W hT11 (by intro z; cases z)
        have nTn : ln ≠ T := ne_of h11n hT11 (by intro z; cases z)
        refine ⟨_, rfl, _, rfl, dH, R, ws, ps, rfl, .inl h11H, nd2, hne, by omega, hR0, hR1, hpos, by omega, hT11, hTk11, fun S H12 ps' out hS0 k12 hd12 hT12 hTk12 hp hs hS12 => ?_⟩
        have hSH : H S = none := same_none s011 hS0
        have h12W : H12 dW = some (.dK (kvW ws)) := k12 _ _ nTW nWH h11W
        have h12n : H12 ln = some (.lst (nms.map V.str)) := k12 _ _ nTn nnH h11n
        have nSW : dW ≠ S := ne_of_none h11W hS0
        have nSn : ln ≠ S := ne_of_none h11n hS0
        have nST : T ≠ S := ne_of_none hT11 hS0
        have nSH : dH ≠ S := ne_of_none h11H hS0
        refine ⟨_, rfl, dW, _, ws.map (·.2), rfl, .inl h12W, kvW_vals ws, ?_⟩
        -- the kinds, the names, the weights
        refine ⟨_, rfl, _, "dict", _, _, rfl, TyOf.dK hS12, kit_dict, _, rfl, iteF ?_⟩
        have ekd : (kvW (dealt R ws (out.take (leftOf R ws).toNat))).map (fun kv => kV kv.1) = nms.map V.str := by rw [kvW_keys, dealt_keys, ek]
        refine ⟨_, rfl, S, nms, rfl, .inr ⟨_, .inl hS12, ekd⟩, by omega, fun q1 o1 hq1 ho1 hs1 => ?_⟩
        have s13 : Same H12 (upd H12 q1 (.lst (o1.map V.str))) := Same.put (Same.refl _) hq1
        have h13 : (upd H12 q1 (.lst (o1.map V.str))) q1 = some (.lst (o1.map V.str)) := upd_same
        generalize upd H12 q1 (.lst (o1.map V.str)) = H13 at *
        refine ⟨_, rfl, ln, nms, rfl, .inl (SqL.of (s13 _ _ h12n)), by omega, fun q2 o2 hq2 ho2 hs2 => ?_⟩
        have eo : o1 = o2 := sortedS_unique (ho1.trans ho2.symm) hs1 hs2
        subst eo
        have s14 : Same H12 (upd H13 q2 (.lst (o1.map V.str))) := Same.put s13 (same_none s13 hq2)
        have h14 : (upd H13 q2 (.lst (o1.map V.str))) q2 = some (.lst (o1.map V.str)) := upd_same
        have h14a : (upd H13 q2 (.lst (o1.map V.str))) q1 = some (.lst (o1.map V.str)) := Same.put (Same.refl _) hq2 _ _ h13
        generalize upd H13 q2 (.lst (o1.map V.str)) = H14 at *
        refine ⟨q1, q2, _, _, rfl, rfl, SqL.of h14a, SqL.of h14, rfl, flat_strs _, flat_strs _, _, rfl, ?_⟩
        rw [strs_eq]
        refine iteF ?_
        refine ⟨_, rfl, _, rfl, dH, dW, _, rfl, rfl, hd12.keep fun o e => s14 _ _ e, .inl (s14 _ _ h12W), kvW_ints ws, _, rfl, iteF ?_⟩
        -- whole numbers
        generalize hmo : out.take (leftOf R ws).toNat = more at *
        have hdl : (dealt R ws more).length = m := by unfold dealt; rw [List.length_map]; exact hwl2
        have hkl : (kvW (dealt R ws more)).length = m := by unfold kvW; rw [List.length_map]; exact hdl
        refine ⟨_, rfl, S, _, rfl, .inl (s14 _ _ hS12), fun o => ?_⟩
        have h15S : (upd H14 S (.frz o (.dK (kvW (dealt R ws more))))) S = some (.frz o (.dK (kvW (dealt R ws more)))) := upd_same
        have k15 : ∀ b u, b ≠ S → H12 b = some u → (upd H14 S (.frz o (.dK (kvW (dealt R ws more))))) b = some u := fun b u hb e => by rw [upd_ne hb]; exact s14 _ _ e
        generalize upd H14 S (.frz o (.dK (kvW (dealt R ws more)))) = H15 at *
        refine comp_values (fun _ => V.bl true) h15S (small (by rw [hkl]; omega)) ?_ fun D hD => ?_
        · intro D j kk x l Q' hD hx hq
          obtain ⟨nm, c, _, _, rfl⟩ := kvW_at hx
          exact ⟨_, rfl, _, "int", _, _, rfl, TyOf.int c, kit_ints, _, rfl, iteT ⟨_, rfl, _, "bool", _, _, rfl, TyOf.int c, kit_intb, _, rfl, hq⟩⟩
        have eD : ((kvW (dealt R ws more)).map fun _ => V.bl true) = ((kvW (dealt R ws more)).map fun _ => true).map V.bl := by rw [List.map_map]; rfl
        have ea : ((kvW (dealt R ws more)).map fun _ => true).all id = true := by rw [List.all_map]; exact List.all_eq_true.mpr fun _ _ => rfl
        rw [eD]
        refine ⟨D, _, rfl, SqL.of upd_same, _, rfl, ?_⟩
        rw [ea]
        refine iteF ?_
        have k16 : ∀ b u, b ≠ S → H12 b = some u → (upd H15 D (.lst (((kvW (dealt R ws more)).map fun _ => true).map V.bl))) b = some u := fun b u hb e => Same.put (Same.refl _) hD _ _ (k15 b u hb e)
        have h16S := Same.put (Same.refl H15) hD (o := .lst (((kvW (dealt R ws more)).map fun _ => true).map V.bl)) _ _ h15S
        generalize upd H15 D (.lst (((kvW (dealt R ws more)).map fun _ => true).map V.bl)) = H16 at *
        -- those with one more, the others
        refine ⟨smallE (by simp), fun lm hlm => ⟨smallE (by simp), fun lo hlo => ?_⟩⟩
        have nmo : lm ≠ lo := ne_of_none upd_same hlo
        have s18 : Same H16 (upd (upd H16 lm (.lst [])) lo (.lst [])) := Same.put (Same.put (Same.refl _) hlm) (same_none (Same.put (Same.refl _) hlm) hlo)
        have h18m : (upd (upd H16 lm (.lst [])) lo (.lst [])) lm = some (.lst []) := by rw [upd_ne nmo]; exact upd_same
        have h18o : (upd (upd H16 lm (.lst [])) lo (.lst [])) lo = some (.lst []) := upd_same
        have h16lo : H16 lo = none := same_none (Same.put (Same.refl _) hlm) hlo
        generalize upd (upd H16 lm (.lst [])) lo (.lst []) = H18 at *
        have h18S := s18 _ _ h16S
        have k18 : ∀ b u, b ≠ S → H12 b = some u → H18 b = some u := fun b u hb e => s18 _ _ (k16 b u hb e)
        have h18n := k18 _ _ nSn h12n
        have h18W := k18 _ _ nSW h12W
        have new : ∀ b u, H16 b = some u → b ≠ lm ∧ b ≠ lo := fun b u e => ⟨ne_of_none e hlm, ne_of_none e h16lo⟩
        have nn : ln ≠ lm ∧ ln ≠ lo := new _ _ (k16 _ _ nSn h12n)
        refine ⟨_, rfl, ln, rfl, ⟨_, SqL.of h18n⟩, for_list (K := K) (a := ln) (xs := nms.map V.str) (fun i σ H9 => ∃ (v4 v12 : Option V) (as1 as2 : List Addr) (ts1 ts2 : List (Int × Str)), σ = [some (.ref a), some (.int m), some (.ref ln), some (.ref dW), v4, u5, some (.int R), some (.ref dH), some (.ref S), some (.int (DV.whole ws)), some (.ref lm), some (.ref lo), v12, none] ∧ (∀ b u, b ≠ lm → b ≠ lo → H18 b = some u → H9 b = some u) ∧ H9 lm = some (.lst (as1.map V.ref)) ∧ H9 lo = some (.lst (as2.map V.ref)) ∧ TupsAt H9 as1 ts1 ∧ TupsAt H9 as2 ts2 ∧ as1.length + as2.length = i ∧ (∀ t ∈ ts1, ∃ x ∈ more, t = keyOf R ws x) ∧ (∀ t ∈ ts2, ∃ x ∈ nms, x ∉ more ∧ t = keyOf R ws x))
          ⟨_, _, [], [], [], [], rfl, fun _ _ _ _ e => e, h18m, h18o, ⟨rfl, fun i a t e => nomatch e⟩, ⟨rfl, fun i a t e => nomatch e⟩, rfl, (fun t ht => nomatch ht), fun t ht => nomatch ht⟩ (fun i σ H9 _ ⟨_, _, _, _, _, _, _, z, _⟩ => SqL.of (z _ _ nn.1 nn.2 h18n)) ?_ ?_⟩
        · rintro i x σ H9 hx ⟨v4, v12, as1, as2, ts1, ts2, rfl, k9, h9m, h9o, t1, t2, hlen9, ht1, ht2⟩
          obtain ⟨nm, rfl, enm⟩ := str_at hx
          have hin : i < m := by have := get_lt enm; omega
          obtain ⟨n, ewi⟩ : ∃ n, ws[i]? = some (nm, n) := by
            rw [← ek, List.getElem?_map] at enm
            cases e : ws[i]? with
            | none => rw [e] at enm; cases enm
            | some p => rw [e] at enm; cases enm; exact ⟨p.2, rfl⟩
          have hmem : (nm, n) ∈ ws := List.mem_of_getElem? ewi
          have hv : DGet H9 dW (kV (.inr nm)) (some (.int n)) := by
            rw [← valW nd2 hmem]
            exact DGet.k (k9 _ _ (new _ _ (k16 _ _ nSW h12W)).1 (new _ _ (k16 _ _ nSW h12W)).2 h18W)
          have hmem2 : (nm, DV.part R (DV.whole ws) n + if nm ∈ more then 1 else 0) ∈ dealt R ws more := List.mem_map_of_mem (f := fun p : Str × Int => (p.1, DV.part R (DV.whole ws) p.2 + if p.1 ∈ more then 1 else 0)) hmem
          have hv2 : DGet H9 S (kV (.inr nm)) (some (.int (DV.part R (DV.whole ws) n + if nm ∈ more then 1 else 0))) := by
            rw [← valW (by rw [dealt_keys]; exact nd2) hmem2]
            exact .inl ⟨_, _, .inr ⟨o, k9 _ _ (new _ _ h16S).1 (new _ _ h16S).2 h18S⟩, rfl, rfl⟩
          have hre := rest_of (R := R) nd2 hmem
          have hre' : restOf R ws nm = DV.rest R (DV.whole ws) n := hre
          obtain ⟨r0, r1⟩ := DV.rest_pos (R := R) (w := n) hpos
          refine ⟨_, rfl, _, rfl, _, rfl, dW, _, rfl, hv, _, _, rfl, rfl, .inl ⟨by omega, by omega⟩, _, rfl, _, rfl, _, rfl, S, _, rfl, hv2, _, _, rfl, rfl, .inl ⟨by show -(2 ^ 64) < DV.whole ws; omega, by show DV.whole ws < 2 ^ 64; omega⟩, _, _, rfl, rfl, ?_⟩
          dsimp only
          have hmul : DV.whole ws * (DV.part R (DV.whole ws) n + 1) = DV.part R (DV.whole ws) n * DV.whole ws + DV.whole ws := by rw [Int.mul_add, Int.mul_one, Int.mul_comm]
          have hrd : DV.rest R (DV.whole ws) n = R * n - DV.part R (DV.whole ws) n * DV.whole ws := rfl
          by_cases hmn : nm ∈ more
          · have er : R * n - DV.whole ws * (DV.part R (DV.whole ws) n + if nm ∈ more then 1 else 0) = restOf R ws nm - DV.whole ws := by
              rw [if_pos hmn, hmul, hre', hrd]; omega
            have hpos2 : 0 < restOf R ws nm := more_pos nd2 hpos hne hp hs (by rw [hmo]; exact hmn)
            rw [er]
            refine ⟨_, rfl, _, rfl, _, rfl, _, _, rfl, rfl, _, rfl, iteC (decide_eq_false (by show ¬ restOf R ws nm - DV.whole ws ≤ -DV.whole ws; omega)) ?_⟩
            refine ⟨_, rfl, _, rfl, _, _, rfl, rfl, _, rfl, iteC (decide_eq_false (by show ¬ DV.whole ws ≤ restOf R ws nm - DV.whole ws; omega)) ?_⟩
            refine ⟨_, rfl, _, _, rfl, rfl, _, rfl, iteB (decide_eq_true (by show restOf R ws nm - DV.whole ws < 0; omega)) ?_⟩
            refine ⟨_, rfl, .inl ⟨rfl, _, SqL.of h9m⟩, _, rfl, _, rfl, _, _, rfl, rfl, _, rfl, _, rfl, (by show 2 ≤ sizeLine; decide), fun t ht => ?_⟩
            have ev : -(restOf R ws nm - DV.whole ws + DV.whole ws) = -(restOf R ws nm) := by omega
            dsimp only
            rw [ev]
            have kt : Same H9 (upd H9 t (.tup [V.int (-(restOf R ws nm)), V.str nm])) := Same.put (Same.refl _) ht
            have htt : (upd H9 t (.tup [V.int (-(restOf R ws nm)), V.str nm])) t = some (.tup (tIS (keyOf R ws nm))) := upd_same
            generalize upd H9 t (.tup [V.int (-(restOf R ws nm)), V.str nm]) = Ht at *
            have htm := kt _ _ h9m
            have kp : ∀ b xs, Ht b = some (.tup xs) → (upd Ht lm (.lst (as1.map V.ref ++ [V.ref t]))) b = some (.tup xs) := fun b xs e => by rw [upd_ne (ne_of e htm (by intro z; cases z))]; exact e
            refine ⟨lm, _, _, rfl, rfl, htm, small (by rw [List.length_map]; omega), ?_⟩
            refine ⟨_, _, as1 ++ [t], as2, ts1 ++ [keyOf R ws nm], ts2, rfl, fun b u h1 h2 e => ?_, ?_, ?_, TupsAt.snoc (t1.keep fun b xs e => kp b xs (kt _ _ e)) (kp _ _ htt), t2.keep fun b xs e => kp b xs (kt _ _ e), by rw [List.length_append]; simp only [List.length_singleton]; omega, fun t ht => ?_, ht2⟩
            · rw [upd_ne h1]; exact kt _ _ (k9 b u h1 h2 e)
            · rw [upd_same, List.map_append]; rfl
            · rw [upd_ne (Ne.symm nmo)]; exact kt _ _ h9o
            · rcases List.mem_append.mp ht with q | q
              · exact ht1 t q
              · exact ⟨nm, hmn, List.mem_singleton.mp q⟩
          · have er : R * n - DV.whole ws * (DV.part R (DV.whole ws) n + if nm ∈ more then 1 else 0) = restOf R ws nm := by
              rw [if_neg hmn, Int.add_zero, hre', hrd, Int.mul_comm (DV.whole ws)]
            have r0' : 0 ≤ restOf R ws nm := by rw [hre']; exact r0
            have r1' : restOf R ws nm < DV.whole ws := by rw [hre']; exact r1
            rw [er]
            refine ⟨_, rfl, _, rfl, _, rfl, _, _, rfl, rfl, _, rfl, iteC (decide_eq_false (by show ¬ restOf R ws nm ≤ -DV.whole ws; omega)) ?_⟩
            refine ⟨_, rfl, _, rfl, _, _, rfl, rfl, _, rfl, iteC (decide_eq_false (by show ¬ DV.whole ws ≤ restOf R ws nm; omega)) ?_⟩
            refine ⟨_, rfl, _, _, rfl, rfl, _, rfl, iteC (decide_eq_false (by show ¬ restOf R ws nm < 0; omega)) ?_⟩
            refine ⟨_, rfl, .inl ⟨rfl, _, SqL.of h9o⟩, _, rfl, _, rfl, _, rfl, (by show 2 ≤ sizeLine; decide), fun t ht => ?_⟩
            have kt : Same H9 (upd H9 t (.tup [V.int (-(restOf R ws nm)), V.str nm])) := Same.put (Same.refl _) ht
            have htt : (upd H9 t (.tup [V.int (-(restOf R ws nm)), V.str nm])) t = some (.tup (tIS (keyOf R ws nm))) := upd_same
            generalize upd H9 t (.tup [V.int (-(restOf R ws nm)), V.str nm]) = Ht at *
            have hto := kt _ _ h9o
            have kp : ∀ b xs, Ht b = some (.tup xs) → (upd Ht lo (.lst (as2.map V.ref ++ [V.ref t]))) b = some (.tup xs) := fun b xs e => by rw [upd_ne (ne_of e hto (by intro z; cases z))]; exact e
            refine ⟨lo, _, _, rfl, rfl, hto, small (by rw [List.length_map]; omega), ?_⟩
            refine ⟨_, _, as1, as2 ++ [t], ts1, ts2 ++ [keyOf R ws nm], rfl, fun b u h1 h2 e => ?_, ?_, ?_, t1.keep fun b xs e => kp b xs (kt _ _ e), TupsAt.snoc (t2.keep fun b xs e => kp b xs (kt _ _ e)) (kp _ _ htt), by rw [List.length_append]; simp only [List.length_singleton]; omega, ht1, fun t ht => ?_⟩
            · rw [upd_ne h2]; exact kt _ _ (k9 b u h1 h2 e)
            · rw [upd_ne nmo]; exact kt _ _ h9m
            · rw [upd_same, List.map_append]; rfl
            · rcases List.mem_append.mp ht with q | q
              · exact ht2 t q
              · exact ⟨nm, List.mem_of_getElem? enm, hmn, List.mem_singleton.mp q⟩
        · rintro σ H19 ⟨v4, v12, as1, as2, ts1, ts2, rfl, k19, h19m, h19o, t1, t2, hlen9, ht1, ht2⟩
          have k19' : ∀ b u, b ≠ S → H12 b = some u → H19 b = some u := fun b u hb e => k19 b u (new _ _ (k16 b u hb e)).1 (new _ _ (k16 b u hb e)).2 (k18 b u hb e)
          have h19S := k19 _ _ (new _ _ h16S).1 (new _ _ h16S).2 h18S
          -- kept, found changed
          refine ⟨_, rfl, S, _, rfl, .inr ⟨o, h19S⟩, fun dK hdK => ?_⟩
          have k20 : Same H19 (upd H19 dK (.dK (kvW (dealt R ws more)))) := Same.put (Same.refl _) hdK
          have h20K : (upd H19 dK (.dK (kvW (dealt R ws more)))) dK = some (.dK (kvW (dealt R ws more))) := upd_same
          have nKH : dK ≠ dH := fun z => by
            rcases hd12 with r | ⟨_, r⟩
            · have := k19' _ _ nSH r; rw [← z, hdK] at this; cases this
            · have := k19' _ _ nSH r; rw [← z, hdK] at this; cases this
          have nSK : dK ≠ S := Ne.symm (ne_of_none h19S hdK)
          generalize upd H19 dK (.dK (kvW (dealt R ws more))) = H20 at *
          have h20S := k20 _ _ h19S
          have nmS : lm ≠ S := ne_of h19m h19S (by intro z; cases z)
          have noS : lo ≠ S := ne_of h19o h19S (by intro z; cases z)
          refine .inr ⟨S, o, _, h20S, hSH, ?_⟩
          refine ⟨_, rfl, _, rfl, _, rfl, ln, _, _, _, rfl, rfl, SqL.of (by rw [upd_ne nSn]; exact k20 _ _ (k19' _ _ nSn h12n)), atI_nat (j := 0) e0, S, _, rfl, DPut.k (k := .inr x0) upd_same (by rw [hkl, sizeLine_eq]; omega), ?_⟩
          have k21 : ∀ b u, b ≠ S → H20 b = some u → (upd (upd H20 S (.dK (kvW (dealt R ws more)))) S (.dK (putK (kvW (dealt R ws more)) (.inr x0) (.int (-1))))) b = some u := fun b u hb e => by rw [upd_ne hb, upd_ne hb]; exact e
          generalize upd (upd H20 S (.dK (kvW (dealt R ws more)))) S (.dK (putK (kvW (dealt R ws more)) (.inr x0) (.int (-1)))) = H21 at *
          have k21' : ∀ b u, b ≠ S → H12 b = some u → H21 b = some u := fun b u hb e => k21 b u hb (k20 _ _ (k19' b u hb e))
          have h21K := k21 _ _ nSK h20K
          have h21m := k21 _ _ nmS (k20 _ _ h19m)
          have h21o := k21 _ _ noS (k20 _ _ h19o)
          have t1' : TupsAt H21 as1 ts1 := t1.keep fun b xs e => k21 b _ (ne_of e h19S (by intro z; cases z)) (k20 _ _ e)
          have t2' : TupsAt H21 as2 ts2 := t2.keep fun b xs e => k21 b _ (ne_of e h19S (by intro z; cases z)) (k20 _ _ e)
          have fin : ∀ Hf : Hp, Same H21 Hf → spDeal T [.int R, .ref dH] Hf (fun x H' => ∃ y, (some (some (V.ref dK)) : Option (Option V)) = some (some y) ∧ rEqDD false x y H' Q) E := fun Hf sf => by
            refine ⟨dH, R, ws, ps', rfl, hd12.keep fun o e => sf _ _ (k21' _ _ nSH e), nd2, hne, by omega, hR0, hR1, hpos, by omega, sf _ _ (k21' _ _ nST hT12), tab_keep hTk12 (fun c e => sf _ _ (k21' _ _ (ne_of e hS12 (by intro z; cases z)) e)), fun S2 H22 ps2 out2 hS2 kk hd22 hT22 hTk22 hp2 hs2 hS22 => ?_⟩
            have eo : out2 = out := turn_unique (hp2.trans hp.symm) hs2 hs
            subst eo
            rw [hmo] at hS22
            exact ⟨_, rfl, S2, dK, _, rfl, rfl, .inl hS22, .inl (kk _ _ (ne_of (sf _ _ h21K) (sf _ _ (k21' _ _ nST hT12)) (by intro z; cases z)) nKH (sf _ _ h21K)), kvW_ints _, k _⟩
          -- the sum, the turns
          have hsum := dealt_sum nd2 hpos hne hp (R := R)
          rw [hmo] at hsum
          refine ⟨_, rfl, dK, _, (dealt R ws more).map (·.2), rfl, .inl h21K, kvW_vals _, _, rfl, rfl, _, rfl, iteNS (by rw [hsum]) ?_⟩
          refine ⟨_, rfl, smallE (by simp), fun e1 he1 => ?_⟩
          have s22 : Same H21 (upd H21 e1 (.lst [])) := Same.put (Same.refl _) he1
          have h22 : (upd H21 e1 (.lst [])) e1 = some (.lst []) := upd_same
          generalize upd H21 e1 (.lst []) = H22 at *
          refine ⟨lm, e1, _, rfl, rfl, SqL.of (s22 _ _ h21m), SqL.of h22, _, rfl, ite2 (fun hA => ?_) (fun hA => iteF ⟨_, rfl, _, rfl, fin _ s22⟩)⟩
          refine ⟨_, rfl, smallE (by simp), fun e2 he2 => ?_⟩
          have s23 : Same H21 (upd H22 e2 (.lst [])) := Same.put s22 (same_none s22 he2)
          have h23 : (upd H22 e2 (.lst [])) e2 = some (.lst []) := upd_same
          generalize upd H22 e2 (.lst []) = H23 at *
          refine ⟨lo, e2, _, rfl, rfl, SqL.of (s23 _ _ h21o), SqL.of h23, _, rfl, ite2 (fun hB => ?_) (fun hB => iteF ⟨_, rfl, _, rfl, fin _ s23⟩)⟩
          have n1 : 0 < as1.length := by cases as1 with
            | nil => simp at hA
            | cons => simp
          have n2 : 0 < as2.length := by cases as2 with
            | nil => simp at hB
            | cons => simp
          refine ⟨_, rfl, lm, as1, ts1, rfl, SqL.of (s23 _ _ h21m), t1'.1, n1, (t1'.keep fun b xs e => s23 _ _ e).2, fun a1 p1 hp1 ha1 hm1 => ?_⟩
          refine ⟨_, rfl, lo, as2, ts2, rfl, SqL.of (s23 _ _ h21o), t2'.1, n2, (t2'.keep fun b xs e => s23 _ _ e).2, fun a2 p2 hp2 ha2 hm2 => ?_⟩
          refine ⟨a1, a2, p1, p2, rfl, rfl, ha1, ha2, _, rfl, ?_⟩
          obtain ⟨x1, hx1, rfl⟩ := ht1 p1 hp1
          obtain ⟨x2, hx2, nx2, rfl⟩ := ht2 p2 hp2
          have ela : DV.lexLt (keyOf R ws x2) (keyOf R ws x1) = false := more_ahead hs (n := (leftOf R ws).toNat) (by rw [hmo]; exact hx1) (hp.mem_iff.mpr (by rw [ek]; exact hx2)) (by rw [hmo]; exact nx2)
          rw [ela]
          exact iteF ⟨_, rfl, _, rfl, fin _ s23⟩
      · have hx0 : x0 ∈ ws0.map (·.1) := by rw [hkeys]; exact List.mem_of_getElem? enm0
        refine ⟨_, rfl, _, rfl, ln, _, _, _, rfl, rfl, SqL.of h9n, atI_nat (j := 0) e0, dW, _, rfl, DPut.k (k := .inr x0) h9W (by simp only [kvW, List.length_map, sizeLine_eq]; omega), ?_⟩
        rw [putW_old hx0]
        refine go _ _ ⟨rfl, _, ?_, ?_, ?_, upd_same, fun b u hb e => by rw [upd_ne hb]; exact e⟩
        · rw [List.map_map, ← hkeys]
          refine List.map_congr_left fun p _ => ?_
          show (if p.1 = x0 then (p.1, (1 : Int)) else p).1 = p.1
          split <;> rfl
        · intro p hp
          obtain ⟨q, hq, rfl⟩ := List.mem_map.mp hp
          show 0 ≤ (if q.1 = x0 then (q.1, (1 : Int)) else q).2 ∧ (if q.1 = x0 then (q.1, (1 : Int)) else q).2 ≤ 1000000
          split
          · show (0 : Int) ≤ 1 ∧ (1 : Int) ≤ 1000000; omega
          · exact hwm q hq
        · obtain ⟨q, hq, e⟩ := List.mem_map.mp hx0
          have hall : ∀ p ∈ ws0.map (fun p => if p.1 = x0 then (p.1, (1 : Int)) else p), 0 ≤ p.2 ∧ p.2 ≤ 1000000 := by
            intro p hp
            obtain ⟨q, hq, rfl⟩ := List.mem_map.mp hp
            show 0 ≤ (if q.1 = x0 then (q.1, (1 : Int)) else q).2 ∧ (if q.1 = x0 then (q.1, (1 : Int)) else q).2 ≤ 1000000
            split
            · show (0 : Int) ≤ 1 ∧ (1 : Int) ≤ 1000000; omega
            · exact hwm q hq
          have := (nonneg_whole hall).2.2 (x0, 1) (List.mem_map.mpr ⟨q, hq, by rw [if_pos e, e]⟩)
          have h1' : (1 : Int) ≤ DV.whole (ws0.map fun p => if p.1 = x0 then (p.1, (1 : Int)) else p) := this
          omega
      · refine ⟨rfl, ws0, hkeys, hwm, ?_, h9W, fun _ _ _ e => e⟩
        have q := (nonneg_whole hwm).1
        have q2 : ¬ DV.whole ws0 = 0 := fun z => by
          have := of_decide_eq_false hc
          exact this (congrArg V.int z)
        omega
end
end B01
namespace B01
open PySem L2 S2
set_option maxHeartbeats 4000000 in
theorem all_mk {l : PySem.W.OpenLaw} {w : World} {K : PySem.W.Frag} {h : Heap} {mg : Str → Option Value} {fa c0 f1 f2 f3 f4 f5 f6 : Addr} (X : K.In h) (G : h.Ns mainGlobals mg) (hfa : mg "law" = some (.ref fa))
    {od1 an1 od2 an2 od3 an3 od4 an4 od5 an5 od6 an6 : Option Addr} {sl1 sl2 sl3 sl4 sl5 sl6 : Array (Option Value)} {oc1 kV1 dc1 pm1 ct1 oc2 kV2 dc2 pm2 ct2 oc3 kV3 dc3 pm3 ct3 oc4 kV4 dc4 pm4 ct4 oc5 kV5 dc5 pm5 ct5 oc6 kV6 dc6 pm6 ct6 cd2 cd3 cd4 cd5 cd6 : Value}
    (a1 : PySem.W.nsIn K mainGlobals "deal" = some (some (.ref f1))) (l1 : K.lookup f1 = some ⟨oc1, od1, .func (PySem.W.fnOf "deal" "deal" (defArgs sDeal) (defBody sDeal) (defScope sDeal) .none kV1 dc1 pm1 an1 (.ref c0) ct1), sl1⟩) (c1 : PySem.W.codeIn K (.ref c0) "deal" = true) (k1 : PySem.W.keepIn K (.ref f1) = true)
    (a2 : PySem.W.nsIn K mainGlobals "_law_at" = some (some (.ref f2))) (l2 : K.lookup f2 = some ⟨oc2, od2, .func (PySem.W.fnOf "_law_at" "_law_at" (defArgs sAt) (defBody sAt) (defScope sAt) .none kV2 dc2 pm2 an2 cd2 ct2), sl2⟩) (c2 : PySem.W.codeIn K cd2 "_law_at" = true) (k2 : PySem.W.keepIn K (.ref f2) = true)
    (a3 : PySem.W.nsIn K mainGlobals "_law_mixed" = some (some (.ref f3))) (l3 : K.lookup f3 = some ⟨oc3, od3, .func (PySem.W.fnOf "_law_mixed" "_law_mixed" (defArgs sMixed) (defBody sMixed) (defScope sMixed) .none kV3 dc3 pm3 an3 cd3 ct3), sl3⟩) (c3 : PySem.W.codeIn K cd3 "_law_mixed" = true) (k3 : PySem.W.keepIn K (.ref f3) = true)
    (a4 : PySem.W.nsIn K mainGlobals "_law_draws" = some (some (.ref f4))) (l4 : K.lookup f4 = some ⟨oc4, od4, .func (PySem.W.fnOf "_law_draws" "_law_draws" (defArgs sDraws) (defBody sDraws) (defScope sDraws) .none kV4 dc4 pm4 an4 cd4 ct4), sl4⟩) (c4 : PySem.W.codeIn K cd4 "_law_draws" = true) (k4 : PySem.W.keepIn K (.ref f4) = true)
    (a5 : PySem.W.nsIn K mainGlobals "_law_names" = some (some (.ref f5))) (l5 : K.lookup f5 = some ⟨oc5, od5, .func (PySem.W.fnOf "_law_names" "_law_names" (defArgs sLNames) (defBody sLNames) (defScope sLNames) .none kV5 dc5 pm5 an5 cd5 ct5), sl5⟩) (c5 : PySem.W.codeIn K cd5 "_law_names" = true) (k5 : PySem.W.keepIn K (.ref f5) = true)
    (a6 : PySem.W.nsIn K mainGlobals "law" = some (some (.ref f6))) (l6 : K.lookup f6 = some ⟨oc6, od6, .func (PySem.W.fnOf "law" "law" (defArgs sLaw) (defBody sLaw) (defScope sLaw) .none kV6 dc6 pm6 an6 cd6 ct6), sl6⟩) (c6 : PySem.W.codeIn K cd6 "law" = true) (k6 : PySem.W.keepIn K (.ref f6) = true)
    (z0 : PySem.W.nsIn K mainGlobals "sum" = some none) (z1 : PySem.W.nsIn K mainGlobals "list" = some none) (z2 : PySem.W.nsIn K mainGlobals "sorted" = some none) (z3 : PySem.W.nsIn K mainGlobals "dict" = some none) (z4 : PySem.W.nsIn K mainGlobals "len" = some none) (z5 : PySem.W.nsIn K mainGlobals "range" = some none) (z6 : PySem.W.nsIn K mainGlobals "zip" = some none) (z7 : PySem.W.nsIn K mainGlobals "isinstance" = some none) (z8 : PySem.W.nsIn K mainGlobals "all" = some none) (z9 : PySem.W.nsIn K mainGlobals "int" = some none) (z10 : PySem.W.nsIn K mainGlobals "bool" = some none) (z11 : PySem.W.nsIn K mainGlobals "max" = some none) (z12 : PySem.W.nsIn K mainGlobals "min" = some none)
    (x1 : PySem.W.codeHdIn K c0 16 = true) (x2 : K.lookup 16 = none) :
    ∃ (fd : FuncData) (c0 : Addr), (∀ (s : Shared) (v : Value), BindsTo s fd ⟨[v], []⟩ [("_law_script", v)]) ∧ K.lookup 16 = none ∧ PySem.W.codeHdIn K c0 16 = true ∧ ∀ base : Heap, K.In base → base.Ns mainGlobals mg → base.BuiltinsAt mg 16 → FnOk l.prog w K mg base CX0 3 fa fd ["_law_script"] (spLaw K 16) := by
  have e := hfa.symm.trans (PySem.W.mg_of X G a6)
  cases e
  have N : Names mg := ⟨PySem.W.mg_none_of X G z0, PySem.W.mg_none_of X G z1, PySem.W.mg_none_of X G z2, PySem.W.mg_none_of X G z3, PySem.W.mg_none_of X G z4, PySem.W.mg_none_of X G z5, PySem.W.mg_none_of X G z6, PySem.W.mg_none_of X G z7, PySem.W.mg_none_of X G z8, PySem.W.mg_none_of X G z9, PySem.W.mg_none_of X G z10, PySem.W.mg_none_of X G z11, PySem.W.mg_none_of X G z12⟩
  have F1 := fun_mk (st := sDeal) l1 c1 k1
  have b1 := F1.binds (ps := ["room", "weights"]) fun _ _ _ _ _ _ us hl => match us, hl with | [_, _], _ => rfl
  have m1 := PySem.W.mg_of X G a1
  have F2 := fun_mk (st := sAt) l2 c2 k2
  have b2 := F2.binds (ps := ["_law_script", "_law_k"]) fun _ _ _ _ _ _ us hl => match us, hl with | [_, _], _ => rfl
  have m2 := PySem.W.mg_of X G a2
  have F3 := fun_mk (st := sMixed) l3 c3 k3
  have b3 := F3.binds (ps := ["_law_cell"]) fun _ _ _ _ _ _ us hl => match us, hl with | [_], _ => rfl
  have m3 := PySem.W.mg_of X G a3
  have F4 := fun_mk (st := sDraws) l4 c4 k4
  have b4 := F4.binds (ps := ["_law_script", "_law_first", "_law_many", "_law_base"]) fun _ _ _ _ _ _ us hl => match us, hl with | [_, _, _, _], _ => rfl
  have m4 := PySem.W.mg_of X G a4
  have F5 := fun_mk (st := sLNames) l5 c5 k5
  have b5 := F5.binds (ps := ["_law_many", "_law_cell"]) fun _ _ _ _ _ _ us hl => match us, hl with | [_, _], _ => rfl
  have m5 := PySem.W.mg_of X G a5
  have F6 := fun_mk (st := sLaw) l6 c6 k6
  refine ⟨PySem.W.fnOf "law" "law" (defArgs sLaw) (defBody sLaw) (defScope sLaw) .none kV6 dc6 pm6 an6 cd6 ct6, c0, fun s v => .of_eq rfl, x2, x1, fun base _ _ hB => ?_⟩
  have GA := ok_at (P := l.prog) (w := w) (base := base) F2 N
  exact ok_law F6 N GA b2 m2 k2 (ok_lnames F5 N) b5 m5 k5 (ok_draws F4 N GA b2 m2 k2 (ok_mixed F3) b3 m3 k3) b4 m4 k4 (ok_deal F1 N rfl x1 hB) b1 m1 k1
theorem walk {l : PySem.W.OpenLaw} {q : Program} {loose : List Str} {XP : (Str → Option Value) → Heap → Prop} {YP : World → Heap → Prop} {d : DefRec} {K : Params → PySem.W.Frag} (hn : l.most = some 63) (hdf : d.params.defaults = [])
    (hY : ∀ (w : World) (h : Heap), YP w h → (K w.params).In h ∧ h.get? 16 = some (PySem.W.tabObj #[]))
    (F : ∀ (w : World) (mg : Str → Option Value) (fa : Addr) (h : Heap), (K w.params).In h → h.Ns mainGlobals mg → mg d.name = some (.ref fa) →
      ∃ (fd : FuncData) (c0 : Addr), (∀ (s : Shared) (u : Value), BindsTo s fd ⟨[u], []⟩ [("_law_script", u)]) ∧ (K w.params).lookup 16 = none ∧ PySem.W.codeHdIn (K w.params) c0 16 = true ∧ ∀ base : Heap, (K w.params).In base → base.Ns mainGlobals mg → base.BuiltinsAt mg 16 → FnOk l.prog w (K w.params) mg base CX0 3 fa fd ["_law_script"] (spLaw (K w.params) 16)) :
    PySem.W.WalkO q loose XP YP l.row.toRowW d [] (fun f vs => PySem.call f vs) :=
  L2.walk_ofT (n := 63) (k := 3) (P := 16) (x := "_law_script") (CX := fun _ => CX0) (sp := fun w => spLaw (K w.params) 16) hn (by decide) hdf ⟨rfl, by decide, by decide⟩ hY F (fun _ _ a ns hl hO hS => ⟨a, ns, #[], rfl, hS, hl, hO.1, ⟨trivial, .inl rfl⟩, fun _ => rfl⟩) fun _ _ _ _ _ z => z
end B01
open PySem PySem.W PyProof.Rows
set_option maxRecDepth 100000 in
set_option maxHeartbeats 0 in
theorem PySem.Challenge.cw_boxgalley_k01_dealt_holds : PySem.Challenge.rw_boxgalley_k01_dealt.Holds := by
  w_on; o_law; k_head; (case hw => w_witness2)
  k_fill
  refine B01.walk (l := PySem.Challenge.rw_boxgalley_k01_dealt) rfl rfl (fun w h Y => ⟨PySem.W.km_in_of Y, PySem.W.km_tabs_of Y 16 (by decide)⟩) ?F
  case F =>
    intro w mg fa h KX G hmg
    refine' B01.all_mk KX G hmg ?a1 ?l1 ?c1 ?k1 ?a2 ?l2 ?c2 ?k2 ?a3 ?l3 ?c3 ?k3 ?a4 ?l4 ?c4 ?k4 ?a5 ?l5 ?c5 ?k5 ?a6 ?l6 ?c6 ?k6 ?z0 ?z1 ?z2 ?z3 ?z4 ?z5 ?z6 ?z7 ?z8 ?z9 ?z10 ?z11 ?z12 ?x1 ?x2
    (case a1 => k_is); (case l1 => k_is); (case c1 => k_is); (case k1 => k_is); (case a2 => k_is); (case l2 => k_is)
    (case c2 => k_is); (case k2 => k_is); (case a3 => k_is); (case l3 => k_is); (case c3 => k_is); (case k3 => k_is)
    (case a4 => k_is); (case l4 => k_is); (case c4 => k_is); (case k4 => k_is); (case a5 => k_is); (case l5 => k_is)
    (case c5 => k_is); (case k5 => k_is); (case a6 => k_is); (case l6 => k_is); (case c6 => k_is); (case k6 => k_is)
    (case z0 => k_is); (case z1 => k_is); (case z2 => k_is); (case z3 => k_is); (case z4 => k_is); (case z5 => k_is)
    (case z6 => k_is); (case z7 => k_is); (case z8 => k_is); (case z9 => k_is); (case z10 => k_is); (case z11 => k_is)
    (case z12 => k_is); (case x1 => first | rfl | kernel_rfl | decide); (case x2 => first | rfl | kernel_rfl | decide)
