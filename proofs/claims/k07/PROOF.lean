import PyProof.Rows.All
import Wide.All
import OpenK.AllK
import Wide.FinOn
import Lean
import PyProof.EqAt
import PyProof.EqKinds
import PyProof.TupleCall
import PySem.Challenge.RW_cogtrain_k07_back_after
set_option Elab.async false
set_option linter.all false
set_option maxRecDepth 100000

namespace L2
open PySem PySem.Spec PyProof.Rows

noncomputable abbrev Key := Sum Int Str
noncomputable def keyIs : Key → Value → Bool
  | .inl k, v => Value.isInt k v
  | .inr x, v => Value.isStrOf x v
noncomputable def keyH (w : World) : Key → Int
  | .inl k => hashInt k
  | .inr x => hashStr w x
theorem keyIs_shape : ∀ {k : Key} {v : Value}, keyIs k v = true → (∃ i t, k = Sum.inl i ∧ v = Value.int i t) ∨ (∃ x t, k = Sum.inr x ∧ v = Value.str x t)
  | .inl i, v, h => by
    obtain ⟨t, e⟩ := Value.isInt_shape (k := i) (v := v) h
    exact .inl ⟨i, t, rfl, e⟩
  | .inr x, v, h => by
    obtain ⟨t, e⟩ := Value.isStrOf_shape (x := x) (v := v) h
    exact .inr ⟨x, t, rfl, e⟩
theorem keyIs_int (i : Int) (t : Tok) : keyIs (.inl i) (.int i t) = true := by simp [keyIs, Value.isInt]
theorem keyIs_str (x : Str) (t : Tok) : keyIs (.inr x) (.str x t) = true := by simp [keyIs, Value.isStrOf]
theorem key_ll (a b : Int) : decide ((Sum.inl a : Key) = Sum.inl b) = (a == b) := by
  by_cases e : a = b
  · subst e; simp
  · have h : ¬ (Sum.inl a : Key) = Sum.inl b := fun q => e (Sum.inl.inj q)
    rw [decide_eq_false h]
    exact (beq_eq_false_iff_ne.mpr e).symm
theorem key_rr (a b : Str) : decide ((Sum.inr a : Key) = Sum.inr b) = decide (a = b) := by
  by_cases e : a = b
  · subst e; simp
  · have h : ¬ (Sum.inr a : Key) = Sum.inr b := fun q => e (Sum.inr.inj q)
    rw [decide_eq_false h, decide_eq_false e]
theorem key_lr (a : Int) (b : Str) : decide ((Sum.inl a : Key) = Sum.inr b) = false := decide_eq_false (fun q => nomatch q)
theorem key_rl (a : Str) (b : Int) : decide ((Sum.inr a : Key) = Sum.inl b) = false := decide_eq_false (fun q => nomatch q)

noncomputable def mixKind (prog : Program) (w : World) : PySem.KeyKind prog w Key where
  is := keyIs
  hash := keyH w
  inj := fun v a b ha hb => by
    rcases keyIs_shape ha with ⟨i, t, rfl, rfl⟩ | ⟨x, t, rfl, rfl⟩
    · rcases keyIs_shape hb with ⟨j, u, rfl, e⟩ | ⟨y, u, rfl, e⟩
      · injection e with e1 _; rw [e1]
      · exact nomatch e
    · rcases keyIs_shape hb with ⟨j, u, rfl, e⟩ | ⟨y, u, rfl, e⟩
      · exact nomatch e
      · injection e with e1 _; rw [e1]
  byValue := fun k v h => by
    rcases keyIs_shape h with ⟨i, t, rfl, rfl⟩ | ⟨x, t, rfl, rfl⟩ <;> rfl
  pyHash := fun hv h => by
    rcases keyIs_shape hv with ⟨i, t, rfl, rfl⟩ | ⟨x, t, rfl, rfl⟩
    · exact wpAny_pyHash_int h
    · exact wpAny_pyHash_str h
  eqBool := fun hu hv h => by
    rcases keyIs_shape hu with ⟨i, t, rfl, rfl⟩ | ⟨x, t, rfl, rfl⟩
    · rcases keyIs_shape hv with ⟨j, u, rfl, rfl⟩ | ⟨y, u, rfl, rfl⟩
      · rw [key_ll] at h; exact wpAny_eqBool_int h
      · rw [key_lr] at h; exact SeqAt.EqAt.int_str i t y u _ _ _ _ h
    · rcases keyIs_shape hv with ⟨j, u, rfl, rfl⟩ | ⟨y, u, rfl, rfl⟩
      · rw [key_rl] at h; exact SeqAt.EqAt.str_int x t j u _ _ _ _ h
      · rw [key_rr] at h; exact wpAny_eqBool_str h
  «strs» := fun k x t v h => by
    rcases keyIs_shape h with ⟨i, u, rfl, e⟩ | ⟨y, u, rfl, e⟩
    · exact nomatch e
    · injection e with e1 _
      subst e1
      cases v <;> rfl

theorem mixKind_int (prog : Program) (w : World) (i : Int) (t : Tok) : (mixKind prog w).is (.inl i) (.int i t) = true := keyIs_int i t
theorem mixKind_str (prog : Program) (w : World) (x : Str) (t : Tok) : (mixKind prog w).is (.inr x) (.str x t) = true := keyIs_str x t
end L2

namespace L2
open PySem PySem.Spec PyProof.Rows


inductive V where
  | non | bl (b : Bool) | int (i : Int) | str (x : Str) | byt (b : Array UInt8) | flt (b : UInt64) | ref (a : Addr) | ty (n : String)
  deriving DecidableEq

noncomputable def RelV : V → Value → Prop
  | .non, u => u = Value.none
  | .bl b, u => u = Value.bool b
  | .int i, u => ∃ t, u = Value.int i t
  | .str x, u => ∃ t, u = Value.str x t
  | .byt b, u => ∃ t, u = Value.bytes b t
  | .flt b, u => ∃ t, u = Value.float b t
  | .ref a, u => u = Value.ref a
  | .ty n, u => u = Value.type n

noncomputable abbrev Vals : List V → List Value → Prop := Paired RelV
theorem Vals.length {xs : List V} {us : List Value} (r : Vals xs us) : xs.length = us.length := Paired.length r
theorem Vals.get : ∀ {xs : List V} {us : List Value} {i : Nat} {x : V}, Vals xs us → xs[i]? = some x → ∃ u, us[i]? = some u ∧ RelV x u
  | _, _, _, _, .nil, e => by simp at e
  | _, _, 0, _, .cons r _, e => by simp at e; subst e; exact ⟨_, rfl, r⟩
  | _, _, i + 1, x, .cons _ t, e => by
    obtain ⟨u, h1, h2⟩ := Vals.get (i := i) (x := x) t (by simpa using e)
    exact ⟨u, by simpa using h1, h2⟩
theorem Vals.append : ∀ {xs ys : List V} {us ws : List Value}, Vals xs us → Vals ys ws → Vals (xs ++ ys) (us ++ ws)
  | _, _, _, _, .nil, s => s
  | _, _, _, _, .cons r t, s => .cons r (Vals.append t s)
theorem Vals.take : ∀ {xs : List V} {us : List Value} (n : Nat), Vals xs us → Vals (xs.take n) (us.take n)
  | _, _, 0, _ => .nil
  | _, _, _ + 1, .nil => .nil
  | _, _, n + 1, .cons r t => .cons r (Vals.take n t)
theorem Vals.drop : ∀ {xs : List V} {us : List Value} (n : Nat), Vals xs us → Vals (xs.drop n) (us.drop n)
  | _, _, 0, r => r
  | _, _, _ + 1, .nil => .nil
  | _, _, n + 1, .cons _ t => Vals.drop n t
noncomputable def RelO : Option V → Option Value → Prop
  | some v, some u => RelV v u
  | none, none => True
  | _, _ => False
noncomputable def KV {κ : Type} : List (κ × V) → List (κ × Value) → Prop := Paired fun (p : κ × V) (q : κ × Value) => p.1 = q.1 ∧ RelV p.2 q.2

noncomputable def kV : Key → V
  | .inl i => .int i
  | .inr x => .str x


inductive HO where
  /-- a list -/
  | lst (xs : List V)
  /-- a tuple (never changes) -/
  | tup (xs : List V)
  /-- a dict whose keys are ints and texts; one whose keys are tuples of ints and texts (the empty one is both) -/
  | dK (kvs : List (Key × V)) | dT (kvs : List (List Key × V))
  /-- a set of ints: its members, its size -/
  | set (S : Int → Bool) (n : Nat)
  /-- an instance of the class at C, its dict at dx, its attributes -/
  | ins (C dx : Addr) (fs : List (Str × V))
  /-- the dict of the instance at x -/
  | own (x : Addr)
  /-- the dict of an exception -/
  | xd (fs : List (Str × V))
  /-- a bound method, f of x -/
  | met (f x : Addr)
  /-- a range object lo, lo + 1, .. below hi -/
  | rng (lo hi : Int)
  /-- a thing that is known to the object (the script; a dict while a loop walks it): read, never written while it is so -/
  | frz (o : Obj) (u : HO)
  /-- a code object's table -/
  | tbl (ps : Array Value)
  /-- any other thing, by what is true of its one object (a def of one's own: SetO a S n := HO.ext fun h => ..) -/
  | ext (φ : Heap → Prop)

noncomputable abbrev Hp := Addr → Option HO
noncomputable def upd (H : Hp) (a : Addr) (o : HO) : Hp := fun b => if b = a then some o else H b
theorem upd_same {H : Hp} {a : Addr} {o : HO} : upd H a o a = some o := by unfold upd; rw [if_pos rfl]
theorem upd_ne {H : Hp} {a b : Addr} {o : HO} (h : b ≠ a) : upd H a o b = H b := by unfold upd; rw [if_neg h]
theorem ne_of {H : Hp} {a b : Addr} {o u : HO} (h : H a = some o) (h' : H b = some u) (d : o ≠ u) : a ≠ b := by
  intro e; subst e; rw [h] at h'; exact d (Option.some.inj h')
theorem ne_of_none {H : Hp} {a b : Addr} {o : HO} (h : H a = some o) (h' : H b = none) : a ≠ b := by
  intro e; subst e; rw [h] at h'; cases h'

section
variable (P : Program) (w : World)
noncomputable def ObjOk (H : Hp) (h : Heap) (a : Addr) : HO → Prop
  | .lst xs => xs.length ≤ sizeLine ∧ ∃ (its : List Value) (n : Nat), Vals xs its ∧ h.get? a = some { cls := .type "list", data := .seq its.toArray n }
  | .tup xs => xs.length ≤ sizeLine ∧ ∃ its : List Value, Vals xs its ∧ IsTup h a its.toArray
  | .dK kvs => kvs.length ≤ sizeLine ∧ (a == sysModules) = false ∧ ∃ vs, KV kvs vs ∧ h.DictOf (mixKind P w) a vs
  | .dT kvs => kvs.length ≤ sizeLine ∧ (a == sysModules) = false ∧ ∃ xs : List (List Key × Addr × Value),
      Paired (fun (p : List Key × V) (q : List Key × Addr × Value) => p.1 = q.1 ∧ H q.2.1 = some (.tup (p.1.map kV)) ∧ RelV p.2 q.2.2) kvs xs ∧
      ∃ o es ep, h.get? a = some o ∧ o.ExactDict ∧ o.data = .dict es ep ∧ es.toList = xs.map (entryOfKey (tupleKind (mixKind P w))) ∧ (xs.map (·.1)).Nodup
  | .set S n => h.SetOf (intKind P w) a S n
  | .ins C dx fs => H dx = some (.own a) ∧ fs.length ≤ 1000 ∧ dx ≠ a ∧ h.get? a = some (PySem.W.instObj C dx) ∧
      ∃ mA, h.Ns1 dx mA ∧ (∀ f, RelO (fs.lookup f) (mA f)) ∧ PySem.Within mA (fs.map (·.1))
  | .own _ => ∃ o, h.get? a = some o
  | .xd fs => ∃ mA, h.Ns1 a mA ∧ ∀ f, RelO (fs.lookup f) (mA f)
  | .rng lo hi => ∃ t u v, h.get? a = some { cls := .type "range", data := .fields #[.int lo t, .int hi u, .int 1 v] }
  | .frz o u => h.get? a = some o ∧ ObjOk H h a u
  | .tbl ps => h.get? a = some { cls := .none, data := .fields ps }
  | .met f x => h.get? a = some (PySem.W.methodObj (.ref f) (.ref x))
  | .ext φ => φ h ∧ (∃ o, h.get? a = some o) ∧ ∀ h1 h2 : Heap, φ h1 → (∀ o, h1.get? a = some o → h2.get? a = some o) → φ h2
noncomputable def HOk (H : Hp) (h : Heap) : Prop := ∀ a o, H a = some o → ObjOk P w H h a o
end

section
variable {P : Program} {w : World} {H H' : Hp} {h h' : Heap} {a : Addr} {o : HO}
theorem ObjOk.lt (x : ObjOk P w H h a o) : a < h.objs.size := by
  cases o with
  | lst xs => obtain ⟨_, _, _, _, e⟩ := x; exact Heap.lt_size e
  | tup xs => obtain ⟨_, _, _, p⟩ := x; exact p.lt
  | dK kvs => obtain ⟨_, _, _, _, o, _, _, e, _⟩ := x; exact Heap.lt_size e
  | dT kvs => obtain ⟨_, _, _, _, o, _, _, e, _⟩ := x; exact Heap.lt_size e
  | set S n => obtain ⟨o, _, _, _, e, _⟩ := x; exact Heap.lt_size e
  | ins C dx fs => obtain ⟨_, _, _, e, _⟩ := x; exact Heap.lt_size e
  | own y => obtain ⟨_, e⟩ := x; exact Heap.lt_size e
  | xd fs => obtain ⟨_, ⟨_, _, _, e, _⟩, _⟩ := x; exact Heap.lt_size e
  | rng lo hi => obtain ⟨_, _, _, e⟩ := x; exact Heap.lt_size e
  | frz ob u => obtain ⟨e, _⟩ := x; exact Heap.lt_size e
  | tbl ps => exact Heap.lt_size (show h.get? a = some _ from x)
  | met f y => exact Heap.lt_size (show h.get? a = some _ from x)
  | ext φ => obtain ⟨_, ⟨_, e⟩, _⟩ := x; exact Heap.lt_size e
theorem Paired.mapP {α β : Type} {F G : α → β → Prop} : ∀ {l₁ : List α} {l₂ : List β}, Paired F l₁ l₂ → (∀ a b, F a b → G a b) → Paired G l₁ l₂
  | _, _, .nil, _ => .nil
  | _, _, .cons r t, f => .cons (f _ _ r) (Paired.mapP t f)
theorem ObjOk.stay (x : ObjOk P w H h a o) (k : ∀ b u, (b = a ∨ H b = some (.own a)) → h.get? b = some u → h'.get? b = some u)
    (ho : ∀ b, H b = some (.own a) → H' b = some (.own a)) (ht : ∀ b xs, H b = some (.tup xs) → H' b = some (.tup xs)) : ObjOk P w H' h' a o := by
  induction o with
  | lst xs => obtain ⟨z, its, n, r, e⟩ := x; exact ⟨z, its, n, r, k _ _ (.inl rfl) e⟩
  | tup xs => obtain ⟨z, its, r, ob, e, c⟩ := x; exact ⟨z, its, r, ob, k _ _ (.inl rfl) e, c⟩
  | dK kvs => obtain ⟨z, y, vs, r, ob, es, ep, e, c⟩ := x; exact ⟨z, y, vs, r, ob, es, ep, k _ _ (.inl rfl) e, c⟩
  | dT kvs =>
    obtain ⟨z, y, xs, r, ob, es, ep, e, c⟩ := x
    exact ⟨z, y, xs, Paired.mapP r fun p q z => ⟨z.1, ht _ _ z.2.1, z.2.2⟩, ob, es, ep, k _ _ (.inl rfl) e, c⟩
  | set S n => obtain ⟨ob, es, ep, t, e, c⟩ := x; exact ⟨ob, es, ep, t, k _ _ (.inl rfl) e, c⟩
  | ins C dx fs =>
    obtain ⟨d, z, ne, e, mA, ⟨od, es, ep, e2, c⟩, r⟩ := x
    exact ⟨ho _ d, z, ne, k _ _ (.inl rfl) e, mA, ⟨od, es, ep, k _ _ (.inr d) e2, c⟩, r⟩
  | own y => obtain ⟨ob, e⟩ := x; exact ⟨ob, k _ _ (.inl rfl) e⟩
  | xd fs => obtain ⟨mA, ⟨od, es, ep, e, c⟩, r⟩ := x; exact ⟨mA, ⟨od, es, ep, k _ _ (.inl rfl) e, c⟩, r⟩
  | rng lo hi => obtain ⟨t, u, v, e⟩ := x; exact ⟨t, u, v, k _ _ (.inl rfl) e⟩
  | frz ob u ih => obtain ⟨e, q⟩ := x; exact ⟨k _ _ (.inl rfl) e, ih q⟩
  | tbl ps =>
    have e : h.get? a = some { cls := .none, data := .fields ps } := x
    show h'.get? a = some { cls := .none, data := .fields ps }
    exact k a _ (.inl rfl) e
  | met f y =>
    have e : h.get? a = some (PySem.W.methodObj (.ref f) (.ref y)) := x
    show h'.get? a = some (PySem.W.methodObj (.ref f) (.ref y))
    exact k a _ (.inl rfl) e
  | ext φ => obtain ⟨p, ⟨o, e⟩, st⟩ := x; exact ⟨st _ _ p fun o q => k _ _ (.inl rfl) q, ⟨o, k _ _ (.inl rfl) e⟩, st⟩
theorem HOk.lt (x : HOk P w H h) (e : H a = some o) : a < h.objs.size := (x a o e).lt
theorem HOk.fresh (x : HOk P w H h) (e : h.objs.size ≤ a) : H a = none := by
  cases q : H a with
  | none => rfl
  | some u => exact absurd (Nat.lt_of_lt_of_le (x.lt q) e) (Nat.lt_irrefl _)
theorem HOk.kept (x : HOk P w H h) (k : ∀ b u, h.get? b = some u → h'.get? b = some u) : HOk P w H h' := fun a o e =>
  (x a o e).stay (fun b u _ q => k b u q) (fun _ q => q) fun _ _ q => q
theorem HOk.laid (x : HOk P w H h) (k : ∀ b u, h.get? b = some u → h'.get? b = some u) (hp : h.objs.size ≤ a) (new : ObjOk P w (upd H a o) h' a o) : HOk P w (upd H a o) h' := fun b u e => by
  have hn := x.fresh hp
  by_cases hb : b = a
  · subst hb; rw [upd_same] at e; cases e; exact new
  · rw [upd_ne hb] at e
    exact (x b u e).stay (fun c v _ q => k c v q) (fun c q => by rw [upd_ne (ne_of_none q hn)]; exact q) fun c xs q => by rw [upd_ne (ne_of_none q hn)]; exact q
end

noncomputable def Rd (H : Hp) (a : Addr) (u : HO) : Prop := H a = some u ∨ ∃ o, H a = some (.frz o u)
theorem Rd.of {H : Hp} {a : Addr} {u : HO} (h : H a = some u) : Rd H a u := .inl h
theorem Rd.ok {P : Program} {w : World} {H : Hp} {h : Heap} {a : Addr} {u : HO} (r : Rd H a u) (x : HOk P w H h) : ObjOk P w H h a u := by
  rcases r with r | ⟨o, r⟩
  · exact x a u r
  · obtain ⟨_, q⟩ := x a _ r
    exact q
noncomputable def Mut : Option HO → Prop
  | some (.lst _) => True
  | some (.dK _) => True
  | some (.dT _) => True
  | some (.set _ _) => True
  | some (.ins _ _ _) => True
  | some (.ext _) => True
  | _ => False
section
variable {P : Program} {w : World} {H : Hp} {h h' : Heap} {x e : Addr} {o' : HO}
theorem HOk.write (ok : HOk P w H h) (mu : Mut (H x)) (he : e = x ∨ H e = some (.own x)) (k : ∀ b u, b ≠ e → h.get? b = some u → h'.get? b = some u) (heo : ∃ u, h'.get? e = some u)
    (new : ObjOk P w (upd H x o') h' x o') : HOk P w (upd H x o') h' := fun b u q => by
  have nown : ∀ c y, H c = some (.own y) → c ≠ x := fun c y r z => by subst z; rw [r] at mu; exact mu
  have ntup : ∀ c xs, H c = some (.tup xs) → c ≠ x := fun c xs r z => by subst z; rw [r] at mu; exact mu
  by_cases hb : b = x
  · subst hb; rw [upd_same] at q; cases q; exact new
  · rw [upd_ne hb] at q
    by_cases hbe : b = e
    · have q' : H b = some (.own x) := by
        rcases he with z | z
        · exact absurd (hbe.trans z) hb
        · rw [hbe]; exact z
      rw [q] at q'; cases q'
      obtain ⟨v, hv⟩ := heo
      exact ⟨v, by rw [hbe]; exact hv⟩
    · refine (ok b u q).stay (fun c v hc r => k c v ?_ r) (fun c r => by rw [upd_ne (nown c b r)]; exact r) fun c xs r => by rw [upd_ne (ntup c xs r)]; exact r
      rcases hc with rfl | hc
      · exact hbe
      · rintro rfl
        rcases he with z | z
        · exact nown c b hc z
        · rw [hc] at z; cases z; exact hb rfl
end


structure Un (fs ex : List Addr) (H H' : Hp) (h h' : Heap) : Prop where
  keep : ∀ b o, h.get? b = some o → H b = none → b ∉ fs → b ∉ ex → h'.get? b = some o
  slot : ∀ b o, h.get? b = some o → H b = none → b ∈ fs → b ∉ ex → ∃ sl, h'.get? b = some { o with slots := sl }
  free : ∀ b o, h.get? b = some o → H b = none → b ∉ ex → H' b = none
  there : ∀ b o, h.get? b = some o → b ∉ ex → ∃ o', h'.get? b = some o'
  tups : ∀ b xs, H b = some (.tup xs) → H' b = some (.tup xs)
  frzs : ∀ b o u, H b = some (.frz o u) → H' b = some (.frz o u)
  tbls : ∀ b ps, H b = some (.tbl ps) → ∃ more, H' b = some (.tbl (ps ++ more))
section
variable {fs fs' ex ex' : List Addr} {H H1 H2 : Hp} {h h1 h2 h' : Heap} {a x e : Addr} {o : HO}
theorem Un.any (u : Un fs ex H H1 h h1) {b : Addr} {ob : Obj} (q : h.get? b = some ob) (n : H b = none) (hx : b ∉ ex) : ∃ sl, h1.get? b = some { ob with slots := sl } := by
  by_cases hb : b ∈ fs
  · exact u.slot b ob q n hb hx
  · exact ⟨ob.slots, u.keep b ob q n hb hx⟩
theorem Un.kept (k : ∀ b u, h.get? b = some u → h'.get? b = some u) : Un fs ex H H h h' :=
  ⟨fun b ob q _ _ _ => k b ob q, fun b ob q _ _ _ => ⟨ob.slots, k b ob q⟩, fun _ _ _ n _ => n, fun b ob q _ => ⟨ob, k b ob q⟩, fun _ _ q => q, fun _ _ _ q => q, fun _ ps q => ⟨#[], by rw [q]; simp⟩⟩
theorem Un.refl : Un fs ex H H h h := Un.kept fun _ _ q => q
theorem Un.laid (k : ∀ b u, h.get? b = some u → h'.get? b = some u) (hp : h.objs.size ≤ a) (hn : H a = none) : Un fs ex H (upd H a o) h h' where
  keep := fun b u q _ _ _ => k b u q
  slot := fun b u q _ _ _ => ⟨u.slots, k b u q⟩
  free := fun b u q n _ => by rw [upd_ne (Nat.ne_of_lt (Nat.lt_of_lt_of_le (Heap.lt_size q) hp))]; exact n
  there := fun b u q _ => ⟨u, k b u q⟩
  tups := fun b xs q => by rw [upd_ne (ne_of_none q hn)]; exact q
  frzs := fun b u xs q => by rw [upd_ne (ne_of_none q hn)]; exact q
  tbls := fun b ps q => ⟨#[], by rw [upd_ne (ne_of_none q hn), q]; simp⟩
theorem Un.write (mu : Mut (H x)) (he : e = x ∨ H e = some (.own x)) (k : ∀ b u, b ≠ e → h.get? b = some u → h'.get? b = some u) (heo : ∃ u, h'.get? e = some u) : Un fs ex H (upd H x o) h h' := by
  have hx : ∀ b, H b = none → b ≠ x := fun b n z => by subst z; rw [n] at mu; exact mu
  have hb : ∀ b, H b = none → b ≠ e := fun b n z => by
    subst z
    rcases he with r | r
    · exact hx b n r
    · rw [n] at r; cases r
  have hm : ∀ b u, H b = some u → ¬ Mut (some u) → b ≠ x := fun b u q nm z => by subst z; rw [q] at mu; exact nm mu
  refine ⟨fun b u q n _ _ => k b u (hb b n) q, fun b u q n _ _ => ⟨u.slots, k b u (hb b n) q⟩, fun b u q n _ => by rw [upd_ne (hx b n)]; exact n, fun b u q _ => ?_,
    fun b xs q => by rw [upd_ne (hm b _ q fun z => z)]; exact q, fun b u xs q => by rw [upd_ne (hm b _ q fun z => z)]; exact q, fun b ps q => ⟨#[], by rw [upd_ne (hm b _ q fun z => z), q]; simp⟩⟩
  by_cases hbe : b = e
  · subst hbe; exact heo
  · exact ⟨u, k b u hbe q⟩
end


noncomputable def trk (h : Heap) (H : Hp) : List Addr := (List.range h.objs.size).filter fun a => (H a).isSome
noncomputable def hidT (h : Heap) (H : Hp) : Heap := PySem.W.hideAll h (trk h H)
theorem hidT_size (h : Heap) (H : Hp) : (hidT h H).objs.size = h.objs.size := PySem.W.hideAll_size _ _
theorem hidT_get {h : Heap} {H : Hp} {b : Addr} {o : Obj} (e : h.get? b = some o) (n : H b = none) : (hidT h H).get? b = some o :=
  PySem.W.hideAll_get _ e fun hm => by
    have q : (H b).isSome = true := (List.mem_filter.mp hm).2
    rw [n] at q; simp at q
theorem of_hidT {h : Heap} {H : Hp} {b : Addr} {o : Obj} (e : (hidT h H).get? b = some o) : h.get? b = some o ∧ H b = none := by
  have e' : h.get? b = some o := PySem.W.of_hideAll (trk h H) e
  refine ⟨e', ?_⟩
  cases q : H b with
  | none => rfl
  | some x =>
    have hm : b ∈ trk h H := List.mem_filter.mpr ⟨List.mem_range.mpr (Heap.lt_size e'), by simp [q]⟩
    have z : (hidT h H).get? b = none := PySem.W.hideAll_none (trk h H) hm
    rw [z] at e; cases e


noncomputable def allNews (g h : Heap) (L : Addr) : List (Addr × Obj) := (List.range h.objs.size).filterMap fun a => if a = L ∨ (g.get? a).isSome = true then none else (h.get? a).map fun o => (a, o)
noncomputable def rest (g h : Heap) (L d : Addr) : List (Addr × Obj) := (allNews g h L).filter fun p => decide (p.1 ≠ d)
end L2

namespace L2
open PySem PySem.Spec PyProof.Rows


structure Mod (K : PySem.W.Frag) (mg : Str → Option Value) (base : Heap) : Prop where
  kin : K.In base
  glob : base.Ns mainGlobals mg
  blt : ∃ mb, base.Ns builtinsNs mb ∧ ∀ x : Str, x ≠ "__name__" → mb x = bootBuiltins x
  nolimit : base.NoLimit


structure Cx where
  prog : Program
  w : World
  K : PySem.W.Frag
  mg : Str → Option Value
  base : Heap
  A : Around
  N : List Str
  s₀ : Shared
  H₀ : Hp
  env : Env
  outer : List Env
  stack : List Env
  ex : List Addr
  fn : Str → Bool
  calm : Bool
  pn : List (Addr × Obj)
  xe : Value → Shared → Prop
noncomputable def frs (l : List Env) : List Addr := l.filterMap (·.frame)
noncomputable abbrev Cx.fs (X : Cx) : List Addr := frs X.outer

noncomputable def Vis (sc : Scope) (x : Str) : Prop := sc.names.lookup x = some .local ∨ sc.names.lookup x = some .cell ∨ sc.names.lookup x = some .free
noncomputable def Loc (sc : Scope) (x : Str) : Prop := sc.names.lookup x = some .local ∨ sc.names.lookup x = some .cell
noncomputable def Look (env : Env) (h : Heap) (m : Str → Option Value) (x : Str) (u : Value) : Prop :=
  (env.kindOf x = some .local ∧ m x = some u) ∨ ((env.kindOf x = some .cell ∨ env.kindOf x = some .free) ∧ ∃ c, env.cells.lookup x = some c ∧ h.IsCell c (some u))

structure Cx.Ok (X : Cx) : Prop where
  mod : Mod X.K X.mg X.base
  kind : X.env.scope.kind = .function
  glob : X.env.globals = mainGlobals
  blt : X.env.builtins = builtinsNs
  above : X.s₀.heap.objs.size ≤ X.env.locals
  inj : ∀ x y c, X.env.cells.lookup x = some c → X.env.cells.lookup y = some c → x = y
  has : ∀ x, (X.env.kindOf x = some .cell ∨ X.env.kindOf x = some .free) → ∃ c, X.env.cells.lookup x = some c
  cab : ∀ x c, X.fn x = true → X.env.cells.lookup x = some c → X.s₀.heap.objs.size ≤ c
  hd : X.calm = true → X.A.handled = none
  frames : X.A.frames = some X.stack
  stk : X.stack = X.outer ∨ (X.stack = X.env :: X.outer ∧ X.env.frame = some X.env.locals)
  exf : ∀ b ∈ X.ex, b ≠ X.env.locals ∧ ∀ x c, X.env.cells.lookup x = some c → c ≠ b
  bs : ∀ b o, X.base.get? b = some o → X.s₀.heap.get? b = some o ∧ X.H₀ b = none
  bsz : X.base.objs.size ≤ X.s₀.heap.objs.size
  noex : ∀ b o, X.base.get? b = some o → b ∉ X.ex
  exfs : ∀ b ∈ X.ex, b ∉ X.fs
  funs : X.s₀.heap.FunFrames X.base X.outer
  frf : ∀ b ∈ X.fs, X.H₀ b = none

structure Inv (X : Cx) (pins : List (Addr × Obj)) (σ : List (Option V)) (H : Hp) (s : Shared) : Prop where
  ok : X.Ok
  os : s.os = X.s₀.os
  bare : AllBare s.gens
  base : Un X.fs X.ex X.H₀ H X.s₀.heap s.heap
  loc : ∃ m, s.heap.Ns X.env.locals m ∧ ∀ (i : Nat) (x : Str) (v : V), X.N[i]? = some x → σ[i]? = some (some v) → Vis X.env.scope x → ∃ u, RelV v u ∧ Look X.env s.heap m x u
  cell : ∀ x c, X.env.cells.lookup x = some c → ∃ v, s.heap.IsCell c v
  free : H X.env.locals = none
  freeC : ∀ x c, X.env.cells.lookup x = some c → H c = none
  pin : ∀ p ∈ X.pn ++ pins, s.heap.get? p.1 = some p.2 ∧ H p.1 = none ∧ p.1 ≠ X.env.locals ∧ p.1 ∉ X.fs ∧ ∀ v, p.2.data ≠ .cell v
  hok : HOk X.prog X.w H s.heap
  len : σ.length = X.N.length

section
variable {X : Cx} {pins : List (Addr × Obj)} {σ : List (Option V)} {H H' : Hp} {s : Shared} {h' : Heap}

theorem Cx.Ok.nofr (ok : X.Ok) {b : Addr} {o : Obj} (e : X.base.get? b = some o) : b ∉ X.fs := fun hb => by
  have := (ok.funs.mem hb).1
  rw [e] at this; cases this
theorem Inv.bs (I : Inv X pins σ H s) : ∀ b o, X.base.get? b = some o → s.heap.get? b = some o ∧ H b = none := fun b o e =>
  ⟨I.base.keep b o (I.ok.bs b o e).1 (I.ok.bs b o e).2 (I.ok.nofr e) (I.ok.noex b o e), I.base.free b o (I.ok.bs b o e).1 (I.ok.bs b o e).2 (I.ok.noex b o e)⟩
theorem Inv.bk (I : Inv X pins σ H s) : ∀ b o, X.base.get? b = some o → s.heap.get? b = some o := fun b o e => (I.bs b o e).1
theorem Inv.mod (I : Inv X pins σ H s) : Mod X.K X.mg X.base := I.ok.mod
theorem Inv.kIn (I : Inv X pins σ H s) : X.K.In s.heap := I.ok.mod.kin.keeps I.bk
theorem Inv.nolimit (I : Inv X pins σ H s) : s.heap.NoLimit := I.ok.mod.nolimit.keeps I.bk
theorem Inv.lt (I : Inv X pins σ H s) : X.env.locals < s.heap.objs.size := let ⟨_, hn, _⟩ := I.loc; hn.lt
theorem Inv.sz (I : Inv X pins σ H s) : X.s₀.heap.objs.size ≤ s.heap.objs.size := Nat.le_trans I.ok.above (Nat.le_of_lt I.lt)
theorem Inv.nofs (I : Inv X pins σ H s) {a : Addr} (h : s.heap.objs.size ≤ a) : a ∉ X.fs := fun hb => by
  obtain ⟨_, o, ho, _⟩ := I.ok.funs.mem hb
  exact absurd (Nat.lt_of_lt_of_le (Heap.lt_size ho) (Nat.le_trans I.sz h)) (Nat.lt_irrefl _)
theorem Inv.cne (I : Inv X pins σ H s) : ∀ x c, X.env.cells.lookup x = some c → c ≠ X.env.locals := fun x c e z => by
  obtain ⟨v, o, ho, hd⟩ := I.cell x c e
  obtain ⟨m, ⟨o', es, ep, ho', hd', _⟩, _⟩ := I.loc
  rw [z, ho'] at ho; cases ho; rw [hd'] at hd; cases hd
theorem Inv.funs (I : Inv X pins σ H s) : s.heap.FunFrames X.base X.outer := by
  have all : ∀ (l : List Env), (∀ b ∈ frs l, b ∈ X.fs) → X.s₀.heap.FunFrames X.base l → s.heap.FunFrames X.base l := by
    intro l
    induction l with
    | nil => intro _ _; trivial
    | cons env r ih =>
      intro hs hl
      obtain ⟨hk, ⟨L, o, hf, hn, ho, hd⟩, hr⟩ := hl
      have hL : L ∈ X.fs := hs L (by unfold frs; rw [List.filterMap_cons, hf]; exact List.mem_cons_self)
      obtain ⟨sl, e⟩ := I.base.slot L o ho (I.ok.frf L hL) hL fun z => I.ok.exfs L z hL
      exact ⟨hk, ⟨L, _, hf, hn, e, hd⟩, ih (fun b hb => hs b (by unfold frs; rw [List.filterMap_cons, hf]; exact List.mem_cons_of_mem _ hb)) hr⟩
  exact all X.outer (fun _ hb => hb) I.ok.funs

theorem Inv.stack (I : Inv X pins σ H s) : s.heap.FunFrames X.base X.stack := by
  rcases I.ok.stk with e | ⟨e, hf⟩
  · rw [e]; exact I.funs
  · rw [e]
    obtain ⟨m, hn, _⟩ := I.loc
    refine .cons (by rw [I.ok.kind]; decide) hf hn ?_ I.funs
    exact Heap.get?_none_of_le (Nat.le_trans I.ok.bsz I.ok.above)
theorem Inv.stkSub (I : Inv X pins σ H s) : ∀ b ∈ frs X.stack, b ∈ X.env.locals :: X.fs := fun b hb => by
  rcases I.ok.stk with e | ⟨e, hf⟩
  · rw [e] at hb; exact List.mem_cons_of_mem _ hb
  · rw [e] at hb
    unfold frs at hb
    rw [List.filterMap_cons, hf] at hb
    exact hb
theorem Inv.stkFree (I : Inv X pins σ H s) : ∀ b ∈ frs X.stack, H b = none := fun b hb => by
  rcases List.mem_cons.mp (I.stkSub b hb) with e | hb
  · rw [e]; exact I.free
  · obtain ⟨_, o, ho, _⟩ := I.ok.funs.mem hb
    exact I.base.free b o ho (I.ok.frf b hb) fun z => I.ok.exfs b z hb

theorem Inv.step {g' : Array GenState} {t' : Nat} {d' : Drawn} {ch : List Addr} (I : Inv X pins σ H s)
    (hch : ∀ b ∈ ch, (b ∈ X.ex ∨ X.s₀.heap.objs.size ≤ b) ∧ b ≠ X.env.locals ∧ (∀ x c, X.env.cells.lookup x = some c → c ≠ b) ∧ ∀ p ∈ X.pn ++ pins, p.1 ≠ b)
    (keep : ∀ b o, b ≠ X.env.locals → b ∉ X.fs → b ∉ ch → s.heap.get? b = some o → H b = none → h'.get? b = some o)
    (slot : ∀ b o, b ≠ X.env.locals → b ∈ X.fs → b ∉ ch → s.heap.get? b = some o → H b = none → ∃ sl, h'.get? b = some { o with slots := sl }) (free : ∀ b o, b ∉ ch → s.heap.get? b = some o → H b = none → H' b = none)
    (there : ∀ b o, b ∉ ch → s.heap.get? b = some o → ∃ o', h'.get? b = some o')
    (tups : ∀ b xs, H b = some (.tup xs) → H' b = some (.tup xs)) (frzs : ∀ b o u, H b = some (.frz o u) → H' b = some (.frz o u)) (tbls : ∀ b ps, H b = some (.tbl ps) → ∃ more, H' b = some (.tbl (ps ++ more)))
    (ns : ∀ m, s.heap.Ns X.env.locals m → h'.Ns X.env.locals m) (hok : HOk X.prog X.w H' h') (hg : AllBare g') :
    Inv X pins σ H' { s with heap := h', gens := g', drawn := d', toks := t' } := by
  have neL : ∀ b o, X.s₀.heap.get? b = some o → b ≠ X.env.locals := fun b o e => Nat.ne_of_lt (Nat.lt_of_lt_of_le (Heap.lt_size e) I.ok.above)
  have neC : ∀ b o, X.s₀.heap.get? b = some o → b ∉ X.ex → b ∉ ch := fun b o e hx hb => by
    rcases (hch b hb).1 with z | z
    · exact hx z
    · exact absurd (Nat.lt_of_lt_of_le (Heap.lt_size e) z) (Nat.lt_irrefl _)
  have cellK : ∀ x c, X.env.cells.lookup x = some c → ∀ v, s.heap.IsCell c v → h'.IsCell c v := fun x c e v ⟨o, ho, hd⟩ => by
    have nch : c ∉ ch := fun z => (hch c z).2.2.1 x c e rfl
    by_cases hc : c ∈ X.fs
    · obtain ⟨sl, q⟩ := slot c o (I.cne x c e) hc nch ho (I.freeC x c e)
      exact ⟨_, q, hd⟩
    · exact ⟨o, keep c o (I.cne x c e) hc nch ho (I.freeC x c e), hd⟩
  refine ⟨I.ok, I.os, hg, ⟨fun b o e n hb hx => ?_, fun b o e n hb hx => ?_, fun b o e n hx => ?_, fun b o e hx => ?_, fun b xs e => tups b xs (I.base.tups b xs e), fun b o xs e => frzs b o xs (I.base.frzs b o xs e), fun b ps e => ?_⟩, ?_, fun x c e => ?_, ?_, fun x c e => ?_, fun p hp => ?_, hok, I.len⟩
  · exact keep b o (neL b o e) hb (neC b o e hx) (I.base.keep b o e n hb hx) (I.base.free b o e n hx)
  · obtain ⟨sl, e1⟩ := I.base.slot b o e n hb hx
    obtain ⟨sl', e2⟩ := slot b _ (neL b o e) hb (neC b o e hx) e1 (I.base.free b o e n hx)
    exact ⟨sl', e2⟩
  · obtain ⟨o', e1⟩ := I.base.there b o e hx
    exact free b o' (neC b o e hx) e1 (I.base.free b o e n hx)
  · obtain ⟨o', e1⟩ := I.base.there b o e hx
    exact there b o' (neC b o e hx) e1
  · obtain ⟨m1, e1⟩ := I.base.tbls b ps e
    obtain ⟨m2, e2⟩ := tbls b _ e1
    exact ⟨m1 ++ m2, by rw [e2, Array.append_assoc]⟩
  · obtain ⟨m, hn, hl⟩ := I.loc
    refine ⟨m, ns m hn, fun i x v e1 e2 e3 => ?_⟩
    obtain ⟨u, r, l⟩ := hl i x v e1 e2 e3
    refine ⟨u, r, ?_⟩
    rcases l with l | ⟨k, c, e, z⟩
    · exact .inl l
    · exact .inr ⟨k, c, e, cellK x c e _ z⟩
  · obtain ⟨v, z⟩ := I.cell x c e
    exact ⟨v, cellK x c e v z⟩
  · obtain ⟨m, ⟨o, _, _, ho, _⟩, _⟩ := I.loc
    exact free _ o (fun z => (hch _ z).2.1 rfl) ho I.free
  · obtain ⟨v, o, ho, hd⟩ := I.cell x c e
    exact free c o (fun z => (hch c z).2.2.1 x c e rfl) ho (I.freeC x c e)
  · obtain ⟨e, n, ne, nf, d⟩ := I.pin p hp
    have nch : p.1 ∉ ch := fun z => (hch p.1 z).2.2.2 p hp rfl
    exact ⟨keep p.1 p.2 ne nf nch e n, free p.1 p.2 nch e n, ne, nf, d⟩
theorem Inv.un {t' : Nat} (I : Inv X pins σ H s) (u : Un X.fs [] H H' s.heap h') (hok : HOk X.prog X.w H' h') : Inv X pins σ H' { s with heap := h', toks := t' } := by
  obtain ⟨m, ⟨o, es, ep, ho, r⟩, _⟩ := id I.loc
  obtain ⟨sl, hL⟩ := u.any ho I.free (by simp)
  exact I.step (g' := s.gens) (d' := s.drawn) (ch := []) (fun _ z => nomatch z) (fun b o _ hb _ e n => u.keep b o e n hb (by simp)) (fun b o _ hb _ e n => u.slot b o e n hb (by simp)) (fun b o _ e n => u.free b o e n (by simp)) (fun b o _ e => u.there b o e (by simp)) u.tups u.frzs u.tbls (fun m' hm => by
    obtain ⟨o', es', ep', ho', r'⟩ := hm
    rw [ho] at ho'; cases ho'
    exact ⟨_, es', ep', hL, r'⟩) hok I.bare
theorem Inv.call {g' : Array GenState} {t' : Nat} {d' : Drawn} {ch : List Addr} (I : Inv X pins σ H s) (u : Un (frs X.stack) ch H H' s.heap h') (hok : HOk X.prog X.w H' h') (hg : AllBare g')
    (hch : ∀ b ∈ ch, (b ∈ X.ex ∨ X.s₀.heap.objs.size ≤ b) ∧ b ≠ X.env.locals ∧ (∀ x c, X.env.cells.lookup x = some c → c ≠ b) ∧ ∀ p ∈ X.pn ++ pins, p.1 ≠ b) :
    Inv X pins σ H' { s with heap := h', gens := g', drawn := d', toks := t' } := by
  obtain ⟨m, ⟨o, es, ep, ho, r⟩, _⟩ := id I.loc
  obtain ⟨sl, hL⟩ := u.any ho I.free fun z => (hch _ z).2.1 rfl
  exact I.step (ch := ch) hch (fun b o hL hb hc e n => u.keep b o e n (fun z => (List.mem_cons.mp (I.stkSub b z)).elim hL hb) hc) (fun b o _ _ hc e n => u.any e n hc) (fun b o hc e n => u.free b o e n hc) (fun b o hc e => u.there b o e hc) u.tups u.frzs u.tbls (fun m' hm => by
    obtain ⟨o', es', ep', ho', r'⟩ := hm
    rw [ho] at ho'; cases ho'
    exact ⟨_, es', ep', hL, r'⟩) hok hg
theorem Inv.turned {t' : Nat} {it : Addr} (I : Inv X pins σ H s) (k : ∀ b o, b ≠ it → s.heap.get? b = some o → h'.get? b = some o) (hn : H it = none) (hL : it ≠ X.env.locals)
    (h1 : it ∈ X.ex ∨ X.s₀.heap.objs.size ≤ it) (h2 : ∀ x c, X.env.cells.lookup x = some c → c ≠ it) (h3 : ∀ p ∈ X.pn ++ pins, p.1 ≠ it) : Inv X pins σ H { s with heap := h', toks := t' } := by
  have nit : ∀ b u, H b = some u → b ≠ it := fun b u e z => by rw [z, hn] at e; cases e
  refine I.step (g' := s.gens) (d' := s.drawn) (ch := [it]) (fun b hb => ?_) (fun b o _ _ hc e _ => k b o (fun z => hc (by simp [z])) e) (fun b o _ _ hc e _ => ⟨o.slots, k b o (fun z => hc (by simp [z])) e⟩) (fun _ _ _ _ n => n)
    (fun b o hc e => ⟨o, k b o (fun z => hc (by simp [z])) e⟩) (fun _ _ e => e) (fun _ _ _ e => e) (fun b ps e => ⟨#[], by rw [e]; simp⟩) (fun m hm => ?_) (fun b u e => ?_) I.bare
  · have e : b = it := by simpa using hb
    subst e
    exact ⟨h1, hL, h2, h3⟩
  · obtain ⟨o, es, ep, ho, r⟩ := hm
    exact ⟨o, es, ep, k _ o (Ne.symm hL) ho, r⟩
  · refine (I.hok b u e).stay (fun c v hc q => k c v ?_ q) (fun _ q => q) fun _ _ q => q
    rcases hc with z | z
    · rw [z]; exact nit b u e
    · exact nit c _ z
theorem Inv.tok (I : Inv X pins σ H s) (t : Nat) : Inv X pins σ H { s with toks := t } := I.un (h' := s.heap) (t' := t) Un.refl I.hok
theorem Inv.kept {t' : Nat} (I : Inv X pins σ H s) (k : ∀ b u, s.heap.get? b = some u → h'.get? b = some u) : Inv X pins σ H { s with heap := h', toks := t' } := I.un (Un.kept k) (I.hok.kept k)
theorem Inv.laid {a : Addr} {o : HO} {t' : Nat} (I : Inv X pins σ H s) (k : ∀ b u, s.heap.get? b = some u → h'.get? b = some u) (hp : s.heap.objs.size ≤ a) (new : ObjOk X.prog X.w (upd H a o) h' a o) :
    Inv X pins σ (upd H a o) { s with heap := h', toks := t' } := I.un (Un.laid k hp (I.hok.fresh hp)) (I.hok.laid k hp new)
theorem Inv.write {x e : Addr} {o : HO} {t' : Nat} (I : Inv X pins σ H s) (mu : Mut (H x)) (he : e = x ∨ H e = some (.own x)) (k : ∀ b u, b ≠ e → s.heap.get? b = some u → h'.get? b = some u) (heo : ∃ u, h'.get? e = some u)
    (new : ObjOk X.prog X.w (upd H x o) h' x o) : Inv X pins σ (upd H x o) { s with heap := h', toks := t' } := I.un (Un.write mu he k heo) (I.hok.write mu he k heo new)
theorem Inv.pins_of {pins' : List (Addr × Obj)} (I : Inv X pins σ H s) (h : ∀ p ∈ pins', s.heap.get? p.1 = some p.2 ∧ H p.1 = none ∧ p.1 ≠ X.env.locals ∧ p.1 ∉ X.fs ∧ ∀ v, p.2.data ≠ .cell v) : Inv X pins' σ H s :=
  ⟨I.ok, I.os, I.bare, I.base, I.loc, I.cell, I.free, I.freeC, fun p hp => (List.mem_append.mp hp).elim (fun z => I.pin p (List.mem_append_left _ z)) (h p), I.hok, I.len⟩

theorem nodup_ix {N : List Str} (hN : N.Nodup) {i j : Nat} {x : Str} (a : N[i]? = some x) (b : N[j]? = some x) : i = j := by
  obtain ⟨h1, e1⟩ := List.getElem?_eq_some_iff.mp a
  obtain ⟨h2, e2⟩ := List.getElem?_eq_some_iff.mp b
  exact (List.getElem_inj hN).mp (e1.trans e2.symm)

theorem store_ok2 {M : Model} {A : Around} {E : Value → Shared → Prop} {i : Nat} {x : Str} {v : V} {u : Value} {Q : Unit → Shared → Prop} (I : Inv X pins σ H s) (hN : X.N.Nodup) (hi : X.N[i]? = some x) (hx : Loc X.env.scope x) (r : RelV v u)
    (h : ∀ s', Inv X pins (σ.set i (some v)) H s' → (∃ a, Heap.SameBut a s.heap s'.heap ∧ (a = X.env.locals ∨ X.env.cells.lookup x = some a)) → Q () s') (hf : X.fn x = true ∨ X.env.scope.names.lookup x = some .local := by first | exact .inl rfl | exact .inr rfl | assumption) : wpAny M A (storeName X.env x u) Q E s := by
  obtain ⟨m, hn, hl⟩ := id I.loc
  have hcls : (X.env.scope.kind == .class || (X.env.scope.kind == .module && X.env.locals != X.env.globals)) = false := by rw [I.ok.kind]; rfl
  have hiσ : i < σ.length := by rw [I.len]; exact (List.getElem?_eq_some_iff.mp hi).1
  have cne := I.cne
  have tracked : ∀ {a : Addr} {h' : Heap}, (∃ o, s.heap.get? a = some o ∧ H a = none) → Heap.SameBut a s.heap h' → HOk X.prog X.w H h' := fun {a h'} ha hs b ob e => by
    obtain ⟨_, _, hfree⟩ := ha
    refine (I.hok b ob e).stay (fun c w' hc q => (hs.2 c ?_).trans q) (fun _ q => q) fun _ _ q => q
    rintro rfl
    rcases hc with rfl | hc
    · rw [hfree] at e; cases e
    · rw [hfree] at hc; cases hc
  rcases hx with hk | hk
  · refine wpAny_storeName_local hk hn (fun h' hn' hs => ?_) hcls
    obtain ⟨oL, _, _, hoL, _⟩ := id hn
    refine h _ ⟨I.ok, I.os, I.bare, ⟨fun b o e n hb hx => ?_, fun b o e n hb hx => ?_, I.base.free, fun b o e hx => ?_, I.base.tups, I.base.frzs, I.base.tbls⟩, ⟨_, hn', fun j y v' e1 e2 e3 => ?_⟩, fun y c e => ?_, I.free, I.freeC, fun p hp => ?_, tracked ⟨oL, hoL, I.free⟩ hs, by simpa using I.len⟩ ⟨_, hs, .inl rfl⟩
    · exact (hs.2 b (Nat.ne_of_lt (Nat.lt_of_lt_of_le (Heap.lt_size e) I.ok.above))).trans (I.base.keep b o e n hb hx)
    · obtain ⟨sl, e1⟩ := I.base.slot b o e n hb hx
      exact ⟨sl, (hs.2 b (Nat.ne_of_lt (Nat.lt_of_lt_of_le (Heap.lt_size e) I.ok.above))).trans e1⟩
    · obtain ⟨o', e1⟩ := I.base.there b o e hx
      exact ⟨o', (hs.2 b (Nat.ne_of_lt (Nat.lt_of_lt_of_le (Heap.lt_size e) I.ok.above))).trans e1⟩
    · by_cases hj : j = i
      · subst hj
        rw [hi] at e1; cases e1
        rw [List.getElem?_set_self hiσ] at e2
        cases e2
        exact ⟨u, r, .inl ⟨hk, by simp⟩⟩
      · rw [List.getElem?_set_ne (Ne.symm hj)] at e2
        obtain ⟨u', r', q⟩ := hl j y v' e1 e2 e3
        refine ⟨u', r', ?_⟩
        rcases q with ⟨k, e⟩ | ⟨k, c, e, z⟩
        · refine .inl ⟨k, ?_⟩
          have : y ≠ x := fun e => hj (nodup_ix hN e1 (e ▸ hi))
          simp [this, e]
        · exact .inr ⟨k, c, e, z.sameBut hs (cne y c e)⟩
    · obtain ⟨w', z⟩ := I.cell y c e
      exact ⟨w', z.sameBut hs (cne y c e)⟩
    · obtain ⟨e, n, ne, nf, d⟩ := I.pin p hp
      exact ⟨(hs.2 p.1 ne).trans e, n, ne, nf, d⟩
  · have hfn : X.fn x = true := by
      rcases hf with z | z
      · exact z
      · rw [z] at hk; cases hk
    obtain ⟨c, hc⟩ := I.ok.has x (.inl hk)
    obtain ⟨w', z⟩ := I.cell x c hc
    refine wpAny_storeName_cell I.ok.kind hk hc z (fun h' hc' hs => ?_)
    obtain ⟨oc, hoc, hocd⟩ := id z
    refine h { s with heap := h' } ⟨I.ok, I.os, I.bare, ⟨fun b o e n hb hx => ?_, fun b o e n hb hx => ?_, I.base.free, fun b o e hx => ?_, I.base.tups, I.base.frzs, I.base.tbls⟩, ⟨m, hn.sameBut hs (Ne.symm (cne x c hc)), fun j y v' e1 e2 e3 => ?_⟩, fun y c' e => ?_, I.free, I.freeC, fun p hp => ?_, tracked ⟨oc, hoc, I.freeC x c hc⟩ hs, by simpa using I.len⟩ ⟨c, hs, .inr hc⟩
    · exact (hs.2 b (Nat.ne_of_lt (Nat.lt_of_lt_of_le (Heap.lt_size e) (I.ok.cab x c hfn hc)))).trans (I.base.keep b o e n hb hx)
    · obtain ⟨sl, e1⟩ := I.base.slot b o e n hb hx
      exact ⟨sl, (hs.2 b (Nat.ne_of_lt (Nat.lt_of_lt_of_le (Heap.lt_size e) (I.ok.cab x c hfn hc)))).trans e1⟩
    · obtain ⟨o', e1⟩ := I.base.there b o e hx
      exact ⟨o', (hs.2 b (Nat.ne_of_lt (Nat.lt_of_lt_of_le (Heap.lt_size e) (I.ok.cab x c hfn hc)))).trans e1⟩
    · by_cases hj : j = i
      · subst hj
        rw [hi] at e1; cases e1
        rw [List.getElem?_set_self hiσ] at e2
        cases e2
        exact ⟨u, r, .inr ⟨.inl hk, c, hc, hc'⟩⟩
      · rw [List.getElem?_set_ne (Ne.symm hj)] at e2
        obtain ⟨u', r', q⟩ := hl j y v' e1 e2 e3
        refine ⟨u', r', ?_⟩
        rcases q with q | ⟨k, c', e, z'⟩
        · exact .inl q
        · refine .inr ⟨k, c', e, z'.sameBut hs ?_⟩
          rintro rfl
          exact hj (nodup_ix hN e1 (I.ok.inj _ _ _ e hc ▸ hi))
    · by_cases hcc : c' = c
      · subst hcc; exact ⟨_, hc'⟩
      · obtain ⟨w2, z2⟩ := I.cell y c' e
        exact ⟨w2, z2.sameBut hs hcc⟩
    · obtain ⟨e, n, ne, nf, d⟩ := I.pin p hp
      refine ⟨(hs.2 p.1 ?_).trans e, n, ne, nf, d⟩
      intro q
      rw [q, hoc] at e
      have q' : oc = p.2 := Option.some.inj e
      exact d w' (by rw [← q']; exact hocd)
theorem store_ok {M : Model} {A : Around} {E : Value → Shared → Prop} {i : Nat} {x : Str} {v : V} {u : Value} {Q : Unit → Shared → Prop} (I : Inv X pins σ H s) (hN : X.N.Nodup) (hi : X.N[i]? = some x) (hx : Loc X.env.scope x) (r : RelV v u)
    (h : ∀ s', Inv X pins (σ.set i (some v)) H s' → Q () s') (hf : X.fn x = true ∨ X.env.scope.names.lookup x = some .local := by first | exact .inl rfl | exact .inr rfl | assumption) : wpAny M A (storeName X.env x u) Q E s :=
  store_ok2 I hN hi hx r (fun s' I' _ => h s' I') hf
theorem Inv.call' {s' : Shared} {ch : List Addr} (I : Inv X pins σ H s) (ho : s'.os = s.os) (u : Un (frs X.stack) ch H H' s.heap s'.heap) (hok : HOk X.prog X.w H' s'.heap) (hg : AllBare s'.gens)
    (hch : ∀ b ∈ ch, (b ∈ X.ex ∨ X.s₀.heap.objs.size ≤ b) ∧ b ≠ X.env.locals ∧ (∀ x c, X.env.cells.lookup x = some c → c ≠ b) ∧ ∀ p ∈ X.pn ++ pins, p.1 ≠ b) : Inv X pins σ H' s' := by
  obtain ⟨h', g', d', t', o'⟩ := s'
  have e : o' = s.os := ho
  subst e
  exact I.call (g' := g') (t' := t') (d' := d') u hok hg hch
end


noncomputable abbrev XK := Value → Option Addr → Hp → Prop
noncomputable abbrev St := List (Option V)
noncomputable abbrev VK := V → Hp → Prop
noncomputable abbrev TE := St → Hp → VK → Prop
noncomputable abbrev TT := St → Hp → (Bool → Hp → Prop) → Prop
noncomputable abbrev TA := St → Hp → (List V → Hp → Prop) → Prop

structure Ends where
  nx : St → Hp → Prop
  rt : VK
  bk : St → Hp → Prop := fun _ _ => False
  ct : St → Hp → Prop := fun _ _ => False
noncomputable abbrev TS := Ends → St → Hp → Prop

noncomputable def EP (X : Cx) (pins : List (Addr × Obj)) (σ : St) (Q : VK) (u : Value) (s' : Shared) : Prop := ∃ v H', Inv X pins σ H' s' ∧ RelV v u ∧ Q v H'
noncomputable def TP (X : Cx) (pins : List (Addr × Obj)) (σ : St) (Q : Bool → Hp → Prop) (b : Bool) (s' : Shared) : Prop := ∃ H', Inv X pins σ H' s' ∧ Q b H'
noncomputable def AP (X : Cx) (pins : List (Addr × Obj)) (σ : St) (Q : List V → Hp → Prop) (us : List Value) (s' : Shared) : Prop := ∃ vs H', Inv X pins σ H' s' ∧ Vals vs us ∧ Q vs H'
noncomputable def SP (X : Cx) (pins : List (Addr × Obj)) (D : Ends) (f : Flow) (s' : Shared) : Prop :=
  match f with
  | .next => ∃ σ' H', Inv X pins σ' H' s' ∧ D.nx σ' H'
  | .brk => ∃ σ' H', Inv X pins σ' H' s' ∧ D.bk σ' H'
  | .cont => ∃ σ' H', Inv X pins σ' H' s' ∧ D.ct σ' H'
  | .ret u => ∃ v σ' H', Inv X pins σ' H' s' ∧ RelV v u ∧ D.rt v H'

noncomputable def PE (X : Cx) (e : Expr) (t : TE) : Prop :=
  ∀ (pins : List (Addr × Obj)) (s : Shared) (σ : St) (H : Hp) (Q : VK), Inv X pins σ H s → t σ H Q → wpAny (model X.prog X.w) X.A (eval e X.env) (EP X pins σ Q) X.xe s
noncomputable def PT (X : Cx) (e : Expr) (t : TT) : Prop :=
  ∀ (pins : List (Addr × Obj)) (s : Shared) (σ : St) (H : Hp) (Q : Bool → Hp → Prop), Inv X pins σ H s → t σ H Q → wpAny (model X.prog X.w) X.A (isTrue e X.env (eval e X.env)) (TP X pins σ Q) X.xe s
noncomputable def PW (X : Cx) (e : Expr) (t : TT) : Prop :=
  ∀ (whole : Sem Value) (pins : List (Addr × Obj)) (s : Shared) (σ : St) (H : Hp) (Q : Bool → Hp → Prop), Inv X pins σ H s → t σ H Q → wpAny (model X.prog X.w) X.A (isTrue e X.env whole) (TP X pins σ Q) X.xe s
theorem PW.pt {X : Cx} {e : Expr} {t : TT} (h : PW X e t) : PT X e t := h _
noncomputable def PA (X : Cx) (es : List Expr) (t : TA) : Prop :=
  ∀ (pos : Pos) (pins : List (Addr × Obj)) (s : Shared) (σ : St) (H : Hp) (Q : List V → Hp → Prop), Inv X pins σ H s → t σ H Q → wpAny (model X.prog X.w) X.A (spliced (backTo pos (starEach es X.env))) (AP X pins σ Q) X.xe s
noncomputable def PS (X : Cx) (st : Stmt) (t : TS) : Prop :=
  ∀ (pins : List (Addr × Obj)) (s : Shared) (σ : St) (H : Hp) (D : Ends), Inv X pins σ H s → t D σ H → wpAny (model X.prog X.w) X.A (exec st X.env) (SP X pins D) X.xe s
noncomputable def PSs (X : Cx) (st : List Stmt) (t : TS) : Prop :=
  ∀ (pins : List (Addr × Obj)) (s : Shared) (σ : St) (H : Hp) (D : Ends), Inv X pins σ H s → t D σ H → wpAny (model X.prog X.w) X.A (execs st X.env) (SP X pins D) X.xe s
theorem thn {α : Type} {t : Sem α} {Q Q' : α → Shared → Prop} {M : Model} {A : Around} {E : Value → Shared → Prop} {s : Shared} (h : wpAny M A t Q E s) (hQ : ∀ a s, Q a s → Q' a s) : wpAny M A t Q' E s := wpAny_mono h hQ fun _ _ x => x
end L2

namespace L2
open PySem PySem.Spec PyProof.Rows
section
variable {X : Cx}


noncomputable def tVar (i : Nat) : TE := fun σ H Q => ∃ v, σ[i]? = some (some v) ∧ Q v H
noncomputable def tC (v : V) : TE := fun _ H Q => Q v H
theorem pe_var {i : Nat} {x : Str} {pos : Pos} (hN : X.N[i]? = some x) (hv : Vis X.env.scope x) (hd : (x == ("__debug__" : Str)) = false := by decide) (hcd : (x == ("__classdict__" : Str)) = false := by decide) : PE X (.Name x pos) (tVar i) := by
  intro pins s σ H Q I h
  obtain ⟨v, e, h⟩ := h
  obtain ⟨m, hn, hl⟩ := I.loc
  obtain ⟨u, r, l⟩ := hl i x v hN e hv
  have fin : EP X pins σ Q u s := ⟨v, H, I, r, h⟩
  rcases l with ⟨hk, hm⟩ | ⟨hk, c, hc, hcell⟩
  · exact wpAny_Name (wpAny_loadName_local I.ok.kind hk hn hm fin) hd
  · rcases hk with hk | hk
    · exact wpAny_Name (wpAny_loadName_cell I.ok.kind hk hc hcell fin) hd
    · exact wpAny_Name (wpAny_loadName_free I.ok.kind hk hc hcell fin hcd) hd
theorem pe_int {i j pos} : PE X (.Constant (.int i) j pos) (tC (.int i)) := fun _ _ _ H _ I h => wpAny_Constant_int ⟨.int i, H, I.tok _, ⟨_, rfl⟩, h⟩
theorem pe_bl {b j pos} : PE X (.Constant (.bool b) j pos) (tC (.bl b)) := fun _ _ _ H _ I h => Constant_bool ⟨.bl b, H, I, rfl, h⟩
theorem pe_non {j pos} : PE X (.Constant .none j pos) (tC .non) := fun _ _ _ H _ I h => Constant_none ⟨.non, H, I, rfl, h⟩
theorem pe_str {x j pos} : PE X (.Constant (.str x) j pos) (tC (.str x)) := fun _ _ _ H _ I h => Calls.Constant_str ⟨.str x, H, I.tok _, ⟨_, rfl⟩, h⟩

noncomputable def Gl (X : Cx) (x : Str) : Prop := X.env.kindOf x = some .globalImplicit
theorem ld_glob {E : Value → Shared → Prop} {pins : List (Addr × Obj)} {s : Shared} {σ : St} {H : Hp} {x : Str} {u : Value} {pos : Pos} {Q : Value → Shared → Prop} (I : Inv X pins σ H s) (hg : Gl X x) (hm : X.mg x = some u) (h : Q u s)
    (hd : (x == ("__debug__" : Str)) = false := by decide) : wpAny (model X.prog X.w) X.A (eval (.Name x pos) X.env) Q E s :=
  Calls.Name_function_global I.ok.kind hg (Calls.loadGlobal_global (by rw [I.ok.glob]; exact I.mod.glob.keeps I.bk) hm h) hd
theorem ld_blt {E : Value → Shared → Prop} {pins : List (Addr × Obj)} {s : Shared} {σ : St} {H : Hp} {x : Str} {u : Value} {pos : Pos} {Q : Value → Shared → Prop} (I : Inv X pins σ H s) (hg : Gl X x) (hm : X.mg x = none) (hv : bootBuiltins x = some u) (h : Q u s)
    (hn : x ≠ "__name__" := by decide) (hd : (x == ("__debug__" : Str)) = false := by decide) : wpAny (model X.prog X.w) X.A (eval (.Name x pos) X.env) Q E s := by
  obtain ⟨mb, h1, h2⟩ := I.mod.blt
  exact Calls.Name_function_global I.ok.kind hg (Calls.loadGlobal_builtin (by rw [I.ok.glob]; exact I.mod.glob.keeps I.bk) hm (by rw [I.ok.blt]; exact h1.keeps I.bk) ((h2 x hn).trans hv) h) hd
theorem pe_glob {x : Str} {v : V} {u : Value} {pos : Pos} (hg : Gl X x) (hm : X.mg x = some u) (r : RelV v u) (hd : (x == ("__debug__" : Str)) = false := by decide) : PE X (.Name x pos) (tC v) :=
  fun _ _ _ H _ I h => ld_glob I hg hm ⟨v, H, I, r, h⟩ hd
theorem pe_bltn {x : Str} {v : V} {u : Value} {pos : Pos} (hg : Gl X x) (hm : X.mg x = none) (hv : bootBuiltins x = some u) (r : RelV v u) (hn : x ≠ "__name__" := by decide) (hd : (x == ("__debug__" : Str)) = false := by decide) : PE X (.Name x pos) (tC v) :=
  fun _ _ _ H _ I h => ld_blt I hg hm hv ⟨v, H, I, r, h⟩ hn hd


variable {a b : Expr} {ta tb : TE} {pos : Pos}

noncomputable def PC (X : Cx) (op : CmpOp) (a b : Expr) (t : TE) : Prop :=
  ∀ (pins : List (Addr × Obj)) (s : Shared) (σ : St) (H : Hp) (Q : VK), Inv X pins σ H s → t σ H Q →
    wpAny (model X.prog X.w) X.A (eval a X.env) (fun v s₁ => wpAny (model X.prog X.w) X.A (eval b X.env) (fun u s₂ => wpAny (model X.prog X.w) X.A (compareOp op v u) (EP X pins σ Q) X.xe s₂) X.xe s₁) X.xe s
noncomputable def tB (t : TE) : TT := fun σ H Q => t σ H fun x H1 => ∃ c, x = .bl c ∧ Q c H1
theorem pt_cmp {op : CmpOp} {t : TE} (h : PC X op a b t) (h1 : behindInMarks op b = false := by first | exact nobehind _ (by decide) (by decide) | rfl) : PT X (.Compare a [op] [b] pos) (tB t) := by
  intro pins s σ H Q I hw
  refine wpAny_isTrue_Compare1 (thn (h pins s σ H _ I hw) fun v s1 h1 => thn h1 fun u s2 h2 => thn h2 fun c s3 ⟨x, H1, I1, r1, q1⟩ => ?_) h1
  obtain ⟨d, rfl, q⟩ := q1
  cases r1
  exact wpAny_truthy_bool ⟨H1, I1, q⟩
theorem pt_val {e : Expr} {t : TE} (h : PE X e t) (he : ∀ whole, isTrue e X.env whole = (do let v ← whole; standAt e.pos; holding [v] (truthy v)) := by intro _; rfl) : PT X e (tB t) := by
  intro pins s σ H Q I hw
  refine isTrue_plain (thn (h pins s σ H _ I hw) fun v s1 ⟨x, H1, I1, r1, q1⟩ => ?_) (he _)
  obtain ⟨d, rfl, q⟩ := q1
  cases r1
  exact wpAny_truthy_bool ⟨H1, I1, q⟩


variable {tA tB' : TT} {rest : List Expr}
noncomputable def tAnd (t u : TT) : TT := fun σ H Q => t σ H fun c H1 => if c = true then u σ H1 Q else Q false H1
noncomputable def tOr (t u : TT) : TT := fun σ H Q => t σ H fun c H1 => if c = true then Q true H1 else u σ H1 Q
noncomputable def tNot (t : TT) : TT := fun σ H Q => t σ H fun c H1 => Q (!c) H1
theorem pw_and1 (ha : PT X a tA) : PW X (.BoolOp .And [a] pos) tA := by
  intro wh pins s σ H Q I h
  refine isTrue_and (thn (ha pins s σ H Q I h) fun c s1 e => ?_)
  cases c with
  | true => exact isTrue_and_nil e
  | false => exact e
theorem pw_or1 (ha : PT X a tA) : PW X (.BoolOp .Or [a] pos) tA := by
  intro wh pins s σ H Q I h
  refine isTrue_or (thn (ha pins s σ H Q I h) fun c s1 e => ?_)
  cases c with
  | false => exact isTrue_or_nil e
  | true => exact e
theorem pw_and (ha : PT X a tA) (hb : PW X (.BoolOp .And (b :: rest) pos) tB') : PW X (.BoolOp .And (a :: b :: rest) pos) (tAnd tA tB') := by
  intro wh pins s σ H Q I h
  refine isTrue_and (thn (ha pins s σ H _ I h) fun c s1 zz9 => ?_)
  obtain ⟨H1, I1, q1⟩ := zz9
  cases c with
  | true => exact hb wh pins s1 σ H1 Q I1 q1
  | false => exact ⟨H1, I1, q1⟩
theorem pw_or (ha : PT X a tA) (hb : PW X (.BoolOp .Or (b :: rest) pos) tB') : PW X (.BoolOp .Or (a :: b :: rest) pos) (tOr tA tB') := by
  intro wh pins s σ H Q I h
  refine isTrue_or (thn (ha pins s σ H _ I h) fun c s1 zz9 => ?_)
  obtain ⟨H1, I1, q1⟩ := zz9
  cases c with
  | true => exact ⟨H1, I1, q1⟩
  | false => exact hb wh pins s1 σ H1 Q I1 q1
theorem pt_not (ha : PT X a tA) : PT X (.UnaryOp .Not a pos) (tNot tA) := by
  intro pins s σ H Q I h
  exact isTrue_not (ha pins s σ H (fun c H1 => Q (!c) H1) I h)
noncomputable def tAndV (ta tb : TE) : TE := fun σ H Q => ta σ H fun x H1 => ∃ c, x = .bl c ∧ if c = true then tb σ H1 Q else Q (.bl false) H1
noncomputable def tNotV (ta : TE) : TE := fun σ H Q => ta σ H fun x H1 => ∃ c, x = .bl c ∧ Q (.bl (!c)) H1
theorem pe_one {op} {t : TE} (h : PE X a t) : PE X (.BoolOp op [a] pos) t := fun pins s σ H Q I hw => BoolOp_one (h pins s σ H Q I hw)
theorem pe_and (ha : PE X a ta) (hb : PE X (.BoolOp .And (b :: rest) pos) tb) : PE X (.BoolOp .And (a :: b :: rest) pos) (tAndV ta tb) := by
  intro pins s σ H Q I h
  refine BoolOp_and (thn (ha pins s σ H _ I h) fun v s1 zz9 => ?_)
  obtain ⟨x, H1, I1, r1, q1⟩ := zz9
  obtain ⟨c, rfl, q1⟩ := q1
  cases r1
  refine wpAny_truthy_bool ?_
  cases c with
  | true => exact hb pins s1 σ H1 Q I1 q1
  | false => exact ⟨.bl false, H1, I1, rfl, q1⟩
theorem pe_not (ha : PE X a ta) : PE X (.UnaryOp .Not a pos) (tNotV ta) := by
  intro pins s σ H Q I h
  refine UnaryOp_ (thn (ha pins s σ H _ I h) fun v s1 zz9 => ?_)
  obtain ⟨x, H1, I1, r1, q1⟩ := zz9
  obtain ⟨c, rfl, q1⟩ := q1
  cases r1
  exact not_of (wpAny_truthy_bool ⟨.bl (!c), H1, I1, rfl, q1⟩)
end
end L2

namespace L2
open PySem PySem.Spec PyProof.Rows


noncomputable def SqL (K : PySem.W.Frag) (H : Hp) (a : Addr) (xs : List V) : Prop :=
  Rd H a (.lst xs) ∨
    ∃ (o : Obj) (its : Array Value) (n : Nat), K.lookup a = some o ∧ o.cls = .type "list" ∧ o.dict = none ∧ o.data = .seq its n ∧ its.size ≤ sizeLine ∧ Vals xs its.toList
noncomputable def SqT (K : PySem.W.Frag) (H : Hp) (a : Addr) (xs : List V) : Prop :=
  Rd H a (.tup xs) ∨
    ∃ (o : Obj) (its : Array Value) (n : Nat), K.lookup a = some o ∧ o.cls = .type "tuple" ∧ o.data = .seq its n ∧ its.size ≤ sizeLine ∧ Vals xs its.toList
noncomputable def absV : Value → Option V
  | .none => some .non
  | .bool b => some (.bl b)
  | .int i _ => some (.int i)
  | .str x _ => some (.str x)
  | .bytes b _ => some (.byt b)
  | .float b _ => some (.flt b)
  | .ref a => some (.ref a)
  | .type n => some (.ty n)
  | _ => none
theorem RelV.abs {x : V} {u : Value} (r : RelV x u) : absV u = some x := by
  cases x with
  | non => cases r; rfl
  | bl _ => cases r; rfl
  | int _ => obtain ⟨t, rfl⟩ := r; rfl
  | str _ => obtain ⟨t, rfl⟩ := r; rfl
  | byt _ => obtain ⟨t, rfl⟩ := r; rfl
  | flt _ => obtain ⟨t, rfl⟩ := r; rfl
  | ref _ => cases r; rfl
  | ty _ => cases r; rfl
theorem RelV.inj {x y : V} {u : Value} (r : RelV x u) (q : RelV y u) : x = y := Option.some.inj (r.abs.symm.trans q.abs)
theorem Vals.inj : ∀ {xs ys : List V} {us : List Value}, Vals xs us → Vals ys us → xs = ys
  | _, _, _, .nil, .nil => rfl
  | _, _, _, .cons r t, .cons r' t' => by rw [r.inj r', Vals.inj t t']
section
variable {X : Cx} {pins : List (Addr × Obj)} {σ : St} {H : Hp} {s : Shared} {a : Addr} {xs ys : List V}
theorem SqL.of {K : PySem.W.Frag} (h : H a = some (.lst xs)) : SqL K H a xs := .inl (.inl h)
theorem SqT.of {K : PySem.W.Frag} (h : H a = some (.tup xs)) : SqT K H a xs := .inl (.inl h)
theorem Inv.list (I : Inv X pins σ H s) (h : SqL X.K H a xs) : ∃ its : List Value, Vals xs its ∧ PlainL s.heap a its.toArray ∧ xs.length ≤ sizeLine := by
  rcases h with h | ⟨o, its, n, hk, hc, hd, hs, hz, r⟩
  · obtain ⟨z, its, n, r, e⟩ := h.ok I.hok
    exact ⟨its, r, ⟨_, n, e, rfl, rfl, rfl⟩, z⟩
  · refine ⟨its.toList, r, ⟨o, n, I.kIn a o hk, hc, hd, by simpa using hs⟩, ?_⟩
    have e := r.length
    simp only [Array.length_toList] at e
    omega
theorem Inv.tuple (I : Inv X pins σ H s) (h : SqT X.K H a xs) : ∃ its : List Value, Vals xs its ∧ IsTup s.heap a its.toArray ∧ xs.length ≤ sizeLine := by
  rcases h with h | ⟨o, its, n, hk, hc, hs, hz, r⟩
  · obtain ⟨z, its, r, p⟩ := h.ok I.hok
    exact ⟨its, r, p, z⟩
  · refine ⟨its.toList, r, ⟨o, I.kIn a o hk, hc, n, by simpa using hs⟩, ?_⟩
    have e := r.length
    simp only [Array.length_toList] at e
    omega
theorem Inv.list_inj (I : Inv X pins σ H s) (h : SqL X.K H a xs) (h' : SqL X.K H a ys) : xs = ys := by
  obtain ⟨its, r, ⟨o, n, e, _, _, d⟩, _⟩ := I.list h
  obtain ⟨its', r', ⟨o', n', e', _, _, d'⟩, _⟩ := I.list h'
  rw [e] at e'; cases e'
  rw [d] at d'
  injection d' with d1 _
  have : its = its' := by simpa using congrArg Array.toList d1
  subst this
  exact r.inj r'
end


noncomputable abbrev Cx.wish (X : Cx) (E : Value → Shared → Prop) : Cx := { X with xe := E }
theorem Cx.Ok.wish {X : Cx} (ok : X.Ok) (E : Value → Shared → Prop) : (X.wish E).Ok :=
  ⟨ok.mod, ok.kind, ok.glob, ok.blt, ok.above, ok.inj, ok.has, ok.cab, ok.hd, ok.frames, ok.stk, ok.exf, ok.bs, ok.bsz, ok.noex, ok.exfs, ok.funs, ok.frf⟩
theorem Cx.Ok.unwish {X : Cx} {E : Value → Shared → Prop} (ok : (X.wish E).Ok) : X.Ok :=
  ⟨ok.mod, ok.kind, ok.glob, ok.blt, ok.above, ok.inj, ok.has, ok.cab, ok.hd, ok.frames, ok.stk, ok.exf, ok.bs, ok.bsz, ok.noex, ok.exfs, ok.funs, ok.frf⟩
section
variable {X : Cx} {pins : List (Addr × Obj)} {σ : St} {H : Hp} {s : Shared} {E : Value → Shared → Prop}
theorem Inv.wish (I : Inv X pins σ H s) (E : Value → Shared → Prop) : Inv (X.wish E) pins σ H s := ⟨I.ok.wish E, I.os, I.bare, I.base, I.loc, I.cell, I.free, I.freeC, I.pin, I.hok, I.len⟩
theorem Inv.unwish (I : Inv (X.wish E) pins σ H s) : Inv X pins σ H s := ⟨I.ok.unwish, I.os, I.bare, I.base, I.loc, I.cell, I.free, I.freeC, I.pin, I.hok, I.len⟩
theorem SP.unwish {D : Ends} {f : Flow} {s' : Shared} (h : SP (X.wish E) pins D f s') : SP X pins D f s' := by
  cases f with
  | next => obtain ⟨σ', H', I, q⟩ := h; exact ⟨σ', H', I.unwish, q⟩
  | brk => obtain ⟨σ', H', I, q⟩ := h; exact ⟨σ', H', I.unwish, q⟩
  | cont => obtain ⟨σ', H', I, q⟩ := h; exact ⟨σ', H', I.unwish, q⟩
  | ret u => obtain ⟨v, σ', H', I, r, q⟩ := h; exact ⟨v, σ', H', I.unwish, r, q⟩
end


section
variable {X : Cx} {st : Stmt} {rest : List Stmt} {t u : TS} {e : Expr} {te : TE} {pos : Pos}
noncomputable def tNext : TS := fun D σ H => D.nx σ H
noncomputable def tSeq (t u : TS) : TS := fun D σ H => t { D with nx := u D } σ H
theorem pss_nil : PSs X [] tNext := fun _ _ σ H _ I h => wpAny_execs_nil ⟨σ, H, I, h⟩
theorem pss_cons (h1 : PS X st t) (h2 : PSs X rest u) : PSs X (st :: rest) (tSeq t u) := by
  intro pins s σ H D I h
  refine wpAny_execs_cons (thn (h1 pins s σ H { D with nx := u D } I h) fun f s1 q => ?_)
  cases f with
  | next =>
    obtain ⟨σ', H', I', q⟩ := q
    exact h2 pins s1 σ' H' D I' q
  | ret v => exact q
  | brk => exact q
  | cont => exact q
theorem pss_one (h1 : PS X st t) : PSs X [st] t := by
  intro pins s σ H D I h
  refine wpAny_execs_cons (thn (h1 pins s σ H D I h) fun f s1 q => ?_)
  cases f with
  | next => exact wpAny_execs_nil q
  | ret v => exact q
  | brk => exact q
  | cont => exact q
theorem Inv.quiet {pins : List (Addr × Obj)} {σ : St} {H : Hp} {s : Shared} (I : Inv X pins σ H s) : interactive X.env = false := by simp [interactive, I.ok.kind]
noncomputable def tDrop (te : TE) : TS := fun D σ H => te σ H fun _ H1 => D.nx σ H1
theorem ps_expr (he : PE X e te) (hs : swapsWith e none pos.line X.env = pure false := by rfl) : PS X (.Expr e pos) (tDrop te) := by
  intro pins s σ H D I h
  exact wpAny_Expr_any (thn (he pins s σ H _ I h) fun v s1 ⟨x, H1, I1, r1, q1⟩ => ⟨σ, H1, I1, q1⟩) I.quiet hs
noncomputable def tRet (te : TE) : TS := fun D σ H => te σ H D.rt
theorem ps_ret (he : PE X e te) : PS X (.Return (some e) pos) (tRet te) := by
  intro pins s σ H D I h
  exact wpAny_Return_some (thn (he pins s σ H _ I h) fun v s1 ⟨x, H1, I1, r1, q1⟩ => ⟨x, σ, H1, I1, r1, q1⟩)
noncomputable def tIfS (c : TT) (t u : TS) : TS := fun D σ H => c σ H fun b H1 => if b = true then t D σ H1 else u D σ H1
theorem ps_if {c : Expr} {a b : List Stmt} {tc : TT} (hc : PT X c tc) (ha : PSs X a t) (hb : PSs X b u) : PS X (.If c a b pos) (tIfS tc t u) := by
  intro pins s σ H D I h
  refine wpAny_If (thn (hc pins s σ H _ I h) fun d s1 zz9 => ?_)
  obtain ⟨H1, I1, q1⟩ := zz9
  cases d with
  | true => exact ha pins s1 σ H1 D I1 q1
  | false => exact hb pins s1 σ H1 D I1 q1
end


noncomputable abbrev TG := V → St → Hp → (St → Hp → Prop) → Prop
noncomputable abbrev TGs := List V → St → Hp → (St → Hp → Prop) → Prop
noncomputable def PG (X : Cx) (target : Expr) (t : TG) : Prop :=
  ∀ (pins : List (Addr × Obj)) (s : Shared) (σ : St) (H : Hp) (v : V) (u : Value) (Q : St → Hp → Prop), Inv X pins σ H s → RelV v u → t v σ H Q →
    wpAny (model X.prog X.w) X.A (assign target X.env u) (fun _ s' => ∃ σ' H', Inv X pins σ' H' s' ∧ Q σ' H') X.xe s
noncomputable def PGs (X : Cx) (ts : List Expr) (t : TGs) : Prop :=
  ∀ (pins : List (Addr × Obj)) (s : Shared) (σ : St) (H : Hp) (vs : List V) (us : List Value) (Q : St → Hp → Prop), Inv X pins σ H s → Vals vs us → t vs σ H Q →
    wpAny (model X.prog X.w) X.A (assignInOrder ((assignEach ts X.env).map (·.2)) us) (fun _ s' => ∃ σ' H', Inv X pins σ' H' s' ∧ Q σ' H') X.xe s
section
variable {X : Cx} {pos : Pos}
noncomputable def gName (i : Nat) : TG := fun v σ H Q => Q (σ.set i (some v)) H
theorem pg_name {i : Nat} {x : Str} (hN : X.N.Nodup) (hi : X.N[i]? = some x) (hx : Loc X.env.scope x) (hf : X.fn x = true ∨ X.env.scope.names.lookup x = some .local := by first | exact .inl rfl | exact .inr rfl | assumption) : PG X (.Name x pos) (gName i) := by
  intro pins s σ H v u Q I r h
  exact wpAny_assign_Name (store_ok I hN hi hx r (fun s' I' => ⟨_, H, I', h⟩) hf)
noncomputable def gNil : TGs := fun vs σ H Q => vs = [] ∧ Q σ H
noncomputable def gCons (t : TG) (u : TGs) : TGs := fun vs σ H Q => ∃ v r, vs = v :: r ∧ t v σ H fun σ' H' => u r σ' H' Q
theorem pgs_nil : PGs X [] gNil := by
  intro pins s σ H vs us Q I r h
  obtain ⟨e, h⟩ := h
  subst e
  cases r
  exact assignInOrder_nil ⟨σ, H, I, h⟩
theorem pgs_cons {e : Expr} {es : List Expr} {t : TG} {u : TGs} (h1 : PG X e t) (h2 : PGs X es u)
    (hs : (assignEach (e :: es) X.env).map (·.2) = assign e X.env :: (assignEach es X.env).map (·.2) := by rfl) : PGs X (e :: es) (gCons t u) := by
  intro pins s σ H vs us Q I r h
  obtain ⟨v, vr, e1, h⟩ := h
  subst e1
  cases r with
  | cons r rr =>
    rw [hs]
    refine assignInOrder_cons (thn (h1 pins s σ H _ _ _ I r h) fun _ s1 zz9 => ?_)
    obtain ⟨σ1, H1, I1, q1⟩ := zz9
    exact h2 pins s1 σ1 H1 _ _ Q I1 rr q1
noncomputable def gTup (K : PySem.W.Frag) (n : Nat) (t : TGs) : TG := fun v σ H Q => ∃ a xs, v = .ref a ∧ SqT K H a xs ∧ xs.length = n ∧ t xs σ H Q
theorem pg_tup {es : List Expr} {k : Nat} {t : TGs} {n : Nat} (hc : X.calm = true) (h : PGs X es t)
    (hn : (assignEach es X.env).length = n := by rfl) (hst : (assignEach es X.env).findIdx? (·.1) = none := by rfl) : PG X (.Tuple es k pos) (gTup X.K n t) := by
  intro pins s σ H v u Q I r hw
  obtain ⟨a, xs, e1, hq, hl, hw⟩ := hw
  subst e1
  cases r
  obtain ⟨its, rv, ht, hz⟩ := I.tuple hq
  refine assign_Tuple_tuple (I.ok.hd hc) ht (by simp [hn, ← hl, rv.length]) hst fun h' hx => ?_
  have I1 : Inv X pins σ H { s with heap := h' } := I.kept (t' := s.toks) fun b o e => hx b o (Nat.ne_of_lt (Heap.lt_size e)) e
  exact h pins _ σ H xs _ Q I1 (by simpa using rv) hw
noncomputable def tAsg (te : TE) (g : TG) : TS := fun D σ H => te σ H fun x H1 => g x σ H1 D.nx
theorem ps_asg {tg e : Expr} {te : TE} {g : TG} (he : PE X e te) (hg : PG X tg g) (hs : swapsWithSole [tg] e pos.line X.env = pure false := by rfl) (hw : swappedStores [tg] e X.env = pure none := by rfl)
    (h1 : (assignEach [tg] X.env).map (·.2) = [assign tg X.env] := by rfl) : PS X (.Assign [tg] e pos) (tAsg te g) := by
  intro pins s σ H D I h
  refine wpAny_Assign_stores (thn (he pins s σ H _ I h) fun v s1 ⟨x, H1, I1, r1, q1⟩ => ?_) hs hw
  rw [h1]
  exact thn (hg pins s1 σ H1 x v _ I1 r1 q1) fun _ s2 q => q
theorem ps_set {i : Nat} {x : Str} {e : Expr} {te : TE} {pos' : Pos} (hN : X.N.Nodup) (hi : X.N[i]? = some x) (hx : Loc X.env.scope x) (he : PE X e te) (hs : swapsWith e (some (.Name x pos')) pos.line X.env = pure false := by rfl) (hf : X.fn x = true ∨ X.env.scope.names.lookup x = some .local := by first | exact .inl rfl | exact .inr rfl | assumption) :
    PS X (.Assign [.Name x pos'] e pos) (tAsg te (gName i)) := by
  intro pins s σ H D I h
  refine wpAny_Assign_Name (thn (he pins s σ H _ I h) fun v s1 ⟨y, H1, I1, r1, q1⟩ => ?_) hs
  exact store_ok I1 hN hi hx r1 (fun s2 I2 => ⟨_, H1, I2, q1⟩) hf
noncomputable def tPar (i j : Nat) (ta : TA) : TS := fun D σ H => ta σ H fun vs H1 => ∃ v w, vs = [v, w] ∧ D.nx ((σ.set i (some v)).set j (some w)) H1
theorem ps_par {i j : Nat} {x y : Str} {a b : Expr} {ta : TA} {px py pt : Pos} {kt k2 pt2} (hc : X.calm = true) (hN : X.N.Nodup) (hi : X.N[i]? = some x) (hj : X.N[j]? = some y) (hij : i ≠ j)
    (hx : X.env.scope.names.lookup x = some .local) (hy : X.env.scope.names.lookup y = some .local) (ha : PA X [a, b] ta)
    (hw : swappedStores [.Tuple [.Name x px, .Name y py] kt pt] (.Tuple [a, b] k2 pt2) X.env = pure (some [x, y]))
    (hs : swapsWithSole [.Tuple [.Name x px, .Name y py] kt pt] (.Tuple [a, b] k2 pt2) pos.line X.env = pure false := by rfl) :
    PS X (.Assign [.Tuple [.Name x px, .Name y py] kt pt] (.Tuple [a, b] k2 pt2) pos) (tPar i j ta) := by
  intro pins s σ H D I h
  rw [exec_Assign_arm]
  refine wpAny_bind (wpAny_standAt ?_)
  rw [hs]
  refine wpAny_bind (wpAny_pure ?_)
  rw [if_neg (by decide)]
  refine wpAny_bind (Tuple_ (thn (ha _ pins s σ H _ I h) fun us s1 zz9 => ?_))
  obtain ⟨vs, H1, I1, r1, q1⟩ := zz9
  obtain ⟨v, w, e1, q1⟩ := q1
  subst e1
  obtain ⟨u1, u2, rfl, rv, rw'⟩ : ∃ u1 u2, us = [u1, u2] ∧ RelV v u1 ∧ RelV w u2 := by
    cases r1 with
    | cons p q =>
      cases q with
      | cons p' q' =>
        cases q'
        exact ⟨_, _, rfl, p, p'⟩
  refine wpAny_newObj_type ?_ (by show 2 ≤ sizeLine; decide)
  have I2 : Inv X pins σ H1 { s1 with heap := s1.heap.push { cls := .type "tuple", data := .seq [u1, u2].toArray } } := I1.kept (t' := s1.toks) fun b o e => Heap.get?_push_of_some _ e
  rw [hw]
  refine wpAny_bind (wpAny_pure ?_)
  show wpAny (model X.prog X.w) X.A (do rule "assign.swapped-stores"; let items ← unpackItems (.ref s1.heap.objs.size) 2 none; assignInOrder [fun v => bindName X.env y v, fun v => bindName X.env x v] items.reverse; pure Flow.next) _ _ _
  refine wpAny_bind (wpAny_rule (wpAny_bind (unpackItems_tuple (items := #[u1, u2]) (I.ok.hd hc) (IsTup.new s1.heap _) fun h' hx' => ?_)))
  have I3 := I2.kept (h' := h') (t' := s1.toks) fun b o e => hx' b o (Nat.ne_of_lt (Heap.lt_size e)) e
  show wpAny _ _ (assignInOrder [fun v => bindName X.env y v, fun v => bindName X.env x v] [u2, u1] >>= fun _ => pure Flow.next) _ _ _
  refine wpAny_bind (assignInOrder_cons (wpAny_bindName (store_ok I3 hN hj (.inl hy) rw' (fun s2 I4 => ?_) (.inr hy))))
  refine assignInOrder_cons (wpAny_bindName (store_ok I4 hN hi (.inl hx) rv (fun s3 I5 => assignInOrder_nil (wpAny_pure ?_)) (.inr hx)))
  rw [List.set_comm _ _ (Ne.symm hij)] at I5
  exact ⟨_, H1, I5, q1⟩
end


section
variable {X : Cx} {pos : Pos}
noncomputable def tWhile (c : TT) (tb : TS) : TS := fun D σ H => ∃ W : Nat → St → Hp → Prop, (∃ m, W m σ H) ∧ ∀ m σ H, W m σ H →
  c σ H fun b H1 => if b = true then ∃ N : St → Hp → Prop, (∀ σ' H', N σ' H' → ∃ m', m' < m ∧ W m' σ' H') ∧ tb { D with nx := N, ct := N, bk := D.nx } σ H1 else D.nx σ H1
theorem ps_while {c : Expr} {body : List Stmt} {tc : TT} {tb : TS} (hp : PassesOwn (model X.prog X.w) X.A X.env X.xe) (hc : PT X c tc) (hb : PSs X body tb) : PS X (.While c body [] pos) (tWhile tc tb) := by
  intro pins s σ H D I h
  obtain ⟨W, ⟨m0, w0⟩, turn⟩ := h
  refine wpAny_While (codeAny_whileLoop (fun n s' => ∃ σ' H', Inv X pins σ' H' s' ∧ W n σ' H') ?_ m0 ⟨σ, H, I, w0⟩)
  rintro n s1 ⟨σ1, H1, I1, w1⟩
  refine wpAny_passesOwn hp (thn (hc pins s1 σ1 H1 _ I1 (turn n σ1 H1 w1)) fun b s2 zz9 => ?_)
  obtain ⟨H2, I2, q2⟩ := zz9
  cases b with
  | true =>
    obtain ⟨N, hN, q2⟩ := q2
    rw [if_pos rfl]
    refine wpAny_passesOwn hp (thn (hb pins s2 σ1 H2 _ I2 q2) fun f s3 q3 => ?_)
    cases f with
    | next =>
      obtain ⟨σ3, H3, I3, n3⟩ := q3
      obtain ⟨m', hm, w3⟩ := hN σ3 H3 n3
      exact ⟨m', hm, σ3, H3, I3, w3⟩
    | cont =>
      obtain ⟨σ3, H3, I3, n3⟩ := q3
      obtain ⟨m', hm, w3⟩ := hN σ3 H3 n3
      exact ⟨m', hm, σ3, H3, I3, w3⟩
    | brk => exact q3
    | ret v => exact q3
  | false =>
    rw [if_neg Bool.false_ne_true]
    exact wpAny_execs_nil ⟨σ1, H2, I2, q2⟩
end



structure It where
  go : Nat → Hp → Prop
  yld : Nat → Hp → V → Hp → Prop
  stop : Nat → Hp → Prop
noncomputable def FpOk (X : Cx) (pins : List (Addr × Obj)) (H : Hp) (b : Addr) : Prop :=
  H b = none ∧ b ≠ X.env.locals ∧ b ∉ X.fs ∧ (b ∈ X.ex ∨ X.s₀.heap.objs.size ≤ b) ∧ (∀ x c, X.env.cells.lookup x = some c → c ≠ b) ∧ ∀ p ∈ X.pn ++ pins, p.1 ≠ b
theorem Inv.fpOk {X : Cx} {pins : List (Addr × Obj)} {σ : St} {H H' : Hp} {s : Shared} {b : Addr} (I : Inv X pins σ H s) (hb : s.heap.objs.size ≤ b) (hn : H' b = none) : FpOk X pins H' b := by
  refine ⟨hn, Nat.ne_of_gt (Nat.lt_of_lt_of_le I.lt hb), I.nofs hb, .inr (Nat.le_trans I.sz hb), fun x c e z => ?_, fun p hp z => ?_⟩
  · obtain ⟨v, q⟩ := I.cell x c e
    exact absurd (Nat.lt_of_lt_of_le q.lt (by rw [z]; exact hb)) (Nat.lt_irrefl _)
  · exact absurd (Nat.lt_of_lt_of_le (Heap.lt_size (I.pin p hp).1) (by rw [z]; exact hb)) (Nat.lt_irrefl _)
structure Turn (P : Program) (w : World) (K : PySem.W.Frag) (tg : Expr) (J : It) (fp : List Addr) (it : Addr) (tn : Nat → Heap → Prop) : Prop where
  mem : it ∈ fp
  obj : ∀ i h, tn i h → ∀ b ∈ fp, ∃ o, h.get? b = some o ∧ ∀ v, o.data ≠ .cell v
  keep : ∀ i h h', tn i h → (∀ b ∈ fp, ∀ o, h.get? b = some o → h'.get? b = some o) → tn i h'
  item : ∀ (X : Cx), X.prog = P → X.w = w → X.K = K → X.calm = true → ∀ (i : Nat) (pins : List (Addr × Obj)) (s : Shared) (σ : St) (H : Hp) (E : Value → Shared → Prop), Inv X pins σ H s → (∀ b ∈ fp, FpOk X pins H b) → tn i s.heap → J.go i H →
    wpAny (model P w) X.A (pyNext (.ref it)) (fun r s1 => ∃ u, r = some u ∧
      wpAny (model P w) X.A (letOwnedTupleGo tg (.ref it) u) (fun _ s2 => ∃ x H', Inv X pins σ H' s2 ∧ RelV x u ∧ J.yld i H x H' ∧ tn (i + 1) s2.heap ∧ ∀ b ∈ fp, H' b = none) E s1) E s
  done : ∀ (X : Cx), X.prog = P → X.w = w → X.K = K → X.calm = true → ∀ (i : Nat) (pins : List (Addr × Obj)) (s : Shared) (σ : St) (H : Hp) (E : Value → Shared → Prop), Inv X pins σ H s → (∀ b ∈ fp, FpOk X pins H b) → tn i s.heap → J.stop i H →
    wpAny (model P w) X.A (pyNext (.ref it)) (fun r s1 => r = none ∧ Inv X pins σ H s1) E s
  self : ∀ (A : Around) (i : Nat) (s : Shared) (Q : Value → Shared → Prop) (E : Value → Shared → Prop), tn i s.heap → Q (.ref it) s → wpAny (model P w) A (pyIter (.ref it)) Q E s
noncomputable abbrev TI := St → Hp → (It → Hp → Prop) → Prop
noncomputable def PIE (X : Cx) (pins : List (Addr × Obj)) (σ : St) (tg : Expr) (R : It → Hp → Prop) (itv : Value) (s2 : Shared) : Prop :=
  ∃ (it : Addr) (fp : List Addr) (tn : Nat → Heap → Prop) (J : It) (H' : Hp), itv = .ref it ∧ Inv X pins σ H' s2 ∧ Turn X.prog X.w X.K tg J fp it tn ∧ tn 0 s2.heap ∧ (∀ b ∈ fp, FpOk X pins H' b) ∧ R J H'
noncomputable def PI (X : Cx) (tg iter : Expr) (wi : TI) : Prop :=
  ∀ (pins : List (Addr × Obj)) (s : Shared) (σ : St) (H : Hp) (R : It → Hp → Prop), Inv X pins σ H s → wi σ H R →
    wpAny (model X.prog X.w) X.A (eval iter X.env) (fun v s1 => wpAny (model X.prog X.w) X.A (pyIter v) (PIE X pins σ tg R) X.xe s1) X.xe s

theorem go_of {M : Model} {A : Around} {E : Value → Shared → Prop} {s : Shared} {tg : Expr} {it : Addr} {u : Value} {o : Obj} {n : String} {vs : Array Value} {Q : Unit → Shared → Prop} (ho : s.heap.get? it = some o) (hc : o.cls = .type n) (hd : o.data = .fields vs)
    (hn : ["enumerate", "zip", "dict_itemiterator", "dict_reverseitemiterator", "odict_iterator", "itertools.zip_longest", "itertools.pairwise"].contains n = false) (hQ : Q () s) : wpAny M A (letOwnedTupleGo tg (.ref it) u) Q E s := by
  unfold letOwnedTupleGo
  cases tg <;> first
    | exact wpAny_pure hQ
    | (cases u <;> first
        | exact wpAny_pure hQ
        | (refine wpAny_bind (wpAny_load ho ?_)
           rw [hc, hd]
           show wpAny M A (if (["enumerate", "zip", "dict_itemiterator", "dict_reverseitemiterator", "odict_iterator", "itertools.zip_longest", "itertools.pairwise"].contains n && vs[0]? == some (rawInt _)) = true then _ else _) Q E s
           rw [if_neg (by intro h; rw [hn, Bool.false_and] at h; cases h)]
           exact wpAny_pure hQ))

noncomputable def Itl (K : PySem.W.Frag) (a : Addr) : It :=
  ⟨fun i H => ∃ xs x, SqL K H a xs ∧ xs[i]? = some x, fun i H x H' => H' = H ∧ ∀ xs, SqL K H a xs → xs[i]? = some x, fun i H => ∃ xs, SqL K H a xs ∧ xs.length ≤ i⟩
noncomputable def Itr (lo : Int) (n : Nat) : It := ⟨fun i _ => i < n, fun i H x H' => H' = H ∧ x = .int (lo + i), fun i _ => n ≤ i⟩
theorem turn_list {P : Program} {w : World} {K : PySem.W.Frag} {tg : Expr} (a it : Addr) : Turn P w K tg (Itl K a) [it] it (fun i h => h.IsListIter it a i) where
  mem := by simp
  obj := fun i h st b hb => by
    have e : b = it := by simpa using hb
    subst e
    obtain ⟨o, e, c, d⟩ := st
    exact ⟨o, e, fun v z => by rw [d] at z; cases z⟩
  keep := fun i h h' st k => st.at fun o e => k it (by simp) o e
  item := by
    intro X hP hw hK hc i pins s σ H E I hf st hg
    subst hP hw hK
    obtain ⟨xs, x, hq, hx⟩ := hg
    obtain ⟨its, rv, p, hz⟩ := I.list hq
    obtain ⟨u, hu, ru⟩ := rv.get hx
    obtain ⟨f0, f1, f2, f3, f4, f5⟩ := hf it (by simp)
    refine wpAny_pyNext_list_item st p.isList (x := u) (by simpa using hu) fun h' st' sb => ?_
    have I1 : Inv X pins σ H { s with heap := h' } := I.turned (t' := s.toks) (fun b o hb e => (sb.2 b hb).trans e) f0 f1 f3 f4 f5
    obtain ⟨o, e, c, d⟩ := id st'
    exact ⟨u, rfl, go_of (s := { s with heap := h' }) e c d (by decide) ⟨x, H, I1, ru, ⟨rfl, fun ys hy => by rw [I.list_inj hy hq]; exact hx⟩, st', fun b hb => (hf b hb).1⟩⟩
  done := by
    intro X hP hw hK hc i pins s σ H E I hf st hg
    subst hP hw hK
    obtain ⟨xs, hq, hx⟩ := hg
    obtain ⟨its, rv, p, hz⟩ := I.list hq
    obtain ⟨f0, f1, f2, f3, f4, f5⟩ := hf it (by simp)
    have hl := rv.length
    exact wpAny_pyNext_list_end (I.ok.hd hc) st p.isList (by simp; omega) fun h' eb => ⟨rfl, I.turned (t' := s.toks) (fun b o hb e => eb b o hb e) f0 f1 f3 f4 f5⟩
  self := fun _ _ _ _ _ st h => wpAny_pyIter_listiter st h
theorem turn_range {P : Program} {w : World} {K : PySem.W.Frag} {tg : Expr} (it : Addr) (lo : Int) (n : Nat) : Turn P w K tg (Itr lo n) [it] it (fun i h => IsRangeIter h it (lo + (i : Nat) * 1) ((n : Int) - (i : Nat)) 1) where
  mem := by simp
  obj := fun i h st b hb => by
    have e : b = it := by simpa using hb
    subst e
    exact ⟨_, st, fun v z => by
      have z' : Data.fields _ = Data.cell v := z
      cases z'⟩
  keep := fun i h h' st k => k it (by simp) _ st
  item := by
    intro X hP hw hK hc i pins s σ H E I hf st hg
    subst hP hw hK
    obtain ⟨f0, f1, f2, f3, f4, f5⟩ := hf it (by simp)
    have W := Walks.range (prog := X.prog) (w := X.w) (I.ok.hd hc) it lo 1 n
    refine W.item i s _ _ hg st fun v h' tk hv st' kk => ?_
    obtain ⟨t, rfl⟩ := hv
    have I1 : Inv X pins σ H { s with heap := h', toks := tk } := I.turned (fun b o hb e => kk b o (by simpa using hb) e) f0 f1 f3 f4 f5
    refine ⟨_, rfl, go_of (s := { s with heap := h', toks := tk }) (n := "range_iterator") st' rfl rfl (by decide) ⟨.int (lo + i), H, I1, ⟨t, ?_⟩, ⟨rfl, rfl⟩, st', fun b hb => (hf b hb).1⟩⟩
    rw [Int.mul_one]
  done := by
    intro X hP hw hK hc i pins s σ H E I hf st hg
    subst hP hw hK
    obtain ⟨f0, f1, f2, f3, f4, f5⟩ := hf it (by simp)
    exact wpAny_pyNext_range_end (I.ok.hd hc) st (by have : n ≤ i := hg; omega) fun h' eb => ⟨rfl, I.turned (t' := s.toks) (fun b o hb e => eb b o hb e) f0 f1 f3 f4 f5⟩
  self := fun _ _ _ _ _ st h => wpAny_pyIter_rangeiter st h
end L2

namespace L2
open PySem PySem.Spec PyProof.Rows
section
variable {X : Cx} {tg : Expr}
noncomputable def iList (K : PySem.W.Frag) (tl : TE) : TI := fun σ H R => tl σ H fun x H1 => ∃ a, x = .ref a ∧ (∃ xs, SqL K H1 a xs) ∧ R (Itl K a) H1
theorem pi_list {l : Expr} {tl : TE} (hl : PE X l tl) : PI X tg l (iList X.K tl) := by
  intro pins s σ H R I h
  refine thn (hl pins s σ H _ I h) fun v s1 zz9 => ?_
  obtain ⟨x, H1, I1, r1, q1⟩ := zz9
  obtain ⟨a, e, ⟨xs, hq⟩, q⟩ := q1
  subst e
  cases r1
  obtain ⟨its, rv, p, hz⟩ := I1.list hq
  refine wpAny_pyIter_list p.isList ?_
  refine ⟨s1.heap.objs.size, [s1.heap.objs.size], _, _, H1, rfl, I1.kept (t' := s1.toks) fun b o e => Heap.get?_push_of_some _ e, turn_list a _, ⟨_, Heap.get?_push_size _ rfl, rfl, rfl⟩, fun b hb => ?_, q⟩
  have e : b = s1.heap.objs.size := by simpa using hb
  subst e
  exact I1.fpOk (Nat.le_refl _) (I1.hok.fresh (Nat.le_refl _))
theorem range_it {pins : List (Addr × Obj)} {σ : St} {H : Hp} {s : Shared} {R : It → Hp → Prop} {E : Value → Shared → Prop} {lo hi : Int} {t u v : Tok} {tk : Nat} (I : Inv X pins σ H s) (h1 : -(2 ^ 62) ≤ lo) (h2 : lo < 2 ^ 62) (h3 : -(2 ^ 62) ≤ hi) (h4 : hi < 2 ^ 62)
    (q : R (Itr lo (hi - lo).toNat) H) : wpAny (model X.prog X.w) X.A (pyIter (.ref s.heap.objs.size)) (PIE X pins σ tg R) E { s with heap := s.heap.push { cls := .type "range", data := .fields #[.int lo t, .int hi u, .int 1 v] }, toks := tk } := by
  refine wpAny_pyIter_range (IsRange.new ..) (small_one h1 h2 h3 h4) ?_
  have I1 : Inv X pins σ H { s with heap := s.heap.push { cls := .type "range", data := .fields #[.int lo t, .int hi u, .int 1 v] }, toks := tk } := I.kept fun b o e => Heap.get?_push_of_some _ e
  refine ⟨(s.heap.push { cls := .type "range", data := .fields #[.int lo t, .int hi u, .int 1 v] }).objs.size, [(s.heap.push { cls := .type "range", data := .fields #[.int lo t, .int hi u, .int 1 v] }).objs.size], _, _, H, rfl,
    I1.kept (t' := tk) fun b o e => Heap.get?_push_of_some _ e, turn_range _ lo (hi - lo).toNat, ?_, fun b hb => ?_, q⟩
  · have e1 : lo + ((0 : Nat) : Int) * 1 = lo := by simp
    have e2 : (((hi - lo).toNat : Nat) : Int) - ((0 : Nat) : Int) = Builtin.Range.rangeSize lo hi 1 := by rw [rangeSize_one]; split <;> omega
    show IsRangeIter _ _ (lo + ((0 : Nat) : Int) * 1) ((((hi - lo).toNat : Nat) : Int) - ((0 : Nat) : Int)) 1
    rw [e1, e2]
    exact Heap.get?_push_size _ rfl
  · have e : b = (s.heap.push { cls := .type "range", data := .fields #[.int lo t, .int hi u, .int 1 v] }).objs.size := by simpa using hb
    subst e
    exact I1.fpOk (Nat.le_refl _) (I1.hok.fresh (Nat.le_refl _))
noncomputable def iRng2 (ta : TA) : TI := fun σ H R => ta σ H fun vs H1 => ∃ i j : Int, vs = [.int i, .int j] ∧ (-(2 ^ 62) ≤ i ∧ i < 2 ^ 62 ∧ -(2 ^ 62) ≤ j ∧ j < 2 ^ 62) ∧ R (Itr i (j - i).toNat) H1
theorem pi_range2 {a b : Expr} {ta : TA} {p pos : Pos} (hg : Gl X "range") (hm : X.mg "range" = none) (ha : PA X [a, b] ta) (hs : starEach [a, b] X.env = [(false, eval a X.env), (false, eval b X.env)] := by rfl) (hs2 : starEach [b] X.env = [(false, eval b X.env)] := by rfl) :
    PI X tg (.Call (.Name "range" p) [a, b] [] pos) (iRng2 ta) := by
  intro pins s σ H R I h
  refine Call_ (ld_blt I hg hm boot_range (PyProof.Rows.callWith_type1 (thn (ha pos pins s σ H _ I h) fun us s1 ⟨vs, H1, I1, r1, q1⟩ => ?_) (by rw [hs, hs2]) (by rw [hs2]; rfl)))
  obtain ⟨i, j, e, ⟨q1, q2, q3, q4⟩, q⟩ := q1
  subst e
  cases r1 with
  | cons r rr =>
    cases rr with
    | cons r' rr =>
      cases rr
      obtain ⟨t, rfl⟩ := r
      obtain ⟨t', rfl⟩ := r'
      exact call_range_2 (range_it I1 q1 q2 q3 q4 q)


noncomputable def tFor (wi : TI) (g : TG) (tb : TS) : TS := fun D σ H => wi σ H fun J H1 => ∃ W : Nat → Nat → St → Hp → Prop, (∃ m, W 0 m σ H1) ∧ ∀ i m σ H, W i m σ H →
  (J.stop i H ∧ D.nx σ H) ∨ (J.go i H ∧ ∃ N : St → Hp → Prop, (∀ σ' H', N σ' H' → ∃ m', m' < m ∧ W (i + 1) m' σ' H') ∧ ∀ x H', J.yld i H x H' → g x σ H' fun σ2 H2 => tb { D with nx := N, ct := N, bk := D.nx } σ2 H2)
noncomputable def pinsAt (fp : List Addr) (h : Heap) : List (Addr × Obj) := fp.filterMap fun b => (h.get? b).map fun o => (b, o)
theorem mem_pinsAt {fp : List Addr} {h : Heap} {b : Addr} {o : Obj} (hb : b ∈ fp) (e : h.get? b = some o) : (b, o) ∈ pinsAt fp h := List.mem_filterMap.mpr ⟨b, hb, by rw [e]; rfl⟩
theorem of_pinsAt {fp : List Addr} {h : Heap} {p : Addr × Obj} (hp : p ∈ pinsAt fp h) : p.1 ∈ fp ∧ h.get? p.1 = some p.2 := by
  obtain ⟨b, hb, e⟩ := List.mem_filterMap.mp hp
  cases q : h.get? b with
  | none => rw [q] at e; cases e
  | some o =>
    rw [q] at e
    have e' : (b, o) = p := Option.some.inj e
    subst e'
    exact ⟨hb, q⟩
theorem Inv.pinned {pins : List (Addr × Obj)} {σ : St} {H : Hp} {s : Shared} {fp : List Addr} (I : Inv X pins σ H s) (hf : ∀ b ∈ fp, FpOk X pins H b) (ho : ∀ b ∈ fp, ∃ o, s.heap.get? b = some o ∧ ∀ v, o.data ≠ .cell v) : Inv X (pins ++ pinsAt fp s.heap) σ H s :=
  I.pins_of fun p hp => (List.mem_append.mp hp).elim (fun z => I.pin p (List.mem_append_right _ z)) fun z => by
    obtain ⟨hb, e⟩ := of_pinsAt z
    obtain ⟨f0, f1, f2, _⟩ := hf p.1 hb
    obtain ⟨o, e', d⟩ := ho p.1 hb
    rw [e] at e'; cases e'
    exact ⟨e, f0, f1, f2, d⟩
theorem Inv.unpinned {pins pl : List (Addr × Obj)} {σ : St} {H : Hp} {s : Shared} (I : Inv X (pins ++ pl) σ H s) : Inv X pins σ H s := I.pins_of fun p hp => I.pin p (List.mem_append_right _ (List.mem_append_left _ hp))
theorem ps_for {iter : Expr} {body : List Stmt} {wi : TI} {g : TG} {tb : TS} {pos : Pos} (hp : PassesOwn (model X.prog X.w) X.A X.env X.xe) (hc : X.calm = true) (hi : PI X tg iter wi) (hg : PG X tg g) (hb : PSs X body tb)
    (hs : ∀ x, foldedSetIterable iter X.env x = pure x := by intro _; rfl) : PS X (.For tg iter body [] pos) (tFor wi g tb) := by
  intro pins s σ H D I h
  refine wpAny_For (thn (hi pins s σ H _ I h) fun v s1 h1 => thn h1 fun itv s2 h2 => ?_) hs
  obtain ⟨it, fp, tn, J, H2, e, I2, T, st2, f2, W, ⟨m0, w0⟩, turn⟩ := h2
  subst e
  -- what stays true of the iterator's objects through the loop
  have stat : ∀ {H' : Hp}, (∀ b ∈ fp, H' b = none) → ∀ b ∈ fp, FpOk X pins H' b := fun hn b hb => ⟨hn b hb, (f2 b hb).2⟩
  refine codeAny_forLoop_any (fun n s' => ∃ i σ' H', Inv X pins σ' H' s' ∧ tn i s'.heap ∧ (∀ b ∈ fp, H' b = none) ∧ W i n σ' H') ?_ m0 ⟨0, σ, H2, I2, st2, fun b hb => (f2 b hb).1, w0⟩
  rintro n s3 ⟨i, σ3, H3, I3, st3, fr3, w3⟩
  rcases turn i n σ3 H3 w3 with ⟨stop, qn⟩ | ⟨go, N, hN, step⟩
  · refine wpAny_passesOwn hp (thn (T.done X rfl rfl rfl hc i pins s3 σ3 H3 X.xe I3 (stat fr3) st3 stop) fun r s4 zz9 => ?_)
    obtain ⟨hr, I4⟩ := zz9
    subst hr
    exact wpAny_execs_nil ⟨σ3, H3, I4, qn⟩
  · refine wpAny_passesOwn hp (thn (T.item X rfl rfl rfl hc i pins s3 σ3 H3 X.xe I3 (stat fr3) st3 go) fun r s4 zz9 => ?_)
    obtain ⟨u, hr, h4⟩ := zz9
    subst hr
    refine wpAny_passesOwn hp (thn h4 fun _ s5 zz9 => ?_)
    obtain ⟨x, H5, I5, r5, y5, st5, fr5⟩ := zz9
    have I5' := I5.pinned (stat fr5) (T.obj _ _ st5)
    refine wpAny_passesOwn hp (thn (hg _ s5 σ3 H5 x u _ I5' r5 (step x H5 y5)) fun _ s6 zz9 => ?_)
    obtain ⟨σ6, H6, I6, q6⟩ := zz9
    refine wpAny_passesOwn hp (thn (hb _ s6 σ6 H6 _ I6 q6) fun f s7 q7 => ?_)
    have again : ∀ {σ7 : St} {H7 : Hp}, Inv X (pins ++ pinsAt fp s5.heap) σ7 H7 s7 → N σ7 H7 → ∃ m, m < n ∧ ∃ i σ' H', Inv X pins σ' H' s7 ∧ tn i s7.heap ∧ (∀ b ∈ fp, H' b = none) ∧ W i m σ' H' := fun {σ7 H7} I7 n7 => by
      obtain ⟨m', hm, w7⟩ := hN σ7 H7 n7
      refine ⟨m', hm, i + 1, σ7, H7, I7.unpinned, T.keep _ _ _ st5 fun b hb o e => (I7.pin (b, o) (List.mem_append_right _ (List.mem_append_right _ (mem_pinsAt hb e)))).1, fun b hb => ?_, w7⟩
      obtain ⟨o, e, d⟩ := T.obj _ _ st5 b hb
      exact (I7.pin (b, o) (List.mem_append_right _ (List.mem_append_right _ (mem_pinsAt hb e)))).2.1
    cases f with
    | next => obtain ⟨σ7, H7, I7, n7⟩ := q7; exact again I7 n7
    | cont => obtain ⟨σ7, H7, I7, n7⟩ := q7; exact again I7 n7
    | brk => obtain ⟨σ7, H7, I7, q7⟩ := q7; exact ⟨σ7, H7, I7.unpinned, q7⟩
    | ret v => obtain ⟨x7, σ7, H7, I7, r7, q7⟩ := q7; exact ⟨x7, σ7, H7, I7.unpinned, r7, q7⟩
end


end L2

namespace L2
open PySem PySem.Spec PyProof.Rows

noncomputable abbrev R2 := V → V → Hp → VK → Prop
noncomputable def OpR (X : Cx) (f : Value → Value → Sem Value) (r : R2) : Prop :=
  ∀ (pins : List (Addr × Obj)) (s : Shared) (σ : St) (H : Hp) (x y : V) (v u : Value) (Q : VK), Inv X pins σ H s → RelV x v → RelV y u → r x y H Q →
    wpAny (model X.prog X.w) X.A (f v u) (EP X pins σ Q) X.xe s
noncomputable def UnR (X : Cx) (f : Value → Sem Value) (r : V → Hp → VK → Prop) : Prop :=
  ∀ (pins : List (Addr × Obj)) (s : Shared) (σ : St) (H : Hp) (x : V) (v : Value) (Q : VK), Inv X pins σ H s → RelV x v → r x H Q →
    wpAny (model X.prog X.w) X.A (f v) (EP X pins σ Q) X.xe s
noncomputable def CallR (X : Cx) (f : Value) (r : List V → Hp → VK → Prop) : Prop :=
  ∀ (pins : List (Addr × Obj)) (s : Shared) (σ : St) (H : Hp) (xs : List V) (us : List Value) (Q : VK), Inv X pins σ H s → Vals xs us → r xs H Q →
    wpAny (model X.prog X.w) X.A (call f us) (EP X pins σ Q) X.xe s
noncomputable def tOp (r : R2) (ta tb : TE) : TE := fun σ H Q => ta σ H fun x H1 => tb σ H1 fun y H2 => r x y H2 Q
noncomputable def tUn (r : V → Hp → VK → Prop) (ta : TE) : TE := fun σ H Q => ta σ H fun x H1 => r x H1 Q
noncomputable def rI (C : Int → Int → Prop) (g : Int → Int → V) : R2 := fun x y H Q => ∃ i j, x = .int i ∧ y = .int j ∧ C i j ∧ Q (g i j) H
noncomputable def rI0 (g : Int → Int → V) : R2 := fun x y H Q => ∃ i j, x = .int i ∧ y = .int j ∧ Q (g i j) H
noncomputable def rU (g : Int → V) : V → Hp → VK → Prop := fun x H Q => ∃ i, x = .int i ∧ Q (g i) H

section
variable {X : Cx} {a b c : Expr} {ta tb tc : TE} {pos : Pos}

theorem binT (ha : PE X a ta) (hb : PE X b tb) {pins : List (Addr × Obj)} {s : Shared} {σ : St} {H : Hp} {R : V → V → Hp → Prop} (I : Inv X pins σ H s)
    (h : ta σ H fun x H1 => tb σ H1 fun y H2 => R x y H2) {Q : Value → Shared → Prop} {f : Value → Value → Sem Value}
    (hf : ∀ v u s2 x y H2, Inv X pins σ H2 s2 → RelV x v → RelV y u → R x y H2 → wpAny (model X.prog X.w) X.A (f v u) Q X.xe s2) :
    wpAny (model X.prog X.w) X.A (eval a X.env) (fun v s₁ => wpAny (model X.prog X.w) X.A (eval b X.env) (fun u s₂ => wpAny (model X.prog X.w) X.A (f v u) Q X.xe s₂) X.xe s₁) X.xe s := by
  refine thn (ha pins s σ H _ I h) fun v s1 zz9 => ?_
  obtain ⟨x, H1, I1, r1, q1⟩ := zz9
  refine thn (hb pins s1 σ H1 _ I1 q1) fun u s2 zz9 => ?_
  obtain ⟨y, H2, I2, r2, q2⟩ := zz9
  exact hf v u s2 x y H2 I2 r1 r2 q2

theorem pe_op {op : Operator} {r : R2} (ho : OpR X (binaryOp op) r) (ha : PE X a ta) (hb : PE X b tb) : PE X (.BinOp a op b pos) (tOp r ta tb) := by
  intro pins s σ H Q I h
  exact wpAny_BinOp (binT ha hb I h fun v u s2 x y H2 I2 rx ry q => ho pins s2 σ H2 x y v u Q I2 rx ry q)
theorem pe_un {op : UnaryOp} {r : V → Hp → VK → Prop} (ho : UnR X (unaryOp op) r) (ha : PE X a ta) : PE X (.UnaryOp op a pos) (tUn r ta) := by
  intro pins s σ H Q I h
  exact UnaryOp_ (thn (ha pins s σ H _ I h) fun v s1 ⟨x, H1, I1, r1, q1⟩ => ho pins s1 σ H1 x v Q I1 r1 q1)

theorem opI {f : Value → Value → Sem Value} {C : Int → Int → Prop} {g : Int → Int → Int}
    (rule : ∀ (i j : Int) (t u : Tok) (s : Shared) (Q : Value → Shared → Prop) (E : Value → Shared → Prop), C i j → Q (.int (g i j) s.toks) { s with toks := s.toks + 1 } → wpAny (model X.prog X.w) X.A (f (.int i t) (.int j u)) Q E s) :
    OpR X f (rI C fun i j => .int (g i j)) := by
  intro pins s σ H x y v u Q I rx ry h
  obtain ⟨i, j, rfl, rfl, hc, q⟩ := h
  obtain ⟨t, rfl⟩ := rx
  obtain ⟨t', rfl⟩ := ry
  exact rule i j t t' s _ _ hc ⟨.int (g i j), H, I.tok _, ⟨_, rfl⟩, q⟩
theorem opI0 {f : Value → Value → Sem Value} {g : Int → Int → Int}
    (rule : ∀ (i j : Int) (t u : Tok) (s : Shared) (Q : Value → Shared → Prop) (E : Value → Shared → Prop), Q (.int (g i j) s.toks) { s with toks := s.toks + 1 } → wpAny (model X.prog X.w) X.A (f (.int i t) (.int j u)) Q E s) :
    OpR X f (rI0 fun i j => .int (g i j)) := by
  intro pins s σ H x y v u Q I rx ry h
  obtain ⟨i, j, rfl, rfl, q⟩ := h
  obtain ⟨t, rfl⟩ := rx
  obtain ⟨t', rfl⟩ := ry
  exact rule i j t t' s _ _ ⟨.int (g i j), H, I.tok _, ⟨_, rfl⟩, q⟩
theorem opB0 {f : Value → Value → Sem Value} {g : Int → Int → Bool}
    (rule : ∀ (i j : Int) (t u : Tok) (s : Shared) (Q : Value → Shared → Prop) (E : Value → Shared → Prop), Q (.bool (g i j)) s → wpAny (model X.prog X.w) X.A (f (.int i t) (.int j u)) Q E s) :
    OpR X f (rI0 fun i j => .bl (g i j)) := by
  intro pins s σ H x y v u Q I rx ry h
  obtain ⟨i, j, rfl, rfl, q⟩ := h
  obtain ⟨t, rfl⟩ := rx
  obtain ⟨t', rfl⟩ := ry
  exact rule i j t t' s _ _ ⟨.bl (g i j), H, I, rfl, q⟩

noncomputable def CDiv (i j : Int) : Prop := 0 < j ∧ j < 1073741824
noncomputable def CPow (i j : Int) : Prop := 0 ≤ j ∧ j ≤ 1000000 ∧ i.natAbs < 2 ^ 64
noncomputable def CMul (i j : Int) : Prop := (-(2 ^ 64) < i ∧ i < 2 ^ 64) ∨ (-(2 ^ 64) < j ∧ j < 2 ^ 64)
theorem CMul.ok {i j : Int} (h : CMul i j) : IntMulOk i j := by
  rcases h with ⟨h1, h2⟩ | ⟨h1, h2⟩
  · exact .of_left (intBits_le_64 h1 h2)
  · exact .of_right (intBits_le_64 h1 h2)
theorem op_add : OpR X (binaryOp .Add) (rI0 fun i j => .int (i + j)) := opI0 fun _ _ _ _ _ _ _ q => add_int q
theorem op_sub : OpR X (binaryOp .Sub) (rI0 fun i j => .int (i - j)) := opI0 fun _ _ _ _ _ _ _ q => sub_int q
theorem op_fdiv : OpR X (binaryOp .FloorDiv) (rI CDiv fun i j => .int (i / j)) := opI fun i j _ _ _ _ _ hc q => by
  have h1 : (0 : Int) < j := hc.1
  have h2 : j < 1073741824 := hc.2
  exact floordiv_int (by omega) (by rw [Int.fdiv_eq_ediv_of_nonneg i (by omega)]; exact q) (.inl (PyProof.noPylong_small (by omega)))
theorem op_mod : OpR X (binaryOp .Mod) (rI (fun _ j => 0 < j) fun i j => .int (i % j)) := opI fun i j _ _ _ _ _ hc q => by
  have h1 : (0 : Int) < j := hc
  exact mod_int' (by omega) (by rw [Int.fmod_eq_emod_of_nonneg i (by omega)]; exact q)
theorem op_pow : OpR X (binaryOp .Pow) (rI CPow fun i j => .int (i ^ j.toNat)) := opI fun _ _ _ _ _ _ _ hc q => pow_int_small hc.1 hc.2.1 hc.2.2 q
theorem unI {f : Value → Sem Value} {g : Int → Int}
    (rule : ∀ (i : Int) (t : Tok) (s : Shared) (Q : Value → Shared → Prop) (E : Value → Shared → Prop), Q (.int (g i) s.toks) { s with toks := s.toks + 1 } → wpAny (model X.prog X.w) X.A (f (.int i t)) Q E s) :
    UnR X f (rU fun i => .int (g i)) := by
  intro pins s σ H x v Q I rx h
  obtain ⟨i, rfl, q⟩ := h
  obtain ⟨t, rfl⟩ := rx
  exact rule i t s _ _ ⟨.int (g i), H, I.tok _, ⟨_, rfl⟩, q⟩
theorem un_neg : UnR X (unaryOp .USub) (rU fun i => .int (-i)) := unI fun _ _ _ _ _ q => neg_int q

end


noncomputable def scal : V → V → Bool
  | .non, .non => true | .non, .int _ => true | .int _, .non => true | .non, .bl _ => true | .bl _, .non => true | .non, .str _ => true | .str _, .non => true
  | .int _, .int _ => true | .bl _, .bl _ => true | .str _, .str _ => true | .byt _, .byt _ => true
  | .int _, .str _ => true | .str _, .int _ => true | .bl _, .str _ => true | .str _, .bl _ => true
  | _, _ => false
noncomputable def rEq : R2 := fun x y H Q => scal x y = true ∧ Q (.bl (decide (x = y))) H
noncomputable def rNe : R2 := fun x y H Q => scal x y = true ∧ Q (.bl (!decide (x = y))) H

theorem dec_int {i j : Int} : decide (V.int i = V.int j) = (i == j) := by
  rw [Bool.eq_iff_iff]
  simp
theorem dec_bl {i j : Bool} : decide (V.bl i = V.bl j) = (i == j) := by
  rw [Bool.eq_iff_iff]
  simp
theorem dec_str {i j : Str} : decide (V.str i = V.str j) = (i == j) := by
  rw [Bool.eq_iff_iff]
  simp
theorem dec_byt {i j : Array UInt8} : decide (V.byt i = V.byt j) = (i.toList == j.toList) := by
  rw [Bool.eq_iff_iff]
  cases i
  cases j
  simp

section
variable {X : Cx} {a b c : Expr} {ta tb tc : TE} {pos : Pos}
theorem fin_bl {pins : List (Addr × Obj)} {σ : St} {H : Hp} {s : Shared} {Q : VK} {k k' : Bool} (I : Inv X pins σ H s) (q : Q (.bl k) H) (e : k = k') : EP X pins σ Q (.bool k') s := by
  subst e
  exact ⟨.bl k, H, I, rfl, q⟩
theorem op_eq : OpR X (compareOp .Eq) rEq := by
  intro pins s σ H x y v u Q I rx ry h
  obtain ⟨hs, q⟩ := h
  cases x with
  | non =>
    cases rx
    cases y with
    | non => cases ry; exact PySem.EqNone.eq_none_none (fin_bl I q (by simp))
    | bl j => cases ry; exact PySem.EqNone.eq_none_bool (fin_bl I q (by simp))
    | int j => obtain ⟨t', rfl⟩ := ry; exact PySem.EqNone.eq_none_int (fin_bl I q (by simp))
    | str j => obtain ⟨t', rfl⟩ := ry; exact PySem.EqNone.eq_none_str (fin_bl I q (by simp))
    | _ => exact absurd (show false = true from hs) Bool.false_ne_true
  | bl i =>
    cases rx
    cases y with
    | non => cases ry; exact PySem.EqNone.eq_bool_none (fin_bl I q (by simp))
    | bl j => cases ry; exact eq_bool (fin_bl I q dec_bl)
    | str j => obtain ⟨t', rfl⟩ := ry; exact PySem.EqMixed.eq_bool_str (fin_bl I q (by simp))
    | _ => exact absurd (show false = true from hs) Bool.false_ne_true
  | int i =>
    obtain ⟨t, rfl⟩ := rx
    cases y with
    | non => cases ry; exact PySem.EqNone.eq_int_none (fin_bl I q (by simp))
    | int j => obtain ⟨t', rfl⟩ := ry; exact eq_int (fin_bl I q dec_int)
    | str j => obtain ⟨t', rfl⟩ := ry; exact PySem.EqMixed.eq_int_str (fin_bl I q (by simp))
    | _ => exact absurd (show false = true from hs) Bool.false_ne_true
  | str i =>
    obtain ⟨t, rfl⟩ := rx
    cases y with
    | non => cases ry; exact PySem.EqNone.eq_str_none (fin_bl I q (by simp))
    | bl j => cases ry; exact PySem.EqMixed.eq_str_bool (fin_bl I q (by simp))
    | int j => obtain ⟨t', rfl⟩ := ry; exact PySem.EqMixed.eq_str_int (fin_bl I q (by simp))
    | str j => obtain ⟨t', rfl⟩ := ry; exact eq_str (fin_bl I q dec_str)
    | _ => exact absurd (show false = true from hs) Bool.false_ne_true
  | byt i =>
    obtain ⟨t, rfl⟩ := rx
    cases y with
    | byt j => obtain ⟨t', rfl⟩ := ry; exact PySem.W.eq_bytes (fin_bl I q dec_byt)
    | _ => exact absurd (show false = true from hs) Bool.false_ne_true
  | _ => cases y <;> exact absurd (show false = true from hs) Bool.false_ne_true
theorem op_ne : OpR X (compareOp .NotEq) rNe := by
  intro pins s σ H x y v u Q I rx ry h
  obtain ⟨hs, q⟩ := h
  cases x with
  | non =>
    cases rx
    cases y with
    | non => cases ry; exact PySem.EqNone.ne_none_none (fin_bl I q (by simp))
    | bl j => cases ry; exact PySem.EqNone.ne_none_bool (fin_bl I q (by simp))
    | int j => obtain ⟨t', rfl⟩ := ry; exact PySem.EqNone.ne_none_int (fin_bl I q (by simp))
    | str j => obtain ⟨t', rfl⟩ := ry; exact PySem.EqNone.ne_none_str (fin_bl I q (by simp))
    | _ => exact absurd (show false = true from hs) Bool.false_ne_true
  | bl i =>
    cases rx
    cases y with
    | non => cases ry; exact PySem.EqNone.ne_bool_none (fin_bl I q (by simp))
    | bl j => cases ry; exact ne_bool (fin_bl I q (congrArg not dec_bl))
    | str j => obtain ⟨t', rfl⟩ := ry; exact PySem.EqMixed.ne_bool_str (fin_bl I q (by simp))
    | _ => exact absurd (show false = true from hs) Bool.false_ne_true
  | int i =>
    obtain ⟨t, rfl⟩ := rx
    cases y with
    | non => cases ry; exact PySem.EqNone.ne_int_none (fin_bl I q (by simp))
    | int j => obtain ⟨t', rfl⟩ := ry; exact ne_int (fin_bl I q (congrArg not dec_int))
    | str j => obtain ⟨t', rfl⟩ := ry; exact PySem.EqMixed.ne_int_str (fin_bl I q (by simp))
    | _ => exact absurd (show false = true from hs) Bool.false_ne_true
  | str i =>
    obtain ⟨t, rfl⟩ := rx
    cases y with
    | non => cases ry; exact PySem.EqNone.ne_str_none (fin_bl I q (by simp))
    | bl j => cases ry; exact PySem.EqMixed.ne_str_bool (fin_bl I q (by simp))
    | int j => obtain ⟨t', rfl⟩ := ry; exact PySem.EqMixed.ne_str_int (fin_bl I q (by simp))
    | str j => obtain ⟨t', rfl⟩ := ry; exact ne_str (fin_bl I q (congrArg not dec_str))
    | _ => exact absurd (show false = true from hs) Bool.false_ne_true
  | byt i =>
    obtain ⟨t, rfl⟩ := rx
    cases y with
    | byt j => obtain ⟨t', rfl⟩ := ry; exact PySem.W.ne_bytes (fin_bl I q (congrArg not dec_byt))
    | _ => exact absurd (show false = true from hs) Bool.false_ne_true
  | _ => cases y <;> exact absurd (show false = true from hs) Bool.false_ne_true

theorem op_lt : OpR X (compareOp .Lt) (rI0 fun i j => .bl (decide (i < j))) := opB0 fun _ _ _ _ _ _ _ q => lt_int q
theorem op_gt : OpR X (compareOp .Gt) (rI0 fun i j => .bl (decide (j < i))) := opB0 fun _ _ _ _ _ _ _ q => gt_int q
theorem op_ge : OpR X (compareOp .GtE) (rI0 fun i j => .bl (decide (j ≤ i))) := opB0 fun _ _ _ _ _ _ _ q => ge_int q
theorem op_in_str : OpR X (compareOp .In) (fun x y H Q => ∃ i j, x = .str i ∧ y = .str j ∧ Q (.bl (!(Builtin.Str.occurrences j i 0 j.length 1).isEmpty)) H) := by
  intro pins s σ H x y v u Q I rx ry h
  obtain ⟨i, j, rfl, rfl, q⟩ := h
  obtain ⟨t, rfl⟩ := rx
  obtain ⟨t', rfl⟩ := ry
  exact in_str (fin_bl I q rfl)

theorem op_isN : OpR X (compareOp .Is) (fun x y H Q => y = .non ∧ Q (.bl (decide (x = .non))) H) := by
  intro pins s σ H x y v u Q I rx ry h
  obtain ⟨rfl, q⟩ := h
  cases ry
  refine is_none_gen (fin_bl I q ?_)
  cases x <;> first
    | (cases rx; rfl)
    | (obtain ⟨t, rfl⟩ := rx; rfl)
theorem op_notN : OpR X (compareOp .IsNot) (fun x y H Q => y = .non ∧ Q (.bl (!decide (x = .non))) H) := by
  intro pins s σ H x y v u Q I rx ry h
  obtain ⟨rfl, q⟩ := h
  cases ry
  refine isnot_none_gen (fin_bl I q ?_)
  cases x <;> first
    | (cases rx; rfl)
    | (obtain ⟨t, rfl⟩ := rx; rfl)

theorem op_notin_str : OpR X (compareOp .NotIn) (fun x y H Q => ∃ i j, x = .str i ∧ y = .str j ∧ Q (.bl (!(!(Builtin.Str.occurrences j i 0 j.length 1).isEmpty))) H) := by
  intro pins s σ H x y v u Q I rx ry h
  obtain ⟨i, j, rfl, rfl, q⟩ := h
  obtain ⟨t, rfl⟩ := rx
  obtain ⟨t', rfl⟩ := ry
  exact notIn_str (fin_bl I q rfl)
theorem OpR.or {f : Value → Value → Sem Value} {r r' : R2} (h : OpR X f r) (h' : OpR X f r') : OpR X f (fun x y H Q => r x y H Q ∨ r' x y H Q) := by
  intro pins s σ H x y v u Q I rx ry q
  rcases q with q | q
  · exact h pins s σ H x y v u Q I rx ry q
  · exact h' pins s σ H x y v u Q I rx ry q

theorem nomark (b : Expr) {op : CmpOp} (h : op ≠ .In := by decide) (h2 : op ≠ .NotIn := by decide) : behindInMarks op b = false := by
  have e1 : (op == CmpOp.In) = false := by cases op <;> first | rfl | exact absurd rfl h
  have e2 : (op == CmpOp.NotIn) = false := by cases op <;> first | rfl | exact absurd rfl h2
  cases b <;> simp [behindInMarks, e1, e2]
theorem pe_cmpR {op : CmpOp} {r : R2} (ho : OpR X (compareOp op) r) (ha : PE X a ta) (hb : PE X b tb) (hm : behindInMarks op b = false) : PE X (.Compare a [op] [b] pos) (tOp r ta tb) := by
  intro pins s σ H Q I h
  exact wpAny_Compare1 (binT ha hb I h fun v u s2 x y H2 I2 rx ry q => ho pins s2 σ H2 x y v u Q I2 rx ry q) hm
noncomputable def tTest (t : TE) : TT := fun σ H Q => t σ H fun x H' => ∃ k, x = .bl k ∧ Q k H'
theorem pt_cmpR {op : CmpOp} {r : R2} (ho : OpR X (compareOp op) r) (ha : PE X a ta) (hb : PE X b tb) (hm : behindInMarks op b = false) : PT X (.Compare a [op] [b] pos) (tTest (tOp r ta tb)) := by
  intro pins s σ H Q I h
  refine wpAny_isTrue_Compare1 (thn (ha pins s σ H _ I h) fun v s1 ⟨x, H1, I1, r1, q1⟩ => thn (hb pins s1 σ H1 _ I1 q1) fun u s2 ⟨y, H2, I2, r2, q2⟩ =>
    thn (ho pins s2 σ H2 x y v u _ I2 r1 r2 q2) fun c s3 ⟨z, H3, I3, r3, k, e, q3⟩ => ?_) hm
  subst e
  cases r3
  exact wpAny_truthy_bool ⟨H3, I3, q3⟩

theorem line63 : (sizeLine : Nat) < 2 ^ 63 := by rw [sizeLine_eq]; decide

theorem op_add_str : OpR X (binaryOp .Add) (fun x y H Q => ∃ i j, x = .str i ∧ y = .str j ∧ i.length + j.length ≤ sizeLine ∧ Q (.str (i ++ j)) H) := by
  intro pins s σ H x y v u Q I rx ry h
  obtain ⟨i, j, rfl, rfl, hz, q⟩ := h
  obtain ⟨t, rfl⟩ := rx
  obtain ⟨t', rfl⟩ := ry
  exact add_str (fun t' tk => ⟨.str (i ++ j), H, I.tok _, ⟨_, rfl⟩, q⟩) hz

theorem vals1 {x : V} {us : List Value} (r : Vals [x] us) : ∃ u, us = [u] ∧ RelV x u := by
  cases r with
  | cons r1 r2 => cases r2; exact ⟨_, rfl, r1⟩
theorem vals2 {x y : V} {us : List Value} (r : Vals [x, y] us) : ∃ u w', us = [u, w'] ∧ RelV x u ∧ RelV y w' := by
  cases r with
  | cons r1 r2 =>
    cases r2 with
    | cons r3 r4 => cases r4; exact ⟨_, _, rfl, r1, r3⟩
theorem call_abs : CallR X (.builtin "abs") (fun xs H Q => ∃ i, xs = [.int i] ∧ Q (.int (if i < 0 then -i else i)) H) := by
  intro pins s σ H xs us Q I r h
  obtain ⟨i, rfl, q⟩ := h
  obtain ⟨u, rfl, t, rfl⟩ := vals1 r
  exact call_abs_int fun u tk => ⟨.int (if i < 0 then -i else i), H, I.tok _, ⟨_, rfl⟩, q⟩
theorem call_max2 (hc : X.calm = true) : CallR X (.builtin "max") (fun xs H Q => ∃ i j, xs = [.int i, .int j] ∧ Q (.int (if j > i then j else i)) H) := by
  intro pins s σ H xs us Q I r h
  obtain ⟨i, j, rfl, q⟩ := h
  obtain ⟨u, w', rfl, ⟨t, rfl⟩, ⟨t', rfl⟩⟩ := vals2 r
  refine max_two_ints (I.ok.hd hc) fun h' tk k => ⟨_, H, I.kept k, ?_, q⟩
  by_cases hj : j > i
  · rw [if_pos hj, if_pos hj]; exact ⟨_, rfl⟩
  · rw [if_neg hj, if_neg hj]; exact ⟨_, rfl⟩
noncomputable def LenV (K : PySem.W.Frag) (x : V) (H : Hp) (n : Nat) : Prop :=
  match x with
  | .str y => y.length ≤ sizeLine ∧ n = y.length
  | .byt y => y.size ≤ sizeLine ∧ n = y.size
  | .ref p => (∃ xs, SqL K H p xs ∧ n = xs.length) ∨ ∃ xs, SqT K H p xs ∧ n = xs.length
  | _ => False
theorem call_len : CallR X (.builtin "len") (fun xs H Q => ∃ x n, xs = [x] ∧ LenV X.K x H n ∧ Q (.int n) H) := by
  intro pins s σ H xs us Q I r h
  obtain ⟨x, n, rfl, e, q⟩ := h
  obtain ⟨u, rfl, rx⟩ := vals1 r
  have hl := line63
  have hs : sizeLine = 16777216 := sizeLine_eq
  cases x with
  | str y =>
    obtain ⟨t, rfl⟩ := rx
    obtain ⟨hy, e'⟩ : y.length ≤ sizeLine ∧ n = y.length := e
    subst e'
    exact len_str (by omega) ⟨.int _, H, I.tok _, ⟨_, rfl⟩, q⟩
  | byt y =>
    obtain ⟨t, rfl⟩ := rx
    obtain ⟨hy, e'⟩ : y.size ≤ sizeLine ∧ n = y.size := e
    subst e'
    exact PySem.W.len_bytes (by omega) ⟨.int _, H, I.tok _, ⟨_, rfl⟩, q⟩
  | ref p =>
    cases rx
    have e' : (∃ xs, SqL X.K H p xs ∧ n = xs.length) ∨ ∃ xs, SqT X.K H p xs ∧ n = xs.length := e
    rcases e' with ⟨xs, hx, e'⟩ | ⟨xs, hx, e'⟩
    · subst e'
      obtain ⟨its, r', pl, hz⟩ := I.list hx
      have hlen := r'.length
      exact Calls.call_len_list pl.isList (by simp only [List.size_toArray]; omega) ⟨.int xs.length, H, I.tok _, ⟨_, by simp only [List.size_toArray]; rw [hlen]⟩, q⟩
    · subst e'
      obtain ⟨its, r', pl, hz⟩ := I.tuple hx
      have hlen := r'.length
      exact len_tuple pl (by simp only [List.size_toArray]; omega) ⟨.int xs.length, H, I.tok _, ⟨_, by simp only [List.size_toArray]; rw [hlen]⟩, q⟩
  | _ => exact (show False from e).elim
end
end L2

namespace L2
open PySem PySem.Spec PyProof.Rows


structure ObjM (h : Heap) (x dx C : Addr) (mA : Str → Option Value) : Prop where
  obj : h.get? x = some (PySem.W.instObj C dx)
  ns : h.Ns1 dx mA
  ne : dx ≠ x

theorem lookIn_ns {h : Heap} {dx : Addr} {mA : Str → Option Value} (n : h.Ns1 dx mA) : ∃ od, h.get? dx = some od ∧ ∀ name, PySem.W.lookIn name od = some (mA name) := by
  obtain ⟨o, es, ep, ho, hd, hk, _, hm⟩ := n
  refine ⟨o, ho, fun name => ?_⟩
  have e := hm name
  unfold nsFind findBy at e
  rw [← Array.find?_toList] at e
  unfold PySem.W.lookIn
  rw [hd]
  dsimp only
  split
  · rename_i y q
    rw [q] at e
    exact congrArg some e
  · rename_i q
    rw [q] at e
    have a : es.toList.any (·.refKey) = false := by
      rw [List.any_eq_false]
      intro y hy
      obtain ⟨z, t, hkey⟩ := hk y (Array.mem_toList_iff.mp hy)
      simp [DictEntry.refKey, hkey]
    have a' : ¬ es.toList.any (·.refKey) = true := by rw [a]; exact Bool.false_ne_true
    rw [if_neg a']
    exact congrArg some e

theorem ObjM.look {h : Heap} {x dx C : Addr} {mA : Str → Option Value} (I : ObjM h x dx C mA) : ∃ od, PySem.W.InstAt h x (PySem.W.instObj C dx) C (some od) ∧ ∀ name, PySem.W.lookIn name od = some (mA name) :=
  let ⟨od, ho, hl⟩ := lookIn_ns I.ns
  ⟨od, ⟨I.obj, rfl, rfl, ho⟩, hl⟩

section
variable {prog : Program} {w : World} {A : Around} {E : Value → Shared → Prop} {s : Shared} {K : PySem.W.Frag} {x dx C f : Addr} {mA : Str → Option Value} {name : Str} {v : Value}

theorem get_map {expr : Bool} {Q : Value → Shared → Prop} (X : K.In s.heap) (I : ObjM s.heap x dx C mA) (hg : PySem.W.plainGet K C name = true) (hh : PySem.W.hasDictIn K C = true)
    (ha : PySem.W.findIn K (.ref C) name = some none) (hv : mA name = some v) (hv' : PySem.W.handedIn v = true) (h : Q v { s with toks := s.toks + 1 }) :
    wpAny (model prog w) A (getAttr (.ref x) name expr) Q E s := by
  obtain ⟨od, J, hl⟩ := I.look
  exact PySem.W.get_value X J (PySem.W.plainGet_of hg).1 (PySem.W.findObj_own hh ha rfl (by rw [hl, hv])) hv' h

theorem get_meth {pl : Sem Bool} {Q : Value × List Value → Shared → Prop} (X : K.In s.heap) (I : ObjM s.heap x dx C mA) (hg : PySem.W.plainGet K C name = true)
    (hf : PySem.W.findIn K (.ref C) name = some (some (.ref f))) (ht : PySem.W.isFn K (.ref f) = true) (hv : mA name = none) (h : Q (.ref f, [.ref x]) s) :
    wpAny (model prog w) A (getMethod (.ref x) name pl) Q E s := by
  obtain ⟨od, J, hl⟩ := I.look
  exact PySem.W.method_fn X J (PySem.W.plainGet_of hg).1 (PySem.W.plainGet_of hg).2 hf (beq_iff_eq.mp ht) (by show (PySem.W.lookIn name od).map (·.isSome) = some false; rw [hl, hv]; rfl) h

theorem set_map {ns : List Str} {Q : Unit → Shared → Prop} (X : K.In s.heap) (I : ObjM s.heap x dx C mA)
    (hs : PySem.W.findIn K (.ref C) "__setattr__" = some (some (.builtin "object.__setattr__"))) (hp : PySem.W.plainOver K C = true) (ht : PySem.W.takerIn K C name = some none) (hh : PySem.W.hasDictIn K C = true)
    (hw : PySem.Within mA ns) (hsz : ns.length ≤ sizeLine)
    (h : ∀ h', ObjM h' x dx C (fun y => if y = name then some v else mA y) → Heap.SameBut dx s.heap h' → Q () { s with heap := h', toks := s.toks + 2 }) :
    wpAny (model prog w) A (setAttr (.ref x) name v) Q E s := by
  obtain ⟨od, J, hl⟩ := I.look
  refine PySem.W.set_plain X J hs (PySem.W.osa_open (s := { s with toks := s.toks + 1 }) (r := none) X J hp ht fun b => ?_)
  obtain ⟨cd, hc, hd'⟩ := PySem.W.any_some hh
  have hx : s.heap.get? x = some ⟨.ref C, some dx, .plain, #[]⟩ := I.obj
  refine wpAny_bind (wpAny_pure (wpAny_bind (wpAny_bind (wpAny_loadPart hx (wpAny_bind (PySem.W.Looks.here (s := { s with toks := s.toks + 1 }) (PySem.W.looks_clsIn X hc) ?_))))))
  rw [hd']
  refine wpAny_pure (a := some dx) (wpAny_bind (wpAny_pure (wpAny_bind ?_)))
  refine wpAny_nsSet1 (s := { s with toks := s.toks + 1 }) I.ns fun h' hn2 hs2 => ?_
  obtain ⟨oD, esD, epD, hoD, hdD, hcD⟩ := hn2.count (PySem.Within.cons name v hw)
  refine wpAny_bind (wpAny_lookBehind hoD (by rw [hdD]; exact pastItsLine_dict (Nat.le_trans hcD (by rw [List.length_cons]; omega))) ?_)
  exact wpAny_pure (h _ ⟨(hs2.2 _ (Ne.symm I.ne)).trans I.obj, hn2, I.ne⟩ hs2)

theorem make_map {R : Result → Shared → Prop} {vs : List Value} {kw : List (Str × Value)} (X : K.In s.heap) (hm : PySem.W.makesIn K C = true)
    (hi : PySem.W.findIn K (.ref C) "__init__" = some (some (.ref f))) (hf : PySem.W.typeIn K (.ref f) = some (.type "function"))
    (h : codeAny (model prog w) (A.under (.builtin "type.__call__" ⟨.ref C :: vs, kw⟩)) (.call (.ref f) ⟨.ref (s.heap.objs.size + 1) :: vs, kw⟩) (PySem.W.InitBack (s.heap.objs.size + 1) R)
      { s with heap := (s.heap.push PySem.W.emptyDict).push (PySem.W.instObj C s.heap.objs.size) }) :
    codeAny (model prog w) A (.call (.ref C) ⟨vs, kw⟩) R s := by
  obtain ⟨hh, g, d, t, os⟩ := s
  exact PySem.W.make_core (PySem.W.makes_of X hm) (PySem.W.looks_findIn X hi) (fun self => PySem.W.bind_fn X self hf) (.inl rfl) h
end


noncomputable def putF (f : Str) (v : V) : List (Str × V) → List (Str × V)
  | [] => [(f, v)]
  | (g, x) :: r => if g = f then (g, v) :: r else (g, x) :: putF f v r
theorem lookup_putF (f g : Str) (v : V) : ∀ fs : List (Str × V), (putF f v fs).lookup g = if g = f then some v else fs.lookup g
  | [] => by
    show List.lookup g [(f, v)] = _
    by_cases h : g = f
    · have hb : (g == f) = true := beq_iff_eq.mpr h
      simp only [List.lookup, hb, if_pos h]
    · have hb : (g == f) = false := beq_eq_false_iff_ne.mpr h
      simp only [List.lookup, hb, if_neg h]
  | (k, x) :: r => by
    have ih := lookup_putF f g v r
    rw [show putF f v ((k, x) :: r) = (if k = f then (k, v) :: r else (k, x) :: putF f v r) from rfl]
    by_cases hk : k = f
    · rw [if_pos hk]
      by_cases h : g = k
      · have hb : (g == k) = true := beq_iff_eq.mpr h
        simp only [List.lookup, hb, if_pos (h.trans hk)]
      · have hb : (g == k) = false := beq_eq_false_iff_ne.mpr h
        simp only [List.lookup, hb, if_neg (fun e : g = f => h (e.trans hk.symm))]
    · rw [if_neg hk]
      by_cases h : g = k
      · have hb : (g == k) = true := beq_iff_eq.mpr h
        simp only [List.lookup, hb, if_neg (fun e : g = f => hk (h.symm.trans e))]
      · have hb : (g == k) = false := beq_eq_false_iff_ne.mpr h
        simp only [List.lookup, hb]
        exact ih
theorem keys_putF (f : Str) (v : V) : ∀ fs : List (Str × V), f ∈ (putF f v fs).map (·.1) ∧ ∀ g, g ∈ fs.map (·.1) → g ∈ (putF f v fs).map (·.1)
  | [] => ⟨by simp [putF], fun g h => by simp at h⟩
  | (k, x) :: r => by
    obtain ⟨i1, i2⟩ := keys_putF f v r
    rw [show putF f v ((k, x) :: r) = (if k = f then (k, v) :: r else (k, x) :: putF f v r) from rfl]
    by_cases hk : k = f
    · rw [if_pos hk]
      subst hk
      exact ⟨by simp, fun g h => by simpa using h⟩
    · rw [if_neg hk]
      refine ⟨?_, fun g h => ?_⟩
      · rw [List.map_cons]
        exact List.mem_cons_of_mem _ i1
      · rw [List.map_cons] at h ⊢
        rcases List.mem_cons.mp h with e | e
        · exact List.mem_cons.mpr (.inl e)
        · exact List.mem_cons_of_mem _ (i2 g e)
theorem length_putF (f : Str) (v : V) : ∀ fs : List (Str × V), (putF f v fs).length ≤ fs.length + 1
  | [] => by simp [putF]
  | (k, x) :: r => by
    have ih := length_putF f v r
    rw [show putF f v ((k, x) :: r) = (if k = f then (k, v) :: r else (k, x) :: putF f v r) from rfl]
    by_cases hk : k = f
    · rw [if_pos hk, List.length_cons, List.length_cons]; omega
    · rw [if_neg hk, List.length_cons, List.length_cons]; omega

theorem RelO.some_of {v : V} {o : Option Value} (r : RelO (some v) o) : ∃ u, o = some u ∧ RelV v u := by
  cases o with
  | none => exact (show False from r).elim
  | some u => exact ⟨u, rfl, r⟩
theorem RelO.none_of {o : Option Value} (r : RelO none o) : o = none := by
  cases o with
  | none => rfl
  | some u => exact (show False from r).elim
theorem handed_of {v : V} {u : Value} (r : RelV v u) : PySem.W.handedIn u = true := by
  cases v with
  | non => cases (show u = Value.none from r); rfl
  | bl b => cases (show u = Value.bool b from r); rfl
  | int i => obtain ⟨t, e⟩ := (show ∃ t, u = Value.int i t from r); cases e; rfl
  | str x => obtain ⟨t, e⟩ := (show ∃ t, u = Value.str x t from r); cases e; rfl
  | byt b => obtain ⟨t, e⟩ := (show ∃ t, u = Value.bytes b t from r); cases e; rfl
  | flt b => obtain ⟨t, e⟩ := (show ∃ t, u = Value.float b t from r); cases e; rfl
  | ref a => cases (show u = Value.ref a from r); rfl
  | ty n => cases (show u = Value.type n from r); rfl

section
variable {P : Program} {w : World} {H H' : Hp} {h h' : Heap} {a C dx : Addr} {fs fs' : List (Str × V)}
theorem ins_get (hok : HOk P w H h) (e : H a = some (.ins C dx fs)) : ∃ mA, ObjM h a dx C mA ∧ (∀ f, RelO (fs.lookup f) (mA f)) ∧ PySem.Within mA (fs.map (·.1)) ∧ fs.length ≤ 1000 ∧ H dx = some (.own a) := by
  obtain ⟨d, z, ne, ob, mA, n, r, q⟩ := (show ObjOk P w H h a (.ins C dx fs) from hok a _ e)
  exact ⟨mA, ⟨ob, n, ne⟩, r, q, z, d⟩
end


structure Cls (K : PySem.W.Frag) (C : Addr) : Prop where
  pg : PySem.W.plainGet K C Str.empty = true
  hd : PySem.W.hasDictIn K C = true
  po : PySem.W.plainOver K C = true
  sa : PySem.W.findIn K (.ref C) "__setattr__" = some (some (.builtin "object.__setattr__"))
theorem Cls.get {K : PySem.W.Frag} {C : Addr} (c : Cls K C) (f : Str) : PySem.W.plainGet K C f = true := c.pg
noncomputable def NoAttr (K : PySem.W.Frag) (C : Addr) (f : Str) : Prop := PySem.W.findIn K (.ref C) f = some none
theorem NoAttr.taker {K : PySem.W.Frag} {C : Addr} {f : Str} (n : NoAttr K C f) : PySem.W.takerIn K C f = some none := by
  unfold PySem.W.takerIn
  rw [show PySem.W.findIn K (.ref C) f = some none from n]
  rfl


structure Meth (K : PySem.W.Frag) (C : Addr) (m : Str) (f : Addr) : Prop where
  at_ : PySem.W.findIn K (.ref C) m = some (some (.ref f))
  fn : PySem.W.isFn K (.ref f) = true
  kp : PySem.W.keepIn K (.ref f) = true

section
variable {X : Cx} {pins : List (Addr × Obj)} {σ : St} {H : Hp} {s : Shared} {a C dx : Addr} {fs : List (Str × V)} {f : Str} {v : V} {A : Around} {E : Value → Shared → Prop}

theorem getattr_ok {b : Bool} {Q : Value → Shared → Prop} (I : Inv X pins σ H s) (e : H a = some (.ins C dx fs)) (c : Cls X.K C) (n : NoAttr X.K C f) (l : fs.lookup f = some v)
    (h : ∀ u s', Inv X pins σ H s' → RelV v u → Q u s') : wpAny (model X.prog X.w) A (getAttr (.ref a) f b) Q E s := by
  obtain ⟨mA, O, r, _, _, _⟩ := ins_get I.hok e
  obtain ⟨u, hu, ru⟩ := RelO.some_of (v := v) (o := mA f) (by rw [← l]; exact r f)
  exact get_map I.kIn O (c.get f) c.hd n hu (handed_of ru) (h u _ (I.tok _) ru)

theorem getmeth_ok {m : Str} {g : Addr} {pl : Sem Bool} {Q : Value × List Value → Shared → Prop} (I : Inv X pins σ H s) (e : H a = some (.ins C dx fs)) (c : Cls X.K C) (k : Meth X.K C m g) (l : fs.lookup m = none)
    (h : Q (.ref g, [.ref a]) s) : wpAny (model X.prog X.w) A (getMethod (.ref a) m pl) Q E s := by
  obtain ⟨mA, O, r, _, _, _⟩ := ins_get I.hok e
  have hn : mA m = none := RelO.none_of (by rw [← l]; exact r m)
  exact get_meth I.kIn O (c.get m) k.at_ k.fn hn h

theorem setattr_ok {y : V} {u : Value} {Q : Unit → Shared → Prop} (I : Inv X pins σ H s) (e : H a = some (.ins C dx fs)) (c : Cls X.K C) (n : NoAttr X.K C f) (hl : fs.length < 1000) (ry : RelV y u)
    (h : ∀ s', Inv X pins σ (upd H a (.ins C dx (putF f y fs))) s' → Q () s') : wpAny (model X.prog X.w) A (setAttr (.ref a) f u) Q E s := by
  obtain ⟨mA, O, r, wi, _, ho⟩ := ins_get I.hok e
  have hz : (fs.map (·.1)).length ≤ sizeLine := by rw [List.length_map, sizeLine_eq]; omega
  refine set_map I.kIn O c.sa c.po n.taker c.hd wi hz fun h' O' sb => h _ ?_
  have hd : ∃ o, h'.get? dx = some o := let ⟨o, _, _, e', _⟩ := O'.ns; ⟨o, e'⟩
  refine I.write (x := a) (e := dx) (by rw [e]; exact True.intro) (.inr ho) (fun b q hb z => (sb.2 b hb).trans z) hd ?_
  refine ⟨by rw [upd_ne O.ne]; exact ho, ?_, O.ne, O'.obj, _, O'.ns, fun g => ?_, fun g hg => ?_⟩
  · have := length_putF f y fs; omega
  · show RelO ((putF f y fs).lookup g) (if g = f then some u else mA g)
    rw [lookup_putF]
    by_cases q : g = f
    · rw [if_pos q, if_pos q]; exact ry
    · rw [if_neg q, if_neg q]; exact r g
  · by_cases q : g = f
    · rw [q]; exact (keys_putF f y fs).1
    · refine (keys_putF f y fs).2 g (wi g fun z => hg ?_)
      show (if g = f then some u else mA g) = none
      rw [if_neg q]; exact z

theorem Inv.made (I : Inv X pins σ H s) : Inv X pins σ (upd (upd H s.heap.objs.size (.own (s.heap.objs.size + 1))) (s.heap.objs.size + 1) (.ins C s.heap.objs.size []))
    { s with heap := (s.heap.push PySem.W.emptyDict).push (PySem.W.instObj C s.heap.objs.size) } := by
  have e1 : (s.heap.push PySem.W.emptyDict).get? s.heap.objs.size = some PySem.W.emptyDict := Heap.get?_push_size s.heap rfl
  have e2 : ((s.heap.push PySem.W.emptyDict).push (PySem.W.instObj C s.heap.objs.size)).get? (s.heap.objs.size + 1) = some (PySem.W.instObj C s.heap.objs.size) := by
    have := Heap.get?_push_size (s.heap.push PySem.W.emptyDict) (o := PySem.W.instObj C s.heap.objs.size) rfl
    rwa [Heap.size_push] at this
  have e3 : (s.heap.push PySem.W.emptyDict).Ns s.heap.objs.size (fun _ => none) := ⟨PySem.W.emptyDict, #[], _, e1, rfl, (fun e he => absurd he (by simp)), fun _ => rfl⟩
  have I1 := I.laid (a := s.heap.objs.size) (o := .own (s.heap.objs.size + 1)) (h' := s.heap.push PySem.W.emptyDict) (t' := s.toks) (fun b u q => Heap.get?_push_of_some _ q) (Nat.le_refl _) ⟨_, e1⟩
  refine I1.laid (a := s.heap.objs.size + 1) (o := .ins C s.heap.objs.size []) (t' := s.toks) (fun b u q => Heap.get?_push_of_some _ q) (Nat.le_of_eq (Heap.size_push _ _)) ?_
  have ne : s.heap.objs.size ≠ s.heap.objs.size + 1 := Nat.ne_of_lt (Nat.lt_succ_self _)
  refine ⟨by rw [upd_ne ne, upd_same], Nat.zero_le _, ne, e2, fun _ => none, (Heap.Ns1.of_empty e3).at fun o q => Heap.get?_push_of_some _ q, fun _ => True.intro, fun y hy => absurd rfl hy⟩

theorem attr_of {prog : Program} {w : World} {env : Env} {e : Expr} {f : Str} {pos : Pos} {s : Shared} {Q : Value → Shared → Prop} (hb : attributeBase e f env (eval e env) = eval e env)
    (h : wpAny (model prog w) A (eval e env) (fun o s₁ => wpAny (model prog w) A (getAttr o f true) Q E s₁) E s) : wpAny (model prog w) A (eval (.Attribute e f pos) env) Q E s :=
  Attribute_any_ h (by rw [arm_eval_Attribute, hb])
end


noncomputable def tFld (K : PySem.W.Frag) (ta : TE) (f : Str) : TE := fun σ H Q => ta σ H fun x H1 => ∃ a C dx fs v, x = .ref a ∧ H1 a = some (.ins C dx fs) ∧ Cls K C ∧ NoAttr K C f ∧ fs.lookup f = some v ∧ Q v H1
noncomputable def sFld (K : PySem.W.Frag) (ta tv : TE) (f : Str) : TS := fun D σ H => tv σ H fun y H1 => ta σ H1 fun x H2 => ∃ a C dx fs, x = .ref a ∧ H2 a = some (.ins C dx fs) ∧ Cls K C ∧ NoAttr K C f ∧ fs.length < 1000 ∧
  D.nx σ (upd H2 a (.ins C dx (putF f y fs)))
section
variable {X : Cx} {o e value : Expr} {f : Str} {pos pos' tpos : Pos} {ta tv : TE}
theorem pe_fld (he : PE X e ta) (hb : attributeBase e f X.env (eval e X.env) = eval e X.env) : PE X (.Attribute e f pos) (tFld X.K ta f) := by
  intro pins s σ H Q I h
  refine attr_of hb (thn (he pins s σ H _ I h) fun u s1 zz9 => ?_)
  obtain ⟨x, H1, I1, rx, a, C, dx, fs, v, ex, ea, c, n, l, q⟩ := zz9
  subst ex
  obtain rfl : u = Value.ref a := rx
  exact getattr_ok I1 ea c n l fun u' s2 I2 ru => ⟨v, H1, I2, ru, q⟩
theorem ps_fld (ha : PE X o ta) (hv : PE X value tv) (hs : swapsWith value (some (.Attribute o f pos')) pos.line X.env = pure false) : PS X (.Assign [.Attribute o f pos'] value pos) (sFld X.K ta tv f) := by
  intro pins s σ H D I h
  refine plainObj_wpAny_Assign_Attribute (thn (hv pins s σ H _ I h) fun u s1 ⟨y, H1, I1, ry, q⟩ => thn (ha pins s1 σ H1 _ I1 q) fun ov s2 ⟨x, H2, I2, rx, a, C, dx, fs, ex, ea, c, n, l, q2⟩ => ?_) hs
  subst ex
  obtain rfl : ov = Value.ref a := rx
  exact setattr_ok I2 ea c n l ry fun s3 I3 => ⟨σ, _, I3, q2⟩
end


section
variable {X : Cx} {pins : List (Addr × Obj)} {σ : St} {H : Hp} {s : Shared} {A : Around} {E : Value → Shared → Prop} {Q : Value → Shared → Prop} {c : Value} {b : Bool}

inductive TyOf (K : PySem.W.Frag) (H : Hp) : V → Value → Prop where
  | non : TyOf K H .non (.type "NoneType")
  | bl (x : Bool) : TyOf K H (.bl x) (.type "bool")
  | int (i : Int) : TyOf K H (.int i) (.type "int")
  | str (x : Str) : TyOf K H (.str x) (.type "str")
  | flt (x : UInt64) : TyOf K H (.flt x) (.type "float")
  | lst {a : Addr} {xs : List V} (e : H a = some (.lst xs)) : TyOf K H (.ref a) (.type "list")
  | frz {a : Addr} {o : Obj} {xs : List V} (e : H a = some (.frz o (.lst xs))) : TyOf K H (.ref a) (.type "list")
  | tup {a : Addr} {xs : List V} (e : H a = some (.tup xs)) : TyOf K H (.ref a) (.type "tuple")
  | dK {a : Addr} {kvs : List (Key × V)} (e : H a = some (.dK kvs)) : TyOf K H (.ref a) (.type "dict")
  | dT {a : Addr} {kvs : List (List Key × V)} (e : H a = some (.dT kvs)) : TyOf K H (.ref a) (.type "dict")
  | ins {a C dx : Addr} {fs : List (Str × V)} (e : H a = some (.ins C dx fs)) (cl : Cls K C) (ha : PySem.W.findIn K (.ref C) "__class__" = some (some (.builtin "object.__class__")))
      (hn : PySem.W.specialIn K (.builtin "object.__class__") "__get__" = some (some (.builtin "getset_descriptor.__get__"))) (htk : PySem.W.takesIn K (.builtin "object.__class__") = some true)
      (hm : PySem.W.mroIn K C (.type "object") = some true) : TyOf K H (.ref a) (.ref C)
theorem isinst_ok {x : V} {u t : Value} (I : Inv X pins σ H s) (rx : RelV x u) (ty : TyOf X.K H x t) (e : PySem.W.kitOne X.K t c = some b) (h : ∀ tk, Q (.bool b) { s with toks := tk }) :
    wpAny (model X.prog X.w) A (call (.builtin "isinstance") [u, c]) Q E s := by
  cases ty with
  | non => cases (show u = Value.none from rx); exact PySem.W.kia_one PySem.W.kitx_none I.kIn True.intro e (fun z => nomatch z) h
  | bl y => cases (show u = Value.bool y from rx); exact PySem.W.kia_one PySem.W.kitx_bool I.kIn True.intro e (fun z => nomatch z) h
  | int i => obtain ⟨t, q⟩ := (show ∃ t, u = Value.int i t from rx); cases q; exact PySem.W.kia_one PySem.W.kitx_int I.kIn True.intro e (fun z => nomatch z) h
  | str y => obtain ⟨t, q⟩ := (show ∃ t, u = Value.str y t from rx); cases q; exact PySem.W.kia_one PySem.W.kitx_str I.kIn True.intro e (fun z => nomatch z) h
  | flt y => obtain ⟨t, q⟩ := (show ∃ t, u = Value.float y t from rx); cases q; exact PySem.W.kia_one PySem.W.kitx_float I.kIn True.intro e (fun z => nomatch z) h
  | @lst a xs ea =>
    cases (show u = Value.ref a from rx)
    obtain ⟨_, _, n, _, h1⟩ := (show ObjOk X.prog X.w H s.heap a (.lst xs) from I.hok a _ ea)
    exact PySem.W.kia_one PySem.W.kitx_list I.kIn ⟨_, h1, rfl⟩ e (fun z => nomatch z) h
  | @frz a ob xs ea =>
    cases (show u = Value.ref a from rx)
    obtain ⟨_, _, _, n, _, h1⟩ := (show ObjOk X.prog X.w H s.heap a (.frz ob (.lst xs)) from I.hok a _ ea)
    exact PySem.W.kia_one PySem.W.kitx_list I.kIn ⟨_, h1, rfl⟩ e (fun z => nomatch z) h
  | @tup a xs ea =>
    cases (show u = Value.ref a from rx)
    obtain ⟨_, _, _, p⟩ := (show ObjOk X.prog X.w H s.heap a (.tup xs) from I.hok a _ ea)
    obtain ⟨o, h1, h2, _⟩ := p
    exact PySem.W.kia_one PySem.W.kitx_tuple I.kIn ⟨o, h1, h2⟩ e (fun z => nomatch z) h
  | @dK a kvs ea =>
    cases (show u = Value.ref a from rx)
    obtain ⟨_, _, vs, _, p⟩ := (show ObjOk X.prog X.w H s.heap a (.dK kvs) from I.hok a _ ea)
    obtain ⟨o, es, ep, h1, h2, _⟩ := p
    exact PySem.W.kia_one PySem.W.kitx_dict I.kIn ⟨o, h1, h2.1⟩ e (fun z => nomatch z) h
  | @dT a kvs ea =>
    cases (show u = Value.ref a from rx)
    obtain ⟨_, _, xs, _, o, es, ep, h1, h2, _⟩ := (show ObjOk X.prog X.w H s.heap a (.dT kvs) from I.hok a _ ea)
    exact PySem.W.kia_one PySem.W.kitx_dict I.kIn ⟨o, h1, h2.1⟩ e (fun z => nomatch z) h
  | @ins a C dx fs ea cl ha hn htk hm =>
    cases (show u = Value.ref a from rx)
    obtain ⟨mA, O, _⟩ := ins_get I.hok ea
    obtain ⟨od, J, _⟩ := O.look
    exact PySem.W.kia_one (PySem.W.kitx_own (cl.get _) cl.hd ha hn htk hm) I.kIn J e (fun z => nomatch z) h
end
end L2

namespace L2
open PySem PySem.Spec PyProof.Rows


structure Room (k : Nat) (A : Around) : Prop where
  hd : A.handled = none
  dp : A.depth + 3 * k + 5 < recursionLimit
  un : A.units + 16 * k + 200 < cLine
theorem Room.mono {j k : Nat} {A : Around} (r : Room k A) (h : j ≤ k) : Room j A := ⟨r.hd, by have := r.dp; omega, by have := r.un; omega⟩
theorem Room.deeper {k : Nat} {A : Around} (r : Room (k + 1) A) (env : Env) : Room k (A.deeper env) :=
  ⟨r.hd, by have := r.dp; show A.depth + 1 + 3 * k + 5 < _; omega, by have := r.un; show A.units + 3 + 16 * k + 200 < _; omega⟩
theorem Room.in1 {k : Nat} {A : Around} (r : Room (k + 1) A) : Room k A.in1 :=
  ⟨r.hd, by have := r.dp; show A.depth + 3 * k + 5 < _; omega, by have := r.un; show A.units + 1 + 16 * k + 200 < _; omega⟩
theorem make_depth {A : Around} {C : Addr} {us : List Value} {kw : List (Str × Value)} : (A.under (.builtin "type.__call__" ⟨.ref C :: us, kw⟩)).depth = A.depth + 1 := by
  first | rfl | simp [Around.under, Code.weight, Code.isCreation, Code.isGuard, Code.isCaller, Code.frames, Code.isFrame, guardIds]
theorem make_units {A : Around} {C : Addr} {us : List Value} {kw : List (Str × Value)} : (A.under (.builtin "type.__call__" ⟨.ref C :: us, kw⟩)).units = A.units + 1 := by
  first | rfl | simp [Around.under, Code.cUnits, Code.frames, Code.isFrame]
theorem Room.make {k : Nat} {A : Around} (r : Room (k + 1) A) (C : Addr) (us : List Value) (kw : List (Str × Value)) : Room k (A.under (.builtin "type.__call__" ⟨.ref C :: us, kw⟩)) :=
  ⟨r.hd, by have := r.dp; rw [make_depth]; omega, by have := r.un; rw [make_units]; omega⟩
theorem Room.depth {k : Nat} {A : Around} (r : Room k A) : A.depth < recursionLimit := by have := r.dp; omega
theorem Room.units {k : Nat} {A : Around} (r : Room k A) : A.units + 64 < cLine := by have := r.un; omega

noncomputable def tNil : TA := fun _ H Q => Q [] H
noncomputable def tCons (ta : TE) (tr : TA) : TA := fun σ H Q => ta σ H fun x H1 => tr σ H1 fun xs H2 => Q (x :: xs) H2
section
variable {X : Cx} {e : Expr} {es : List Expr} {te : TE} {t : TA} {pos : Pos}
theorem pa_nil : PA X [] tNil := fun _ _ _ _ H Q I h => Calls.spliced_nil ⟨[], H, I, .nil, h⟩
theorem pa_cons (ha : PE X e te) (hr : PA X es t) (hs : starEach (e :: es) X.env = (false, eval e X.env) :: starEach es X.env := by rfl) : PA X (e :: es) (tCons te t) := by
  intro pos pins s σ H Q I h
  rw [hs]
  show wpAny _ _ (spliced ((false, eval e X.env) :: backTo pos (starEach es X.env))) _ _ s
  refine Calls.spliced_cons (thn (ha pins s σ H _ I h) fun u s1 zz9 => ?_)
  obtain ⟨x, H1, I1, r1, q1⟩ := zz9
  exact thn (hr pos pins s1 σ H1 _ I1 q1) fun us s2 ⟨xs, H2, I2, r2, q2⟩ => ⟨x :: xs, H2, I2, .cons r1 r2, q2⟩

noncomputable def tTup (t : TA) : TE := fun σ H Q => t σ H fun xs H1 => xs.length ≤ sizeLine ∧ ∀ p, H1 p = none → Q (.ref p) (upd H1 p (.tup xs))
noncomputable def tLst (t : TA) : TE := fun σ H Q => t σ H fun xs H1 => xs.length ≤ sizeLine ∧ ∀ p, H1 p = none → Q (.ref p) (upd H1 p (.lst xs))
theorem pe_tup {x1} (h : PA X es t) : PE X (.Tuple es x1 pos) (tTup t) := by
  intro pins s σ H Q I hq
  refine wpAny_Tuple_spliced (thn (h pos pins s σ H _ I hq) fun us s1 ⟨xs, H1, I1, r, z, q⟩ => ⟨by rw [← r.length]; exact z, ?_⟩)
  have hf : H1 s1.heap.objs.size = none := I1.hok.fresh (Nat.le_refl _)
  refine ⟨.ref s1.heap.objs.size, upd H1 s1.heap.objs.size (.tup xs), I1.laid (t' := s1.toks) (fun b u e => Heap.get?_push_of_some _ e) (Nat.le_refl _) ?_, rfl, q _ hf⟩
  exact ⟨z, us, r, ⟨_, Heap.get?_push_size _ rfl, rfl, _, rfl⟩⟩
theorem pe_lst (h : PA X es t) : PE X (.List es pos) (tLst t) := by
  intro pins s σ H Q I hq
  refine wpAny_List_spliced (thn (h pos pins s σ H _ I hq) fun us s1 ⟨xs, H1, I1, r, z, q⟩ => ⟨by rw [← r.length]; exact z, ?_⟩)
  have hf : H1 s1.heap.objs.size = none := I1.hok.fresh (Nat.le_refl _)
  refine ⟨.ref s1.heap.objs.size, upd H1 s1.heap.objs.size (.lst xs), I1.laid (t' := s1.toks) (fun b u e => Heap.get?_push_of_some _ e) (Nat.le_refl _) ?_, rfl, q _ hf⟩
  exact ⟨z, us, 0, r, Heap.get?_push_size _ rfl⟩
end


noncomputable abbrev Sp := List V → Hp → VK → XK → Prop
noncomputable abbrev CXT := List Env → Hp → Shared → XK → Value → Shared → Prop


structure Env0 (P : Program) (w : World) (K : PySem.W.Frag) (mg : Str → Option Value) (base : Heap) (A : Around) (outer : List Env) (s : Shared) (H : Hp) : Prop where
  frames : A.frames = some outer
  mod : Mod K mg base
  bs : ∀ b o, base.get? b = some o → s.heap.get? b = some o ∧ H b = none
  bsz : base.objs.size ≤ s.heap.objs.size
  funs : s.heap.FunFrames base outer
  frf : ∀ b ∈ frs outer, H b = none
  hok : HOk P w H s.heap
  bare : AllBare s.gens
noncomputable def CE (outer : List Env) (P : Program) (w : World) (H : Hp) (s : Shared) (Q : VK) (u : Value) (s' : Shared) : Prop :=
  ∃ v H', s'.os = s.os ∧ AllBare s'.gens ∧ Un (frs outer) [] H H' s.heap s'.heap ∧ HOk P w H' s'.heap ∧ RelV v u ∧ Q v H'
noncomputable def CR (CX : CXT) (outer : List Env) (P : Program) (w : World) (H : Hp) (s : Shared) (Q : VK) (E : XK) (r : Result) (s' : Shared) : Prop :=
  match r with
  | .ok (.ret u) => CE outer P w H s Q u s'
  | .ok _ => False
  | .error e => CX outer H s E e s'
structure FnOk (P : Program) (w : World) (K : PySem.W.Frag) (mg : Str → Option Value) (base : Heap) (CX : CXT) (k : Nat) (f : Addr) (fd : FuncData) (ps : List Str) (sp : Sp) : Prop where
  len : ∀ vs H Q E, sp vs H Q E → vs.length = ps.length
  run : ∀ (A : Around) (outer : List Env) (s : Shared) (H : Hp) (args : Args) (us : List Value) (vs : List V) (Q : VK) (E : XK), Room k A → Env0 P w K mg base A outer s H → BindsTo s fd args (ps.zip us) → Vals vs us → sp vs H Q E →
    codeAny (model P w) A (.call (.ref f) args) (CR CX outer P w H s Q E) s
theorem Env0.make {P : Program} {w : World} {K : PySem.W.Frag} {mg : Str → Option Value} {base : Heap} {A : Around} {outer : List Env} {s : Shared} {H : Hp} (e : Env0 P w K mg base A outer s H) (C : Addr) (us : List Value) (kw : List (Str × Value)) :
    Env0 P w K mg base (A.under (.builtin "type.__call__" ⟨.ref C :: us, kw⟩)) outer s H := ⟨by first | exact e.frames | (simpa [Around.under, Code.envs, Code.isFrame, pushEnvs] using e.frames), e.mod, e.bs, e.bsz, e.funs, e.frf, e.hok, e.bare⟩
section
variable {X : Cx} {pins : List (Addr × Obj)} {σ : St} {H : Hp} {s s' : Shared}
theorem Inv.env0 (I : Inv X pins σ H s) : Env0 X.prog X.w X.K X.mg X.base X.A X.stack s H :=
  ⟨I.ok.frames, I.ok.mod, I.bs, Nat.le_trans I.ok.bsz I.sz, I.stack, I.stkFree, I.hok, I.bare⟩
theorem Inv.after {Q : VK} {u : Value} (I : Inv X pins σ H s) (h : CE X.stack X.prog X.w H s Q u s') : EP X pins σ Q u s' := by
  obtain ⟨v, H', os, bare, un, hok, r, q⟩ := h
  obtain ⟨hh, g, d, t, os'⟩ := s'
  obtain rfl : os' = s.os := os
  exact ⟨v, H', I.call (h' := hh) (g' := g) (d' := d) (t' := t) (ch := []) un hok bare (fun b z => absurd z (by simp)), r, q⟩
end


noncomputable def tMake (C : Addr) (sp : Sp) (dvs : List V) (E : XK) (t : TA) : TE := fun σ H Q => t σ H fun vs H1 => ∀ x dx, H1 x = none → H1 dx = none → dx ≠ x →
  sp (.ref x :: (vs ++ dvs)) (upd (upd H1 dx (.own x)) x (.ins C dx [])) (fun v H2 => v = .non ∧ Q (.ref x) H2) E

noncomputable def Binds (K : PySem.W.Frag) (fd : FuncData) (ps : List Str) (ds : List Value) : Prop :=
  ∀ (s : Shared) (us : List Value), K.In s.heap → (us ++ ds).length = ps.length → BindsTo s fd ⟨us, []⟩ (ps.zip (us ++ ds))
theorem Binds.all {K : PySem.W.Frag} {fd : FuncData} {ps : List Str} (h : ∀ us : List Value, us.length = ps.length → bindArgs fd ⟨us, []⟩ = pure (ps.zip us)) : Binds K fd ps [] := fun s us _ hl => by
  rw [List.append_nil] at hl ⊢
  exact .of_eq (h us hl)

noncomputable def Passes (CX : CXT) (X : Cx) (E : XK) : Prop := ∀ (pins : List (Addr × Obj)) (σ : St) (H : Hp) (s : Shared) (e : Value) (s' : Shared), Inv X pins σ H s → CX X.stack H s E e s' → X.xe e s'

section
variable {X : Cx} {CX : CXT} {k : Nat} {f C : Addr} {fd : FuncData} {ps : List Str} {sp : Sp} {dvs : List V} {ds : List Value} {E : XK} {x m : Str} {p pos apos : Pos} {e o : Expr} {es : List Expr} {ta : TE} {t : TA}


structure Mk (K : PySem.W.Frag) (C f : Addr) : Prop where
  makes : PySem.W.makesIn K C = true
  init : PySem.W.findIn K (.ref C) "__init__" = some (some (.ref f))
  fn : PySem.W.isFn K (.ref f) = true
  kp : PySem.W.keepIn K (.ref C) = true

theorem run_make {pins : List (Addr × Obj)} {σ : St} {H : Hp} {s : Shared} {Q : VK} {us : List Value} {vs : List V} (M : Mk X.K C f) (F : FnOk X.prog X.w X.K X.mg X.base CX k f fd ps sp) (hr : Room (k + 1) X.A) (hb : Binds X.K fd ps ds) (hd : Vals dvs ds)
    (hx : Passes CX X E) (I : Inv X pins σ H s) (r : Vals vs us)
    (h : ∀ x dx, H x = none → H dx = none → dx ≠ x → sp (.ref x :: (vs ++ dvs)) (upd (upd H dx (.own x)) x (.ins C dx [])) (fun v H2 => v = .non ∧ Q (.ref x) H2) E) :
    wpAny (model X.prog X.w) X.A (call (.ref C) us) (EP X pins σ Q) X.xe s := by
  have hq := h (s.heap.objs.size + 1) s.heap.objs.size (I.hok.fresh (Nat.le_succ _)) (I.hok.fresh (Nat.le_refl _)) (Nat.ne_of_lt (Nat.lt_succ_self _))
  have I2 := Inv.made (C := C) I
  have r2 : Vals (V.ref (s.heap.objs.size + 1) :: (vs ++ dvs)) (Value.ref (s.heap.objs.size + 1) :: (us ++ ds)) := .cons rfl (r.append hd)
  have hl : (Value.ref (s.heap.objs.size + 1) :: us ++ ds).length = ps.length := by
    have e := r2.length
    rw [F.len _ _ _ _ hq] at e
    exact e.symm
  refine wpAny_call (make_map (f := f) I.kIn M.makes M.init (beq_iff_eq.mp M.fn) (codeAny_mono (F.run _ X.stack _ _ ⟨Value.ref (s.heap.objs.size + 1) :: us, []⟩ (Value.ref (s.heap.objs.size + 1) :: (us ++ ds)) _ _ E (hr.make C us [])
    (I2.env0.make C us []) (hb _ (Value.ref (s.heap.objs.size + 1) :: us) I2.kIn hl) r2 hq) fun r s' hq' => ?_))
  cases r with
  | error e => exact hx pins σ _ _ e s' I2 hq'
  | ok fl =>
    cases fl with
    | ret u =>
      obtain ⟨v, H', I3, rv, ev, q3⟩ := I2.after hq'
      subst ev
      exact ⟨rv, ⟨V.ref (s.heap.objs.size + 1), H', I3, rfl, q3⟩⟩
    | next => exact False.elim hq'
    | brk => exact False.elim hq'
    | cont => exact False.elim hq'
theorem pe_make0 (M : Mk X.K C f) (F : FnOk X.prog X.w X.K X.mg X.base CX k f fd ps sp) (hr : Room (k + 1) X.A) (hg : Gl X x) (hm : X.mg x = some (.ref C)) (hb : Binds X.K fd ps ds) (hd : Vals dvs ds) (hx : Passes CX X E)
    (hdb : (x == ("__debug__" : Str)) = false := by decide) : PE X (.Call (.Name x p) [] [] pos) (tMake C sp dvs E tNil) := by
  intro pins s σ H Q I h
  refine wpAny_Call_Name_kw (ld_glob I hg hm ?_ hdb)
  exact PySem.W.callWith_K0 I.kIn M.kp (run_make (us := []) M F hr hb hd hx I .nil h)
end


section
variable {X : Cx} {CX : CXT} {k : Nat} {f C : Addr} {fd : FuncData} {ps ks : List Str} {sp : Sp} {E : XK} {x m : Str} {p pos apos kpos : Pos} {e o : Expr} {es : List Expr} {kws : List Keyword} {te ta : TE} {t tk : TA} {nm : Option Str}

variable {g : List Value → List Value → List Value} {gV : List V → List V → List V}
end



structure FnScope (N P : List Str) (sc : Scope) : Prop where
  kind : sc.kind = .function
  co : sc.isCoroutine = false
  gen : sc.isGenerator = false
  nd : N.Nodup
  pre : N.take P.length = P
  par : ∀ x ∈ P, sc.names.lookup x = some .local ∨ sc.names.lookup x = some .cell
  nofree : ∀ y ∈ sc.names, y.2 ≠ .free

theorem bindL_out {kindOf : Str → Option NameKind} {x : Str} : ∀ {binds : List (Str × Value)} {m : Str → Option Value}, (∀ v, (x, v) ∉ binds) → bindL kindOf binds m x = m x
  | [], _, _ => rfl
  | (n, v) :: r, m, h => by
    unfold bindL
    rw [bindL_out fun w hw => h w (List.mem_cons_of_mem _ hw)]
    split
    · have : x ≠ n := by rintro rfl; exact h v List.mem_cons_self
      simp [this]
    · rfl
theorem bindC_out {kindOf : Str → Option NameKind} {x : Str} : ∀ {binds : List (Str × Value)} {m : Str → Option Value}, (∀ v, (x, v) ∉ binds) → bindC kindOf binds m x = m x
  | [], _, _ => rfl
  | (n, v) :: r, m, h => by
    unfold bindC
    rw [bindC_out fun w hw => h w (List.mem_cons_of_mem _ hw)]
    split
    · rfl
    · have : x ≠ n := by rintro rfl; exact h v List.mem_cons_self
      simp [this]
theorem bindL_get {kindOf : Str → Option NameKind} {x : Str} {v : Value} : ∀ {P : List Str} {vs : List Value} {i : Nat} {m : Str → Option Value}, P.Nodup → P[i]? = some x → vs[i]? = some v → kindOf x = some .local →
    bindL kindOf (P.zip vs) m x = some v
  | [], _, _, _, _, h, _, _ => by simp at h
  | _ :: _, [], _, _, _, _, h, _ => by simp at h
  | p :: P, w :: vs, 0, m, nd, h1, h2, hk => by
    simp at h1 h2; subst h1; subst h2
    show bindL kindOf ((p, w) :: P.zip vs) m p = _
    unfold bindL
    rw [bindL_out fun v hv => (List.nodup_cons.mp nd).1 (List.of_mem_zip hv).1, if_pos hk]
    simp
  | p :: P, w :: vs, i + 1, m, nd, h1, h2, hk => by
    show bindL kindOf ((p, w) :: P.zip vs) m x = _
    unfold bindL
    exact bindL_get (i := i) (List.nodup_cons.mp nd).2 (by simpa using h1) (by simpa using h2) hk
theorem bindC_get {kindOf : Str → Option NameKind} {x : Str} {v : Value} : ∀ {P : List Str} {vs : List Value} {i : Nat} {m : Str → Option Value}, P.Nodup → P[i]? = some x → vs[i]? = some v → kindOf x ≠ some .local →
    bindC kindOf (P.zip vs) m x = some v
  | [], _, _, _, _, h, _, _ => by simp at h
  | _ :: _, [], _, _, _, _, h, _ => by simp at h
  | p :: P, w :: vs, 0, m, nd, h1, h2, hk => by
    simp at h1 h2; subst h1; subst h2
    show bindC kindOf ((p, w) :: P.zip vs) m p = _
    unfold bindC
    rw [bindC_out fun v hv => (List.nodup_cons.mp nd).1 (List.of_mem_zip hv).1, if_neg hk]
    simp
  | p :: P, w :: vs, i + 1, m, nd, h1, h2, hk => by
    show bindC kindOf ((p, w) :: P.zip vs) m x = _
    unfold bindC
    exact bindC_get (i := i) (List.nodup_cons.mp nd).2 (by simpa using h1) (by simpa using h2) hk

noncomputable def start (N : List Str) (vs : List V) : St := vs.map some ++ List.replicate (N.length - vs.length) none

noncomputable def cxOf (CX : CXT) (P : Program) (w : World) (K : PySem.W.Frag) (mg : Str → Option Value) (base : Heap) (N : List Str) (qual : Str) (scope : Scope) (f : Addr) (cd : Value) (A : Around) (outer : List Env) (s : Shared) (H : Hp) (E : XK) : Cx where
  prog := P
  w := w
  K := K
  mg := mg
  base := base
  A := A.deeper (envOfC qual scope s.heap.objs.size f cd)
  N := N
  s₀ := s
  H₀ := H
  env := envOfC qual scope s.heap.objs.size f cd
  outer := outer
  stack := envOfC qual scope s.heap.objs.size f cd :: outer
  ex := []
  calm := true
  fn := fun _ => true
  pn := []
  xe := fun e s' => wpAny (model P w) (A.deeper (envOfC qual scope s.heap.objs.size f cd)) (leaving (envOfC qual scope s.heap.objs.size f cd) e) (fun _ s'' => CX outer H s E e s'') (fun e' s'' => CX outer H s E e' s'') s'

theorem cell_has {sc : Scope} {n : Nat} {x : Str} (h : sc.names.lookup x = some .cell) : ∃ c, (cellsFrom n sc.names []).lookup x = some c := by
  have q := PySem.W.cellsFrom_some sc.names n [] (.inl h)
  exact Option.isSome_iff_exists.mp q

theorem inv_start {CX : CXT} {P : Program} {w : World} {K : PySem.W.Frag} {mg : Str → Option Value} {base : Heap} {N ps : List Str} {qual : Str} {scope : Scope} {f : Addr} {cd : Value} {A : Around} {outer : List Env} {s s1 : Shared} {H : Hp} {E : XK} {us : List Value} {vs : List V}
    (S : FnScope N ps scope) (hd : A.handled = none) (e0 : Env0 P w K mg base A outer s H) (hl : vs.length = ps.length) (r : Vals vs us)
    (x : InCallC s s.heap.objs.size (bindL (envOfC qual scope s.heap.objs.size f cd).kindOf (ps.zip us) fun _ => none) (cellsFrom (s.heap.objs.size + 1) scope.names []) (bindC (envOfC qual scope s.heap.objs.size f cd).kindOf (ps.zip us) fun _ => none) s1) :
    Inv (cxOf CX P w K mg base N qual scope f cd A outer s H E) [] (start N vs) H s1 := by
  have hpl : ps.length ≤ N.length := by have := congrArg List.length S.pre; rw [List.length_take] at this; omega
  obtain ⟨h1, tk, rfl, hk⟩ := x.done
  have noA : ∀ b : Addr, b ∉ (cxOf CX P w K mg base N qual scope f cd A outer s H E).ex := fun b z => absurd (show b ∈ ([] : List Addr) from z) (by simp)
  refine ⟨⟨e0.mod, S.kind, rfl, rfl, Nat.le_refl _, fun y z c h1 h2 => ?_, fun y hy => ?_, fun y c _ h => ?_, fun _ => hd, Around.frames_deeper e0.frames, .inr ⟨rfl, rfl⟩, fun b z => absurd z (noA b), e0.bs, e0.bsz, fun b _ _ => noA b, fun b z => absurd z (noA b), e0.funs, e0.frf⟩,
    rfl, e0.bare, Un.kept hk, ⟨_, x.toInCall.ns, fun i y v h1 h2 h3 => ?_⟩, fun y c h => ⟨_, x.cell y c h⟩, e0.hok.fresh (Nat.le_refl _), fun y c h => ?_, fun p hp => absurd (show p ∈ ([] : List (Addr × Obj)) from hp) (by simp), e0.hok.kept hk, ?_⟩
  · exact name_of_addr x.apart (PySem.mem_of_lookup h1) (PySem.mem_of_lookup h2)
  · have hy : scope.names.lookup y = some .cell ∨ scope.names.lookup y = some .free := hy
    rcases hy with hy | hy
    · exact cell_has hy
    · exact absurd rfl (S.nofree _ (PySem.mem_of_lookup hy))
  · exact Nat.le_of_lt (x.above y c (PySem.mem_of_lookup h))
  · have hi : i < vs.length := by
      unfold start at h2
      by_cases hi : i < vs.length
      · exact hi
      · rw [List.getElem?_append_right (by simpa using hi)] at h2
        rw [List.getElem?_replicate] at h2
        split at h2 <;> cases h2
    have ha : vs[i]? = some v := by
      unfold start at h2
      rw [List.getElem?_append_left (by simpa using hi), List.getElem?_map] at h2
      cases e : vs[i]? with
      | none => rw [e] at h2; cases h2
      | some a => rw [e] at h2; cases h2; rfl
    obtain ⟨u, hu, rv⟩ := r.get ha
    have hp : ps[i]? = some y := by
      rw [← S.pre, List.getElem?_take_of_lt (by omega)]; exact h1
    have ndP : ps.Nodup := by rw [← S.pre]; exact S.nd.sublist (List.take_sublist _ _)
    refine ⟨u, rv, ?_⟩
    rcases S.par y (List.mem_of_getElem? hp) with k | k
    · exact .inl ⟨k, bindL_get ndP hp hu k⟩
    · obtain ⟨c, e⟩ := cell_has (n := s.heap.objs.size + 1) k
      refine .inr ⟨.inl k, c, e, ?_⟩
      have q := x.cell y c e
      rw [bindC_get ndP hp hu (by show scope.names.lookup y ≠ _; rw [k]; decide)] at q
      exact q
  · exact e0.hok.fresh (Nat.le_of_lt (x.above y c (PySem.mem_of_lookup h)))
  · unfold start
    show _ = N.length
    rw [List.length_append, List.length_map, List.length_replicate]
    omega

theorem fn_of {CX : CXT} {P : Program} {w : World} {K : PySem.W.Frag} {mg : Str → Option Value} {base : Heap} {k : Nat} {f : Addr} {name qual : Str} {params : Arguments} {body : List Stmt} {scope : Scope} {dV kV doc pm cdv ct oc : Value} {an od : Option Addr}
    {osl : Array (Option Value)} {N ps : List Str} {sp : Sp} (lk : K.lookup f = some ⟨oc, od, .func (PySem.W.fnOf name qual params body scope dV kV doc pm an cdv ct), osl⟩) (hcd : PySem.W.codeIn K cdv qual = true) (S : FnScope N ps scope)
    (len : ∀ vs H Q E, sp vs H Q E → vs.length = ps.length)
    (hbody : ∀ (A : Around) (outer : List Env) (s : Shared) (H : Hp) (vs : List V) (Q : VK) (E : XK), Room k (A.deeper (envOfC qual scope s.heap.objs.size f cdv)) → sp vs H Q E →
      ∃ t, PSs (cxOf CX P w K mg base N qual scope f cdv A outer s H E) body t ∧ t { nx := fun _ H' => Q .non H', rt := Q } (start N vs) H) :
    FnOk P w K mg base CX (k + 1) f (PySem.W.fnOf name qual params body scope dV kV doc pm an cdv ct) ps sp := by
  refine ⟨len, fun A outer s H args us vs Q E hr e0 hb r hsp => ?_⟩
  have hl := len _ _ _ _ hsp
  have KX : K.In s.heap := e0.mod.kin.keeps fun b o e => (e0.bs b o e).1
  have lim : s.heap.NoLimit := e0.mod.nolimit.keeps fun b o e => (e0.bs b o e).1
  have hkind : ∀ y ∈ ps.zip us, scope.names.lookup y.1 = some .local ∨ (scope.names.lookup y.1 = some .cell ∧ ((cellsFrom (s.heap.objs.size + 1) scope.names []).lookup y.1).isSome = true) := fun ⟨n, v⟩ hy => by
    rcases S.par n (List.of_mem_zip hy).1 with q | q
    · exact .inl q
    · exact .inr ⟨q, PySem.W.cellsFrom_some _ _ _ (.inl q)⟩
  refine codeAny_call_function hr.depth (KX _ _ lk) rfl S.co S.gen rfl (PySem.W.codeRec_of KX hcd) (hb _ _ _ _ ?_)
  refine wpAny_newFunctionEnv_cells S.kind hkind fun env he s1 x => ?_
  subst he
  refine ⟨lim.keeps x.toInCall.keep, codeAny_func ?_⟩
  obtain ⟨t, ht, hq⟩ := hbody A outer s H vs Q E (hr.deeper _) hsp
  have I : Inv (cxOf CX P w K mg base N qual scope f cdv A outer s H E) [] (start N vs) H s1 := inv_start S hr.hd e0 hl r x
  refine wpAny_mono (ht [] s1 (start N vs) H _ I hq) (fun fl s' hs => ?_) fun e s' hs => hs
  have fin : ∀ {σ' : St} {H' : Hp} {v : V} {u : Value}, Inv (cxOf CX P w K mg base N qual scope f cdv A outer s H E) [] σ' H' s' → RelV v u → Q v H' → CE outer P w H s Q u s' :=
    fun {σ' H' v u} J rv q => ⟨v, H', J.os, J.bare, J.base, J.hok, rv, q⟩
  cases fl with
  | ret u =>
    obtain ⟨v, σ', H', J, rv, q⟩ := hs
    exact fin J rv q
  | next =>
    obtain ⟨σ', H', J, q⟩ := hs
    exact fin (v := V.non) (u := Value.none) J rfl q
  | brk =>
    obtain ⟨_, _, _, q⟩ := hs
    exact False.elim q
  | cont =>
    obtain ⟨_, _, _, q⟩ := hs
    exact False.elim q
end L2

namespace L2
open PySem PySem.Spec PyProof.Rows
section
variable {X : Cx} {x : Str} {p pos : Pos} {e : Expr} {es : List Expr} {t : TA} {id T : String} {r : List V → Hp → VK → Prop}

noncomputable def tCB (r : List V → Hp → VK → Prop) (t : TA) : TE := fun σ H Q => t σ H fun vs H1 => r vs H1 Q
theorem pe_callB (hc : CallR X (.builtin id) r) (hg : Gl X x) (hm : X.mg x = none) (hv : bootBuiltins x = some (.builtin id)) (ha : PA X (e :: es) t) (hn : x ≠ "__name__" := by decide) (hdb : (x == ("__debug__" : Str)) = false := by decide)
    (he : starEach (e :: es) X.env = (false, eval e X.env) :: starEach es X.env := by rfl) (hpl : (backTo pos (starEach es X.env)).any (·.1) = false := by rfl) : PE X (.Call (.Name x p) (e :: es) [] pos) (tCB r t) := by
  intro pins s σ H Q I h
  refine wpAny_Call_Name_kw (ld_blt I hg hm hv ?_ hn hdb)
  exact PyProof.Rows.callWith_builtin1 (thn (ha pos pins s σ H _ I h) fun us s1 ⟨vs, H1, I1, r1, q1⟩ => hc pins s1 σ H1 vs us Q I1 r1 q1) he hpl
theorem pe_callTy (hc : CallR X (.type T) r) (hg : Gl X x) (hm : X.mg x = none) (hv : bootBuiltins x = some (.type T)) (ha : PA X (e :: es) t) (hn : x ≠ "__name__" := by decide) (hdb : (x == ("__debug__" : Str)) = false := by decide)
    (he : starEach (e :: es) X.env = (false, eval e X.env) :: starEach es X.env := by rfl) (hpl : (backTo pos (starEach es X.env)).any (·.1) = false := by rfl) : PE X (.Call (.Name x p) (e :: es) [] pos) (tCB r t) := by
  intro pins s σ H Q I h
  refine wpAny_Call_Name_kw (ld_blt I hg hm hv ?_ hn hdb)
  exact PyProof.Rows.callWith_type1 (thn (ha pos pins s σ H _ I h) fun us s1 ⟨vs, H1, I1, r1, q1⟩ => hc pins s1 σ H1 vs us Q I1 r1 q1) he hpl
end
end L2

namespace HT
open PySem PyProof.Rows

section
open PySem.SeqAt
open PySem.AutoSeq1 (wpAny_loadPart')
open PySem.MeetsSeq PySem.MeetsSeq2 PySem.MeetsSeq3

end

section
variable {prog : Program} {w : World} {A : Around} {E : Value → Shared → Prop} {s : Shared}


noncomputable def sIx (n d : Nat) : Option Int → Nat
  | none => d
  | some v => if v < 0 then (v + (n : Int)).toNat else min v.toNat n
end
end HT

namespace L2
open PySem PySem.Spec PyProof.Rows


noncomputable abbrev TO := St → Hp → (Option Int → Hp → Prop) → Prop
noncomputable def PO (X : Cx) (e : Option Expr) (t : TO) : Prop :=
  ∀ (pins : List (Addr × Obj)) (s : Shared) (σ : St) (H : Hp) (Q : Option Int → Hp → Prop), Inv X pins σ H s → t σ H Q →
    wpAny (model X.prog X.w) X.A (evalPart e X.env) (fun u s' => ∃ o H', Inv X pins σ H' s' ∧ IsPart u o ∧ Q o H') X.xe s
noncomputable def tNoPart : TO := fun _ H Q => Q none H
noncomputable def tPart (t : TE) : TO := fun σ H Q => t σ H fun x H1 => ∃ i, x = .int i ∧ Q (some i) H1

section
variable {X : Cx} {e : Expr} {te : TE} {lo hi : Option Expr} {tl th : TO} {pos p2 : Pos}

theorem po_none : PO X none tNoPart := by
  intro pins s σ H Q I h
  rw [evalPart_none]
  exact wpAny_pure ⟨none, H, I, .none, h⟩
theorem po_some (h : PE X e te) : PO X (some e) (tPart te) := by
  intro pins s σ H Q I hw
  rw [evalPart_some]
  refine thn (h pins s σ H _ I hw) fun u s1 zz9 => ?_
  obtain ⟨x, H1, I1, r1, q1⟩ := zz9
  obtain ⟨i, rfl, q⟩ := q1
  obtain ⟨t, rfl⟩ := r1
  exact ⟨some i, H1, I1, .int i t, q⟩

noncomputable def SlR (X : Cx) (r : V → Option Int → Option Int → Hp → VK → Prop) : Prop :=
  ∀ (pins : List (Addr × Obj)) (s : Shared) (σ : St) (H : Hp) (x : V) (v vl vu : Value) (lo hi : Option Int) (sl : Addr) (Q : VK), Inv X pins σ H s → RelV x v → s.heap.IsSliceOf sl vl vu .none → IsPart vl lo → IsPart vu hi → r x lo hi H Q →
    ∃ T id, typeLookup (.type T) "__getitem__" = pure (some (.builtin id)) ∧ s.TypeIs v T ∧ wpAny (model X.prog X.w) X.A (getItem v (.ref sl)) (EP X pins σ Q) X.xe s
theorem SlR.or {r r' : V → Option Int → Option Int → Hp → VK → Prop} (h : SlR X r) (h' : SlR X r') : SlR X (fun x lo hi H Q => r x lo hi H Q ∨ r' x lo hi H Q) := by
  intro pins s σ H x v vl vu lo hi sl Q I rx hs pl pu q
  rcases q with q | q
  · exact h pins s σ H x v vl vu lo hi sl Q I rx hs pl pu q
  · exact h' pins s σ H x v vl vu lo hi sl Q I rx hs pl pu q
noncomputable def tSl (r : V → Option Int → Option Int → Hp → VK → Prop) (te : TE) (tl th : TO) : TE := fun σ H Q => te σ H fun x H1 => tl σ H1 fun l H2 => th σ H2 fun u H3 => r x l u H3 Q
theorem pe_slice {r : V → Option Int → Option Int → Hp → VK → Prop} (hr : SlR X r) (he : PE X e te) (hl : PO X lo tl) (hu : PO X hi th) : PE X (.Subscript e (.Slice lo hi none p2) pos) (tSl r te tl th) := by
  intro pins s σ H Q I h
  refine Subscript_ (thn (he pins s σ H _ I h) fun v s1 zz9 => ?_)
  obtain ⟨x, H1, I1, r1, q1⟩ := zz9
  refine wpAny_Slice (thn (hl pins s1 σ H1 _ I1 q1) fun vl s2 ⟨l, H2, I2, pl, q2⟩ => thn (hu pins s2 σ H2 _ I2 q2) fun vu s3 zz9 => ?_)
  obtain ⟨u, H3, I3, pu, q3⟩ := zz9
  rw [evalPart_none]
  refine wpAny_pure ?_
  have I4 : Inv X pins σ H3 { s3 with heap := s3.heap.push { cls := .type "slice", data := .fields #[vl, vu, .none] } } := I3.kept (t' := s3.toks) fun b ob q => Heap.get?_push_of_some _ q
  obtain ⟨T, id, hT, ht, hg⟩ := hr pins { s3 with heap := s3.heap.push { cls := .type "slice", data := .fields #[vl, vu, .none] } } σ H3 x v vl vu l u s3.heap.objs.size Q I4 r1 (Heap.IsSliceOf.new ..) pl pu q3
  show wpAny (model X.prog X.w) X.A (subscriptTail e (.Slice lo hi none p2) v (.ref s3.heap.objs.size)) (EP X pins σ Q) X.xe { s3 with heap := s3.heap.push { cls := .type "slice", data := .fields #[vl, vu, .none] } }
  exact tail_any (ops := [.ref s3.heap.objs.size, v]) ht hT hg (by with_unfolding_all rfl)

noncomputable def cutV (xs : List V) (lo hi : Option Int) : List V := (xs.drop (HT.sIx xs.length 0 lo)).take (HT.sIx xs.length xs.length hi - HT.sIx xs.length 0 lo)
theorem cutV_length (xs : List V) (lo hi : Option Int) : (cutV xs lo hi).length ≤ xs.length := by
  unfold cutV
  rw [List.length_take, List.length_drop]
  omega

end
end L2

namespace L2
open PySem PySem.Spec PyProof.Rows


noncomputable def ixN (n : Nat) (i : Int) : Option Nat := if 0 ≤ i then (if i < n then some i.toNat else none) else if -(n : Int) ≤ i then some (i + n).toNat else none
noncomputable def atI {α : Type} (xs : List α) (i : Int) : Option α := (ixN xs.length i).bind fun j => xs[j]?
theorem ixN_seq {n : Nat} {i : Int} {j : Nat} (h : ixN n i = some j) : seqIndex? i n = some j ∧ j < n ∧ -(n : Int) ≤ i ∧ i < n := by
  unfold ixN at h
  by_cases h0 : 0 ≤ i
  · rw [if_pos h0] at h
    by_cases h1 : i < n
    · rw [if_pos h1] at h
      have e : i.toNat = j := Option.some.inj h
      exact ⟨by rw [seqIndex_of h0 h1, e], by omega, by omega, h1⟩
    · rw [if_neg h1] at h; cases h
  · rw [if_neg h0] at h
    by_cases h1 : -(n : Int) ≤ i
    · rw [if_pos h1] at h
      have e : (i + n).toNat = j := Option.some.inj h
      exact ⟨by rw [seqIndex_neg (by omega) h1, e], by omega, h1, by omega⟩
    · rw [if_neg h1] at h; cases h
theorem atI_get {α : Type} {xs : List α} {i : Int} {v : α} (h : atI xs i = some v) : ∃ j, seqIndex? i xs.length = some j ∧ xs[j]? = some v ∧ j < xs.length ∧ -(xs.length : Int) ≤ i ∧ i < xs.length := by
  unfold atI at h
  cases e : ixN xs.length i with
  | none => rw [e] at h; cases h
  | some j =>
    rw [e] at h
    obtain ⟨h1, h2, h3, h4⟩ := ixN_seq e
    exact ⟨j, h1, h, h2, h3, h4⟩
theorem atI_nat {α : Type} {xs : List α} {j : Nat} {v : α} (h : xs[j]? = some v) : atI xs (j : Int) = some v := by
  have hj : j < xs.length := (List.getElem?_eq_some_iff.mp h).1
  have e : ixN xs.length (j : Int) = some j := by
    unfold ixN
    rw [if_pos (by omega), if_pos (by omega)]; simp
  unfold atI; rw [e]; exact h

noncomputable def PlainIx (b : Expr) : Prop := ∀ o i, subscripted b false o i = operate [o, i] (getItem o i)
noncomputable def IxR (X : Cx) (r : R2) : Prop :=
  ∀ (value slice : Expr) (pins : List (Addr × Obj)) (s : Shared) (σ : St) (H : Hp) (x y : V) (v u : Value) (Q : VK), Inv X pins σ H s → RelV x v → RelV y u → r x y H Q →
    subscripted slice false v u = operate [v, u] (getItem v u) → wpAny (model X.prog X.w) X.A (subscriptTail value slice v u) (EP X pins σ Q) X.xe s
noncomputable def MtR (X : Cx) (id : String) (r : V → List V → Hp → VK → Prop) : Prop :=
  ∀ (pins : List (Addr × Obj)) (s : Shared) (σ : St) (H : Hp) (x : V) (xs : List V) (v : Value) (us : List Value) (Q : VK), Inv X pins σ H s → RelV x v → Vals xs us → r x xs H Q →
    wpAny (model X.prog X.w) X.A (call (.builtin id) (v :: us)) (EP X pins σ Q) X.xe s
section
variable {X : Cx} {a b : Expr} {ta tb : TE} {pos : Pos}
theorem IxR.or {r r' : R2} (h : IxR X r) (h' : IxR X r') : IxR X (fun x y H Q => r x y H Q ∨ r' x y H Q) := by
  intro value slice pins s σ H x y v u Q I rx ry q hs
  rcases q with q | q
  · exact h value slice pins s σ H x y v u Q I rx ry q hs
  · exact h' value slice pins s σ H x y v u Q I rx ry q hs
theorem pe_ix {r : R2} (hr : IxR X r) (ha : PE X a ta) (hb : PE X b tb) (hs : PlainIx b) : PE X (.Subscript a b pos) (tOp r ta tb) := by
  intro pins s σ H Q I h
  exact Subscript_ (binT ha hb I h fun v u s2 x y H2 I2 rx ry q => hr a b pins s2 σ H2 x y v u Q I2 rx ry q (hs _ _))

noncomputable def rIxL (K : PySem.W.Frag) : R2 := fun x y H Q => ∃ p xs i v, x = .ref p ∧ y = .int i ∧ SqL K H p xs ∧ atI xs i = some v ∧ Q v H
noncomputable def rIxT (K : PySem.W.Frag) : R2 := fun x y H Q => ∃ p xs i v, x = .ref p ∧ y = .int i ∧ SqT K H p xs ∧ atI xs i = some v ∧ Q v H
noncomputable def rIxS : R2 := fun x y H Q => ∃ z i c, x = .str z ∧ y = .int i ∧ z.length ≤ sizeLine ∧ atI z.cps.toList i = some c ∧ Q (.str ⟨#[c]⟩) H
theorem ix_list : IxR X (rIxL X.K) := by
  intro value slice pins s σ H x y v u Q I rx ry h hs
  obtain ⟨p, xs, i, z, rfl, rfl, hq, he, q⟩ := h
  cases rx
  obtain ⟨t, rfl⟩ := ry
  obtain ⟨its, r, pl, hz⟩ := I.list hq
  obtain ⟨j, h1, h2, h3, h4, h5⟩ := atI_get he
  obtain ⟨w, ew, rw'⟩ := r.get h2
  have hl := r.length
  have hn := line63
  have fin : EP X pins σ Q w s := ⟨z, H, I, rw', q⟩
  by_cases h0 : 0 ≤ i
  · have hj : i.toNat = j := by
      rw [seqIndex_of h0 h5] at h1
      exact Option.some.inj h1
    exact item_listR pl.isList h0 (by omega) (by rw [hj]; simpa using ew) fin hs
  · have hj : (i + (its.toArray.size : Int)).toNat = j := by
      rw [seqIndex_neg (by omega) h4] at h1
      rw [List.size_toArray, ← hl]
      exact Option.some.inj h1
    exact subscriptTail_builtinR (x := w) pl.isList.typeIs slot_list_getitem.lookup
      (wpAny_getItem_list_neg (Q := fun r s' => r = w ∧ EP X pins σ Q r s') pl.isList (by omega) (by rw [List.size_toArray] <;> omega) (by omega) (by rw [hj]; simpa using ew) ⟨rfl, fin⟩) hs
theorem ix_tup : IxR X (rIxT X.K) := by
  intro value slice pins s σ H x y v u Q I rx ry h hs
  obtain ⟨p, xs, i, z, rfl, rfl, hq, he, q⟩ := h
  cases rx
  obtain ⟨t, rfl⟩ := ry
  obtain ⟨its, r, pl, hz⟩ := I.tuple hq
  obtain ⟨j, h1, h2, h3, h4, h5⟩ := atI_get he
  obtain ⟨w, ew, rw'⟩ := r.get h2
  have hl := r.length
  have hn := line63
  have fin : EP X pins σ Q w s := ⟨z, H, I, rw', q⟩
  exact subscriptTail_builtinR (x := w) pl.typeIs slot_tuple_getitem.lookup
    (getItem_tuple (j := j) (Q := fun r s' => r = w ∧ EP X pins σ Q r s') pl (by omega) (by omega) (by rw [List.size_toArray, ← hl]; exact h1) (by simpa using ew) ⟨rfl, fin⟩) hs
theorem ix_str : IxR X rIxS := by
  intro value slice pins s σ H x y v u Q I rx ry h hs
  obtain ⟨z, i, c, rfl, rfl, hz, he, q⟩ := h
  obtain ⟨t, rfl⟩ := rx
  obtain ⟨t', rfl⟩ := ry
  obtain ⟨j, h1, h2, h3, h4, h5⟩ := atI_get he
  have hl : z.cps.toList.length = z.length := by simp [Str.length]
  rw [hl] at h1 h4 h5
  have hn := line63
  exact tail_any (typeIs_str s z t) slot_str_getitem.lookup (getItem_str (c := c) (by
    have e1 : decide (i < -(2 ^ 63 : Int)) = false := decide_eq_false (by omega)
    have e2 : decide (i ≥ 2 ^ 63) = false := decide_eq_false (by omega)
    rw [e1, e2, Bool.or_false]) (by rw [h1]; simpa using h2) ⟨.str ⟨#[c]⟩, H, I.tok _, ⟨_, rfl⟩, q⟩) hs
noncomputable def rIx (K : PySem.W.Frag) : R2 := fun x y H Q => rIxL K x y H Q ∨ rIxT K x y H Q ∨ rIxS x y H Q
theorem ix_seq : IxR X (rIx X.K) := ix_list.or (ix_tup.or ix_str)



theorem slice_bounds (lo hi : Option Int) (n : Nat) : (sliceBounds lo hi none n).1 = ((HT.sIx n 0 lo : Nat) : Int) ∧ (sliceBounds lo hi none n).2.1 = ((HT.sIx n n hi : Nat) : Int) ∧ (sliceBounds lo hi none n).2.2 = 1 := by
  refine ⟨?_, ?_, rfl⟩
  · cases lo with
    | none => simp [sliceBounds, HT.sIx]
    | some i =>
      simp only [sliceBounds, HT.sIx, Option.getD_none, show (1 : Int) > 0 by decide, if_true]
      by_cases h : i < 0
      · simp only [h, if_true] <;> omega
      · simp only [h, if_false] <;> omega
  · cases hi with
    | none => simp [sliceBounds, HT.sIx]
    | some i =>
      simp only [sliceBounds, HT.sIx, Option.getD_none, show (1 : Int) > 0 by decide, if_true]
      by_cases h : i < 0
      · simp only [h, if_true] <;> omega
      · simp only [h, if_false] <;> omega
theorem slicePick_cut (its : List Value) (lo hi : Option Int) : slicePick its.toArray lo hi none = ((its.drop (HT.sIx its.length 0 lo)).take (HT.sIx its.length its.length hi - HT.sIx its.length 0 lo)).toArray := by
  obtain ⟨h1, h2, h3⟩ := slice_bounds lo hi its.toArray.size
  unfold slicePick
  rw [h1, h2, h3]
  simp only [sliceRange_one, pick_run, List.size_toArray] <;> rfl
noncomputable def rSlL (K : PySem.W.Frag) : V → Option Int → Option Int → Hp → VK → Prop := fun x lo hi H Q => ∃ a xs, x = .ref a ∧ SqL K H a xs ∧ ∀ p, H p = none → Q (.ref p) (upd H p (.lst (cutV xs lo hi)))
theorem sl_list : SlR X (rSlL X.K) := by
  intro pins s σ H x v vl vu lo hi sl Q I rx hs pl pu h
  obtain ⟨a, xs, rfl, hx, q⟩ := h
  cases rx
  obtain ⟨its, r, ht, hz⟩ := I.list hx
  have hlen := r.length
  refine ⟨"list", _, slot_list_getitem.lookup, ht.isList.typeIs, ?_⟩
  refine wpAny_getItem_list_slice ht.isList hs pl pu .none (by simp) ?_ (by rw [List.size_toArray] <;> omega)
  rw [slicePick_cut, ← hlen]
  refine ⟨.ref s.heap.objs.size, _, I.laid (t' := s.toks) (o := .lst (cutV xs lo hi)) (fun b ob q => Heap.get?_push_of_some _ q) (Nat.le_refl _) ?_, rfl, q _ (I.hok.fresh (Nat.le_refl _))⟩
  exact ⟨Nat.le_trans (cutV_length xs lo hi) hz, _, 0, (r.drop (HT.sIx xs.length 0 lo)).take (HT.sIx xs.length xs.length hi - HT.sIx xs.length 0 lo), Heap.get?_push_size _ rfl⟩


noncomputable def flatV : V → Bool
  | .non => true
  | .bl _ => true
  | .int _ => true
  | .str _ => true
  | _ => false
noncomputable def eqV : V → V → Bool
  | .non, .non => true
  | .bl a, .bl b => a == b
  | .bl a, .int b => (if a then 1 else 0) == b
  | .int a, .bl b => a == (if b then 1 else 0)
  | .int a, .int b => a == b
  | .str a, .str b => a == b
  | _, _ => false
theorem eqAt_V {A : Around} {s : Shared} {y x : V} {u v : Value} (ry : RelV y u) (rx : RelV x v) (fy : flatV y = true) (fx : flatV x = true) : SeqAt.EqAt A s u v (eqV y x) := by
  cases y with
  | non =>
    cases ry
    cases x with
    | non => cases rx; exact SeqAt.EqAt.same _
    | bl b => cases rx; exact SeqAt.EqAt.none_bool b
    | int b => obtain ⟨t, rfl⟩ := rx; exact SeqAt.EqAt.none_int b t
    | str b => obtain ⟨t, rfl⟩ := rx; exact SeqAt.EqAt.none_str b t
    | _ => exact absurd (show false = true from fx) Bool.false_ne_true
  | bl a =>
    cases ry
    cases x with
    | non => cases rx; exact SeqAt.EqAt.bool_none a
    | bl b => cases rx; exact SeqAt.EqAt.bool_bool a b
    | int b => obtain ⟨t, rfl⟩ := rx; exact SeqAt.EqAt.bool_int a b t
    | str b => obtain ⟨t, rfl⟩ := rx; exact SeqAt.EqAt.bool_str a b t
    | _ => exact absurd (show false = true from fx) Bool.false_ne_true
  | int a =>
    obtain ⟨t', rfl⟩ := ry
    cases x with
    | non => cases rx; exact SeqAt.EqAt.int_none a t'
    | bl b => cases rx; exact SeqAt.EqAt.int_bool a t' b
    | int b => obtain ⟨t, rfl⟩ := rx; exact SeqAt.EqAt.int_int a t' b t
    | str b => obtain ⟨t, rfl⟩ := rx; exact SeqAt.EqAt.int_str a t' b t
    | _ => exact absurd (show false = true from fx) Bool.false_ne_true
  | str a =>
    obtain ⟨t', rfl⟩ := ry
    cases x with
    | non => cases rx; exact SeqAt.EqAt.str_none a t'
    | bl b => cases rx; exact SeqAt.EqAt.str_bool a t' b
    | int b => obtain ⟨t, rfl⟩ := rx; exact SeqAt.EqAt.str_int a t' b t
    | str b => obtain ⟨t, rfl⟩ := rx; exact SeqAt.EqAt.str_str a t' b t
    | _ => exact absurd (show false = true from fx) Bool.false_ne_true
  | _ => exact absurd (show false = true from fy) Bool.false_ne_true
noncomputable def eqU (x : V) (u : Value) : Bool := match u with
  | .none => eqV .non x
  | .bool b => eqV (.bl b) x
  | .int i _ => eqV (.int i) x
  | .str z _ => eqV (.str z) x
  | _ => false
theorem eqU_of {x y : V} {u : Value} (r : RelV y u) (f : flatV y = true) : eqU x u = eqV y x := by
  cases y with
  | non => cases r; rfl
  | bl b => cases r; rfl
  | int i => obtain ⟨t, rfl⟩ := r; rfl
  | str z => obtain ⟨t, rfl⟩ := r; rfl
  | _ => exact absurd (show false = true from f) Bool.false_ne_true
theorem any_eqU {x : V} : ∀ {xs : List V} {us : List Value}, Vals xs us → xs.all flatV = true → us.any (eqU x) = xs.any fun y => eqV y x
  | _, _, .nil, _ => rfl
  | y :: xs, u :: us, .cons r t, f => by
    rw [List.all_cons, Bool.and_eq_true] at f
    rw [List.any_cons, List.any_cons, eqU_of r f.1, any_eqU t f.2]
theorem mem_eqAt {A : Around} {s : Shared} {x : V} {v : Value} (rx : RelV x v) (fx : flatV x = true) : ∀ {xs : List V} {us : List Value}, Vals xs us → xs.all flatV = true → ∀ u ∈ us, SeqAt.EqAt A s u v (eqU x u)
  | _, _, .nil, _ => fun u hu => by cases hu
  | y :: xs, u :: us, .cons r t, f => fun u' hu => by
    rw [List.all_cons, Bool.and_eq_true] at f
    rcases List.mem_cons.mp hu with rfl | hu
    · rw [eqU_of r f.1]; exact eqAt_V r rx f.1 fx
    · exact mem_eqAt rx fx t f.2 u' hu
noncomputable def inV (x : V) (xs : List V) : Bool := xs.any fun y => eqV y x
noncomputable def rIn (K : PySem.W.Frag) (neg : Bool) : R2 := fun x y H Q => ∃ p xs, y = .ref p ∧ (SqL K H p xs ∨ SqT K H p xs) ∧ flatV x = true ∧ xs.all flatV = true ∧ Q (.bl (if neg then !inV x xs else inV x xs)) H
theorem op_in_seq : OpR X (compareOp .In) (rIn X.K false) := by
  intro pins s σ H x y v u Q I rx ry h
  obtain ⟨p, xs, rfl, hq, fx, fs, q⟩ := h
  cases ry
  rcases hq with hq | hq
  · obtain ⟨its, r, pl, hz⟩ := I.list hq
    refine SeqAt.in_listAt (eqU x) pl.isList (fun w hw => mem_eqAt rx fx r fs w (by simpa using hw)) ⟨.bl _, H, I, rfl, ?_⟩
    rw [show its.toArray.any (eqU x) = its.any (eqU x) by simp, any_eqU r fs]
    exact q
  · obtain ⟨its, r, pl, hz⟩ := I.tuple hq
    refine SeqAt.in_tupleAt (eqU x) pl (fun w hw => mem_eqAt rx fx r fs w (by simpa using hw)) ⟨.bl _, H, I, rfl, ?_⟩
    rw [show its.toArray.any (eqU x) = its.any (eqU x) by simp, any_eqU r fs]
    exact q
theorem op_notIn_seq : OpR X (compareOp .NotIn) (rIn X.K true) := by
  intro pins s σ H x y v u Q I rx ry h
  obtain ⟨p, xs, rfl, hq, fx, fs, q⟩ := h
  cases ry
  rcases hq with hq | hq
  · obtain ⟨its, r, pl, hz⟩ := I.list hq
    refine SeqAt.notIn_listAt (eqU x) pl.isList (fun w hw => mem_eqAt rx fx r fs w (by simpa using hw)) ⟨.bl _, H, I, rfl, ?_⟩
    rw [show its.toArray.any (eqU x) = its.any (eqU x) by simp, any_eqU r fs]
    exact q
  · obtain ⟨its, r, pl, hz⟩ := I.tuple hq
    refine SeqAt.notIn_tupleAt (eqU x) pl (fun w hw => mem_eqAt rx fx r fs w (by simpa using hw)) ⟨.bl _, H, I, rfl, ?_⟩
    rw [show its.toArray.any (eqU x) = its.any (eqU x) by simp, any_eqU r fs]
    exact q

theorem CallR.or {f : Value} {r r' : List V → Hp → VK → Prop} (h : CallR X f r) (h' : CallR X f r') : CallR X f (fun xs H Q => r xs H Q ∨ r' xs H Q) := by
  intro pins s σ H xs us Q I rs q
  rcases q with q | q
  · exact h pins s σ H xs us Q I rs q
  · exact h' pins s σ H xs us Q I rs q

noncomputable def tyV (K : PySem.W.Frag) (T : String) (x : V) (H : Hp) : Prop := match x with
  | .str _ => T = "str"
  | .int _ => T = "int"
  | .ref p => (T = "list" ∧ ∃ xs, SqL K H p xs) ∨ (T = "tuple" ∧ ∃ o, K.lookup p = some o ∧ o.cls = .type "tuple" ∧ o.dict = none) ∨
      (T = "dict" ∧ ((∃ kvs, H p = some (.dK kvs)) ∨ ∃ kvs, H p = some (.dT kvs))) ∨ (T = "set" ∧ ∃ S n, H p = some (.set S n))
  | _ => False
theorem tyV_is {pins : List (Addr × Obj)} {σ : St} {H : Hp} {s : Shared} {T : String} {x : V} {v : Value} (I : Inv X pins σ H s) (r : RelV x v) (ty : tyV X.K T x H) :
    s.TypeIs v T ∧ ∀ a, v = .ref a → ∃ ob, s.heap.get? a = some ob ∧ ob.dict = none := by
  cases x with
  | str z =>
    obtain ⟨t, rfl⟩ := r
    cases (show T = "str" from ty)
    exact ⟨typeIs_str s z t, fun _ e => nomatch e⟩
  | int i =>
    obtain ⟨t, rfl⟩ := r
    cases (show T = "int" from ty)
    exact ⟨typeIs_int s i t, fun _ e => nomatch e⟩
  | ref p =>
    cases r
    rcases ty with ⟨rfl, xs, hq⟩ | ⟨rfl, o, hk, hc, hd⟩ | ⟨rfl, hk⟩ | ⟨rfl, S, n, hk⟩
    · obtain ⟨its, _, pl, _⟩ := I.list hq
      refine ⟨pl.isList.typeIs, fun a e => ?_⟩
      cases e
      obtain ⟨o, n, e, c, hd, _⟩ := pl
      exact ⟨o, e, hd⟩
    · refine ⟨⟨o, I.kIn p o hk, hc⟩, fun a e => ?_⟩
      cases e
      exact ⟨o, I.kIn _ o hk, hd⟩
    · have z : ∃ o, s.heap.get? p = some o ∧ o.ExactDict := by
        rcases hk with ⟨kvs, hk⟩ | ⟨kvs, hk⟩
        · obtain ⟨_, _, _, _, o, _, _, e, ex, _⟩ := I.hok p _ hk
          exact ⟨o, e, ex⟩
        · obtain ⟨_, _, _, _, o, _, _, e, ex, _⟩ := I.hok p _ hk
          exact ⟨o, e, ex⟩
      obtain ⟨o, e, ex⟩ := z
      refine ⟨⟨o, e, ex.1⟩, fun a e2 => ?_⟩
      cases e2
      exact ⟨o, e, ex.2.1⟩
    · obtain ⟨o, _, _, _, e, ex, _⟩ := I.hok p _ hk
      refine ⟨⟨o, e, ex.1⟩, fun a e2 => ?_⟩
      cases e2
      exact ⟨o, e, ex.2.1⟩
  | _ => exact False.elim ty
noncomputable def tBM0 (K : PySem.W.Frag) (T : String) (r : V → List V → Hp → VK → Prop) (to : TE) : TE := fun σ H Q => to σ H fun x H1 => tyV K T x H1 ∧ r x [] H1 Q
noncomputable def tBM (K : PySem.W.Frag) (T : String) (r : V → List V → Hp → VK → Prop) (to : TE) (t : TA) : TE := fun σ H Q => to σ H fun x H1 => tyV K T x H1 ∧ t σ H1 fun xs H2 => r x xs H2 Q
variable {o e : Expr} {es : List Expr} {to : TE} {t : TA} {name : Str} {apos cpos : Pos} {T id : String} {r : V → List V → Hp → VK → Prop}
theorem pe_bm0 (pa : PlainAttrs T) (slot : Slot T name id) (hty : typeOf (.builtin id) = pure (.type "method_descriptor")) (hm : MtR X id r) (ho : PE X o to)
    (hbase : attributeBase o name X.env (eval o X.env) = eval o X.env := by rfl) (hline : (apos.endLine == cpos.line) = true := by rfl) : PE X (.Call (.Attribute o name apos) [] [] cpos) (tBM0 X.K T r to) := by
  intro pins s σ H Q I h
  refine wpAny_Call_method0_late hbase hline (thn (ho pins s σ H _ I h) fun v s1 zz9 => ?_)
  obtain ⟨x, H1, I1, r1, ty, q1⟩ := zz9
  obtain ⟨h1, h2⟩ := tyV_is I1 r1 ty
  exact ⟨T, id, pa, slot, hty, h1, h2, Calls.callWith_builtin rfl (PySem.evalArgs_none (hm pins s1 σ H1 x [] v [] Q I1 r1 .nil q1))⟩
theorem pe_bm (pa : PlainAttrs T) (slot : Slot T name id) (hty : typeOf (.builtin id) = pure (.type "method_descriptor")) (hm : MtR X id r) (ho : PE X o to) (ha : PA X (e :: es) t)
    (hbase : attributeBase o name X.env (eval o X.env) = eval o X.env := by rfl)
    (hfew : ((backTo cpos (starEach (e :: es) X.env)).all (fun x => !x.1) && (backToKw cpos (keywordEach [] X.env)).all (fun x => x.1.isSome)
      && decide ((e :: es).length + ([] : List Keyword).length + (if ([] : List Keyword).isEmpty then 0 else 1) < 30)) = true := by rfl)
    (hline : (apos.endLine == cpos.line) = true := by rfl) (hs : starEach (e :: es) X.env = (false, eval e X.env) :: starEach es X.env := by rfl) (hplain : (backTo cpos (starEach es X.env)).any (·.1) = false := by rfl) :
    PE X (.Call (.Attribute o name apos) (e :: es) [] cpos) (tBM X.K T r to t) := by
  intro pins s σ H Q I h
  refine wpAny_Call_method_late hbase hfew hline rfl (thn (ho pins s σ H _ I h) fun v s1 zz9 => ?_)
  obtain ⟨x, H1, I1, r1, ty, q1⟩ := zz9
  obtain ⟨h1, h2⟩ := tyV_is I1 r1 ty
  refine ⟨T, id, pa, slot, hty, h1, h2, ?_⟩
  have hA := ha cpos pins s1 σ H1 _ I1 q1
  rw [hs] at hA ⊢
  refine Calls.callWith_builtin (by show (false || (backTo cpos (starEach es X.env)).any (·.1)) = false; rw [hplain] <;> rfl) (Calls.evalArgs_plain ?_)
  exact thn hA fun us s2 ⟨vs, H2, I2, r2, q2⟩ => hm pins s2 σ H2 x vs v us Q I2 r1 r2 q2
/- xs.append(e), list.index on a module's tuple .. are MtR facts of 06m -/
end
end L2

namespace L2
open PySem PySem.Spec PyProof.Rows

noncomputable def MtM (X : Cx) (id : String) (r : V → List V → Hp → VK → Prop) : Prop :=
  ∀ (pins : List (Addr × Obj)) (s : Shared) (σ : St) (H : Hp) (x : V) (xs : List V) (v : Value) (us : List Value) (Q : VK), Inv X pins σ H s → RelV x v → Vals xs us → r x xs H Q →
    wpAny (model X.prog X.w) X.A (call (.builtin id) (v :: us)) (EP X pins σ Q) X.xe s


theorem Vals.one : ∀ {x : V} {us : List Value}, Vals [x] us → ∃ u, us = [u] ∧ RelV x u
  | _, _, .cons r .nil => ⟨_, rfl, r⟩
theorem Vals.zero : ∀ {us : List Value}, Vals [] us → us = []
  | _, .nil => rfl
theorem Vals.eraseIdx : ∀ {xs : List V} {us : List Value} (i : Nat), Vals xs us → Vals (xs.eraseIdx i) (us.eraseIdx i)
  | _, _, _, .nil => .nil
  | _, _, 0, .cons _ t => t
  | _, _, i + 1, .cons r t => .cons r (Vals.eraseIdx i t)
theorem Vals.reverse {xs : List V} {us : List Value} (h : Vals xs us) : Vals xs.reverse us.reverse := by
  induction h with
  | nil => exact .nil
  | cons r t ih => rw [List.reverse_cons, List.reverse_cons]; exact Vals.append ih (.cons r .nil)
theorem len_erase {α : Type} : ∀ (l : List α) (i : Nat), (l.eraseIdx i).length ≤ l.length
  | [], _ => Nat.le_refl _
  | _ :: _, 0 => Nat.le_succ _
  | _ :: r, i + 1 => Nat.succ_le_succ (len_erase r i)
section
variable {X : Cx} {pins : List (Addr × Obj)} {σ : St} {H : Hp} {s : Shared} {l b : Addr} {xs ys zs : List V}


theorem Inv.lset {its its' : List Value} {n : Nat} {f : Array Value → Array Value} {t' : Nat} (I : Inv X pins σ H s) (hH : H l = some (.lst xs))
    (e : s.heap.get? l = some { cls := .type "list", data := .seq its.toArray n }) (hf : f its.toArray = its'.toArray) (hv : Vals ys its') (hz : ys.length ≤ sizeLine) :
    Inv X pins σ (upd H l (.lst ys)) { s with heap := s.heap.update l (Obj.mapSeq f), toks := t' } := by
  have q := PySem.IsL.update e f
  rw [hf] at q
  refine I.write (x := l) (e := l) (by rw [hH]; exact trivial) (.inl rfl) (fun b' u hb hu => (Heap.get?_update_other s.heap (Obj.mapSeq f) (Ne.symm hb)).trans hu) ⟨_, q⟩ ?_
  exact ⟨hz, its', _, hv, q⟩
theorem Inv.fresh (I : Inv X pins σ H s) : H s.heap.objs.size = none := I.hok.fresh (Nat.le_refl _)
theorem Inv.lstM (I : Inv X pins σ H s) (hH : H l = some (.lst xs)) : xs.length ≤ sizeLine ∧ ∃ (its : List Value) (n : Nat), Vals xs its ∧ xs.length = its.length ∧ s.heap.get? l = some { cls := .type "list", data := .seq its.toArray n } := by
  obtain ⟨z, its, n, r, e⟩ := I.hok l _ hH
  exact ⟨z, its, n, r, r.length, e⟩

end

section
variable {X : Cx}


noncomputable def rAppend : V → List V → Hp → VK → Prop := fun x vs H Q => ∃ l xs y, x = .ref l ∧ vs = [y] ∧ H l = some (.lst xs) ∧ xs.length < sizeLine ∧ Q .non (upd H l (.lst (xs ++ [y])))
theorem mt_append : MtM X "list.append" rAppend := by
  intro pins s σ H x vs v us Q I rx rv h
  obtain ⟨l, xs, y, rfl, rfl, hH, hz, q⟩ := h
  cases rx
  obtain ⟨u, rfl, ru⟩ := rv.one
  obtain ⟨z, its, n, r, hl, e⟩ := I.lstM hH
  refine call_meets F.slot_list_append ⟨_, e, rfl⟩ F.entry_list_append (F.args_list_append_2 _ _) (PySem.list_append l its.toArray n u (by rw [List.size_toArray]; omega)) ⟨e, ?_⟩
  refine ⟨.non, _, I.lset (its' := its ++ [u]) hH e (by simp) (r.append (.cons ru .nil)) ?_, rfl, q⟩
  rw [List.length_append, List.length_singleton]
  omega

noncomputable def rPopAt : V → List V → Hp → VK → Prop := fun x vs H Q => ∃ l xs i k y, x = .ref l ∧ vs = [.int i] ∧ H l = some (.lst xs) ∧ -(2 ^ 63) ≤ i ∧ i < 2 ^ 63 ∧ seqIndex? i xs.length = some k ∧ xs[k]? = some y ∧ Q y (upd H l (.lst (xs.eraseIdx k)))
theorem mt_popAt : MtM X "list.pop" rPopAt := by
  intro pins s σ H x vs v us Q I rx rv h
  obtain ⟨l, xs, i, k, y, rfl, rfl, hH, h1, h2, hk, hy, q⟩ := h
  cases rx
  obtain ⟨u, rfl, ru⟩ := rv.one
  obtain ⟨t, rfl⟩ := ru
  obtain ⟨z, its, n, r, hl, e⟩ := I.lstM hH
  obtain ⟨w, hw, rw'⟩ := r.get hy
  refine call_meets F.slot_list_pop ⟨_, e, rfl⟩ F.entry_list_pop (F.args_list_pop_2 _ _)
    (MeetsSeq.list_pop_at l its.toArray n i t k w (fitsIndex_both h1 h2) (by rw [List.size_toArray, ← hl]; exact hk) (by rw [← Array.getElem?_toList]; exact hw) (by rw [List.size_toArray]; omega)) ⟨e, ?_⟩
  refine ⟨y, _, I.lset (its' := its.eraseIdx k) hH e ?_ (r.eraseIdx k) ?_, rw', q⟩
  · show its.toArray.eraseIdxIfInBounds k = (its.eraseIdx k).toArray
    rw [List.eraseIdxIfInBounds_toArray]
  · have := len_erase xs k
    omega



end


section
variable {prog : Program} {w : World} {A : Around} {E : Value → Shared → Prop} {s : Shared}
set_option maxRecDepth 100000 in
end

section
variable {X : Cx}
end
end L2

namespace Att
open PySem PySem.W PySem.Calls PyProof.Rows


theorem ints_of_wellAll {P : Params} {h : Heap} : ∀ (ns : List Int) (vs : List Value), WellAll P h vs (ns.map WData.int) → IntsAre vs ns := by
  intro ns
  induction ns with
  | nil =>
    intro vs w
    rw [List.map_nil] at w
    cases w
    exact .nil
  | cons n ns ih =>
    intro vs w
    rw [List.map_cons] at w
    cases w with
    | cons a b =>
      cases a
      exact .cons _ _ (ih _ b)

theorem script_of {l : OpenLaw} {n : Nat} (hn : l.most = some n) {P : Params} {h : Heap} {args : List WData} {vals : List Value}
    (hpre : l.row.toRowW.claim.pre args = true) (hwl : WellAll P h vals args) :
    ∃ a vs ns, vals = [Value.ref a] ∧ args = [WData.list (ns.map WData.int)] ∧ h.get? a = some { cls := .type "list", data := .seq vs.toArray } ∧ IntsAre vs ns ∧ ns.length ≤ n := by
  have hsh : WShape.hasAll [] args [.list .int] = true := (pre_splitW hpre).1
  have hc : l.pre.holds [] { args := args } = true := (pre_splitW hpre).2
  obtain ⟨d, r, rfl, h1, h2⟩ := hasAllW_cons hsh
  obtain rfl := hasAllW_nil h2
  obtain ⟨xs, rfl, h3⟩ := hasW_list h1
  obtain ⟨ns, rfl⟩ := items_int h3
  have hlen : ns.length ≤ n := by
    unfold OpenLaw.pre at hc
    have h4 : (WTm.not (.lt (.lit (.int (n : Int))) (.len (.arg 0)))).holds [] { args := [.list (ns.map .int)] } = true := by
      have h4 := (holds_andW hc).1
      rw [hn] at h4
      exact h4
    have h5 := condW_of h4 (w_not (w_lt w_lit (w_len_list (w_arg rfl))))
    rw [List.length_map] at h5
    refine Nat.le_of_not_lt fun q => ?_
    have q' : (n : Int) < ((ns.length : Nat) : Int) := by omega
    first
      | (rw [decide_eq_true q'] at h5; exact absurd h5 (by decide))
      | (simp at h5; omega)
  cases hwl with
  | cons w1 w2 =>
    cases w2
    cases w1 with
    | list ho hall => exact ⟨_, _, ns, rfl, rfl, ho, ints_of_wellAll ns _ hall, hlen⟩

theorem post_true (l : OpenLaw) (args : List WData) : l.row.toRowW.claim.post args (.bool true) args = true :=
  postW_of (r := l.row.toRowW) (X := (true == true))
    (show WShape.has [] (.bool true) .bool = true by first | rfl | decide | simp [WShape.has, WShape.arms, WShape.armsAll])
    (show (WTm.eq .res (.lit (.bool true))).value [] { args := args, res := some (.bool true), after := args } = some (.bool (true == true)) from w_eq_bool (w_res rfl) w_lit) rfl



section
variable {prog : Program} {w : World} {A : Around} {E : Value → Shared → Prop} {s : Shared} {K : Frag}


end
end Att

namespace L2
open PySem PySem.Spec PyProof.Rows

theorem vals_ints : ∀ {vs : List Value} {ns : List Int}, IntsAre vs ns → Vals (ns.map V.int) vs
  | _, _, .nil => .nil
  | _, _, .cons n t h => .cons ⟨t, rfl⟩ (vals_ints h)

noncomputable def Only (H : Hp) : Prop := ∀ b, H b = none ∨ ∃ o xs, H b = some (.frz o (.lst xs))

end L2

namespace L2
open PySem PySem.Spec PyProof.Rows

end L2

/- THE LAST THEOREM (shape; LID, My.* are yours):
   My.Adr: a structure of the addresses that your layer names (classes, functions); My.Txt K t: a structure (Prop) of the equations over K;
   My.txt_mk : {K} {implicit addresses ..} (e1 : nsIn K mainGlobals "law" = some (some (.ref f))) (e2 : K.lookup f = some ⟨oc, od, .func (fnOf "law" "law" params body scope dV kV doc pm an cdv ct), sl⟩) (e3 : codeIn K cdv "law" = true) .. : ∃ t, My.Txt K t

set_option maxRecDepth 100000 in
(the tactic k_is has no namespace: write k_is) -/


namespace L2
open PySem PySem.Spec PyProof.Rows


noncomputable def inClass (s : Stmt) (j : Nat) : Stmt := match s with
  | .ClassDef _ _ _ body _ _ _ _ _ _ _ => body.getD j (.Pass ⟨0, 0, 0, 0⟩)
  | _ => .Pass ⟨0, 0, 0, 0⟩
noncomputable def defArgs (s : Stmt) : Arguments := match s with
  | .FunctionDef _ a _ _ _ _ _ _ _ _ => a
  | _ => { posonlyargs := [], args := [], vararg := none, kwonlyargs := [], kw_defaults := [], kwarg := none, defaults := [] }
noncomputable def defBody (s : Stmt) : List Stmt := match s with
  | .FunctionDef _ _ b _ _ _ _ _ _ _ => b
  | _ => []
noncomputable def defScope (s : Stmt) : Scope := match s with
  | .FunctionDef _ _ _ _ _ _ sc _ _ _ => sc
  | _ => { kind := .function, names := [], isGenerator := false, isCoroutine := false }


noncomputable abbrev CX0 : CXT := fun _ _ _ _ _ _ => False
noncomputable abbrev E0 : XK := fun _ _ _ => False

structure Fun (K : PySem.W.Frag) (x qual : Str) (st : Stmt) (f : Addr) (fd : FuncData) : Prop where
  ex : ∃ (oc : Value) (od : Option Addr) (kV doc pm : Value) (an : Option Addr) (cdv ct : Value) (osl : Array (Option Value)),
    fd = PySem.W.fnOf x qual (defArgs st) (defBody st) (defScope st) .none kV doc pm an cdv ct ∧ K.lookup f = some ⟨oc, od, .func fd, osl⟩ ∧ PySem.W.codeIn K cdv qual = true
  kp : PySem.W.keepIn K (.ref f) = true
section
variable {P : Program} {w : World} {K : PySem.W.Frag} {mg : Str → Option Value} {base : Heap}
theorem Fun.binds {x qual : Str} {st : Stmt} {f : Addr} {fd : FuncData} {ps : List Str} (F : Fun K x qual st f fd)
    (h : ∀ (kV doc pm : Value) (an : Option Addr) (cdv ct : Value) (us : List Value), us.length = ps.length → bindArgs (PySem.W.fnOf x qual (defArgs st) (defBody st) (defScope st) .none kV doc pm an cdv ct) ⟨us, []⟩ = pure (ps.zip us)) : Binds K fd ps [] := by
  obtain ⟨oc, od, kV, doc, pm, an, cdv, ct, osl, rfl, lk, hcd⟩ := F.ex
  exact .all (h kV doc pm an cdv ct)
theorem fun_mk {x qual : Str} {st : Stmt} {f : Addr} {oc : Value} {od an : Option Addr} {osl : Array (Option Value)} {kV doc pm cdv ct : Value} (l : K.lookup f = some ⟨oc, od, .func (PySem.W.fnOf x qual (defArgs st) (defBody st) (defScope st) .none kV doc pm an cdv ct), osl⟩)
    (c : PySem.W.codeIn K cdv qual = true) (k : PySem.W.keepIn K (.ref f) = true) : Fun K x qual st f (PySem.W.fnOf x qual (defArgs st) (defBody st) (defScope st) .none kV doc pm an cdv ct) := ⟨⟨oc, od, kV, doc, pm, an, cdv, ct, osl, rfl, l, c⟩, k⟩
end
theorem hu_of {A : Around} {k : Nat} (hr : Room k A) : A.units + 1 < cLine := Nat.lt_of_le_of_lt (Nat.add_le_add_left (by decide : 1 ≤ 64) _) hr.units
theorem small1000 {n : Nat} (h : n ≤ 1000) : n < sizeLine := Nat.lt_of_le_of_lt h (by decide)


section
variable {X : Cx}
theorem pv (i : Nat) {x : Str} {pos : Pos} (hN : X.N[i]? = some x := by rfl) (hv : Vis X.env.scope x := by first | exact Or.inl rfl | exact Or.inr (Or.inl rfl) | exact Or.inr (Or.inr rfl)) (hd : (x == ("__debug__" : Str)) = false := by decide)
    (hcd : (x == ("__classdict__" : Str)) = false := by decide) : PE X (.Name x pos) (tVar i) := pe_var hN hv hd hcd
end


theorem ite2 {c A B : Prop} [Decidable c] (h1 : c → A) (h2 : ¬ c → B) : if c then A else B := by
  by_cases h : c
  · rw [if_pos h]
    exact h1 h
  · rw [if_neg h]
    exact h2 h

noncomputable def Same (H H' : Hp) : Prop := ∀ b o, H b = some o → H' b = some o
theorem Same.refl (H : Hp) : Same H H := fun _ _ h => h
theorem Same.trans {H H1 H2 : Hp} (a : Same H H1) (b : Same H1 H2) : Same H H2 := fun c o h => b c o (a c o h)
theorem Same.free {H H' : Hp} (e : Same H H') {l : Addr} (h : H' l = Option.none) : H l = Option.none := by
  cases q : H l with
  | none => rfl
  | some o =>
    rw [e l o q] at h
    cases h
theorem Same.seq {K : PySem.W.Frag} {H H' : Hp} {a : Addr} {xs : List V} (e : Same H H') (h : SqL K H a xs) : SqL K H' a xs := by
  rcases h with (h | ⟨o, h⟩) | h
  · exact .inl (.inl (e _ _ h))
  · exact .inl (.inr ⟨o, e _ _ h⟩)
  · exact .inr h

end L2

namespace L2
open PySem PySem.Spec PyProof.Rows


section
variable {κ : Type} [DecidableEq κ]
noncomputable def valV (kvs : List (κ × V)) (k : κ) : Option V := (kvs.find? fun kv => decide (kv.1 = k)).map (·.2)
noncomputable def putK (kvs : List (κ × V)) (k : κ) (v : V) : List (κ × V) :=
  if (kvs.any fun kv => decide (kv.1 = k)) = true then kvs.map (fun kv => if kv.1 = k then (kv.1, v) else kv) else kvs ++ [(k, v)]
theorem valV_pos {p : κ × V} {r : List (κ × V)} {k : κ} (e : p.1 = k) : valV (p :: r) k = some p.2 := by simp [valV, List.find?_cons, e]
theorem valV_neg {p : κ × V} {r : List (κ × V)} {k : κ} (e : ¬ p.1 = k) : valV (p :: r) k = valV r k := by simp [valV, List.find?_cons, e]
theorem valV_any (k : κ) : ∀ kvs : List (κ × V), (kvs.any fun kv => decide (kv.1 = k)) = (valV kvs k).isSome
  | [] => rfl
  | p :: r => by
    rw [List.any_cons]
    by_cases e : p.1 = k
    · simp only [valV_pos e, decide_eq_true e, Bool.true_or, Option.isSome_some]
    · rw [valV_neg e, decide_eq_false e, Bool.false_or]; exact valV_any k r
theorem length_putK (kvs : List (κ × V)) (k : κ) (v : V) : (putK kvs k v).length ≤ kvs.length + 1 := by
  unfold putK
  split
  · rw [List.length_map]; omega
  · rw [List.length_append, List.length_cons, List.length_nil]; omega
theorem RelO.isSome_eq {o : Option V} {u : Option Value} (r : RelO o u) : o.isSome = u.isSome := by
  cases o with
  | none => cases u with
    | none => rfl
    | some _ => exact (show False from r).elim
  | some _ => cases u with
    | none => exact (show False from r).elim
    | some _ => rfl
theorem RelO.getD {o : Option V} {u : Option Value} {d : V} {d' : Value} (r : RelO o u) (rd : RelV d d') : RelV (o.getD d) (u.getD d') := by
  cases o with
  | none => cases u with
    | none => exact rd
    | some _ => exact (show False from r).elim
  | some _ => cases u with
    | none => exact (show False from r).elim
    | some _ => exact r

theorem KV.val {kvs : List (κ × V)} {vs : List (κ × Value)} (r : KV kvs vs) (k : κ) : RelO (valV kvs k) (valueAt vs k) := by
  unfold KV at r
  induction r with
  | nil => exact True.intro
  | @cons p q ps qs h t ih =>
    obtain ⟨h1, h2⟩ := h
    by_cases e : p.1 = k
    · have e' : q.1 = k := h1.symm.trans e
      have b : valueAt (q :: qs) k = some q.2 := by simp [valueAt, List.find?_cons, e']
      rw [valV_pos e, b]; exact h2
    · have e' : ¬ q.1 = k := fun z => e (h1.trans z)
      have b : valueAt (q :: qs) k = valueAt qs k := by simp [valueAt, List.find?_cons, e']
      rw [valV_neg e, b]; exact ih
theorem KV.any {kvs : List (κ × V)} {vs : List (κ × Value)} (r : KV kvs vs) (k : κ) : (kvs.any fun kv => decide (kv.1 = k)) = vs.any fun kv => decide (kv.1 = k) := by
  unfold KV at r
  induction r with
  | nil => rfl
  | cons h t ih => rw [List.any_cons, List.any_cons, ih, h.1]
theorem KV.repl {kvs : List (κ × V)} {vs : List (κ × Value)} (r : KV kvs vs) (k : κ) {y : V} {u : Value} (ry : RelV y u) :
    KV (kvs.map fun kv => if kv.1 = k then (kv.1, y) else kv) (vs.map fun kv => if kv.1 = k then (kv.1, u) else kv) := by
  unfold KV at r ⊢
  induction r with
  | nil => exact .nil
  | @cons p q ps qs h t ih =>
    rw [List.map_cons, List.map_cons]
    refine .cons ?_ ih
    obtain ⟨h1, h2⟩ := h
    by_cases e : p.1 = k
    · rw [if_pos e, if_pos (h1.symm.trans e)]; exact ⟨h1, ry⟩
    · rw [if_neg e, if_neg (fun z => e (h1.trans z))]; exact ⟨h1, h2⟩
theorem KV.put {kvs : List (κ × V)} {vs : List (κ × Value)} (r : KV kvs vs) (k : κ) {y : V} {u : Value} (ry : RelV y u) : KV (putK kvs k y) (stored vs k u) := by
  unfold putK stored
  rw [r.any k]
  by_cases e : (vs.any fun kv => decide (kv.1 = k)) = true
  · rw [if_pos e, if_pos e]; exact r.repl k ry
  · rw [if_neg e, if_neg e]; exact Paired.snoc r ⟨rfl, ry⟩
theorem KV.length {kvs : List (κ × V)} {vs : List (κ × Value)} (r : KV kvs vs) : kvs.length = vs.length := Paired.length r
end



theorem kV_is {P : Program} {w : World} {k : Key} {u : Value} (r : RelV (kV k) u) : (mixKind P w).is k u = true := by
  cases k with
  | inl i => obtain ⟨t, e⟩ := (show ∃ t, u = Value.int i t from r); subst e; exact mixKind_int P w i t
  | inr x => obtain ⟨t, e⟩ := (show ∃ t, u = Value.str x t from r); subst e; exact mixKind_str P w x t
theorem items_are {P : Program} {w : World} : ∀ {ks : List Key} {us : List Value}, Vals (ks.map kV) us → ItemsAre (mixKind P w) ks us
  | [], _, r => by rw [List.map_nil] at r; cases r; exact .nil
  | k :: ks, _, r => by
    rw [List.map_cons] at r
    cases r with
    | cons h t => exact .cons (kV_is h) (items_are t)

noncomputable abbrev KT (H : Hp) : List (List Key × V) → List (List Key × Addr × Value) → Prop := Paired fun p q => p.1 = q.1 ∧ H q.2.1 = some (.tup (p.1.map kV)) ∧ RelV p.2 q.2.2
theorem KT.val {H : Hp} {kvs : List (List Key × V)} {xs : List (List Key × Addr × Value)} (r : KT H kvs xs) (k : List Key) : RelO (valV kvs k) ((atKey xs k).map (·.2)) := by
  induction r with
  | nil => exact True.intro
  | @cons p q ps qs h t ih =>
    obtain ⟨h1, _, h2⟩ := h
    by_cases e : p.1 = k
    · have e' : q.1 = k := h1.symm.trans e
      have b : atKey (q :: qs) k = some q.2 := by simp [atKey, List.find?_cons, e']
      rw [valV_pos e, b]; exact h2
    · have e' : ¬ q.1 = k := fun z => e (h1.trans z)
      have b : atKey (q :: qs) k = atKey qs k := by simp [atKey, List.find?_cons, e']
      rw [valV_neg e, b]; exact ih
theorem KT.repl {H : Hp} {kvs : List (List Key × V)} {xs : List (List Key × Addr × Value)} (r : KT H kvs xs) (k : List Key) {y : V} {u : Value} (ry : RelV y u) :
    KT H (kvs.map fun kv => if kv.1 = k then (kv.1, y) else kv) (xs.map (putAt k u)) := by
  induction r with
  | nil => exact .nil
  | @cons p q ps qs h t ih =>
    rw [List.map_cons, List.map_cons]
    refine .cons ?_ ih
    obtain ⟨h1, h2, h3⟩ := h
    unfold putAt
    by_cases e : p.1 = k
    · rw [if_pos e, if_pos (h1.symm.trans e)]; exact ⟨h1, h2, ry⟩
    · rw [if_neg e, if_neg (fun z => e (h1.trans z))]; exact ⟨h1, h2, h3⟩
theorem KT.put {H : Hp} {kvs : List (List Key × V)} {xs : List (List Key × Addr × Value)} (r : KT H kvs xs) (k : List Key) {b : Addr} {y : V} {u : Value} (hb : H b = some (.tup (k.map kV))) (ry : RelV y u) :
    KT H (putK kvs k y) (storedH xs k b u) := by
  have e : (kvs.any fun kv => decide (kv.1 = k)) = (atKey xs k).isSome := by
    rw [valV_any, (r.val k).isSome_eq, Option.isSome_map]
  unfold putK storedH
  rw [e]
  by_cases q : (atKey xs k).isSome = true
  · rw [if_pos q, if_pos q]; exact r.repl k ry
  · rw [if_neg q, if_neg q]; exact Paired.snoc r ⟨rfl, hb, ry⟩
theorem KT.keeps {H H' : Hp} {kvs : List (List Key × V)} {xs : List (List Key × Addr × Value)} (r : KT H kvs xs) (ht : ∀ b ys, H b = some (.tup ys) → H' b = some (.tup ys)) : KT H' kvs xs :=
  Paired.mapP r fun _ _ z => ⟨z.1, ht _ _ z.2.1, z.2.2⟩

section
variable {P : Program} {w : World} {H : Hp} {h : Heap} {a : Addr}
theorem rd_of {u : HO} (ok : HOk P w H h) (e : Rd H a u) : ObjOk P w H h a u := e.ok ok
theorem dk_rd {kvs : List (Key × V)} (ok : HOk P w H h) (e : Rd H a (.dK kvs)) : kvs.length ≤ sizeLine ∧ (a == sysModules) = false ∧ ∃ vs, KV kvs vs ∧ h.DictOf (mixKind P w) a vs :=
  show ObjOk P w H h a (.dK kvs) from rd_of ok e
theorem dk_of {kvs : List (Key × V)} (ok : HOk P w H h) (e : H a = some (.dK kvs)) : kvs.length ≤ sizeLine ∧ (a == sysModules) = false ∧ ∃ vs, KV kvs vs ∧ h.DictOf (mixKind P w) a vs := dk_rd ok (.inl e)
theorem key_of {ks : List Key} (ok : HOk P w H h) (e : H a = some (.tup (ks.map kV))) : (tupleKind (mixKind P w)).is h ks a := by
  obtain ⟨_, its, r, o, h1, h2, n, h3⟩ := (show ObjOk P w H h a (.tup (ks.map kV)) from ok a _ e)
  exact ⟨o, its.toArray, n, h1, h2, h3, by simpa using items_are r⟩
theorem dt_rd {kvs : List (List Key × V)} (ok : HOk P w H h) (e : Rd H a (.dT kvs)) : kvs.length ≤ sizeLine ∧ (a == sysModules) = false ∧
    ∃ xs, KT H kvs xs ∧ h.DictOfH (tupleKind (mixKind P w)) a xs := by
  obtain ⟨z, y, xs, r, o, es, ep, h1, h2, h3, h4, h5⟩ := (show ObjOk P w H h a (.dT kvs) from rd_of ok e)
  refine ⟨z, y, xs, r, o, es, ep, h1, h2, h3, h4, fun x hx => ?_, h5⟩
  have all : ∀ {l : List (List Key × V)} {m : List (List Key × Addr × Value)}, KT H l m → ∀ x ∈ m, (tupleKind (mixKind P w)).is h x.1 x.2.1 := by
    intro l m q
    induction q with
    | nil => intro x hx; exact nomatch hx
    | @cons p q ps qs hq t ih =>
      intro x hx
      rcases List.mem_cons.mp hx with e | hx
      · subst e
        exact key_of ok (by rw [← hq.1]; exact hq.2.1)
      · exact ih x hx
  exact all r x hx
theorem dt_of {kvs : List (List Key × V)} (ok : HOk P w H h) (e : H a = some (.dT kvs)) : kvs.length ≤ sizeLine ∧ (a == sysModules) = false ∧
    ∃ xs, KT H kvs xs ∧ h.DictOfH (tupleKind (mixKind P w)) a xs := dt_rd ok (.inl e)
end

noncomputable def DGet (H : Hp) (a : Addr) (y : V) (r : Option V) : Prop :=
  (∃ kvs k, Rd H a (.dK kvs) ∧ y = kV k ∧ r = valV kvs k) ∨ ∃ kvs k b, Rd H a (.dT kvs) ∧ y = .ref b ∧ H b = some (.tup (k.map kV)) ∧ r = valV kvs k
noncomputable def DPut (H : Hp) (a : Addr) (y v : V) (H' : Hp) : Prop :=
  (∃ kvs k, H a = some (.dK kvs) ∧ y = kV k ∧ kvs.length < sizeLine ∧ H' = upd H a (.dK (putK kvs k v))) ∨
  ∃ kvs k b, H a = some (.dT kvs) ∧ y = .ref b ∧ H b = some (.tup (k.map kV)) ∧ kvs.length < sizeLine ∧ H' = upd H a (.dT (putK kvs k v))
theorem DGet.k {H : Hp} {a : Addr} {kvs : List (Key × V)} {k : Key} (e : H a = some (.dK kvs)) : DGet H a (kV k) (valV kvs k) := .inl ⟨kvs, k, .inl e, rfl, rfl⟩
theorem DPut.k {H : Hp} {a : Addr} {kvs : List (Key × V)} {k : Key} {v : V} (e : H a = some (.dK kvs)) (hl : kvs.length < sizeLine) : DPut H a (kV k) v (upd H a (.dK (putK kvs k v))) := .inl ⟨kvs, k, e, rfl, hl, rfl⟩
section
variable {X : Cx} {pins : List (Addr × Obj)} {σ : St} {H : Hp} {s : Shared} {a : Addr} {y v : V} {u r : Value} {o : Option V} {A : Around} {E : Value → Shared → Prop}

theorem Inv.big (I : Inv X pins σ H s) : sysModules < s.heap.objs.size := by
  have h : mainGlobals < s.heap.objs.size := (I.mod.glob.keeps I.bk).lt
  exact Nat.lt_trans (by decide) h

theorem d_getItem {Q : Value → Shared → Prop} (hu : A.units + 1 < cLine) (I : Inv X pins σ H s) (g : DGet H a y (some v)) (ry : RelV y u) (h : ∀ w' s', Inv X pins σ H s' → RelV v w' → Q w' s') :
    wpAny (model X.prog X.w) A (getItem (.ref a) u) Q E s := by
  rcases g with ⟨kvs, k, e, ey, l⟩ | ⟨kvs, k, b, e, ey, eb, l⟩
  · subst ey
    obtain ⟨z, hd, vs, rel, dd⟩ := dk_rd I.hok e
    obtain ⟨w', hw, rw'⟩ := RelO.some_of (v := v) (o := valueAt vs k) (by rw [l]; exact rel.val k)
    exact wpAny_getItem_of (kV_is ry) dd.mapOf hw (h w' _ (I.tok _) rw')
  · subst ey
    cases (show u = Value.ref b from ry)
    obtain ⟨z, hd, xs, rel, dd⟩ := dt_rd I.hok e
    obtain ⟨w', hw, rw'⟩ := RelO.some_of (v := v) (o := (atKey xs k).map (·.2)) (by rw [l]; exact rel.val k)
    obtain ⟨p, hp, hp2⟩ := Option.map_eq_some_iff.mp hw
    refine wpAny_getItem_heap (tupleKind_room_in1 hu) (key_of I.hok eb) dd hp ?_
    rw [hp2]
    exact h w' _ (I.tok _) rw'
theorem d_in {Q : Value → Shared → Prop} (hu : A.units + 1 < cLine) (I : Inv X pins σ H s) (g : DGet H a y o) (ry : RelV y u) (h : ∀ s', Inv X pins σ H s' → Q (.bool o.isSome) s') :
    wpAny (model X.prog X.w) A (compareOp .In u (.ref a)) Q E s := by
  rcases g with ⟨kvs, k, e, ey, l⟩ | ⟨kvs, k, b, e, ey, eb, l⟩
  · subst ey
    obtain ⟨z, hd, vs, rel, dd⟩ := dk_rd I.hok e
    refine wpAny_in_of (kV_is ry) hd dd.mapOf ?_
    rw [← (rel.val k).isSome_eq, ← l]
    exact h _ (I.tok _)
  · subst ey
    cases (show u = Value.ref b from ry)
    obtain ⟨z, hd, xs, rel, dd⟩ := dt_rd I.hok e
    refine wpAny_in_heap (tupleKind_room_in1 hu) (key_of I.hok eb) hd dd ?_
    have q := (rel.val k).isSome_eq
    rw [Option.isSome_map] at q
    rw [← q, ← l]
    exact h _ (I.tok _)
theorem d_notIn {Q : Value → Shared → Prop} (hu : A.units + 1 < cLine) (I : Inv X pins σ H s) (g : DGet H a y o) (ry : RelV y u) (h : ∀ s', Inv X pins σ H s' → Q (.bool (!o.isSome)) s') :
    wpAny (model X.prog X.w) A (compareOp .NotIn u (.ref a)) Q E s := by
  rcases g with ⟨kvs, k, e, ey, l⟩ | ⟨kvs, k, b, e, ey, eb, l⟩
  · subst ey
    obtain ⟨z, hd, vs, rel, dd⟩ := dk_rd I.hok e
    refine wpAny_notIn_of (kV_is ry) hd dd.mapOf ?_
    rw [← (rel.val k).isSome_eq, ← l]
    exact h _ (I.tok _)
  · subst ey
    cases (show u = Value.ref b from ry)
    obtain ⟨z, hd, xs, rel, dd⟩ := dt_rd I.hok e
    refine wpAny_notIn_heap (tupleKind_room_in1 hu) (key_of I.hok eb) hd dd ?_
    have q := (rel.val k).isSome_eq
    rw [Option.isSome_map] at q
    rw [← q, ← l]
    exact h _ (I.tok _)
theorem d_write {h' : Heap} {t' : Nat} {ob : HO} (I : Inv X pins σ H s) (mu : Mut (H a)) (hs : Heap.SameBut a s.heap h') (he : ∃ q, h'.get? a = some q) (new : ObjOk X.prog X.w (upd H a ob) h' a ob) :
    Inv X pins σ (upd H a ob) { s with heap := h', toks := t' } :=
  I.write (x := a) (e := a) mu (.inl rfl) (fun b q hb z => (hs.2 b hb).trans z) he new
theorem dk_new {P : Program} {w : World} {H' : Hp} {h' : Heap} {kvs : List (Key × V)} {vs : List (Key × Value)} (z : kvs.length ≤ sizeLine) (hd : (a == sysModules) = false) (rel : KV kvs vs) (dd : h'.DictOf (mixKind P w) a vs) :
    ObjOk P w H' h' a (.dK kvs) := ⟨z, hd, vs, rel, dd⟩
theorem d_setItem {H' : Hp} {Q : Unit → Shared → Prop} (hu : A.units + 1 < cLine) (I : Inv X pins σ H s) (g : DPut H a y v H') (ry : RelV y u) (rv : RelV v r) (h : ∀ s', Inv X pins σ H' s' → Q () s') :
    wpAny (model X.prog X.w) A (setItem (.ref a) u r) Q E s := by
  rcases g with ⟨kvs, k, e, ey, l, eH⟩ | ⟨kvs, k, b, e, ey, eb, l, eH⟩
  · subst ey eH
    obtain ⟨z, hd, vs, rel, dd⟩ := dk_of I.hok e
    have hz : vs.length ≤ sizeLine := by rw [← rel.length]; exact z
    have hl : (putK kvs k v).length ≤ sizeLine := by have := length_putK kvs k v; omega
    refine wpAny_setItem_pairs (hsz := hz) (kV_is ry) dd fun h' dd' hs => h _ ?_
    have he : ∃ q, h'.get? a = some q := let ⟨q, _, _, hq, _⟩ := dd'; ⟨q, hq⟩
    exact d_write I (by rw [e]; exact True.intro) hs he (dk_new hl hd (rel.put k rv) dd')
  · subst ey eH
    cases (show u = Value.ref b from ry)
    obtain ⟨z, hd, xs, rel, dd⟩ := dt_of I.hok e
    have hz : xs.length ≤ sizeLine := by rw [← Paired.length rel]; exact z
    have hl : (putK kvs k v).length ≤ sizeLine := by have := length_putK kvs k v; omega
    refine wpAny_setItem_heap (hsz := hz) (tupleKind_room_in1 hu) (key_of I.hok eb) dd fun h' dd' hs => h _ ?_
    obtain ⟨q, es, ep, hq, h2, h3, h4, _, h5⟩ := dd'
    refine d_write I (by rw [e]; exact True.intro) hs ⟨q, hq⟩ ⟨hl, hd, _, (rel.put k eb rv).keeps fun c ys ec => ?_, q, es, ep, hq, h2, h3, h4, h5⟩
    rw [upd_ne (ne_of ec e (fun z => nomatch z))]
    exact ec
end

section
variable {X : Cx} {pins : List (Addr × Obj)} {σ : St} {H : Hp} {s : Shared} {a : Addr} {kvs : List (Key × V)} {k : Key} {u : Value} {A : Around} {E : Value → Shared → Prop}
theorem d_len {Q : Value → Shared → Prop} (I : Inv X pins σ H s) (e : Rd H a (.dK kvs)) (h : ∀ t s', Inv X pins σ H s' → Q (.int kvs.length t) s') : wpAny (model X.prog X.w) A (call (.builtin "len") [.ref a]) Q E s := by
  obtain ⟨z, hd, vs, rel, dd⟩ := dk_rd I.hok e
  refine call_len_dict hd dd (by rw [← rel.length]; rw [sizeLine_eq] at z; omega) ?_
  rw [← rel.length]
  exact h _ _ (I.tok _)
end



noncomputable def NoSl (i : Expr) : Prop := ∀ ov iv, subscripted i false ov iv = operate [ov, iv] (getItem ov iv)
theorem subD_of {prog : Program} {w : World} {A : Around} {E : Value → Shared → Prop} {s : Shared} {env : Env} {value slice : Expr} {pos : Pos} {T id : String} {Q : Value → Shared → Prop}
    (hl : typeLookup (.type T) "__getitem__" = pure (some (.builtin id))) (hs : NoSl slice)
    (h : wpAny (model prog w) A (eval value env) (fun o s₁ => wpAny (model prog w) A (eval slice env) (fun i s₂ => s₂.TypeIs o T ∧ wpAny (model prog w) A (getItem o i) Q E s₂) E s₁) E s) :
    wpAny (model prog w) A (eval (.Subscript value slice pos) env) Q E s := by
  refine Subscript_ (wpAny_mono h (fun o s₁ h₁ => wpAny_mono h₁ (fun i s₂ h₂ => ?_) fun _ _ x => x) fun _ _ x => x)
  obtain ⟨hT, h₂⟩ := h₂
  unfold subscriptTail
  refine wpAny_bind ?_
  rw [getitemInPython_of_ne hT.not_modules]
  refine wpAny_bind (wpAny_specialOf hT hl ?_)
  have fin : wpAny (model prog w) A (subscripted slice false o i) (fun r s₃ => wpAny (model prog w) A (letTemporaryGo value o r >>= fun _ => pure r) Q E s₃) E s₂ := by
    rw [hs o i]
    exact wpAny_operating (wpAny_mono h₂ (fun r s₃ h₃ => wpAny_bind (wpAny_letTemporaryGo (wpAny_pure h₃))) fun _ _ x => x)
  first
    | exact wpAny_pure (wpAny_bind fin)
    | exact wpAny_bind (wpAny_pure (wpAny_bind fin))
    | exact wpAny_bind fin

theorem dict_typeIs {X : Cx} {pins : List (Addr × Obj)} {σ : St} {H : Hp} {s : Shared} {a : Addr} {y : V} {o : Option V} (I : Inv X pins σ H s) (g : DGet H a y o) : s.TypeIs (.ref a) "dict" := by
  rcases g with ⟨kvs, k, e, _, _⟩ | ⟨kvs, k, b, e, _, _, _⟩
  · obtain ⟨_, _, vs, _, dd⟩ := dk_rd I.hok e
    exact dd.typeIs
  · obtain ⟨_, _, xs, _, dd⟩ := dt_rd I.hok e
    exact dd.typeIs
noncomputable def tDGet (td ty : TE) : TE := fun σ H Q => td σ H fun x H1 => ty σ H1 fun y H2 => ∃ a v, x = .ref a ∧ DGet H2 a y (some v) ∧ Q v H2
noncomputable def tDIn (ty td : TE) : TE := fun σ H Q => ty σ H fun y H1 => td σ H1 fun x H2 => ∃ a o, x = .ref a ∧ DGet H2 a y o ∧ Q (.bl o.isSome) H2
noncomputable def tDNotIn (ty td : TE) : TE := fun σ H Q => ty σ H fun y H1 => td σ H1 fun x H2 => ∃ a o, x = .ref a ∧ DGet H2 a y o ∧ Q (.bl (!o.isSome)) H2
noncomputable def sDPut (td ty tv : TE) : TS := fun D σ H => tv σ H fun v H1 => td σ H1 fun x H2 => ty σ H2 fun y H3 => ∃ a H4, x = .ref a ∧ DPut H3 a y v H4 ∧ D.nx σ H4
section
variable {X : Cx} {o i e value : Expr} {pos pos' tpos : Pos} {td ty tv : TE}
theorem pe_dget (hu : X.A.units + 1 < cLine) (ho : PE X o td) (hi : PE X i ty) (hs : NoSl i) : PE X (.Subscript o i pos) (tDGet td ty) := by
  intro pins s σ H Q I h
  refine subD_of PySem.F.slot_dict_getitem.lookup hs (thn (ho pins s σ H _ I h) fun u s1 ⟨x, H1, I1, rx, q1⟩ => thn (hi pins s1 σ H1 _ I1 q1) fun iv s2 zz9 => ?_)
  obtain ⟨y, H2, I2, ry, a, v, ex, g, q2⟩ := zz9
  subst ex
  obtain rfl : u = Value.ref a := rx
  exact ⟨dict_typeIs I2 g, d_getItem hu I2 g ry fun w' s3 I3 rw' => ⟨v, H2, I3, rw', q2⟩⟩
theorem pc_din (hu : X.A.units + 1 < cLine) (hi : PE X i ty) (ho : PE X o td) : PC X .In i o (tDIn ty td) := by
  intro pins s σ H Q I h
  refine thn (hi pins s σ H _ I h) fun iv s1 ⟨y, H1, I1, ry, q1⟩ => thn (ho pins s1 σ H1 _ I1 q1) fun u s2 zz9 => ?_
  obtain ⟨x, H2, I2, rx, a, ov, ex, g, q2⟩ := zz9
  subst ex
  obtain rfl : u = Value.ref a := rx
  exact d_in hu I2 g ry fun s3 I3 => ⟨.bl ov.isSome, H2, I3, rfl, q2⟩
theorem pc_dnotin (hu : X.A.units + 1 < cLine) (hi : PE X i ty) (ho : PE X o td) : PC X .NotIn i o (tDNotIn ty td) := by
  intro pins s σ H Q I h
  refine thn (hi pins s σ H _ I h) fun iv s1 ⟨y, H1, I1, ry, q1⟩ => thn (ho pins s1 σ H1 _ I1 q1) fun u s2 zz9 => ?_
  obtain ⟨x, H2, I2, rx, a, ov, ex, g, q2⟩ := zz9
  subst ex
  obtain rfl : u = Value.ref a := rx
  exact d_notIn hu I2 g ry fun s3 I3 => ⟨.bl (!ov.isSome), H2, I3, rfl, q2⟩
theorem ps_dput (hu : X.A.units + 1 < cLine) (ho : PE X o td) (hi : PE X i ty) (hv : PE X value tv) (hs : swapsWith value (some (.Subscript o i pos')) pos.line X.env = pure false) :
    PS X (.Assign [.Subscript o i pos'] value pos) (sDPut td ty tv) := by
  intro pins s σ H D I h
  refine wpAny_Assign_Subscript (thn (hv pins s σ H _ I h) fun r s1 ⟨v, H1, I1, rv, q1⟩ => thn (ho pins s1 σ H1 _ I1 q1) fun u s2 ⟨x, H2, I2, rx, q2⟩ => thn (hi pins s2 σ H2 _ I2 q2) fun iv s3 ⟨y, H3, I3, ry, a, H4, ex, g, q3⟩ => ?_) hs
  subst ex
  obtain rfl : u = Value.ref a := rx
  exact d_setItem hu I3 g ry rv fun s4 I4 => ⟨σ, H4, I4, q3⟩
end



theorem dk_empty {P : Program} {w : World} {H : Hp} (h : Heap) (hb : sysModules < h.objs.size) : ObjOk P w H (h.push { cls := .type "dict", data := .dict #[] }) h.objs.size (.dK []) :=
  ⟨Nat.zero_le _, beq_eq_false_iff_ne.mpr (Ne.symm (Nat.ne_of_lt hb)), [], .nil, Heap.DictOf.new h⟩
noncomputable def tDNewK : TE := fun _ H Q => ∀ p, H p = none → Q (.ref p) (upd H p (.dK []))
section
variable {X : Cx} {pos : Pos}
theorem pe_dnewK : PE X (.Dict [] [] pos) tDNewK := fun pins s σ H Q I h =>
  wpAny_Dict_empty ⟨.ref s.heap.objs.size, _, I.laid (a := s.heap.objs.size) (o := .dK []) (t' := s.toks) (fun _ _ q => Heap.get?_push_of_some _ q) (Nat.le_refl _) (dk_empty s.heap I.big), rfl, h _ (I.hok.fresh (Nat.le_refl _))⟩
end

noncomputable def tPairs : List (TE × TE) → St → Hp → (List (V × V) → Hp → Prop) → Prop
  | [], _, H, Q => Q [] H
  | (tk, tv) :: r, σ, H, Q => tk σ H fun x H1 => tv σ H1 fun y H2 => tPairs r σ H2 fun ps H3 => Q ((x, y) :: ps) H3
noncomputable abbrev VV : List (V × V) → List (Value × Value) → Prop := Paired fun p q => RelV p.1 q.1 ∧ RelV p.2 q.2
noncomputable def PPs (X : Cx) (pos : Pos) (keys : List (Option Expr)) (values : List Expr) (trs : List (TE × TE)) : Prop :=
  ∀ (pins : List (Addr × Obj)) (s : Shared) (σ : St) (H : Hp) (Q : List (V × V) → Hp → Prop), Inv X pins σ H s → tPairs trs σ H Q →
    wpAny (model X.prog X.w) X.A (evalPairs (pairTrees keys values X.env pos)) (fun vs s' => ∃ ps H', Inv X pins σ H' s' ∧ VV ps vs ∧ Q ps H') X.xe s
theorem pps_nil {X : Cx} {pos : Pos} : PPs X pos [] [] [] := fun pins s σ H Q I h => pairTrees_nil_walk ⟨[], H, I, .nil, h⟩
theorem pps_cons {X : Cx} {pos : Pos} {k v : Expr} {ks : List (Option Expr)} {vs : List Expr} {tk tv : TE} {trs : List (TE × TE)} (hk : PE X k tk) (hv : PE X v tv) (hr : PPs X pos ks vs trs) :
    PPs X pos (some k :: ks) (v :: vs) ((tk, tv) :: trs) := fun pins s σ H Q I h =>
  pairTrees_cons_walk (thn (hk pins s σ H _ I h) fun u s1 ⟨x, H1, I1, rx, q1⟩ => thn (hv pins s1 σ H1 _ I1 q1) fun w2 s2 ⟨y, H2, I2, ry, q2⟩ =>
    thn (hr pins s2 σ H2 _ I2 q2) fun ws s3 ⟨ps, H3, I3, rel, q3⟩ => ⟨(x, y) :: ps, H3, I3, .cons ⟨rx, ry⟩ rel, q3⟩)

noncomputable def mergeK (kvs more : List (Key × V)) : List (Key × V) := more.foldl (fun acc kv => putK acc kv.1 kv.2) kvs
theorem KV.merge : ∀ {more : List (Key × V)} {rs : List (Key × Value)} {kvs : List (Key × V)} {vs : List (Key × Value)}, KV more rs → KV kvs vs → KV (mergeK kvs more) (merged vs rs) := by
  intro more rs kvs vs r
  unfold KV at r
  induction r generalizing kvs vs with
  | nil => intro q; exact q
  | @cons p q ps qs h t ih =>
    intro r0
    have e : KV (putK kvs p.1 p.2) (stored vs q.1 q.2) := by
      have := r0.put p.1 h.2
      rw [← h.1]; exact this
    exact ih e
theorem length_mergeK : ∀ (more kvs : List (Key × V)), (mergeK kvs more).length ≤ kvs.length + more.length
  | [], kvs => by show kvs.length ≤ kvs.length + 0; omega
  | p :: r, kvs => by
    have h1 := length_mergeK r (putK kvs p.1 p.2)
    have h2 := length_putK kvs p.1 p.2
    show (mergeK (putK kvs p.1 p.2) r).length ≤ _
    rw [List.length_cons]; omega
theorem carries_of {P : Program} {w : World} : ∀ {kvs : List (Key × V)} {ws : List (Value × Value)}, VV (kvs.map fun kv => (kV kv.1, kv.2)) ws → ∃ rs, Carries (mixKind P w) ws rs ∧ KV kvs rs
  | [], _, r => by rw [List.map_nil] at r; cases r; exact ⟨[], True.intro, .nil⟩
  | p :: kvs, _, r => by
    rw [List.map_cons] at r
    cases r with
    | @cons a b as bs h t =>
      obtain ⟨rs, c, q⟩ := carries_of (P := P) (w := w) t
      obtain ⟨b1, b2⟩ := b
      exact ⟨(p.1, b2) :: rs, ⟨kV_is h.1, rfl, c⟩, .cons ⟨rfl, h.2⟩ q⟩
noncomputable def tDisp (trs : List (TE × TE)) : TE := fun σ H Q => ∀ p, H p = none → tPairs trs σ (upd H p (.dK [])) fun ps H2 => H2 p = some (.dK []) ∧ ∃ kvs : List (Key × V), ps = kvs.map (fun kv => (kV kv.1, kv.2)) ∧ kvs.length ≤ 15 ∧ Q (.ref p) (upd H2 p (.dK (mergeK [] kvs)))
theorem pe_disp {X : Cx} {pos : Pos} {keys : List (Option Expr)} {values : List Expr} {trs : List (TE × TE)} (h : PPs X pos keys values trs) (hall : keys.all (·.isSome) = true) (hl : keys.length = values.length) (h0 : keys ≠ [])
    (h15 : keys.length ≤ 15) : PE X (.Dict keys values pos) (tDisp trs) := by
  intro pins s σ H Q I q
  have hn := I.hok.fresh (Nat.le_refl s.heap.objs.size)
  have I1 := I.laid (a := s.heap.objs.size) (o := .dK []) (h' := s.heap.push { cls := .type "dict", data := .dict #[] }) (t' := s.toks) (fun _ _ q => Heap.get?_push_of_some _ q) (Nat.le_refl _) (dk_empty s.heap I.big)
  refine wpAny_Dict_walk (knd := mixKind X.prog X.w) hall hl h0 h15 (thn (h pins _ σ _ _ I1 (q _ hn)) fun ws s2 zz9 => ?_)
  obtain ⟨ps, H2, I2, rel, e, kvs, ep, lk, q2⟩ := zz9
  subst ep
  obtain ⟨rs, c, rk⟩ := carries_of (P := X.prog) (w := X.w) rel
  obtain ⟨z, hd, vs0, r0, dd⟩ := dk_of I2.hok e
  cases r0
  refine ⟨rs, c, dd, fun h' dd' hs => ⟨.ref s.heap.objs.size, _, ?_, rfl, q2⟩⟩
  have hz : (mergeK [] kvs).length ≤ sizeLine := by
    have h1 := length_mergeK kvs []
    rw [List.length_nil] at h1
    rw [sizeLine_eq]; omega
  have he : ∃ q, h'.get? s.heap.objs.size = some q := let ⟨q, _, _, hq, _⟩ := dd'; ⟨q, hq⟩
  exact d_write I2 (by rw [e]; exact True.intro) hs he (dk_new hz hd (rk.merge .nil) dd')




structure M1 (X : Cx) (o : Expr) (m : Str) (apos : Pos) (e : Expr) (cpos : Pos) : Prop where
  base : attributeBase o m X.env (eval o X.env) = eval o X.env
  few : ((backTo cpos (starEach [e] X.env)).all (fun x => !x.1) && (backToKw cpos (keywordEach [] X.env)).all (fun x => x.1.isSome)
    && decide (([e] : List Expr).length + ([] : List Keyword).length + (if ([] : List Keyword).isEmpty then 0 else 1) < 30)) = true
  line : (apos.endLine == cpos.line) = true
  trees : backTo cpos (starEach [e] X.env) = [(false, eval e X.env)]
noncomputable def IsD (H : Hp) (a : Addr) : Prop := (∃ kvs, Rd H a (.dK kvs)) ∨ ∃ kvs, Rd H a (.dT kvs)
theorem isD_at {X : Cx} {pins : List (Addr × Obj)} {σ : St} {H : Hp} {s : Shared} {a : Addr} (I : Inv X pins σ H s) (d : IsD H a) :
    s.TypeIs (.ref a) "dict" ∧ (∀ b, Value.ref a = .ref b → ∃ ob, s.heap.get? b = some ob ∧ ob.dict = none) ∧ (a == sysModules) = false := by
  rcases d with ⟨kvs, e⟩ | ⟨kvs, e⟩
  · obtain ⟨_, hd, vs, _, dd⟩ := dk_rd I.hok e
    refine ⟨dd.typeIs, fun b q => ?_, hd⟩
    cases q
    obtain ⟨ob, _, _, h1, h2, _⟩ := dd
    exact ⟨ob, h1, h2.2.1⟩
  · obtain ⟨_, hd, xs, _, dd⟩ := dt_rd I.hok e
    refine ⟨dd.typeIs, fun b q => ?_, hd⟩
    cases q
    obtain ⟨ob, _, _, h1, h2, _⟩ := dd
    exact ⟨ob, h1, h2.2.1⟩

section
variable {X : Cx} {pins : List (Addr × Obj)} {σ : St} {H : Hp} {s : Shared} {a : Addr} {y d : V} {u r : Value} {o : Option V} {A : Around} {E : Value → Shared → Prop}
theorem d_get1 {Q : Value → Shared → Prop} (hu : A.units + 1 < cLine) (I : Inv X pins σ H s) (g : DGet H a y o) (ry : RelV y u) (h : ∀ w' s', Inv X pins σ H s' → RelV (o.getD .non) w' → Q w' s') :
    wpAny (model X.prog X.w) A (call (.builtin "dict.get") [.ref a, u]) Q E s := by
  rcases g with ⟨kvs, k, e, ey, l⟩ | ⟨kvs, k, b, e, ey, eb, l⟩
  · subst ey
    obtain ⟨z, hd, vs, rel, dd⟩ := dk_rd I.hok e
    refine call_meetsIn PySem.F.slot_dict_get dd.typeIs PySem.F.entry_dict_get (PySem.F.args_dict_get_2 _ _) (meets_dict_get (mixKind X.prog X.w) a (kV_is ry) hd) ⟨_, dd.mapOf, h _ _ (I.tok _) ?_⟩
    rw [l]
    exact (rel.val k).getD rfl
  · subst ey
    cases (show u = Value.ref b from ry)
    obtain ⟨z, hd, xs, rel, dd⟩ := dt_rd I.hok e
    refine call_meetsIn PySem.F.slot_dict_get dd.typeIs PySem.F.entry_dict_get (PySem.F.args_dict_get_2 _ _) (meetsH_dict_get (tupleKind (mixKind X.prog X.w)) a b hd) ⟨tupleKind_room_in1 hu, k, xs, key_of I.hok eb, dd, h _ _ (I.tok _) ?_⟩
    rw [l]
    exact (rel.val k).getD rfl
end

noncomputable def tDGet1 (td ty : TE) : TE := fun σ H Q => td σ H fun x H1 => ∃ a, x = .ref a ∧ IsD H1 a ∧ ty σ H1 fun y H2 => ∃ o, DGet H2 a y o ∧ Q (o.getD .non) H2
section
variable {X : Cx} {o e f : Expr} {apos cpos : Pos} {td ty tx : TE}
theorem pe_dget1 (hu : X.A.units + 1 < cLine) (ho : PE X o td) (he : PE X e ty) (m : M1 X o "get" apos e cpos) : PE X (.Call (.Attribute o "get" apos) [e] [] cpos) (tDGet1 td ty) := by
  intro pins s σ H Q I h
  refine wpAny_Call_method m.base m.few m.line PySem.F.plainAttrs_dict PySem.F.slot_dict_get PySem.F.type_dict_get (thn (ho pins s σ H _ I h) fun u s1 zz9 => ?_)
  obtain ⟨x, H1, I1, rx, a, ex, d, q1⟩ := zz9
  subst ex
  obtain rfl : u = Value.ref a := rx
  obtain ⟨t1, t2, _⟩ := isD_at I1 d
  refine ⟨t1, t2, ?_⟩
  rw [m.trees]
  refine Calls.callWith_builtin rfl (Calls.evalArgs_plain (Calls.spliced_cons (thn (he pins s1 σ H1 _ I1 q1) fun iv s2 ⟨y, H2, I2, ry, ov, g, q2⟩ => Calls.spliced_nil ?_)))
  exact d_get1 hu I2 g ry fun w' s3 I3 rw' => ⟨_, H2, I3, rw', q2⟩
end


section
variable {X : Cx} {pins : List (Addr × Obj)} {σ : St} {H : Hp} {s : Shared} {a : Addr} {kvs : List (Key × V)} {A : Around} {E : Value → Shared → Prop}
end


section
variable {X : Cx} {pins : List (Addr × Obj)} {σ : St} {H : Hp} {s : Shared} {a : Addr} {y : V} {u : Value} {A : Around} {E : Value → Shared → Prop}
end
end L2

namespace L2
open PySem PySem.Spec PyProof.Rows
section
variable {X : Cx}
theorem call_lenD : CallR X (.builtin "len") (fun xs H Q => ∃ a kvs, xs = [V.ref a] ∧ H a = some (.dK kvs) ∧ Q (.int kvs.length) H) := by
  intro pins s σ H xs us Q I r h
  obtain ⟨a, kvs, rfl, ha, q⟩ := h
  obtain ⟨u, rfl, ru⟩ := vals1 r
  cases ru
  exact d_len I (.inl ha) fun t s' I' => ⟨.int kvs.length, H, I', ⟨t, rfl⟩, q⟩
end
end L2
namespace L2
open PySem PySem.Spec PyProof.Rows

section
variable {κ : Type} [DecidableEq κ]
end
end L2
set_option Elab.async false
set_option linter.all false
set_option maxRecDepth 100000

namespace L2
open PySem PySem.Spec PyProof.Rows


structure Has (P : Program) (w : World) (K : PySem.W.Frag) (mg : Str → Option Value) (base : Heap) (CX : CXT) (k : Nat) (x : Str) (ps : List Str) (sp : Sp) : Prop where
  ex : ∃ f fd, FnOk P w K mg base CX k f fd ps sp ∧ mg x = some (.ref f) ∧ PySem.W.keepIn K (.ref f) = true ∧ Binds K fd ps []
section
variable {X : Cx} {CX : CXT} {k : Nat} {ps : List Str} {sp : Sp} {E : XK} {x : Str} {p pos : Pos} {e : Expr} {es : List Expr} {t : TA}
end


section
variable {X : Cx}
theorem op_mulB : OpR X (binaryOp .Mult) (rI IntMulOk fun i j => .int (i * j)) := opI fun _ _ _ _ _ _ _ hc q => mul_int q hc

structure BigDiv (X : Cx) : Prop where
  seer : X.base.NoSeer
  tree : X.prog.given.tree = none
  stk : X.stack = X.env :: X.outer
  gen : X.env.scope.isGenerator = false
  co : X.env.scope.isCoroutine = false
  dp : X.A.depth + 100 < recursionLimit
theorem BigDiv.room {pins : List (Addr × Obj)} {σ : St} {H : Hp} {s : Shared} (B : BigDiv X) (I : Inv X pins σ H s) : PylongRoom (model X.prog X.w) X.A s :=
  PylongRoom.of I.nolimit B.dp (SeerAt.of (B.seer.keeps I.bk) B.tree (by rw [I.ok.frames, B.stk]) B.gen B.co I.ok.blt I.ok.glob)
theorem op_fdivB (B : BigDiv X) : OpR X (binaryOp .FloorDiv) (rI (fun _ j => j ≠ 0) fun i j => .int (i.fdiv j)) := by
  intro pins s σ H x y v u Q I rx ry h
  obtain ⟨i, j, rfl, rfl, hc, q⟩ := h
  obtain ⟨t, rfl⟩ := rx
  obtain ⟨t', rfl⟩ := ry
  exact floordiv_int hc ⟨.int (i.fdiv j), H, I.tok _, ⟨_, rfl⟩, q⟩ (.inr (B.room I))
end


section
variable {X : Cx}
end

section
variable {X : Cx} {st : Stmt} {rest : List Stmt} {t u : TS}
end


theorem NoSeer.hid {h : Heap} {a : Addr} {o : Obj} {H : Hp} (hN : h.NoSeer) (ha : h.get? a = some o) (hc : o.cls = .type "list") (hA : ∀ b, H b ≠ none → b = a)
    (nsK : ∀ {b : Addr} {m : Str → Option Value}, h.Ns b m → (hidT h H).Ns b m) : (hidT h H).NoSeer where
  statics := let ⟨mc, x, y⟩ := hN.statics; ⟨mc, nsK x, y⟩
  mods := let ⟨mc, x, y⟩ := hN.mods; ⟨mc, nsK x, y⟩
  imp := let ⟨mc, x, y⟩ := hN.imp; ⟨mc, nsK x, y⟩
  main := by
    obtain ⟨mg, bm, ob, x, y, z, c, d⟩ := hN.main
    refine ⟨mg, bm, ob, nsK x, y, hidT_get z ?_, c, d⟩
    cases q : H bm with
    | none => rfl
    | some u =>
      have e : bm = a := hA bm (by rw [q]; simp)
      subst e
      rw [ha] at z
      cases z
      rw [hc] at c
      exact absurd c (by decide)

theorem law_callB {P : Program} {w : World} {K : PySem.W.Frag} {mg mb : Str → Option Value} {CX : CXT} {k : Nat} {fa a : Addr} {fd : FuncData} {x : Str} {sp : Sp} {s₁ : Shared} {vs : List Value} {ns : List Int}
    (KX : K.In s₁.heap) (hns : s₁.heap.Ns mainGlobals mg) (hb : s₁.heap.Ns builtinsNs mb) (hbb : ∀ x : Str, x ≠ "__name__" → mb x = bootBuiltins x) (hlim : s₁.heap.NoLimit) (hsee : s₁.heap.NoSeer) (hg : s₁.gens = #[])
    (ha : s₁.heap.get? a = some { cls := .type "list", data := .seq vs.toArray }) (hi : IntsAre vs ns) (hl : ns.length ≤ sizeLine) (hr : Room k callerA)
    (F : ∀ base : Heap, K.In base → base.Ns mainGlobals mg → base.NoSeer → FnOk P w K mg base CX k fa fd [x] sp) (hbind : ∀ (s : Shared) (u : Value), BindsTo s fd ⟨[u], []⟩ [(x, u)])
    (hsp : ∀ H : Hp, Only H → SqL K H a (ns.map V.int) → sp [.ref a] H (fun v _ => v = .bl true) fun _ _ _ => False)
    (hCX : ∀ H e s', CX [] H s₁ (fun _ _ _ => False) e s' → False) :
    codeAny (model P w) callerA (.call (.ref fa) ⟨[.ref a], []⟩) (fun r s' => r = .ok (.ret (.bool true)) ∧ OldK s₁.heap s'.heap ∧ s'.os = s₁.os ∧ AllBare s'.gens) s₁ := by
  have rv := vals_ints hi
  have lenV := hi.length
  have core : ∀ H : Hp, Only H → SqL K H a (ns.map V.int) → HOk P w H s₁.heap → (∀ b, H b ≠ none → b = a) → (H a ≠ none → K.lookup a = none) →
      codeAny (model P w) callerA (.call (.ref fa) ⟨[.ref a], []⟩) (fun r s' => r = .ok (.ret (.bool true)) ∧ OldK s₁.heap s'.heap ∧ s'.os = s₁.os ∧ AllBare s'.gens) s₁ := by
    intro H hO hS hok hA hK
    have base_of : ∀ {b : Addr} {o : Obj}, s₁.heap.get? b = some o → H b = none → (hidT s₁.heap H).get? b = some o := fun e n => hidT_get e n
    have noA : ∀ {b : Addr} {o : Obj} {es : Array DictEntry} {ep : Nat}, s₁.heap.get? b = some o → o.data = .dict es ep → H b = none := fun {b o es ep} e d => by
      cases q : H b with
      | none => rfl
      | some u =>
        have e' : b = a := hA b (by rw [q]; simp)
        subst e'
        rw [ha] at e; cases e
        have d' : Data.seq vs.toArray _ = Data.dict es ep := d
        cases d'
    have nsK : ∀ {b : Addr} {m : Str → Option Value}, s₁.heap.Ns b m → (hidT s₁.heap H).Ns b m := fun {b m} ⟨o, es, ep, e, d, r⟩ => ⟨o, es, ep, base_of e (noA e d), d, r⟩
    have hKb : K.In (hidT s₁.heap H) := fun b o e => base_of (KX b o e) (by
      cases q : H b with
      | none => rfl
      | some u =>
        have e' : b = a := hA b (by rw [q]; simp)
        subst e'
        rw [hK (by rw [q]; simp)] at e; cases e)
    have hM : Mod K mg (hidT s₁.heap H) := ⟨hKb, nsK hns, ⟨mb, nsK hb, hbb⟩, let ⟨mc, h1, h2⟩ := hlim; ⟨mc, nsK h1, h2⟩⟩
    have hSe : (hidT s₁.heap H).NoSeer := NoSeer.hid hsee ha rfl hA nsK
    have e0 : Env0 P w K mg (hidT s₁.heap H) callerA [] s₁ H := ⟨rfl, hM, fun b o e => of_hidT e, Nat.le_of_eq (hidT_size _ _), trivial, fun b hb => absurd (show b ∈ ([] : List Addr) from hb) (by simp), hok, .of_eq hg⟩
    refine codeAny_mono ((F _ hKb (nsK hns) hSe).run callerA [] s₁ H ⟨[.ref a], []⟩ [.ref a] [.ref a] _ _ hr e0 (hbind s₁ (.ref a)) (.cons rfl .nil) (hsp H hO hS)) fun r s' h => ?_
    cases r with
    | error e => exact (hCX H e s' h).elim
    | ok fl =>
      cases fl with
      | next => exact False.elim h
      | brk => exact False.elim h
      | cont => exact False.elim h
      | ret u =>
        obtain ⟨v, H', os, bare, un, hok', r', q⟩ := h
        have q' : v = .bl true := q
        subst q'
        obtain rfl : u = Value.bool true := r'
        refine ⟨rfl, OldK.of_keep fun b o e => ?_, os, bare⟩
        cases q : H b with
        | none => exact un.keep b o e q (by intro z; exact absurd (show b ∈ ([] : List Addr) from z) (by simp)) (by simp)
        | some u =>
          rcases hO b with z | ⟨ob, xs, z⟩
          · rw [q] at z; cases z
          · have z2 := un.frzs b ob _ z
            obtain ⟨e1, _⟩ := hok b _ z
            obtain ⟨e2, _⟩ := hok' b _ z2
            rw [e] at e1; cases e1
            exact e2
  cases hk : K.lookup a with
  | some o =>
    have e := KX a o hk
    rw [ha] at e
    cases e
    refine core (fun _ => none) (fun _ => .inl rfl) (.inr ⟨_, vs.toArray, _, hk, rfl, rfl, rfl, by rw [List.size_toArray, lenV]; exact hl, by simpa using rv⟩) (fun b u z => by have z' : (none : Option HO) = some u := z; cases z') (fun b z => absurd rfl z) fun z => absurd rfl z
  | none =>
    refine core (fun b => if b = a then some (.frz { cls := .type "list", data := .seq vs.toArray } (.lst (ns.map V.int))) else none) (fun b => ?_) (.inl (.inr ⟨{ cls := .type "list", data := .seq vs.toArray }, if_pos rfl⟩)) (fun b u z => ?_) (fun b z => ?_) fun _ => hk
    · by_cases hb : b = a
      · exact .inr ⟨_, _, if_pos hb⟩
      · exact .inl (if_neg hb)
    · by_cases hb : b = a
      · have z' := (if_pos hb).symm.trans z
        cases z'
        subst hb
        exact ⟨ha, by rw [List.length_map]; exact hl, vs, _, rv, ha⟩
      · have z' := (if_neg hb).symm.trans z
        cases z'
    · by_cases hb : b = a
      · exact hb
      · exact absurd (if_neg hb) z


structure Script (n : Nat) (ns : List Int) : Prop where
  len : ns.length ≤ n
  bits : ∀ i ∈ ns, Builtin.Int.intBits i ≤ 2 ^ 20

theorem bits_of_lay {ns : List Int} (h : PySem.W.WData.layableAll [PySem.W.WData.list (ns.map PySem.W.WData.int)] = true) : ∀ i ∈ ns, Builtin.Int.intBits i ≤ 2 ^ 20 := fun i hi => by
  have h1 := (PySem.W.layW_cons h).1
  have h2 := PySem.W.layableW_item h1 (.int i) (List.mem_map.mpr ⟨i, hi, rfl⟩)
  have h3 := (PySem.W.layableW_iff.mp h2).2.2
  simpa only [PySem.W.WData.weight, Builtin.Int.intBits] using h3

section
open PySem.W PySem.Calls
theorem attach_callB {l : PySem.W.OpenLaw} {n : Nat} {q : Program} {loose : List Str} {XP : (Str → Option Value) → Heap → Prop} {YP : World → Heap → Prop} {d : DefRec}
    (hn : l.most = some n) (hdf : d.params.defaults = [])
    (call : ∀ (w : World) (s₀ s₁ : Shared) (mg mb : Str → Option Value) (fa : Addr) (o : Obj) (pm cd doc : Value) (a : Addr) (vs : List Value) (ns : List Int),
      PySem.W.Ground q loose [] XP w s₀ mg mb s₁.heap → YP w s₁.heap →
      s₁.heap.get? fa = some o → o.data = .func (docDef d.name d.params d.body d.scope pm cd doc) → s₁.heap.CodeRec cd d.name → mg d.name = some (.ref fa) →
      s₁.heap.get? a = some { cls := .type "list", data := .seq vs.toArray } → IntsAre vs ns → Script n ns → s₁.gens = #[] →
      codeAny (model l.prog w) callerA (.call (.ref fa) ⟨[.ref a], []⟩) (fun r s' => r = .ok (.ret (.bool true)) ∧ OldK s₁.heap s'.heap ∧ s'.os = s₁.os ∧ AllBare s'.gens) s₁) :
    PySem.W.WalkO q loose XP YP l.row.toRowW d [] (fun f vs => PySem.call f vs) := by
  intro w s₀ s₁ mg mb G Y fa o pm cd doc dV kV ho hd hcd hD hmg hg args vals as hpre hlay hrd hwl hlo
  obtain rfl : dV = .none := Dflts.none hD hdf
  obtain rfl : kV = .none := Dflts.noKw hD
  obtain ⟨a, vs, ns, rfl, rfl, hobj, hints, hlen⟩ := Att.script_of hn hpre hwl
  refine enter_call (codeAny_mono (call w s₀ s₁ mg mb fa o pm cd doc a vs ns G Y ho (fd_plain hd) hcd hmg hobj hints ⟨hlen, bits_of_lay hlay⟩ hg) fun r s' hq => ?_)
  obtain ⟨rfl, h2, h3, h4⟩ := hq
  exact ⟨.inl ⟨.bool true, .bool true, [], rfl, fun _ => rfl, .bool true, Att.post_true l _, fun _ => ⟨List.Pairwise.nil, fun _ hm => (nomatch hm)⟩⟩, h2, h3, h4⟩

end
theorem walk_ofB {l : PySem.W.OpenLaw} {n k : Nat} {q : Program} {loose : List Str} {XP : (Str → Option Value) → Heap → Prop} {YP : World → Heap → Prop} {d : DefRec} {K : Params → PySem.W.Frag} {CX : CXT} {sp : PySem.W.Frag → Sp} {x : Str}
    (hn : l.most = some n) (hn2 : n ≤ sizeLine) (hdf : d.params.defaults = []) (hr : Room k callerA) (him : importsNone q = true)
    (hY : ∀ (w : World) (h : Heap), YP w h → (K w.params).In h)
    (F : ∀ (w : World) (mg : Str → Option Value) (fa : Addr) (h : Heap), (K w.params).In h → h.Ns mainGlobals mg → mg d.name = some (.ref fa) →
      ∃ fd : FuncData, (∀ (s : Shared) (u : Value), BindsTo s fd ⟨[u], []⟩ [(x, u)]) ∧
        ∀ base : Heap, (K w.params).In base → base.Ns mainGlobals mg → base.NoSeer → FnOk l.prog w (K w.params) mg base CX k fa fd [x] (sp (K w.params)))
    (hsp : ∀ (K : PySem.W.Frag) (H : Hp) (a : Addr) (ns : List Int), Script n ns → Only H → SqL K H a (ns.map V.int) → sp K [.ref a] H (fun v _ => v = .bl true) fun _ _ _ => False)
    (hCX : ∀ (H : Hp) (s : Shared) (e : Value) (s' : Shared), CX [] H s (fun _ _ _ => False) e s' → False) :
    PySem.W.WalkO q loose XP YP l.row.toRowW d [] (fun f vs => PySem.call f vs) := by
  refine attach_callB hn hdf fun w s₀ s₁ mg mb fa o pm cd doc a vs ns G Y ho hd hcd hmg hobj hints hsc hg => ?_
  have KX := hY w _ Y
  obtain ⟨fd, hb, hF⟩ := F w mg fa _ KX G.T.g hmg
  exact law_callB KX G.T.g G.T.b G.T.builtins G.T.nolimit (G.T.seer him) hg hobj hints (Nat.le_trans hsc.len hn2) hr hF hb (fun H hO hS => hsp (K w.params) H a ns hsc hO hS) fun H e s' => hCX H s₁ e s'
end L2

set_option Elab.async false
set_option linter.all false
set_option maxRecDepth 100000

namespace L2
open PySem PySem.Spec PySem.Calls PyProof.Rows



structure Air (B : Heap) (l : List Env) (a : Addr) (h : Heap) : Prop where
  stay : B.StaysIn h
  new : B.get? a = none
  frm : h.FunFrames B l
noncomputable def Trc (B : Heap) (a : Addr) (cls a0 : Value) (m : Option Value) (h : Heap) : Prop := match m with
  | none => ∃ oe vs, h.get? a = some oe ∧ oe.cls = cls ∧ oe.data = .fields vs ∧ vs[0]? = some a0 ∧ vs[1]? = some .none
  | some fl => h.TracedAtW B a cls a0 fl

noncomputable def NoD (a : Addr) (h : Heap) : Prop := ∃ oe vs, h.get? a = some oe ∧ oe.dict = none ∧ oe.data = .fields vs ∧ vs[2]? = some .none
theorem dict_mapFields (o : Obj) (f : Array Value → Array Value) : (Obj.mapFields f o).dict = o.dict := by
  obtain ⟨c, d, dt, sl⟩ := o
  cases dt <;> rfl
section
variable {M : Model} {A : Around} {E : Value → Shared → Prop} {s : Shared} {B : Heap} {env : Env} {outer l : List Env} {L a : Addr} {cls a0 : Value} {m : Option Value}
theorem entryD {base : Heap} {e : Addr} {oe : Obj} {vs : Array Value} {head : Value} {hadNext : Bool} {Q : Unit → Shared → Prop}
    (hfr : A.frames = some (env :: outer)) (hl : s.heap.FunFrames base (env :: outer)) (hf : env.frame = some L)
    (he : s.heap.get? e = some oe) (hkb : base.StaysIn s.heap) (hen : base.get? e = none) (hd : oe.data = .fields vs) (hsz : 1 < vs.size) (h0 : vs[0]? = some a0) (hnd : oe.dict = none) (h2 : vs[2]? = some .none)
    (h : ∀ h', Heap.NotedW base (env :: outer) e oe.cls a0 (rawInt L) s.heap h' → NoD e h' → Q () { s with heap := h' }) :
    wpAny M A (do let a ← frameOf env; let pl ← entryPlaceOf L hadNext; let b ← EntryCells.newEntry head a .none (rawInt L) .none pl; setField (.ref e) 1 b) Q E s := by
  have hene : e ∉ (env :: outer).filterMap (·.frame) := fun hm => by
    obtain ⟨_, o, ho, hnf⟩ := hl.mem hm
    rw [he] at ho; injection ho with ho; subst ho; exact hnf vs hd
  refine wpAny_bind (wpAny_frameOf_fun hfr hl hf fun h₁ hs₁ => ?_)
  refine wpAny_bind (wpAny_entryPlaceOf fun pl hpl => ?_)
  unfold EntryCells.newEntry newFields
  refine wpAny_bind (wpAny_newObj_type ?_ (hpl.sizeOk5 _ _ _ _ _))
  have he₁ : h₁.get? e = some oe := (hs₁.2.1 e hene).trans he
  have kb₁ : base.StaysIn h₁ := fun b o hbo => (hs₁.2.1 b fun hm => by rw [(hl.mem hm).1] at hbo; cases hbo).trans (hkb b o hbo)
  have he₂ := Heap.get?_push_of_some (h := h₁) { cls := .type "traceback", dict := none, data := .fields ([head, .ref L, .none, rawInt L, .none] ++ (if pl.isEmpty then List.replicate 6 Value.none else pl)).toArray } he₁
  have hTe : h₁.objs.size ≠ e := Nat.ne_of_gt (Heap.lt_size he₁)
  have hd₃ := Obj.data_mapFields hd (·.setIfInBounds 1 (Value.ref h₁.objs.size))
  have he₃ := Heap.get?_update_self (Obj.mapFields (·.setIfInBounds 1 (Value.ref h₁.objs.size))) he₂ (Obj.isFreed_of_fields hd₃)
  refine wpAny_setField he₂ hd hsz (h _ ?_ ⟨_, _, he₃, (dict_mapFields _ _).trans hnd, hd₃, by rw [Array.getElem?_setIfInBounds_ne (by decide)]; exact h2⟩)
  have hT₃ := (Heap.get?_update_other (h₁.push { cls := .type "traceback", dict := none, data := .fields ([head, .ref L, .none, rawInt L, .none] ++ (if pl.isEmpty then List.replicate 6 Value.none else pl)).toArray })
    (Obj.mapFields (·.setIfInBounds 1 (Value.ref h₁.objs.size))) (Ne.symm hTe)).trans (Heap.get?_push_size h₁ rfl)
  have keep : ∀ b o, b ≠ e → h₁.get? b = some o →
      ((h₁.push { cls := .type "traceback", dict := none, data := .fields ([head, .ref L, .none, rawInt L, .none] ++ (if pl.isEmpty then List.replicate 6 Value.none else pl)).toArray }).update e (Obj.mapFields (·.setIfInBounds 1 (Value.ref h₁.objs.size)))).get? b = some o :=
    fun b o hbe hb => by
      rw [Heap.get?_update_other _ _ (Ne.symm hbe)]
      exact Heap.get?_push_of_some _ hb
  have noRecord : ∀ b o, s.heap.get? b = some o → (∀ vs, o.data ≠ .fields vs) → b ≠ e := fun b o hb hnf q => by
    rw [q, he] at hb; injection hb with hb; subst hb; exact hnf vs hd
  refine ⟨fun b o hbo => keep b o (fun q => by rw [q, hen] at hbo; cases hbo) (kb₁ b o hbo), hl.of_keeps fun b o hb hnf => ?_, ?_, fun b o hb hnf => ?_⟩
  · obtain ⟨sl, hs⟩ := hs₁.2.2 b o hb
    exact ⟨_, keep b _ (noRecord b o hb hnf) hs, rfl⟩
  · exact ⟨_, _, h₁.objs.size, _, _, he₃, ⟨Obj.cls_mapFields _ _, by rw [Array.getElem?_setIfInBounds_ne (by decide)]; exact h0⟩, hd₃, by simp [hsz], kb₁.fresh, hTe, hT₃, rfl, by first | (simp; done) | (rcases hpl with rfl | ⟨_, _, _, _, _, _, _, rfl⟩ <;> simp)⟩
  · obtain ⟨sl, hs⟩ := hs₁.2.2 b o hb
    exact ⟨sl, keep b _ (noRecord b o hb hnf) hs⟩
theorem note_ok {Q : Unit → Shared → Prop} (hfr : A.frames = some (env :: outer)) (hf : env.frame = some L) (air : Air B (env :: outer) a s.heap) (tr : Trc B a cls a0 m s.heap) (nd : NoD a s.heap)
    (hm : m = none ∨ m = some .none ∨ m = some (rawInt L))
    (hQ : ∀ h', Air B (env :: outer) a h' → h'.TracedAtW B a cls a0 (rawInt L) → NoD a h' → s.heap.UpToSlots h' → Q () { s with heap := h' }) : wpAny M A (noteFrame (.ref a) env) Q E s := by
  obtain ⟨ox, vx, hox, hdx, hvx, hv2⟩ := nd
  rcases hm with rfl | rfl | rfl
  · obtain ⟨oe, vs, he, rfl, hd, h0, h1⟩ := tr
    rw [hox] at he; cases he
    have e2 := hd.symm.trans hvx
    injection e2 with e2
    subst e2
    unfold noteFrame
    simp only [hf]
    refine wpAny_bind (wpAny_field hox hd h1 ?_)
    rw [if_neg (by decide)]
    refine entryD hfr air.frm hf hox air.stay air.new hd (Array.getElem?_eq_some_iff.mp h1).1 h0 hdx hv2 fun h' hN hn => ?_
    obtain ⟨k1, k2, k3, k4⟩ := hN
    exact hQ h' ⟨k1, air.new, k2⟩ k3 hn k4
  · obtain ⟨oe, vs, T, oT, ts, he, ⟨hcls, h0⟩, hd, h1, hnT, hTe, hT, hdT, h3⟩ := tr
    rw [hox] at he; cases he
    have e2 := hd.symm.trans hvx
    injection e2 with e2
    subst e2
    subst hcls
    unfold noteFrame
    simp only [hf]
    refine wpAny_bind (wpAny_field hox hd h1 ?_)
    rw [if_pos (show (Value.ref T != Value.none) = true from by simp)]
    refine wpAny_bind (wpAny_field hT hdT h3 ?_)
    rw [if_neg (show ¬ ((Value.none == rawInt L) = true) from by simp [rawInt])]
    refine wpAny_bind (wpAny_setField hT hdT (Array.getElem?_eq_some_iff.mp h3).1 ?_)
    have other : ∀ b, b ≠ T → (s.heap.update T (Obj.mapFields (·.setIfInBounds 3 Value.none))).get? b = s.heap.get? b := fun b hb => Heap.get?_update_other _ _ (Ne.symm hb)
    have noRecord : ∀ b o, s.heap.get? b = some o → (∀ vs, o.data ≠ .fields vs) → b ≠ T := fun b o hb hnf q => by
      rw [q, hT] at hb; injection hb with hb; subst hb; exact hnf ts hdT
    refine entryD hfr (air.frm.of_keeps fun b o hb hnf => ⟨o, (other b (noRecord b o hb hnf)).trans hb, rfl⟩) hf ((other a (Ne.symm hTe)).trans hox)
      (fun b o hbo => (other b fun q => by rw [q, hnT] at hbo; cases hbo).trans (air.stay b o hbo)) air.new hd (Array.getElem?_eq_some_iff.mp h1).1 h0 hdx hv2
      fun h' ⟨x1, x2, x3, x4⟩ hn => hQ h' ⟨x1, air.new, x2⟩ x3 hn fun b o hb hnf => x4 b o ((other b (noRecord b o hb hnf)).trans hb) hnf
  · refine wpAny_noteFrame_againW hf tr ?_
    exact hQ s.heap air tr ⟨ox, vx, hox, hdx, hvx, hv2⟩ (.refl _)

theorem flight_ok {f : Option Addr} {fl : Value} {Q : Unit → Shared → Prop} (air : Air B l a s.heap) (tr : s.heap.TracedAtW B a cls a0 fl) (nd : NoD a s.heap)
    (hQ : ∀ h', Air B l a h' → h'.TracedAtW B a cls a0 (f.elim Value.none fun x => rawInt x) → NoD a h' → s.heap.UpToSlots h' → Q () { s with heap := h' }) : wpAny M A (setFlight (.ref a) f) Q E s := by
  obtain ⟨oe, vs, T, oT, ts, he, hcls, hd, h1, hnT, hTe, hT, hdT, h3⟩ := tr
  obtain ⟨ox, vx, hox, hdx, hvx, hv2⟩ := nd
  have hsz3 : 3 < ts.size := (Array.getElem?_eq_some_iff.mp h3).1
  have other : ∀ b, b ≠ T → (s.heap.update T (Obj.mapFields (·.setIfInBounds 3 (f.elim Value.none fun x => rawInt x)))).get? b = s.heap.get? b :=
    fun b hb => Heap.get?_update_other _ _ (Ne.symm hb)
  have noRecord : ∀ b o, s.heap.get? b = some o → (∀ vs, o.data ≠ .fields vs) → b ≠ T := fun b o hb hnf q => by
    rw [q, hT] at hb; injection hb with hb; subst hb; exact hnf ts hdT
  unfold setFlight
  refine wpAny_bind (wpAny_field he hd h1 ?_)
  rw [if_pos (show (Value.ref T != Value.none) = true from by simp)]
  refine wpAny_setField hT hdT hsz3 (hQ _ ⟨fun b o hbo => (other b fun q => by rw [q, hnT] at hbo; cases hbo).trans (air.stay b o hbo), air.new,
    air.frm.of_keeps fun b o hb hnf => ⟨o, (other b (noRecord b o hb hnf)).trans hb, rfl⟩⟩ ?_ ⟨ox, vx, (other a (Ne.symm hTe)).trans hox, hdx, hvx, hv2⟩ fun b o hb hnf => ⟨o.slots, (other b (noRecord b o hb hnf)).trans hb⟩)
  exact ⟨oe, vs, T, _, _, (other a (Ne.symm hTe)).trans he, hcls, hd, h1, hnT, hTe, Heap.get?_update_self _ hT (Obj.isFreed_of_fields (Obj.data_mapFields hdT _)), Obj.data_mapFields hdT _, by simp [hsz3]⟩
end


noncomputable def Old (X : Cx) (H : Hp) (b : Addr) : Prop :=
  H b ≠ none ∨ (∃ o, X.s₀.heap.get? b = some o) ∨ (∃ x, X.env.cells.lookup x = some b) ∨ (∃ p ∈ X.pn, p.1 = b) ∨ b = X.env.locals
noncomputable def Cov (X : Cx) (H : Hp) (B h : Heap) : Prop := ∀ b o, h.get? b = some o → Old X H b → b ∉ frs X.stack → B.get? b = some o
structure Exn (X : Cx) (H : Hp) (B : Heap) (a : Addr) (cls a0 : Value) (m : Option Value) (h : Heap) : Prop where
  air : Air B X.stack a h
  tr : Trc B a cls a0 m h
  md : m = none ∨ m = some .none ∨ m = some (rawInt X.env.locals)
  cov : Cov X H B h
  nd : NoD a h

structure Plain (X : Cx) : Prop where
  stk : X.stack = X.env :: X.outer
  frm : X.env.frame = some X.env.locals
  ex : X.ex = []
noncomputable abbrev RX := St → Hp → Value → Addr → Prop
noncomputable def XS (X : Cx) (R : RX) : Value → Shared → Prop := fun e s' =>
  ∃ a σ H B cls a0 m, e = .ref a ∧ Inv X [] σ H s' ∧ Exn X H B a cls a0 m s'.heap ∧ R σ H cls a

theorem ObjOk.get {P : Program} {w : World} {H : Hp} {h : Heap} {a : Addr} {o : HO} (x : ObjOk P w H h a o) : ∃ ob, h.get? a = some ob := by
  cases o with
  | lst xs => obtain ⟨_, _, _, _, e⟩ := x; exact ⟨_, e⟩
  | tup xs => obtain ⟨_, _, _, o, e, _⟩ := x; exact ⟨_, e⟩
  | dK kvs => obtain ⟨_, _, _, _, o, _, _, e, _⟩ := x; exact ⟨_, e⟩
  | dT kvs => obtain ⟨_, _, _, _, o, _, _, e, _⟩ := x; exact ⟨_, e⟩
  | set S n => obtain ⟨o, _, _, _, e, _⟩ := x; exact ⟨_, e⟩
  | ins C dx fs => obtain ⟨_, _, _, e, _⟩ := x; exact ⟨_, e⟩
  | own y => exact x
  | xd fs => obtain ⟨_, ⟨_, _, _, e, _⟩, _⟩ := x; exact ⟨_, e⟩
  | rng lo hi => obtain ⟨_, _, _, e⟩ := x; exact ⟨_, e⟩
  | frz ob u => obtain ⟨e, _⟩ := x; exact ⟨_, e⟩
  | tbl ps => exact ⟨_, (show h.get? a = some _ from x)⟩
  | met f y => exact ⟨_, (show h.get? a = some _ from x)⟩
  | ext φ => exact x.2.1

section
variable {X : Cx} {σ : St} {H : Hp} {s : Shared} {B h' : Heap}
theorem Inv.old (P : Plain X) {pins : List (Addr × Obj)} (I : Inv X pins σ H s) {b : Addr} (o : Old X H b) : ∃ ob, s.heap.get? b = some ob := by
  rcases o with o | ⟨ob, e⟩ | ⟨x, e⟩ | ⟨p, hp, rfl⟩ | rfl
  · cases q : H b with
    | none => exact absurd q o
    | some u => exact (I.hok b u q).get
  · exact I.base.there b ob e (by rw [P.ex]; simp)
  · obtain ⟨v, ob, e, _⟩ := I.cell x b e
    exact ⟨ob, e⟩
  · exact ⟨_, (I.pin p (List.mem_append_left _ hp)).1⟩
  · obtain ⟨m, ⟨o, _, _, e, _⟩, _⟩ := I.loc
    exact ⟨o, e⟩
theorem Inv.redo (I : Inv X [] σ H s) (cov : Cov X H B s.heap) (frm : s.heap.FunFrames B X.stack) (st : B.StaysIn h') (up : s.heap.UpToSlots h') : Inv X [] σ H { s with heap := h' } := by
  have kp : ∀ b o, s.heap.get? b = some o → Old X H b → b ∉ frs X.stack → h'.get? b = some o := fun b o e q n => st _ _ (cov b o e q n)
  have sl : ∀ b o, s.heap.get? b = some o → b ∈ frs X.stack → ∃ sl, h'.get? b = some { o with slots := sl } := fun b o e n => by
    obtain ⟨_, o', e', hd⟩ := frm.mem n
    rw [e] at e'; cases e'
    exact up b o e hd
  have any : ∀ b o, s.heap.get? b = some o → Old X H b → ∃ sl, h'.get? b = some { o with slots := sl } := fun b o e q => by
    by_cases n : b ∈ frs X.stack
    · exact sl b o e n
    · exact ⟨o.slots, kp b o e q n⟩
  have cellK : ∀ x c, X.env.cells.lookup x = some c → ∀ v, s.heap.IsCell c v → h'.IsCell c v := fun x c e v ⟨o, ho, hd⟩ => by
    obtain ⟨sl, q⟩ := any c o ho (.inr (.inr (.inl ⟨x, e⟩)))
    exact ⟨_, q, hd⟩
  refine ⟨I.ok, I.os, I.bare, ⟨fun b o e n hb hx => ?_, fun b o e n hb hx => ?_, I.base.free, fun b o e hx => ?_, I.base.tups, I.base.frzs, I.base.tbls⟩, ?_, fun x c e => ?_, I.free, I.freeC, fun p hp => ?_, fun b u q => ?_, I.len⟩
  · refine kp b o (I.base.keep b o e n hb hx) (.inr (.inl ⟨o, e⟩)) fun z => ?_
    rcases List.mem_cons.mp (I.stkSub b z) with q | q
    · exact absurd q (Nat.ne_of_lt (Nat.lt_of_lt_of_le (Heap.lt_size e) I.ok.above))
    · exact hb q
  · obtain ⟨s1, e1⟩ := I.base.slot b o e n hb hx
    obtain ⟨s2, e2⟩ := any b _ e1 (.inr (.inl ⟨o, e⟩))
    exact ⟨s2, e2⟩
  · obtain ⟨o', e1⟩ := I.base.there b o e hx
    obtain ⟨s2, e2⟩ := any b _ e1 (.inr (.inl ⟨o, e⟩))
    exact ⟨_, e2⟩
  · obtain ⟨m, hn, hl⟩ := I.loc
    refine ⟨m, up.ns hn, fun i x v e1 e2 e3 => ?_⟩
    obtain ⟨u, r, l⟩ := hl i x v e1 e2 e3
    refine ⟨u, r, ?_⟩
    rcases l with l | ⟨k, c, e, z⟩
    · exact .inl l
    · exact .inr ⟨k, c, e, cellK x c e _ z⟩
  · obtain ⟨v, z⟩ := I.cell x c e
    exact ⟨v, cellK x c e v z⟩
  · have hp' : p ∈ X.pn := by simpa using hp
    obtain ⟨e, n, ne, nf, d⟩ := I.pin p hp
    refine ⟨kp p.1 p.2 e (.inr (.inr (.inr (.inl ⟨p, hp', rfl⟩)))) fun z => ?_, n, ne, nf, d⟩
    rcases List.mem_cons.mp (I.stkSub _ z) with q | q
    · exact ne q
    · exact nf q
  · have hnn : ∀ c u, H c = some u → c ∉ frs X.stack := fun c u e z => by
      rw [I.stkFree c z] at e; cases e
    refine (I.hok b u q).stay (fun c v hc r => ?_) (fun _ r => r) fun _ _ r => r
    rcases hc with rfl | hc
    · exact kp c v r (.inl (by rw [q]; simp)) (hnn c _ q)
    · exact kp c v r (.inl (by rw [hc]; simp)) (hnn c _ hc)
theorem Cov.redo (P : Plain X) (I : Inv X [] σ H s) (cov : Cov X H B s.heap) (st : B.StaysIn h') : Cov X H B h' := fun b o e q n => by
  obtain ⟨ob, e0⟩ := I.old P q
  have e1 := cov b ob e0 q n
  have e2 := st _ _ e1
  rw [e] at e2
  cases e2
  exact e1
end

section
variable {X : Cx} {R : RX}
noncomputable def Thr (X : Cx) (R : RX) : Prop := ∀ e s', XS X R e s' → X.xe e s'
theorem Plain.wish (P : Plain X) (E : Value → Shared → Prop) : Plain (X.wish E) := ⟨P.stk, P.frm, P.ex⟩
theorem XS.unwish {E : Value → Shared → Prop} {e : Value} {s' : Shared} (h : XS (X.wish E) R e s') : XS X R e s' := by
  obtain ⟨a, σ, H, B, cls, a0, m, rfl, I, ex, r⟩ := h
  exact ⟨a, σ, H, B, cls, a0, m, rfl, I.unwish, ⟨ex.air, ex.tr, ex.md, ex.cov, ex.nd⟩, r⟩
theorem thr_self : Thr (X.wish (XS X R)) R := fun e s' h => h.unwish
theorem passes_XS (P : Plain X) (ok : X.A.frames = some X.stack) : PassesOwn (model X.prog X.w) X.A X.env (XS X R) := by
  rintro e s' ⟨a, σ, H, B, cls, a0, m, rfl, I, ex, r⟩
  have hfr : X.A.frames = some (X.env :: X.outer) := by rw [ok, P.stk]
  have air : Air B (X.env :: X.outer) a s'.heap := by have := ex.air; rw [P.stk] at this; exact this
  unfold notedBy
  refine note_ok hfr P.frm air ex.tr ex.nd ex.md fun h1 air1 tr1 nd1 up1 => ?_
  have air1' : Air B X.stack a h1 := by rw [P.stk]; exact air1
  have I1 : Inv X [] σ H { s' with heap := h1 } := I.redo ex.cov ex.air.frm air1.stay up1
  have cov1 : Cov X H B h1 := Cov.redo P I ex.cov air1.stay
  unfold cameBackBy
  obtain ⟨oe, vs, T, oT, ts, he, hcls, hd, hv1, _⟩ := id tr1
  refine wpAny_bind (wpAny_field (s := { s' with heap := h1 }) he hd hv1 ?_)
  rw [if_neg (show ¬ ((Value.ref T == Value.none) = true) from by simp)]
  rw [P.frm]
  have key : wpAny (model X.prog X.w) X.A (setFlight (.ref a) (some X.env.locals)) (fun _ s'' => XS X R (.ref a) s'') (XS X R) { s' with heap := h1 } :=
    flight_ok (s := { s' with heap := h1 }) (f := some X.env.locals) air1' tr1 nd1 fun h2 air2 tr2 nd2 up2 =>
      ⟨a, σ, H, B, cls, a0, some (rawInt X.env.locals), rfl, I1.redo cov1 air1'.frm air2.stay up2, ⟨air2, tr2, .inr (.inr rfl), Cov.redo P I1 cov1 air2.stay, nd2⟩, r⟩
  first
    | exact wpAny_bind (wpAny_pure key)
    | exact key
end


noncomputable def CXE (P : Program) (w : World) : CXT := fun outer H s E e s' => ∃ a H' B cls a0, e = .ref a ∧ s'.os = s.os ∧ AllBare s'.gens ∧ Un (frs outer) [] H H' s.heap s'.heap ∧ HOk P w H' s'.heap ∧
  Air B outer a s'.heap ∧ s'.heap.TracedAtW B a cls a0 .none ∧ NoD a s'.heap ∧ (∀ b o, s'.heap.get? b = some o → (H' b ≠ none ∨ ∃ o0, s.heap.get? b = some o0) → b ∉ frs outer → B.get? b = some o) ∧ E cls none H'
section
variable {X : Cx} {R : RX} {pins : List (Addr × Obj)} {σ : St} {H : Hp} {s s' : Shared} {e : Value} {E : XK}
theorem XS.of_call (P : Plain X) (I : Inv X pins σ H s) (h : CXE X.prog X.w X.stack H s E e s') (hE : ∀ cls H' a, E cls none H' → R σ H' cls a) : XS X R e s' := by
  obtain ⟨a, H', B, cls, a0, rfl, os, bare, un, hok, air, tr, nd, cov, q⟩ := h
  have I2 : Inv X pins σ H' s' := I.call' os un hok bare fun b z => absurd z (by simp)
  refine ⟨a, σ, H', B, cls, a0, some .none, rfl, I2.pins_of (fun p hp => absurd hp (by simp)), ⟨air, tr, .inr (.inl rfl), fun b o e0 q0 n => cov b o e0 ?_ n, nd⟩, hE _ _ _ q⟩
  rcases q0 with q0 | q0
  · exact .inl q0
  · right
    rcases q0 with ⟨ob, e⟩ | ⟨x, e⟩ | ⟨p, hp, rfl⟩ | rfl
    · exact I.base.there b ob e (by rw [P.ex]; simp)
    · obtain ⟨v, ob, e, _⟩ := I.cell x b e
      exact ⟨ob, e⟩
    · exact ⟨_, (I.pin p (List.mem_append_left _ hp)).1⟩
    · obtain ⟨m, ⟨o, _, _, e, _⟩, _⟩ := I.loc
      exact ⟨o, e⟩
theorem Thr.call (T : Thr X R) (P : Plain X) (I : Inv X pins σ H s) (h : CXE X.prog X.w X.stack H s (fun cls _ H' => ∀ a, R σ H' cls a) e s') : X.xe e s' :=
  T e s' (XS.of_call P I h fun cls H' a q => q a)
end

theorem plain_cx {CX : CXT} {P : Program} {w : World} {K : PySem.W.Frag} {mg : Str → Option Value} {base : Heap} {N : List Str} {qual : Str} {scope : Scope} {f : Addr} {cd : Value} {A : Around} {outer : List Env} {s : Shared} {H : Hp} {E : XK} :
    Plain (cxOf CX P w K mg base N qual scope f cd A outer s H E) := ⟨rfl, rfl, rfl⟩
theorem leave_ok {P : Program} {w : World} {K : PySem.W.Frag} {mg : Str → Option Value} {base : Heap} {N : List Str} {qual : Str} {scope : Scope} {f : Addr} {cd : Value} {A : Around} {outer : List Env} {s : Shared} {H : Hp} {E : XK} :
    Thr (cxOf (CXE P w) P w K mg base N qual scope f cd A outer s H E) (fun _ H' cls _ => E cls none H') := by
  rintro e s' ⟨a, σ, H', B, cls, a0, m, rfl, I, ex, r⟩
  have hfr : (A.deeper (envOfC qual scope s.heap.objs.size f cd)).frames = some (envOfC qual scope s.heap.objs.size f cd :: outer) := I.ok.frames
  show wpAny (model P w) (A.deeper (envOfC qual scope s.heap.objs.size f cd)) (leaving (envOfC qual scope s.heap.objs.size f cd) (.ref a)) (fun _ s'' => CXE P w outer H s E (.ref a) s'') (fun e' s'' => CXE P w outer H s E e' s'') s'
  unfold leaving
  refine wpAny_bind (note_ok (L := s.heap.objs.size) hfr rfl ex.air ex.tr ex.nd ex.md fun h1 air1 tr1 nd1 up1 => ?_)
  have I1 : Inv (cxOf (CXE P w) P w K mg base N qual scope f cd A outer s H E) [] σ H' { s' with heap := h1 } := I.redo ex.cov ex.air.frm air1.stay up1
  have cov1 := Cov.redo plain_cx I ex.cov air1.stay
  refine flight_ok (s := { s' with heap := h1 }) (f := none) air1 tr1 nd1 fun h2 air2 tr2 nd2 up2 => ?_
  have I2 : Inv (cxOf (CXE P w) P w K mg base N qual scope f cd A outer s H E) [] σ H' { s' with heap := h2 } := I1.redo cov1 air1.frm air2.stay up2
  have cov2 := Cov.redo plain_cx I1 cov1 air2.stay
  refine ⟨a, H', B, cls, a0, rfl, I2.os, I2.bare, I2.base, I2.hok, ⟨air2.stay, air2.new, ?_⟩, tr2, nd2, fun b o e0 q0 n => ?_, r⟩
  · obtain ⟨_, _, k⟩ := air2.frm
    exact k
  · refine cov2 b o e0 ?_ fun z => ?_
    · rcases q0 with q0 | q0
      · exact .inl q0
      · exact .inr (.inl q0)
    · rcases List.mem_cons.mp (I2.stkSub b z) with q | q
      · subst q
        rcases q0 with q0 | ⟨o0, q0⟩
        · exact q0 I2.free
        · exact absurd (Nat.lt_of_lt_of_le (Heap.lt_size q0) I2.ok.above) (Nat.lt_irrefl _)
      · exact n q
noncomputable abbrev Cx.by (X : Cx) (R : RX) : Cx := X.wish (XS X R)
theorem PSs.unthr {X : Cx} {R : RX} {st : List Stmt} {t : TS} (T : Thr X R) (h : PSs (X.by R) st t) : PSs X st t := fun pins s σ H D I hw =>
  wpAny_mono (h pins s σ H D (I.wish _) hw) (fun _ _ q => q.unwish) fun e s' q => T e s' q
noncomputable abbrev rE (E : XK) : RX := fun _ H' cls _ => E cls none H'
theorem Fun.okX {P : Program} {w : World} {K : PySem.W.Frag} {mg : Str → Option Value} {base : Heap} {x qual : Str} {st : Stmt} {f : Addr} {fd : FuncData} {N ps : List Str} {k : Nat} {sp : Sp} (F : Fun K x qual st f fd) (S : FnScope N ps (defScope st)) (len : ∀ vs H Q E, sp vs H Q E → vs.length = ps.length)
    (hbody : ∀ (cdv : Value) (A : Around) (outer : List Env) (s : Shared) (H : Hp) (vs : List V) (Q : VK) (E : XK), Room k (A.deeper (envOfC qual (defScope st) s.heap.objs.size f cdv)) → sp vs H Q E →
      ∃ t, PSs ((cxOf (CXE P w) P w K mg base N qual (defScope st) f cdv A outer s H E).by (rE E)) (defBody st) t ∧ t { nx := fun _ H' => Q .non H', rt := Q } (start N vs) H) : FnOk P w K mg base (CXE P w) (k + 1) f fd ps sp := by
  obtain ⟨oc, od, kV, doc, pm, an, cdv, ct, osl, rfl, lk, hcd⟩ := F.ex
  refine fn_of lk hcd S len fun A outer s H vs Q E hr hsp => ?_
  obtain ⟨t, h, q⟩ := hbody cdv A outer s H vs Q E hr hsp
  exact ⟨t, h.unthr leave_ok, q⟩


section
variable {X : Cx} {k : Nat} {f C : Addr} {fd : FuncData} {ps : List Str} {sp : Sp} {R : RX} {x m : Str} {p pos apos : Pos} {e o : Expr} {es : List Expr} {ta : TE} {t : TA}
theorem run_fnX {pins : List (Addr × Obj)} {σ : St} {H : Hp} {s : Shared} {Q : VK} {us : List Value} {vs : List V} (F : FnOk X.prog X.w X.K X.mg X.base (CXE X.prog X.w) k f fd ps sp) (hr : Room k X.A) (hb : Binds X.K fd ps []) (T : Thr X R) (Pl : Plain X)
    (I : Inv X pins σ H s) (r : Vals vs us) (h : sp vs H Q (fun cls _ H' => ∀ a, R σ H' cls a)) : wpAny (model X.prog X.w) X.A (call (.ref f) us) (EP X pins σ Q) X.xe s := by
  have hl : us.length = ps.length := by rw [← r.length]; exact F.len _ _ _ _ h
  have hb' := hb s us I.kIn (by rw [List.append_nil]; exact hl)
  rw [List.append_nil] at hb'
  refine wpAny_call (codeAny_mono (F.run X.A X.stack s H ⟨us, []⟩ us vs Q _ hr I.env0 hb' r h) fun r s' hq => ?_)
  cases r with
  | error e => exact T.call Pl I hq
  | ok fl =>
    cases fl with
    | ret u => exact I.after hq
    | next => exact False.elim hq
    | brk => exact False.elim hq
    | cont => exact False.elim hq
noncomputable def tCallX (sp : Sp) (R : RX) (t : TA) : TE := fun σ H Q => t σ H fun vs H1 => sp vs H1 Q (fun cls _ H' => ∀ a, R σ H' cls a)
noncomputable def tMethX (C : Addr) (m : Str) (sp : Sp) (R : RX) (ta : TE) (t : TA) : TE := fun σ H Q => ta σ H fun x H1 => ∃ a dx fs, x = .ref a ∧ H1 a = some (.ins C dx fs) ∧ fs.lookup m = none ∧
  t σ H1 fun vs H2 => sp (x :: vs) H2 Q (fun cls _ H' => ∀ a, R σ H' cls a)
theorem pe_callX (h : Has X.prog X.w X.K X.mg X.base (CXE X.prog X.w) k x ps sp) (hr : Room k X.A) (hg : Gl X x) (T : Thr X R) (Pl : Plain X) (ha : PA X (e :: es) t)
    (hdb : (x == ("__debug__" : Str)) = false := by decide) (he : starEach (e :: es) X.env = (false, eval e X.env) :: starEach es X.env := by rfl) (hpl : (backTo pos (starEach es X.env)).any (·.1) = false := by rfl) :
    PE X (.Call (.Name x p) (e :: es) [] pos) (tCallX sp R t) := by
  intro pins s σ H Q I hw
  obtain ⟨f, fd, F, hm, hk, hb⟩ := h.ex
  refine wpAny_Call_Name_kw (ld_glob I hg hm ?_ hdb)
  refine PySem.W.callWith_K (h₀ := X.base) I.ok.mod.kin hk (thn (ha pos pins s σ H _ I hw) fun us s1 ⟨vs, H1, I1, r, q⟩ => ⟨I1.kIn, ?_⟩) he hpl
  exact run_fnX F hr hb T Pl I1 r q

structure HasM (P : Program) (w : World) (K : PySem.W.Frag) (mg : Str → Option Value) (base : Heap) (CX : CXT) (k : Nat) (C : Addr) (m : Str) (ps : List Str) (sp : Sp) : Prop where
  cl : Cls K C
  ex : ∃ f fd, FnOk P w K mg base CX k f fd ps sp ∧ Meth K C m f ∧ Binds K fd ps []
theorem pe_methX {pl : Sem Bool} (h : HasM X.prog X.w X.K X.mg X.base (CXE X.prog X.w) k C m ps sp) (hr : Room k X.A) (T : Thr X R) (Pl : Plain X) (ho : PE X o ta) (ha : PA X (e :: es) t)
    (hst : starEach (e :: es) X.env = (false, eval e X.env) :: starEach es X.env := by rfl) (hpl : (backTo pos (starEach es X.env)).any (·.1) = false := by rfl)
    (ht : eval (.Call (.Attribute o m apos) (e :: es) [] pos) X.env = (do
      let ov ← eval o X.env
      standAt apos.atName
      let (f, first) ← holding [ov] (getMethod ov m pl)
      callWith pos f first (backTo pos (starEach (e :: es) X.env)) (backToKw pos (keywordEach [] X.env))) := by rfl) :
    PE X (.Call (.Attribute o m apos) (e :: es) [] pos) (tMethX C m sp R ta t) := by
  intro pins s σ H Q I hw
  obtain ⟨f, fd, F, hm, hb⟩ := h.ex
  refine PySem.W.methodCall_KW (pl := pl) (thn (ho pins s σ H _ I hw) fun u s1 ⟨x, H1, I1, rx, a, dx, fs, ex, ea, l, q⟩ => ?_) ht
  subst ex
  obtain rfl : u = Value.ref a := rx
  refine getmeth_ok I1 ea h.cl hm l ?_
  refine PySem.W.callWith_K (first := [.ref a]) (h₀ := X.base) I.ok.mod.kin hm.kp (thn (ha pos pins s1 σ H1 _ I1 q) fun us s2 ⟨vs, H2, I2, r, q2⟩ => ⟨I2.kIn, ?_⟩) hst hpl
  exact run_fnX (us := .ref a :: us) (vs := .ref a :: vs) F hr hb T Pl I2 (.cons rfl r) q2
end


abbrev bmV : List Value := [.type "ValueError", .type "Exception", .type "BaseException", .type "object"]
structure ExCls (K : PySem.W.Frag) (mg : Str → Option Value) (x : Str) (C : Addr) : Prop where
  bound : mg x = some (.ref C)
  exc : PySem.W.excIn K C bmV "ValueError.__new__" = true
theorem ExCls.obj {K : PySem.W.Frag} {mg : Str → Option Value} {x : Str} {C : Addr} (O : ExCls K mg x C) {h : Heap} (X : K.In h) :
    ∃ bm N nm q bs hdct sn sub ab col dd k0 k1 k2 k3 k5 mN, h.get? C = some (excClassObj nm q C N bs bm hdct sn sub ab col dd k0 k1 k2 k3 k5 "ValueError.__new__") ∧ h.Ns N mN ∧ mN "__init__" = none ∧ OwnTail h bmV bm := by
  have q := O.exc
  unfold PySem.W.excIn at q
  split at q
  · rename_i dd cd sl ho
    split at q
    · rename_i C' bm k0 k1 k2 k3 n k5 hm hs
      simp only [Bool.and_eq_true, beq_iff_eq, Bool.not_eq_true'] at q
      obtain ⟨⟨⟨⟨⟨rfl, rfl⟩, hdel⟩, ht⟩, hok⟩, hni⟩ := q
      obtain ⟨nm, bs, mro, ns, qn, hd, sn, sub, ab, col, del⟩ := cd
      dsimp only at hm hdel hok hni
      subst hm hdel
      have hsl : sl = #[k0, k1, k2, k3, some (.builtin "ValueError.__new__"), k5] := by
        obtain ⟨l⟩ := sl
        simp only at hs
        rw [hs]
      subst hsl
      exact ⟨bm, ns, nm, qn, bs, hd, sn, sub, ab, col, dd, k0, k1, k2, k3, k5, _, X _ _ ho, .of_isNs (PySem.W.isNs_of_in X hok), PySem.W.nsMap_none_of_in X hok hni, PySem.W.tail_of_in X ht⟩
    · cases q
  · cases q
section
variable {X : Cx} {R : RX} {x : Str} {C : Addr} {np cpos pos : Pos} {e : Expr} {es : List Expr} {t : TA}
theorem XS.made (Pl : Plain X) {pins : List (Addr × Obj)} {σ : St} {H : Hp} {s : Shared} {h' : Heap} {a : Addr} {us : List Value} (I : Inv X pins σ H s) (hx : Heap.MadeExcOf s.heap h' a (.ref C) us) (r : R σ H (.ref C) a) : XS X R (.ref a) { s with heap := h' } := by
  obtain ⟨tt, he, htn, htt⟩ := hx.there
  have I1 : Inv X [] σ H { s with heap := h' } := (I.kept (t' := s.toks) hx.keeps).pins_of fun p hp => absurd hp (by simp)
  refine ⟨a, σ, H, PySem.W.hideAll s.heap (frs X.stack), .ref C, .ref tt, none, rfl, I1, ⟨⟨fun b o q => hx.keeps _ _ (PySem.W.of_hideAll _ q), ?_, ?_⟩, ⟨_, _, he, rfl, rfl, rfl, rfl⟩, .inl rfl, fun b o q old n => ?_, ⟨_, _, he, rfl, rfl, rfl⟩⟩, r⟩
  · cases q : (PySem.W.hideAll s.heap (frs X.stack)).get? a with
    | none => rfl
    | some o =>
      have := PySem.W.of_hideAll _ q
      rw [hx.new] at this; cases this
  · refine Heap.FunFrames.of_keeps (fun b o q _ => ⟨o, hx.keeps b o q, rfl⟩) (PySem.W.funFrames_hide I.stack fun env he a ha => ?_)
    exact List.mem_filterMap.mpr ⟨env, he, ha⟩
  · obtain ⟨ob, e0⟩ := I.old Pl old
    have e1 := hx.keeps _ _ e0
    rw [q] at e1; cases e1
    exact PySem.W.hideAll_get _ e0 n
noncomputable def tRaise (R : RX) (C : Addr) (t : TA) : TS := fun _ σ H => t σ H fun vs H1 => vs.length ≤ sizeLine ∧ ∀ a, R σ H1 (.ref C) a
theorem ps_raise (T : Thr X R) (Pl : Plain X) (O : ExCls X.K X.mg x C) (hc : X.calm = true) (hg : Gl X x) (ha : PA X (e :: es) t)
    (hd : (x == ("__debug__" : Str)) = false := by decide) (he : starEach (e :: es) X.env = (false, eval e X.env) :: starEach es X.env := by rfl) (hpl : (backTo cpos (starEach es X.env)).any (·.1) = false := by rfl) :
    PS X (.Raise (some (.Call (.Name x np) (e :: es) [] cpos)) none pos) (tRaise R C t) := by
  intro pins s σ H D I hw
  obtain ⟨tl, N, nm, q, bs, hdct, sn, sub, ab, col, dd, k0, k1, k2, k3, k5, mN, hC, hN, hni, Tl⟩ := O.obj I.ok.mod.kin
  refine wpAny_Raise_call_subT (C := C) (nm := nm) (q := q) (N := N) (bs := bs) (bm := tl) (hdct := hdct) (sn := sn) (sub := sub) (ab := ab) (col := col) (dd := dd) (k0 := k0) (k1 := k1) (k2 := k2) (k3 := k3) (k5 := k5)
    PySem.F.excBase_ValueError (mN := mN) (Tl.hasType PySem.F.excBase_ValueError.hasBase) (I.ok.hd hc) (by rw [he]; show (false || (backTo cpos (starEach es X.env)).any (·.1)) = false; rw [hpl]; rfl) hni (ld_glob I hg O.bound ⟨rfl, ?_⟩ hd)
  rw [he]
  have h2 := ha cpos pins s σ H _ I hw
  rw [he] at h2
  refine Calls.evalArgs_plain (wpAny_mono h2 (fun us s2 ⟨vs, H2, I2, r2, z2, q2⟩ => ⟨rfl, by rw [← r2.length]; exact z2, I2.bk _ _ hC, hN.keeps I2.bk, Tl.keeps I2.bk, fun h' a hx => ?_⟩) fun _ _ y => y)
  exact T _ _ (XS.made Pl I2 hx (q2 a))
end
end L2

set_option Elab.async false
set_option linter.all false
set_option maxRecDepth 100000

namespace L2
open PySem PySem.Spec PySem.Calls PyProof.Rows

noncomputable abbrev Cx.pin (X : Cx) (pn : List (Addr × Obj)) : Cx := { X with pn := pn }
section
variable {X : Cx} {pins : List (Addr × Obj)} {σ : St} {H : Hp} {s : Shared}
theorem Cx.Ok.pin (ok : X.Ok) (pn : List (Addr × Obj)) : (X.pin pn).Ok :=
  ⟨ok.mod, ok.kind, ok.glob, ok.blt, ok.above, ok.inj, ok.has, ok.cab, ok.hd, ok.frames, ok.stk, ok.exf, ok.bs, ok.bsz, ok.noex, ok.exfs, ok.funs, ok.frf⟩
theorem Cx.Ok.unpin {pn : List (Addr × Obj)} (ok : (X.pin pn).Ok) : X.Ok :=
  ⟨ok.mod, ok.kind, ok.glob, ok.blt, ok.above, ok.inj, ok.has, ok.cab, ok.hd, ok.frames, ok.stk, ok.exf, ok.bs, ok.bsz, ok.noex, ok.exfs, ok.funs, ok.frf⟩
theorem Inv.topin (I : Inv X pins σ H s) : Inv (X.pin (X.pn ++ pins)) [] σ H s :=
  ⟨I.ok.pin _, I.os, I.bare, I.base, I.loc, I.cell, I.free, I.freeC, fun p hp => I.pin p (by simpa using hp), I.hok, I.len⟩
theorem Inv.ofpin (I : Inv (X.pin (X.pn ++ pins)) [] σ H s) : Inv X pins σ H s :=
  ⟨I.ok.unpin, I.os, I.bare, I.base, I.loc, I.cell, I.free, I.freeC, fun p hp => I.pin p (by simpa using hp), I.hok, I.len⟩
theorem SP.ofpin {D : Ends} {f : Flow} {s' : Shared} (h : SP (X.pin (X.pn ++ pins)) [] D f s') : SP X pins D f s' := by
  cases f with
  | next => obtain ⟨σ', H', I, q⟩ := h; exact ⟨σ', H', I.ofpin, q⟩
  | brk => obtain ⟨σ', H', I, q⟩ := h; exact ⟨σ', H', I.ofpin, q⟩
  | cont => obtain ⟨σ', H', I, q⟩ := h; exact ⟨σ', H', I.ofpin, q⟩
  | ret u => obtain ⟨v, σ', H', I, r, q⟩ := h; exact ⟨v, σ', H', I.ofpin, r, q⟩
theorem Plain.pin (P : Plain X) (pn : List (Addr × Obj)) : Plain (X.pin pn) := ⟨P.stk, P.frm, P.ex⟩
end


noncomputable abbrev TH := Ends → Value → Addr → St → Hp → Prop
noncomputable def PH (X : Cx) (hs : List ExceptHandler) (t : TH) : Prop :=
  ∀ (s : Shared) (σ : St) (H : Hp) (D : Ends) (B : Heap) (a : Addr) (cls a0 : Value), Inv X [] σ H s → Exn X H B a cls a0 (some .none) s.heap → t D cls a σ H →
    wpAny (model X.prog X.w) X.A (handleBy (.ref a) X.env hs) (SP X [] D) X.xe s

noncomputable def tTry (tb : RX → TS) (th : TH) (to : TS) : TS := fun D σ H => tb (fun σ' H' cls a => th D cls a σ' H') { D with nx := to D } σ H
theorem ps_try {X : Cx} {body orelse : List Stmt} {h₀ : ExceptHandler} {hs : List ExceptHandler} {pos : Pos} {tb : RX → TS} {th : TH} {to : TS} (Pl : Plain X)
    (hb : ∀ pn R, PSs ((X.pin pn).by R) body (tb R)) (hh : ∀ pn, PH (X.pin pn) (h₀ :: hs) th) (ho : PSs X orelse to) : PS X (.Try body (h₀ :: hs) orelse [] pos) (tTry tb th to) := by
  intro pins s σ H D I hw
  refine wpAny_Try_except (wpAny_mono (hb (X.pn ++ pins) _ [] s σ H _ (I.topin.wish _) hw) (fun f s1 q => ?_) (fun e s1 hx => ?_))
  · have q' : SP X pins { D with nx := to D } f s1 := SP.ofpin (SP.unwish q)
    cases f with
    | next =>
      obtain ⟨σ', H', I1, q1⟩ := q'
      exact ho pins s1 σ' H' D I1 q1
    | brk => exact q'
    | cont => exact q'
    | ret u => exact q'
  · obtain ⟨a, σ1, H1, B, cls, a0, m, rfl, I1, ex, r⟩ := hx
    have hfr : X.A.frames = some (X.env :: X.outer) := by rw [I.ok.frames, Pl.stk]
    have air : Air B (X.env :: X.outer) a s1.heap := by have := ex.air; rw [show (X.pin (X.pn ++ pins)).stack = X.env :: X.outer from Pl.stk] at this; exact this
    refine note_ok hfr Pl.frm air ex.tr ex.nd ex.md fun h1 air1 tr1 nd1 up1 => ?_
    have I2 : Inv (X.pin (X.pn ++ pins)) [] σ1 H1 { s1 with heap := h1 } := I1.redo ex.cov ex.air.frm air1.stay up1
    have cov2 := Cov.redo (Pl.pin _) I1 ex.cov air1.stay
    have air1' : Air B (X.pin (X.pn ++ pins)).stack a h1 := by rw [show (X.pin (X.pn ++ pins)).stack = X.env :: X.outer from Pl.stk]; exact air1
    refine flight_ok (s := { s1 with heap := h1 }) (f := none) air1' tr1 nd1 fun h2 air2 tr2 nd2 up2 => ?_
    have I3 : Inv (X.pin (X.pn ++ pins)) [] σ1 H1 { s1 with heap := h2 } := I2.redo cov2 air1'.frm air2.stay up2
    have cov3 := Cov.redo (Pl.pin _) I2 cov2 air2.stay
    exact wpAny_mono (hh (X.pn ++ pins) { s1 with heap := h2 } σ1 H1 D B a cls a0 I3 ⟨air2, tr2, .inr (.inl rfl), cov3, nd2⟩ r) (fun f s4 q => q.ofpin) fun _ _ q => q

section
variable {X : Cx} {R : RX}
theorem ph_nil (T : Thr X R) (Pl : Plain X) : PH X [] (fun _ cls a σ H => R σ H cls a) := by
  intro s σ H D B a cls a0 I ex r
  obtain ⟨oe, vs, Tb, oT, ts, he, hcls, hd, hv1, _⟩ := id ex.tr
  refine wpAny_handleBy_nil ?_
  unfold PySem.passOn
  refine wpAny_bind (wpAny_field he hd hv1 ?_)
  rw [if_neg (show ¬ ((Value.ref Tb == Value.none) = true) from by simp)]
  rw [Pl.frm]
  have key : wpAny (model X.prog X.w) X.A (do setFlight (.ref a) (some X.env.locals); throw (.ref a)) (SP X [] D) X.xe s :=
    wpAny_bind (flight_ok (f := some X.env.locals) ex.air ex.tr ex.nd fun h2 air2 tr2 nd2 up2 => wpAny_throw (T _ _ ⟨a, σ, H, B, cls, a0, some (rawInt X.env.locals), rfl, I.redo ex.cov ex.air.frm air2.stay up2, ⟨air2, tr2, .inr (.inr rfl), Cov.redo Pl I ex.cov air2.stay, nd2⟩, r⟩))
  first
    | exact wpAny_bind (wpAny_pure key)
    | exact key

noncomputable def excφ (a : Addr) (cls : Value) : Heap → Prop := fun h => ∃ o vs, h.get? a = some o ∧ o.cls = cls ∧ o.dict = none ∧ o.data = .fields vs ∧ vs[2]? = some .none
end


noncomputable abbrev Cx.hand (X : Cx) (a : Addr) : Cx := { X with A := X.A.mark (some (.ref a)), calm := false, xe := fun _ _ => False }
section
variable {X : Cx} {pins : List (Addr × Obj)} {σ : St} {H : Hp} {s : Shared}
theorem Cx.Ok.hand (ok : X.Ok) (a : Addr) : (X.hand a).Ok :=
  ⟨ok.mod, ok.kind, ok.glob, ok.blt, ok.above, ok.inj, ok.has, ok.cab, fun z => absurd z (by simp), ok.frames, ok.stk, ok.exf, ok.bs, ok.bsz, ok.noex, ok.exfs, ok.funs, ok.frf⟩
theorem Inv.hand (I : Inv X pins σ H s) (a : Addr) : Inv (X.hand a) pins σ H s :=
  ⟨I.ok.hand a, I.os, I.bare, I.base, I.loc, I.cell, I.free, I.freeC, I.pin, I.hok, I.len⟩
theorem Inv.unhand {a : Addr} (ok : X.Ok) (I : Inv (X.hand a) pins σ H s) : Inv X pins σ H s :=
  ⟨ok, I.os, I.bare, I.base, I.loc, I.cell, I.free, I.freeC, I.pin, I.hok, I.len⟩
theorem SP.unhand {a : Addr} {D : Ends} {f : Flow} {s' : Shared} (ok : X.Ok) (h : SP (X.hand a) pins D f s') : SP X pins D f s' := by
  cases f with
  | next => obtain ⟨σ', H', I, q⟩ := h; exact ⟨σ', H', I.unhand ok, q⟩
  | brk => obtain ⟨σ', H', I, q⟩ := h; exact ⟨σ', H', I.unhand ok, q⟩
  | cont => obtain ⟨σ', H', I, q⟩ := h; exact ⟨σ', H', I.unhand ok, q⟩
  | ret u => obtain ⟨v, σ', H', I, r, q⟩ := h; exact ⟨v, σ', H', I.unhand ok, r, q⟩
end
section
variable {X : Cx} {x n : Str} {C : Addr} {np hp : Pos} {b₀ : Stmt} {suite : List Stmt} {rest : List ExceptHandler} {ts : Addr → TS} {tr : TH}
theorem excMatch_ok {s : Shared} {σ : St} {H : Hp} {B : Heap} {a : Addr} {cls a0 c : Value} {b : Bool} {A : Around} {E : Value → Shared → Prop} {Q : Bool → Shared → Prop} (I : Inv X [] σ H s) (ex : Exn X H B a cls a0 (some .none) s.heap)
    (hx : PySem.W.exmOne X.K cls c = some b) (q : Q b s) : wpAny (model X.prog X.w) A (excMatches (.ref a) c) Q E s := by
  obtain ⟨oe, vs, Tb, oT, tt, he, hcls, hd, hv1, _⟩ := id ex.tr
  obtain ⟨rfl, _⟩ := hcls
  exact (PySem.W.exm_one I.kIn ((PySem.W.Looks.ld he).andThen .now) hx).here q
theorem ph_cons (Pl : Plain X) (hm : X.mg x = some (.ref C)) (hg : Gl X x) (hs : ∀ a, PSs (X.hand a) (b₀ :: suite) (ts a)) (hr : PH X rest tr) (hd : (x == ("__debug__" : Str)) = false := by decide) :
    PH X (.ExceptHandler (some (.Name x np)) none (b₀ :: suite) hp :: rest)
      (fun D cls a σ H => ∃ b, PySem.W.exmOne X.K cls (.ref C) = some b ∧ if b = true then ts a D σ H else tr D cls a σ H) := by
  intro s σ H D B a cls a0 I ex hw
  obtain ⟨b, hx, hw⟩ := hw
  refine wpAny_handleBy_cons (codeAny_handlers_test ?_) (by intro q; cases q)
  refine ld_glob (X := X.hand a) (I.hand a) hg hm (excMatch_ok I ex hx ?_) hd
  cases b with
  | false => exact hr s σ H D B a cls a0 I ex hw
  | true =>
    refine codeAny_handlers_suite ?_
    refine flight_ok (f := none) ex.air ex.tr ex.nd fun h2 air2 tr2 nd2 up2 => ?_
    have I2 := I.redo ex.cov ex.air.frm air2.stay up2
    exact wpAny_mono (hs a [] _ σ H D (I2.hand a) hw) (fun f s' q => q.unhand I.ok) fun _ _ z => z.elim
end
end L2

set_option Elab.async false
set_option linter.all false
set_option maxRecDepth 100000

namespace L2
open PySem PySem.Spec PySem.Calls PyProof.Rows


structure CompOk (X : Cx) (scope : Scope) (cl : List (Str × Addr)) (Nc : List Str) (js : List (Option Nat)) : Prop where
  clos : closureFor scope X.env = pure cl
  sub : ∀ n c, cl.lookup n = some c → X.env.cells.lookup n = some c
  cell : ∀ y ∈ scope.names, y.2 ≠ .cell
  kind : scope.kind = .function
  names : ∀ x ∈ scope.names, x.2 = .local → scope.names.lookup x.1 = some .local
  has : ∀ x, ((relabel scope X.env).names.lookup x = some .cell ∨ (relabel scope X.env).names.lookup x = some .free) → ∃ c, cl.lookup x = some c
  len : js.length = Nc.length
  free : ∀ (k j : Nat), js[k]? = some (some j) → ∃ x c, Nc[k]? = some x ∧ X.N[j]? = some x ∧ X.env.scope.names.lookup x = some .cell ∧ cl.lookup x = some c ∧ (relabel scope X.env).names.lookup x = some .cell

noncomputable abbrev cxComp (X : Cx) (pins : List (Addr × Obj)) (Nc : List Str) (scope : Scope) (cl : List (Str × Addr)) (C : Addr) (fp : List Addr) (s : Shared) (H : Hp) : Cx :=
  { X with N := Nc, s₀ := s, H₀ := H, env := compEnvC scope cl C X.env, outer := X.stack, stack := X.stack, ex := fp, fn := fun _ => false, pn := X.pn ++ pins, xe := fun _ _ => False }
noncomputable def sigC (js : List (Option Nat)) (σ : St) : St := js.map fun o => o.bind fun j => (σ[j]?).join

section
variable {X : Cx} {pins : List (Addr × Obj)} {σ : St} {H : Hp} {s : Shared} {Nc : List Str} {scope : Scope} {cl : List (Str × Addr)} {js : List (Option Nat)} {fp : List Addr}
theorem comp_start (O : CompOk X scope cl Nc js) (I : Inv X pins σ H s) (hfp : ∀ b ∈ fp, FpOk X pins H b ∧ b < s.heap.objs.size) {h₁ : Heap} {t : Nat} (hns : h₁.Ns s.heap.objs.size (fun _ => none))
    (hk : ∀ b o, s.heap.get? b = some o → h₁.get? b = some o) :
    Inv (cxComp X pins Nc scope cl s.heap.objs.size fp s H) [] (sigC js σ) H { s with heap := h₁, toks := t } := by
  have cb : ∀ x c, cl.lookup x = some c → c < s.heap.objs.size := fun x c e => by
    obtain ⟨v, o, e, _⟩ := I.cell x c (O.sub x c e)
    exact Heap.lt_size e
  refine ⟨⟨I.ok.mod, O.kind, I.ok.glob, I.ok.blt, Nat.le_refl _, fun x y c e1 e2 => I.ok.inj x y c (O.sub _ _ e1) (O.sub _ _ e2), O.has, fun _ _ z => absurd z (by simp), I.ok.hd, I.ok.frames, .inl rfl, fun b hb => ?_,
    I.bs, Nat.le_trans I.ok.bsz I.sz, fun b o e hb => ?_, fun b hb z => ?_, I.stack, I.stkFree⟩, rfl, I.bare, Un.kept hk, ⟨_, hns, fun k x v e1 e2 e3 => ?_⟩, fun x c e => ?_, I.hok.fresh (Nat.le_refl _), fun x c e => I.freeC x c (O.sub x c e), fun p hp => ?_, I.hok.kept hk, ?_⟩
  · exact ⟨Nat.ne_of_lt (hfp b hb).2, fun x c e => (hfp b hb).1.2.2.2.2.1 x c (O.sub x c e)⟩
  · -- a thing of the base is no iterator of ours
    obtain ⟨⟨_, _, _, h4, _⟩, _⟩ := hfp b hb
    rcases h4 with z | z
    · exact I.ok.noex b o e z
    · exact absurd (Nat.lt_of_lt_of_le (Heap.lt_size (I.ok.bs b o e).1) z) (Nat.lt_irrefl _)
  · rcases List.mem_cons.mp (I.stkSub b z) with q | q
    · exact (hfp b hb).1.2.1 q
    · exact (hfp b hb).1.2.2.1 q
  · unfold sigC at e2
    rw [List.getElem?_map] at e2
    cases ej : js[k]? with
    | none => rw [ej] at e2; cases e2
    | some oj =>
      rw [ej] at e2
      cases oj with
      | none => cases e2
      | some j =>
        have e2 : (σ[j]?).join = some v := Option.some.inj e2
        obtain ⟨x', c, f1, f2, f3, f4, f5⟩ := O.free k j ej
        rw [show Nc[k]? = some x from e1] at f1
        cases f1
        have e2' : σ[j]? = some (some v) := by
          cases q : σ[j]? with
          | none => rw [q] at e2; cases e2
          | some q' => rw [q] at e2; cases q' with
            | none => cases e2
            | some z => cases e2; rfl
        obtain ⟨m, hn, hl⟩ := I.loc
        obtain ⟨u, r, l⟩ := hl j x v f2 e2' (.inr (.inl f3))
        refine ⟨u, r, .inr ⟨.inl f5, c, f4, ?_⟩⟩
        rcases l with ⟨k1, _⟩ | ⟨_, c', g1, g2⟩
        · have : X.env.scope.names.lookup x = some .local := k1
          rw [f3] at this; cases this
        · rw [O.sub x c f4] at g1
          cases g1
          obtain ⟨o, ho, hd⟩ := g2
          exact ⟨o, hk _ _ ho, hd⟩
  · obtain ⟨v, o, ho, hd⟩ := I.cell x c (O.sub x c e)
    exact ⟨v, o, hk _ _ ho, hd⟩
  · have hp : p ∈ X.pn ++ pins := by simpa using hp
    obtain ⟨e, n, n1, n2, d⟩ := I.pin p hp
    refine ⟨hk _ _ e, n, Nat.ne_of_lt (Heap.lt_size e), fun z => ?_, d⟩
    rcases List.mem_cons.mp (I.stkSub _ z) with q | q
    · exact n1 q
    · exact n2 q
  · show (js.map _).length = Nc.length
    rw [List.length_map, O.len]
theorem comp_end {C : Addr} {σ' : St} {H' : Hp} {s' : Shared} {qs : List (Addr × Obj)} (I : Inv X pins σ H s) (hfp : ∀ b ∈ fp, FpOk X pins H b) (J : Inv (cxComp X pins Nc scope cl C fp s H) qs σ' H' s') : Inv X pins σ H' s' :=
  I.call' (ch := fp) J.os J.base J.hok J.bare fun b hb => by
    obtain ⟨_, h2, _, h4, h5, h6⟩ := hfp b hb
    exact ⟨h4, h2, h5, h6⟩
end


noncomputable def ifsRun (env : Env) (ifs : List Expr) : Sem Bool := forIn ifs true fun c r => if r = true then do let ok ← isTrue c env (eval c env); pure (ForInStep.yield ok) else pure (ForInStep.yield r)
theorem ifs_nil {M : Model} {A : Around} {E : Value → Shared → Prop} {s : Shared} {env : Env} {Q : Bool → Shared → Prop} (h : Q true s) : wpAny M A (ifsRun env []) Q E s := wpAny_pure h
theorem compLoop_ok {prog : Program} {w : World} {A : Around} {R : Result → Shared → Prop} {s : Shared} {elt target iter : Expr} {ifs : List Expr} {scope : Scope} {pos : Pos} {it acc : Value} {env : Env} (I : Nat → Shared → Prop)
    (turn : ∀ n s, I n s → wpAny (model prog w) A (pyNext it) (fun r s₁ => match r with
      | none => R (.ok .next) s₁
      | some v => wpAny (model prog w) A (letOwnedTupleGo target it v) (fun _ s₂ => wpAny (model prog w) A (assign target env v) (fun _ s₃ => wpAny (model prog w) A (ifsRun env ifs) (fun b s₄ =>
          if b = true then wpAny (model prog w) A (eval elt env) (fun x s₅ => wpAny (model prog w) A (call (.builtin "list.append") [acc, x]) (fun _ s₆ => ∃ m, m < n ∧ I m s₆) (fun _ _ => False) s₅) (fun _ _ => False) s₄
          else ∃ m, m < n ∧ I m s₄) (fun _ _ => False) s₃) (fun _ _ => False) s₂) (fun _ _ => False) s₁) (fun _ _ => False) s)
    (n : Nat) (h : I n s) :
    codeAny (model prog w) A (.compLoop (.ListComp elt [⟨target, iter, ifs, 0⟩] scope pos) 0 it acc env) R s := by
  refine codeAny_loop rfl I (fun n s hI => ?_) n h
  show wpAny _ _ ((compTurn (.ListComp elt [⟨target, iter, ifs, 0⟩] scope pos) 0 it acc env).onRaise (fun x => do noteFrame x env; theTreesLotGoes x)) _ _ s
  refine wpAny_noted ?_
  have no : ∀ {E : Value → Shared → Prop} (e : Value) (s' : Shared), False → E e s' := fun _ _ f => f.elim
  rw [compTurn_list]
  refine wpAny_bind (wpAny_standAt (wpAny_bind (wpAny_mono (turn n s hI) (fun r s₁ h₁ => ?_) no)))
  cases r with
  | none => exact wpAny_pure h₁
  | some v =>
    refine wpAny_bind (wpAny_mono h₁ (fun _ s₂ h₂ => wpAny_bind (wpAny_mono h₂ (fun _ s₃ h₃ => ?_) no)) no)
    show wpAny (model prog w) A (ifsRun env ifs >>= _) _ _ s₃
    refine wpAny_bind (wpAny_mono h₃ (fun b s₄ h₄ => ?_) no)
    cases b with
    | true =>
      rw [if_pos rfl] at h₄
      exact wpAny_bind (wpAny_bind (wpAny_mono h₄ (fun x s₅ h5 => wpAny_bind (wpAny_mono h5 (fun _ s₆ h6 => wpAny_pure (wpAny_pure ⟨rfl, h6⟩)) no)) no))
    | false =>
      rw [if_neg Bool.false_ne_true] at h₄
      exact wpAny_bind (wpAny_pure (wpAny_pure ⟨rfl, h₄⟩))


noncomputable def PIfs (X : Cx) (ifs : List Expr) (t : TT) : Prop :=
  ∀ (pins : List (Addr × Obj)) (s : Shared) (σ : St) (H : Hp) (Q : Bool → Hp → Prop), Inv X pins σ H s → t σ H Q → wpAny (model X.prog X.w) X.A (ifsRun X.env ifs) (TP X pins σ Q) X.xe s
theorem pif_nil {X : Cx} : PIfs X [] (fun _ H Q => Q true H) := fun _ _ _ H _ I h => ifs_nil ⟨H, I, h⟩
noncomputable def tCompW (J : It) (l : Addr) (g : TG) (ti : TT) (te : TE) (Qk : Hp → Prop) (W : Nat → Nat → List V → St → Hp → Prop) : Prop :=
  ∀ i m ys σ H, W i m ys σ H → H l = some (.lst ys) ∧ ((J.stop i H ∧ Qk H) ∨ (J.go i H ∧ ys.length < sizeLine ∧ ∀ x H', J.yld i H x H' → g x σ H' fun σ2 H2 => ti σ2 H2 fun b H3 =>
    if b = true then te σ2 H3 fun y H4 => H4 l = some (.lst ys) ∧ ∃ m', m' < m ∧ W (i + 1) m' (ys ++ [y]) σ2 (upd H4 l (.lst (ys ++ [y]))) else ∃ m', m' < m ∧ W (i + 1) m' ys σ2 H3))
noncomputable def tComp (js : List (Option Nat)) (wi : TI) (g : TG) (ti : TT) (te : TE) : TE := fun σ H Q => wi σ H fun J H1 => ∀ l, H1 l = none → ∃ W : Nat → Nat → List V → St → Hp → Prop, (∃ m, W 0 m [] (sigC js σ) (upd H1 l (.lst []))) ∧ tCompW J l g ti te (Q (.ref l)) W

section
variable {X : Cx} {Nc : List Str} {scope : Scope} {cl : List (Str × Addr)} {js : List (Option Nat)} {tg iter elt : Expr} {ifs : List Expr} {g : TG} {ti : TT} {te : TE} {wi : TI} {pos : Pos}
theorem comp_run {pins : List (Addr × Obj)} {H₀ : Hp} {s₀ s : Shared} {C l it : Addr} {fp : List Addr} {J : It} {tn : Nat → Heap → Prop} {Qk : Hp → Prop} {W : Nat → Nat → List V → St → Hp → Prop} {RR : Result → Shared → Prop} {σc : St} {H : Hp} (hc : X.calm = true)
    (hg : ∀ pins C fp s H, PG (cxComp X pins Nc scope cl C fp s H) tg g) (hti : ∀ pins C fp s H, PIfs (cxComp X pins Nc scope cl C fp s H) ifs ti) (he : ∀ pins C fp s H, PE (cxComp X pins Nc scope cl C fp s H) elt te)
    (T : Turn X.prog X.w X.K tg J fp it tn) (w : tCompW J l g ti te Qk W) {m0 : Nat} (w0 : W 0 m0 [] σc H)
    (I : Inv (cxComp X pins Nc scope cl C fp s₀ H₀) [] σc H s) (st : tn 0 s.heap) (hfp : ∀ b ∈ fp, FpOk (cxComp X pins Nc scope cl C fp s₀ H₀) [] H b)
    (hRR : ∀ qs σ' H' s', Inv (cxComp X pins Nc scope cl C fp s₀ H₀) qs σ' H' s' → (∀ b ∈ fp, H' b = none) → Qk H' → RR (.ok .next) s') :
    codeAny (model X.prog X.w) X.A (.compLoop (.ListComp elt [⟨tg, iter, ifs, 0⟩] scope pos) 0 (.ref it) (.ref l) (compEnvC scope cl C X.env)) RR s := by
  have stat : ∀ {H' : Hp}, (∀ b ∈ fp, H' b = none) → ∀ b ∈ fp, FpOk (cxComp X pins Nc scope cl C fp s₀ H₀) [] H' b := fun hn b hb => ⟨hn b hb, (hfp b hb).2⟩
  refine compLoop_ok (fun n s' => ∃ i ys σ' H', Inv (cxComp X pins Nc scope cl C fp s₀ H₀) [] σ' H' s' ∧ tn i s'.heap ∧ (∀ b ∈ fp, H' b = none) ∧ W i n ys σ' H') ?_ m0 ⟨0, [], σc, H, I, st, fun b hb => (hfp b hb).1, w0⟩
  rintro n s3 ⟨i, ys, σ3, H3, I3, st3, fr3, w3⟩
  obtain ⟨hl, w4⟩ := w i n ys σ3 H3 w3
  rcases w4 with ⟨stop, qn⟩ | ⟨go, hz, step⟩
  · refine thn (T.done (cxComp X pins Nc scope cl C fp s₀ H₀) rfl rfl rfl hc i [] s3 σ3 H3 _ I3 (stat fr3) st3 stop) fun r s4 zz9 => ?_
    obtain ⟨hr, I4⟩ := zz9
    subst hr
    exact hRR [] σ3 H3 s4 I4 fr3 qn
  · refine thn (T.item (cxComp X pins Nc scope cl C fp s₀ H₀) rfl rfl rfl hc i [] s3 σ3 H3 _ I3 (stat fr3) st3 go) fun r s4 zz9 => ?_
    obtain ⟨u, hr, h4⟩ := zz9
    subst hr
    refine thn h4 fun _ s5 zz9 => ?_
    obtain ⟨x, H5, I5, r5, y5, st5, fr5⟩ := zz9
    have I5' := I5.pinned (stat fr5) (T.obj _ _ st5)
    refine thn (hg pins C fp s₀ H₀ _ s5 σ3 H5 x u _ I5' r5 (step x H5 y5)) fun _ s6 zz9 => ?_
    obtain ⟨σ6, H6, I6, q6⟩ := zz9
    refine thn (hti pins C fp s₀ H₀ _ s6 σ6 H6 _ I6 q6) fun b s7 zz9 => ?_
    obtain ⟨H7, I7, q7⟩ := zz9
    have again : ∀ {σ7 : St} {H8 : Hp} {s8 : Shared} {ys' : List V}, Inv (cxComp X pins Nc scope cl C fp s₀ H₀) ([] ++ pinsAt fp s5.heap) σ7 H8 s8 → (∃ m', m' < n ∧ W (i + 1) m' ys' σ7 H8) →
        ∃ m, m < n ∧ ∃ i ys σ' H', Inv (cxComp X pins Nc scope cl C fp s₀ H₀) [] σ' H' s8 ∧ tn i s8.heap ∧ (∀ b ∈ fp, H' b = none) ∧ W i m ys σ' H' := fun {σ7 H8 s8 ys'} I8 w8 => by
      obtain ⟨m', hm, w8⟩ := w8
      refine ⟨m', hm, i + 1, ys', σ7, H8, I8.unpinned, T.keep _ _ _ st5 fun b hb o e => (I8.pin (b, o) (List.mem_append_right _ (List.mem_append_right _ (mem_pinsAt hb e)))).1, fun b hb => ?_, w8⟩
      obtain ⟨o, e, d⟩ := T.obj _ _ st5 b hb
      exact (I8.pin (b, o) (List.mem_append_right _ (List.mem_append_right _ (mem_pinsAt hb e)))).2.1
    cases b with
    | true =>
      rw [if_pos rfl] at q7 ⊢
      refine thn (he pins C fp s₀ H₀ _ s7 σ6 H7 _ I7 q7) fun y s8 zz9 => ?_
      obtain ⟨vy, H8, I8, r8, hl8, q8⟩ := zz9
      refine thn (mt_append (X := cxComp X pins Nc scope cl C fp s₀ H₀) _ s8 σ6 H8 (.ref l) [vy] (.ref l) [y] (fun _ H9 => H9 = upd H8 l (.lst (ys ++ [vy]))) I8 rfl (.cons r8 .nil) ⟨l, ys, vy, rfl, rfl, hl8, hz, rfl⟩) fun _ s9 zz9 => ?_
      obtain ⟨_, H9, I9, _, e9⟩ := zz9
      subst e9
      exact again I9 q8
    | false =>
      rw [if_neg Bool.false_ne_true] at q7 ⊢
      exact again I7 q7
theorem pe_comp (O : CompOk X scope cl Nc js) (hc : X.calm = true) (hi : PI X tg iter wi) (hg : ∀ pins C fp s H, PG (cxComp X pins Nc scope cl C fp s H) tg g) (hti : ∀ pins C fp s H, PIfs (cxComp X pins Nc scope cl C fp s H) ifs ti)
    (he : ∀ pins C fp s H, PE (cxComp X pins Nc scope cl C fp s H) elt te) (hs : ∀ x, foldedSetIterable iter X.env x = pure x := by intro _; rfl) :
    PE X (.ListComp elt [⟨tg, iter, ifs, 0⟩] scope pos) (tComp js wi g ti te) := by
  intro pins s σ H Q I hw
  rw [eval_ListComp]
  refine wpAny_comprehension_free (use := none) rfl hs O.clos O.kind O.names (thn (hi pins s σ H _ I hw) fun v s1 h1 => thn h1 fun itv s2 h2 => ?_)
  obtain ⟨it, fp, tn, J, H2, e, I2, T, st2, f2, r2⟩ := h2
  subst e
  refine wpAny_newObj_type ?_
  have hl0 : H2 s2.heap.objs.size = none := I2.hok.fresh (Nat.le_refl _)
  obtain ⟨W, ⟨m0, w0⟩, w⟩ := r2 s2.heap.objs.size hl0
  have k3 : ∀ b o, s2.heap.get? b = some o → (s2.heap.push { cls := .type "list", data := .seq ([] : List Value).toArray }).get? b = some o := fun b o e => Heap.get?_push_of_some _ e
  have I3 : Inv X pins σ (upd H2 s2.heap.objs.size (.lst [])) { s2 with heap := s2.heap.push { cls := .type "list", data := .seq ([] : List Value).toArray } } :=
    I2.laid (t' := s2.toks) k3 (Nat.le_refl _) ⟨Nat.zero_le _, [], 0, .nil, Heap.get?_push_size _ rfl⟩
  have fpl : ∀ b ∈ fp, b < s2.heap.objs.size := fun b hb => by
    obtain ⟨o, e, _⟩ := T.obj _ _ st2 b hb
    exact Heap.lt_size e
  have f3 : ∀ b ∈ fp, FpOk X pins (upd H2 s2.heap.objs.size (.lst [])) b := fun b hb => ⟨by rw [upd_ne (Nat.ne_of_lt (fpl b hb))]; exact (f2 b hb).1, (f2 b hb).2⟩
  have sz3 : (s2.heap.push { cls := .type "list", data := .seq ([] : List Value).toArray }).objs.size = s2.heap.objs.size + 1 := Heap.size_push _ _
  refine wpAny_newFunctionEnv O.cell (by intro y hy; simp at hy) (fun h₁ hns₁ hsb₁ => ?_) O.kind
  have k4 : ∀ b o, (s2.heap.push { cls := .type "list", data := .seq ([] : List Value).toArray }).get? b = some o → h₁.get? b = some o := fun b o e =>
    (hsb₁.2 b (Nat.ne_of_lt (Heap.lt_size e))).trans (Heap.get?_push_of_some _ e)
  have Ic := comp_start (Nc := Nc) (js := js) (fp := fp) (t := s2.toks) O I3 (fun b hb => ⟨f3 b hb, by show b < (s2.heap.push _).objs.size; rw [sz3]; exact Nat.lt_succ_of_lt (fpl b hb)⟩) (h₁ := h₁) hns₁ k4
  have st4 : tn 0 h₁ := T.keep _ _ _ st2 fun b hb o e => k4 b o (k3 b o e)
  have fC : FpOk X pins (upd H2 s2.heap.objs.size (.lst [])) (s2.heap.push { cls := .type "list", data := .seq ([] : List Value).toArray }).objs.size := I3.fpOk (Nat.le_refl _) (I3.hok.fresh (Nat.le_refl _))
  have loop : ∀ s4 : Shared, s4 = { s2 with heap := h₁, toks := s2.toks } → codeAny (model X.prog X.w) X.A (.compLoop (.ListComp elt [⟨tg, iter, ifs, 0⟩] scope pos) 0 (.ref it) (.ref s2.heap.objs.size) (compEnvC scope cl (s2.heap.push { cls := .type "list", data := .seq ([] : List Value).toArray }).objs.size X.env))
      (compPost (model X.prog X.w) X.A X.xe none (EP X pins σ Q) (.ref s2.heap.objs.size) (s2.heap.push { cls := .type "list", data := .seq ([] : List Value).toArray }).objs.size) s4 := by
    rintro s4 rfl
    refine comp_run (s₀ := { s2 with heap := s2.heap.push { cls := .type "list", data := .seq ([] : List Value).toArray } }) hc hg hti he T w w0 Ic st4 (fun b hb => ?_) fun qs σ' H' s' J' fr' q' => ?_
    · obtain ⟨g1, g2, g3, g4, g5, g6⟩ := f3 b hb
      refine ⟨g1, Nat.ne_of_lt (by show b < (s2.heap.push _).objs.size; rw [sz3]; exact Nat.lt_succ_of_lt (fpl b hb)), fun z => ?_, .inl hb, fun x c e => g5 x c (O.sub x c e), fun p hp => g6 p (by simpa using hp)⟩
      rcases List.mem_cons.mp (I3.stkSub b z) with q | q
      · exact g2 q
      · exact g3 q
    · obtain ⟨mC, hnC, _⟩ := J'.loc
      have I5 : Inv X pins σ H' s' := comp_end I3 f3 J'
      refine ⟨mC, hnC, fun h' sb => ⟨.ref s2.heap.objs.size, H', ?_, rfl, q'⟩⟩
      exact I5.turned (t' := s'.toks) (fun b o hb e => (sb.2 b hb).trans e) J'.free fC.2.1 fC.2.2.2.1 fC.2.2.2.2.1 fC.2.2.2.2.2
  exact codeAny_compStart_list (loop _ rfl) (T.self X.A 0 _ _ _ st4 (loop _ rfl))
theorem ps_comp {i : Nat} {y : Str} {py spos : Pos} (hN : X.N.Nodup) (hiN : X.N[i]? = some y) (hyl : X.env.scope.names.lookup y = some .local) (O : CompOk X scope cl Nc js) (hc : X.calm = true) (hi : PI X tg iter wi) (hg : ∀ pins C fp s H, PG (cxComp X pins Nc scope cl C fp s H) tg g) (hti : ∀ pins C fp s H, PIfs (cxComp X pins Nc scope cl C fp s H) ifs ti)
    (he : ∀ pins C fp s H, PE (cxComp X pins Nc scope cl C fp s H) elt te) (hsw : swapsWith (.ListComp elt [⟨tg, iter, ifs, 0⟩] scope pos) (some (.Name y py)) spos.line X.env = pure true) (hs : ∀ x, foldedSetIterable iter X.env x = pure x := by intro _; rfl) :
    PS X (.Assign [.Name y py] (.ListComp elt [⟨tg, iter, ifs, 0⟩] scope pos) spos) (tAsg (tComp js wi g ti te) (gName i)) := by
  intro pins s σ H D I hw
  rw [exec_Assign_Name_used _ _ _ _ hsw]
  refine wpAny_bind (wpAny_standAt (wpAny_bind ?_))
  show wpAny _ X.A (do let _ ← comprehension (.ListComp elt [⟨tg, iter, ifs, 0⟩] scope pos) scope X.env _ (newList []) false (eval iter X.env) (some (assign (.Name y py) X.env))) _ _ s
  refine wpAny_bind (wpAny_mono (wpAny_comprehension_free (use := some (assign (.Name y py) X.env)) (Q := fun _ s' => SP X pins D .next s') rfl hs O.clos O.kind O.names ?_) (fun _ s' hq => wpAny_pure (wpAny_pure hq)) fun _ _ e => e)
  refine (thn (hi pins s σ H _ I hw) fun v s1 h1 => thn h1 fun itv s2 h2 => ?_)
  obtain ⟨it, fp, tn, J, H2, e, I2, T, st2, f2, r2⟩ := h2
  subst e
  refine wpAny_newObj_type ?_
  have hl0 : H2 s2.heap.objs.size = none := I2.hok.fresh (Nat.le_refl _)
  obtain ⟨W, ⟨m0, w0⟩, w⟩ := r2 s2.heap.objs.size hl0
  have k3 : ∀ b o, s2.heap.get? b = some o → (s2.heap.push { cls := .type "list", data := .seq ([] : List Value).toArray }).get? b = some o := fun b o e => Heap.get?_push_of_some _ e
  have I3 : Inv X pins σ (upd H2 s2.heap.objs.size (.lst [])) { s2 with heap := s2.heap.push { cls := .type "list", data := .seq ([] : List Value).toArray } } :=
    I2.laid (t' := s2.toks) k3 (Nat.le_refl _) ⟨Nat.zero_le _, [], 0, .nil, Heap.get?_push_size _ rfl⟩
  have fpl : ∀ b ∈ fp, b < s2.heap.objs.size := fun b hb => by
    obtain ⟨o, e, _⟩ := T.obj _ _ st2 b hb
    exact Heap.lt_size e
  have f3 : ∀ b ∈ fp, FpOk X pins (upd H2 s2.heap.objs.size (.lst [])) b := fun b hb => ⟨by rw [upd_ne (Nat.ne_of_lt (fpl b hb))]; exact (f2 b hb).1, (f2 b hb).2⟩
  have sz3 : (s2.heap.push { cls := .type "list", data := .seq ([] : List Value).toArray }).objs.size = s2.heap.objs.size + 1 := Heap.size_push _ _
  refine wpAny_newFunctionEnv O.cell (by intro y hy; simp at hy) (fun h₁ hns₁ hsb₁ => ?_) O.kind
  have k4 : ∀ b o, (s2.heap.push { cls := .type "list", data := .seq ([] : List Value).toArray }).get? b = some o → h₁.get? b = some o := fun b o e =>
    (hsb₁.2 b (Nat.ne_of_lt (Heap.lt_size e))).trans (Heap.get?_push_of_some _ e)
  have Ic := comp_start (Nc := Nc) (js := js) (fp := fp) (t := s2.toks) O I3 (fun b hb => ⟨f3 b hb, by show b < (s2.heap.push _).objs.size; rw [sz3]; exact Nat.lt_succ_of_lt (fpl b hb)⟩) (h₁ := h₁) hns₁ k4
  have st4 : tn 0 h₁ := T.keep _ _ _ st2 fun b hb o e => k4 b o (k3 b o e)
  have fC : FpOk X pins (upd H2 s2.heap.objs.size (.lst [])) (s2.heap.push { cls := .type "list", data := .seq ([] : List Value).toArray }).objs.size := I3.fpOk (Nat.le_refl _) (I3.hok.fresh (Nat.le_refl _))
  have loop : ∀ s4 : Shared, s4 = { s2 with heap := h₁, toks := s2.toks } → codeAny (model X.prog X.w) X.A (.compLoop (.ListComp elt [⟨tg, iter, ifs, 0⟩] scope pos) 0 (.ref it) (.ref s2.heap.objs.size) (compEnvC scope cl (s2.heap.push { cls := .type "list", data := .seq ([] : List Value).toArray }).objs.size X.env))
      (compPost (model X.prog X.w) X.A X.xe (some (assign (.Name y py) X.env)) (fun _ s' => SP X pins D .next s') (.ref s2.heap.objs.size) (s2.heap.push { cls := .type "list", data := .seq ([] : List Value).toArray }).objs.size) s4 := by
    rintro s4 rfl
    refine comp_run (s₀ := { s2 with heap := s2.heap.push { cls := .type "list", data := .seq ([] : List Value).toArray } }) hc hg hti he T w w0 Ic st4 (fun b hb => ?_) fun qs σ' H' s' J' fr' q' => ?_
    · obtain ⟨g1, g2, g3, g4, g5, g6⟩ := f3 b hb
      refine ⟨g1, Nat.ne_of_lt (by show b < (s2.heap.push _).objs.size; rw [sz3]; exact Nat.lt_succ_of_lt (fpl b hb)), fun z => ?_, .inl hb, fun x c e => g5 x c (O.sub x c e), fun p hp => g6 p (by simpa using hp)⟩
      rcases List.mem_cons.mp (I3.stkSub b z) with q | q
      · exact g2 q
      · exact g3 q
    · obtain ⟨mC, hnC, _⟩ := J'.loc
      have I5 : Inv X pins σ H' s' := comp_end I3 f3 J'
      have neC : (s2.heap.push { cls := .type "list", data := .seq ([] : List Value).toArray }).objs.size ≠ X.env.locals := fC.2.1
      show wpAny _ X.A (assign (.Name y py) X.env (.ref s2.heap.objs.size)) _ _ s'
      refine wpAny_assign_Name (store_ok2 I5 hN hiN (.inl hyl) (v := .ref s2.heap.objs.size) rfl (fun s6 I6 ⟨a6, sb6, ha6⟩ => ?_) (.inr hyl))
      have nea : a6 ≠ (s2.heap.push { cls := .type "list", data := .seq ([] : List Value).toArray }).objs.size := by
        rcases ha6 with z | z
        · rw [z]; exact fun z => neC z.symm
        · exact fC.2.2.2.2.1 y a6 z
      refine ⟨mC, hnC.sameBut sb6 nea.symm, fun h' sb => ⟨_, H', ?_, q'⟩⟩
      exact I6.turned (t' := s6.toks) (fun b o hb e => (sb.2 b hb).trans e) J'.free fC.2.1 fC.2.2.2.1 fC.2.2.2.2.1 fC.2.2.2.2.2
  exact codeAny_compStart_list (loop _ rfl) (T.self X.A 0 _ _ _ st4 (loop _ rfl))
end
end L2

set_option Elab.async false
set_option linter.all false
set_option maxRecDepth 100000

namespace L2
open PySem PySem.Spec PySem.Calls PyProof.Rows


mutual
inductive Rep (K : PySem.W.Frag) (H : Hp) : V → PyData → Prop where
  | non : Rep K H .non .none
  | bl (b : Bool) : Rep K H (.bl b) (.bool b)
  | int (i : Int) : Rep K H (.int i) (.int i)
  | str (x : Str) : Rep K H (.str x) (.str x)
  | lst {a : Addr} {xs : List V} {ds : List PyData} (e : SqL K H a xs) (r : Reps K H xs ds) : Rep K H (.ref a) (.list ds)
  | tup {a : Addr} {xs : List V} {ds : List PyData} (e : SqT K H a xs) (r : Reps K H xs ds) : Rep K H (.ref a) (.tuple ds)
inductive Reps (K : PySem.W.Frag) (H : Hp) : List V → List PyData → Prop where
  | nil : Reps K H [] []
  | cons {x : V} {d : PyData} {xs : List V} {ds : List PyData} (h : Rep K H x d) (t : Reps K H xs ds) : Reps K H (x :: xs) (d :: ds)
end

section
variable {X : Cx} {pins : List (Addr × Obj)} {σ : St} {H : Hp} {s : Shared}
mutual
theorem Rep.reads (I : Inv X pins σ H s) : ∀ {x : V} {d : PyData} {v : Value}, Rep X.K H x d → RelV x v → ∃ as, Reads s.heap v d as
  | _, _, _, .non, r => by cases (show _ = Value.none from r); exact ⟨_, .none⟩
  | _, _, _, .bl b, r => by cases (show _ = Value.bool b from r); exact ⟨_, .bool b⟩
  | _, _, _, .int i, r => by obtain ⟨t, rfl⟩ := r; exact ⟨_, .int i t⟩
  | _, _, _, .str x, r => by obtain ⟨t, rfl⟩ := r; exact ⟨_, .str x t⟩
  | _, _, _, @Rep.lst _ _ a xs ds e rs, r => by
    cases (show _ = Value.ref a from r)
    obtain ⟨its, rv, pl, _⟩ := I.list e
    obtain ⟨as, q⟩ := Reps.reads I rs rv
    obtain ⟨o, ho, hc, n, hd⟩ := pl.isList
    exact ⟨_, .list ho hc hd (by simpa using q)⟩
  | _, _, _, @Rep.tup _ _ a xs ds e rs, r => by
    cases (show _ = Value.ref a from r)
    obtain ⟨its, rv, ⟨o, ho, hc, n, hd⟩, _⟩ := I.tuple e
    obtain ⟨as, q⟩ := Reps.reads I rs rv
    exact ⟨_, .tuple ho hc hd (by simpa using q)⟩
theorem Reps.reads (I : Inv X pins σ H s) : ∀ {xs : List V} {ds : List PyData} {us : List Value}, Reps X.K H xs ds → Vals xs us → ∃ as, ReadsAll s.heap us ds as
  | _, _, _, .nil, r => by cases r; exact ⟨_, .nil⟩
  | _, _, _, .cons h t, r => by
    cases r with
    | cons r1 r2 =>
      obtain ⟨as, q1⟩ := Rep.reads I h r1
      obtain ⟨bs, q2⟩ := Reps.reads I t r2
      exact ⟨_, .cons q1 q2⟩
end
end

noncomputable def rEqD (K : PySem.W.Frag) (neg : Bool) : R2 := fun x y H Q => ∃ dx dy, Rep K H x dx ∧ Rep K H y dy ∧ SeqAt.shaped dx = true ∧ SeqAt.shaped dy = true ∧ Q (.bl (if neg then !PyData.eqv dx dy else PyData.eqv dx dy)) H
section
variable {X : Cx}
theorem op_eqD (hu : X.A.units + 64 < cLine) : OpR X (compareOp .Eq) (rEqD X.K false) := by
  intro pins s σ H x y v u Q I rx ry h
  obtain ⟨dx, dy, h1, h2, s1, s2, q⟩ := h
  obtain ⟨as, r1⟩ := h1.reads I rx
  obtain ⟨bs, r2⟩ := h2.reads I ry
  exact SeqAt.compareEq_shaped r1 r2 s1 s2 hu ⟨.bl _, H, I, rfl, q⟩
theorem op_neD (hu : X.A.units + 64 < cLine) : OpR X (compareOp .NotEq) (rEqD X.K true) := by
  intro pins s σ H x y v u Q I rx ry h
  obtain ⟨dx, dy, h1, h2, s1, s2, q⟩ := h
  obtain ⟨as, r1⟩ := h1.reads I rx
  obtain ⟨bs, r2⟩ := h2.reads I ry
  exact SeqAt.compareNe_shaped r1 r2 s1 s2 hu ⟨.bl _, H, I, rfl, q⟩
end
mutual
theorem eqv_refl : ∀ d : PyData, d.canLay0 = true → PyData.eqv d d = true
  | .none, _ => by simp [PyData.eqv]
  | .bool b, _ => by simp [PyData.eqv]
  | .int i, _ => by simp [PyData.eqv]
  | .str x, _ => by simp [PyData.eqv]
  | .list xs, h => by rw [PyData.eqv]; exact eqvAll_refl xs (by simpa only [PyData.canLay0] using h)
  | .tuple xs, h => by rw [PyData.eqv]; exact eqvAll_refl xs (by simpa only [PyData.canLay0] using h)
  | .dict _, h => by simp [PyData.canLay0] at h
theorem eqvAll_refl : ∀ ds : List PyData, PyData.canLayAll0 ds = true → PyData.eqvAll ds ds = true
  | [], _ => by simp [PyData.eqvAll]
  | d :: ds, h => by
    have h : d.canLay0 = true ∧ PyData.canLayAll0 ds = true := by simpa only [PyData.canLayAll0, Bool.and_eq_true] using h
    rw [PyData.eqvAll, eqv_refl d h.1, eqvAll_refl ds h.2]
    rfl
end


end L2

set_option Elab.async false
set_option linter.all false
set_option maxRecDepth 100000

namespace L2
open PySem PySem.Spec PySem.Calls PyProof.Rows


noncomputable def Itw (n : Nat) (f : Nat → V) : It := ⟨fun i _ => i < n, fun i H x H' => H' = H ∧ x = f i, fun i _ => i = n⟩
theorem turn_walks {P : Program} {w : World} {K : PySem.W.Frag} {tg : Expr} {it : Addr} {n : Nat} {f : Nat → V} {Pv : Nat → Value → Prop} {tn : Nat → Heap → Prop}
    (W : ∀ A : Around, A.handled = none → Walks P w A it [it] [it] n Pv tn) (hv : ∀ i v, i < n → Pv i v → RelV (f i) v)
    (ho : ∀ i h, tn i h → ∃ o nm vs, h.get? it = some o ∧ o.cls = .type nm ∧ o.data = .fields vs ∧ ["enumerate", "zip", "dict_itemiterator", "dict_reverseitemiterator", "odict_iterator", "itertools.zip_longest", "itertools.pairwise"].contains nm = false)
    (self : ∀ (A : Around) (i : Nat) (s : Shared) (Q : Value → Shared → Prop) (E : Value → Shared → Prop), tn i s.heap → Q (.ref it) s → wpAny (model P w) A (pyIter (.ref it)) Q E s) :
    Turn P w K tg (Itw n f) [it] it tn where
  mem := by simp
  obj := fun i h st b hb => by
    have e : b = it := by simpa using hb
    subst e
    obtain ⟨o, nm, vs, e, _, d, _⟩ := ho i h st
    exact ⟨o, e, fun v z => by rw [d] at z; cases z⟩
  keep := fun i h h' st k => (W { depth := 0, handled := none } rfl).frame i h h' st k
  item := by
    intro X hP hw hK hc i pins s σ H E I hf st hg
    subst hP hw hK
    obtain ⟨f0, f1, f2, f3, f4, f5⟩ := hf it (by simp)
    refine (W X.A (I.ok.hd hc)).item i s _ _ hg st fun v h' tk hpv st' kk => ?_
    have I1 : Inv X pins σ H { s with heap := h', toks := tk } := I.turned (fun b o hb e => kk b o (by simpa using hb) e) f0 f1 f3 f4 f5
    obtain ⟨o, nm, vs, e, c, d, nn⟩ := ho _ _ st'
    exact ⟨v, rfl, go_of (s := { s with heap := h', toks := tk }) e c d nn ⟨f i, H, I1, hv i v hg hpv, ⟨rfl, rfl⟩, st', fun b hb => (hf b hb).1⟩⟩
  done := by
    intro X hP hw hK hc i pins s σ H E I hf st hg
    subst hP hw hK
    obtain ⟨f0, f1, f2, f3, f4, f5⟩ := hf it (by simp)
    have hg : i = n := hg
    subst hg
    exact (W X.A (I.ok.hd hc)).done s _ _ st fun h' tk kk => ⟨rfl, I.turned (fun b o hb e => kk b o (by simpa using hb) e) f0 f1 f3 f4 f5⟩
  self := self
section
variable {X : Cx} {tg : Expr}

noncomputable def signV (x : Str) (i : Nat) : V := .str ⟨#[x.cps.getD i 0]⟩
noncomputable def iStr (tl : TE) : TI := fun σ H R => tl σ H fun v H1 => ∃ x, v = .str x ∧ R (Itw x.cps.size (signV x)) H1
theorem sign_rel {x : Str} {i : Nat} {v : Value} (hi : i < x.cps.size) (h : SignAt x i v) : RelV (signV x i) v := by
  obtain ⟨c, u, e, rfl⟩ := h
  refine ⟨u, ?_⟩
  have e2 : x.cps.getD i 0 = c := by simp [e]
  rw [e2]
theorem pi_str {l : Expr} {tl : TE} (hl : PE X l tl) : PI X tg l (iStr tl) := by
  intro pins s σ H R I h
  refine thn (hl pins s σ H _ I h) fun v s1 zz9 => ?_
  obtain ⟨y, H1, I1, r1, x, e1, q1⟩ := zz9
  subst e1
  obtain ⟨t, rfl⟩ := r1
  cases ha : x.cps.all (· < 128)
  · refine wpAny_pyIter_wide ha ?_
    exact ⟨s1.heap.objs.size, [s1.heap.objs.size], _, _, H1, rfl, I1.kept (t' := s1.toks) fun b o e => Heap.get?_push_of_some _ e, turn_walks (fun A hA => Walks.strWide hA _ x t) (fun i v hi hp => sign_rel hi hp)
      (fun i h ⟨o, e, c, d⟩ => ⟨o, _, _, e, c, d, by decide⟩) (fun _ _ _ _ _ st q => wpAny_pyIter_striter_wide st q), ⟨_, Heap.get?_push_size _ rfl, rfl, rfl⟩,
      fun b hb => by
        have e : b = s1.heap.objs.size := by simpa using hb
        subst e
        exact I1.fpOk (Nat.le_refl _) (I1.hok.fresh (Nat.le_refl _)), q1⟩
  · refine wpAny_pyIter_ascii ha ?_
    exact ⟨s1.heap.objs.size, [s1.heap.objs.size], _, _, H1, rfl, I1.kept (t' := s1.toks) fun b o e => Heap.get?_push_of_some _ e, turn_walks (fun A hA => Walks.strAscii hA _ x t) (fun i v hi hp => sign_rel hi hp)
      (fun i h ⟨o, e, c, d⟩ => ⟨o, _, _, e, c, d, by decide⟩) (fun _ _ _ _ _ st q => wpAny_pyIter_striter_ascii st q), ⟨_, Heap.get?_push_size _ rfl, rfl, rfl⟩,
      fun b hb => by
        have e : b = s1.heap.objs.size := by simpa using hb
        subst e
        exact I1.fpOk (Nat.le_refl _) (I1.hok.fresh (Nat.le_refl _)), q1⟩


noncomputable def rSlS : V → Option Int → Option Int → Hp → VK → Prop := fun x lo hi H Q => ∃ z, x = .str z ∧ z.length ≤ sizeLine ∧ Q (.str (Txt.slice z lo hi)) H
theorem sl_str : SlR X rSlS := by
  intro pins s σ H x v vl vu lo hi sl Q I rx hs pl pu h
  obtain ⟨z, rfl, hz, q⟩ := h
  obtain ⟨t, rfl⟩ := rx
  have fin : ∀ t' k, EP X pins σ Q (.str (Txt.slice z lo hi) t') { s with toks := k } := fun t' k => ⟨.str _, H, I.tok _, ⟨t', rfl⟩, q⟩
  have hle : (Txt.slice z lo hi).length ≤ sizeLine := Nat.le_trans (Txt.slice_le z _ _) hz
  refine ⟨"str", _, F.slot_str_getitem.lookup, typeIs_str _ _ _, ?_⟩
  cases pl with
  | none =>
    cases pu with
    | none => exact wpAny_getItem_str_slice (l := none) (u := none) (st := none) hs rfl (post_val_or_str ⟨hle, fun t' k => fin t' k⟩)
    | int j uj => exact wpAny_getItem_str_slice (l := none) (u := some (j, uj)) (st := none) hs rfl (post_val_or_str ⟨hle, fun t' k => fin t' k⟩)
  | int i ui =>
    cases pu with
    | none => exact wpAny_getItem_str_slice (l := some (i, ui)) (u := none) (st := none) hs rfl (post_val_or_str ⟨hle, fun t' k => fin t' k⟩)
    | int j uj => exact wpAny_getItem_str_slice (l := some (i, ui)) (u := some (j, uj)) (st := none) hs rfl (post_val_or_str ⟨hle, fun t' k => fin t' k⟩)


noncomputable def gLst (K : PySem.W.Frag) (n : Nat) (t : TGs) : TG := fun v σ H Q => ∃ a xs, v = .ref a ∧ SqL K H a xs ∧ xs.length = n ∧ t xs σ H Q
theorem pg_lst {es : List Expr} {k : Nat} {t : TGs} {n : Nat} {pos : Pos} (hc : X.calm = true) (h : PGs X es t)
    (hn : (assignEach es X.env).length = n := by rfl) (hst : (assignEach es X.env).findIdx? (·.1) = none := by rfl) : PG X (.Tuple es k pos) (gLst X.K n t) := by
  intro pins s σ H v u Q I r hw
  obtain ⟨a, xs, e1, hq, hl, hw⟩ := hw
  subst e1
  cases r
  obtain ⟨its, rv, pl, hz⟩ := I.list hq
  rw [assign_Tuple]
  refine wpAny_bind (wpAny_standAt ?_)
  unfold unpack
  have hsz : (assignEach es X.env).length = its.toArray.size := by simp [hn, ← hl, rv.length]
  rw [hsz, hst]
  refine wpAny_bind (wpAny_holding (PySem.W.kun_itemsOf (I.ok.hd hc) pl.isList fun h' hx => ?_))
  have I1 : Inv X pins σ H { s with heap := h' } := I.kept (t' := s.toks) fun b o e => hx b o (Nat.ne_of_lt (Heap.lt_size e)) e
  exact h pins _ σ H xs _ Q I1 (by simpa using rv) hw


end
end L2

set_option Elab.async false
set_option linter.all false
set_option maxRecDepth 100000

namespace L2
open PySem PySem.W PySem.Spec PySem.Calls PyProof.Rows

structure ExLook (K : Frag) (D : Addr) : Prop where
  cl : (clsIn K D).isSome = true
  ga : findIn K (.ref D) "__getattribute__" = some (some (.builtin "BaseException.__getattribute__"))
  gn : findIn K (.ref D) "__getattr__" = some none
  ha : findIn K (.ref D) "__class__" = some (some (.builtin "object.__class__"))
  hn : specialIn K (.builtin "object.__class__") "__get__" = some (some (.builtin "getset_descriptor.__get__"))
  tk : takesIn K (.builtin "object.__class__") = some true
  hm : mroIn K D (.type "object") = some true
  hb : mroIn K D (.type "BaseException") = some true

section
variable {prog : Program} {w : World} {A : Around} {E : Value → Shared → Prop} {s : Shared} {K : Frag} {x D : Addr} {ox : Obj}
end
noncomputable def clsV : V → Option Value
  | .ref a => some (.ref a)
  | .ty n => some (.type n)
  | _ => none
theorem clsV_rel {y : V} {cv u : Value} (e : clsV y = some cv) (r : RelV y u) : u = cv := by
  cases y <;> first | (cases e; done) | (cases e; exact r)
theorem call_isinstC {X : Cx} : CallR X (.builtin "isinstance") (fun xs H Q => ∃ x y t cv b, xs = [x, y] ∧ TyOf X.K H x t ∧ clsV y = some cv ∧ kitOne X.K t cv = some b ∧ Q (.bl b) H) := by
  intro pins s σ H xs us Q I r h
  obtain ⟨x, y, t, cv, b, rfl, ty, hy, e, q⟩ := h
  obtain ⟨u, u', rfl, rx, ru⟩ := vals2 r
  cases clsV_rel hy ru
  exact isinst_ok I rx ty e fun tk => ⟨.bl b, H, I.tok tk, rfl, q⟩
end L2

set_option Elab.async false
set_option linter.all false
set_option maxRecDepth 100000

namespace L2
open PySem PySem.Spec PySem.Calls PyProof.Rows



section
variable {X : Cx} {tg l : Expr} {body : List Stmt} {tl : TE} {g : TG} {tb : TS} {pos : Pos} {a : Addr}
end


structure RoomH (k : Nat) (A : Around) : Prop where
  dp : A.depth + 3 * k + 5 < recursionLimit
  un : A.units + 16 * k + 200 < cLine
theorem Room.hand {k : Nat} {A : Around} (r : Room k A) (a : Addr) : RoomH k (A.mark (some (.ref a))) := ⟨r.dp, r.un⟩
theorem RoomH.deeper {k : Nat} {A : Around} (r : RoomH (k + 1) A) (env : Env) : RoomH k (A.deeper env) :=
  ⟨by have := r.dp; show A.depth + 1 + 3 * k + 5 < _; omega, by have := r.un; show A.units + 3 + 16 * k + 200 < _; omega⟩

structure FnOkH (P : Program) (w : World) (K : PySem.W.Frag) (mg : Str → Option Value) (base : Heap) (k : Nat) (f : Addr) (fd : FuncData) (ps : List Str) (sp : Addr → Sp) : Prop where
  len : ∀ a vs H Q E, sp a vs H Q E → vs.length = ps.length
  run : ∀ (A : Around) (a : Addr) (outer : List Env) (s : Shared) (H : Hp) (args : Args) (us : List Value) (vs : List V) (Q : VK) (E : XK), RoomH k A → A.handled = some (.ref a) → Env0 P w K mg base A outer s H → BindsTo s fd args (ps.zip us) → Vals vs us → sp a vs H Q E →
    codeAny (model P w) A (.call (.ref f) args) (CR CX0 outer P w H s Q E) s
structure HasH (P : Program) (w : World) (K : PySem.W.Frag) (mg : Str → Option Value) (base : Heap) (k : Nat) (x : Str) (ps : List Str) (sp : Addr → Sp) : Prop where
  ex : ∃ f fd, FnOkH P w K mg base k f fd ps sp ∧ mg x = some (.ref f) ∧ PySem.W.keepIn K (.ref f) = true ∧ Binds K fd ps []
section
variable {X : Cx} {k : Nat} {ps : List Str} {sp : Addr → Sp} {x : Str} {p pos : Pos} {e : Expr} {es : List Expr} {t : TA} {a : Addr}
end
end L2

set_option Elab.async false
set_option linter.all false
set_option maxRecDepth 100000

namespace L2
open PySem PySem.Spec PySem.Calls PyProof.Rows

section
variable {X : Cx} {pins : List (Addr × Obj)} {σ : St} {H : Hp} {s : Shared}
theorem Inv.adopt {b : Addr} {o : HO} (I : Inv X pins σ H s) (f : FpOk X pins H b) (hs : X.s₀.heap.objs.size ≤ b) (ok : ObjOk X.prog X.w (upd H b o) s.heap b o) : Inv X pins σ (upd H b o) s := by
  obtain ⟨hn, hL, hfs, _, hc, hp⟩ := f
  have ne : ∀ c u, H c = some u → c ≠ b := fun c u q z => by subst z; rw [hn] at q; cases q
  refine ⟨I.ok, I.os, I.bare, ⟨I.base.keep, I.base.slot, fun c oc e n hx => ?_, I.base.there, fun c xs e => ?_, fun c oc u e => ?_, fun c ps e => ?_⟩, I.loc, I.cell, ?_, fun x c e => ?_, fun p hp' => ?_, fun c u q => ?_, I.len⟩
  · rw [upd_ne (show c ≠ b from fun z => absurd (Nat.lt_of_lt_of_le (Heap.lt_size e) (by rw [z]; exact hs)) (Nat.lt_irrefl _))]
    exact I.base.free c oc e n hx
  · have e' := I.base.tups c xs e
    rw [upd_ne (ne c _ e')]; exact e'
  · have e' := I.base.frzs c oc u e
    rw [upd_ne (ne c _ e')]; exact e'
  · obtain ⟨m1, e'⟩ := I.base.tbls c ps e
    exact ⟨m1, by rw [upd_ne (ne c _ e')]; exact e'⟩
  · rw [upd_ne (Ne.symm hL)]; exact I.free
  · rw [upd_ne (hc x c e)]; exact I.freeC x c e
  · obtain ⟨e, n, n1, n2, d⟩ := I.pin p hp'
    exact ⟨e, by rw [upd_ne (hp p hp')]; exact n, n1, n2, d⟩
  · by_cases hb : c = b
    · subst hb
      rw [upd_same] at q
      cases q
      exact ok
    · rw [upd_ne hb] at q
      exact (I.hok c u q).stay (fun _ _ _ r => r) (fun c' r => by rw [upd_ne (ne c' _ r)]; exact r) fun c' xs r => by rw [upd_ne (ne c' _ r)]; exact r


noncomputable def viewφ (T : String) (p a : Addr) : Heap → Prop := fun h => h.get? p = some { cls := .type T, data := .fields #[.ref a] }
noncomputable def rView (T : String) : V → List V → Hp → VK → Prop := fun x vs H Q => ∃ a kvs, x = .ref a ∧ vs = [] ∧ Rd H a (.dK kvs) ∧ ∀ p, H p = none → Q (.ref p) (upd H p (.ext (viewφ T p a)))
theorem view_ok {T : String} {a : Addr} {Q : VK} (I : Inv X pins σ H s) (h : ∀ p, H p = none → Q (.ref p) (upd H p (.ext (viewφ T p a)))) :
    EP X pins σ Q (.ref s.heap.objs.size) { s with heap := s.heap.push { cls := .type T, data := .fields #[.ref a] } } := by
  refine ⟨.ref s.heap.objs.size, _, I.laid (t' := s.toks) (fun b ob q => Heap.get?_push_of_some _ q) (Nat.le_refl _) ?_, rfl, h _ (I.hok.fresh (Nat.le_refl _))⟩
  exact ⟨Heap.get?_push_size _ rfl, ⟨_, Heap.get?_push_size _ rfl⟩, fun h1 h2 e k => k _ e⟩
theorem mt_values : MtR X "dict.values" (rView "dict_values") := by
  intro pins s σ H x vs v us Q I rx rv h
  obtain ⟨a, kvs, rfl, rfl, hd, q⟩ := h
  cases rx; cases rv
  obtain ⟨_, lo, ws, _, hD⟩ := dk_rd I.hok hd
  exact call_meetsIn PySem.F.slot_dict_values hD.typeIs PySem.F.entry_dict_values (PySem.F.args_dict_values_1 _) (meets_dict_values (mixKind X.prog X.w) a lo) ⟨⟨ws, hD⟩, view_ok I q⟩
theorem mt_items : MtR X "dict.items" (rView "dict_items") := by
  intro pins s σ H x vs v us Q I rx rv h
  obtain ⟨a, kvs, rfl, rfl, hd, q⟩ := h
  cases rx; cases rv
  obtain ⟨_, lo, ws, _, hD⟩ := dk_rd I.hok hd
  exact call_meetsIn PySem.F.slot_dict_items hD.typeIs PySem.F.entry_dict_items (PySem.F.args_dict_items_1 _) (meets_dict_items (mixKind X.prog X.w) a lo) ⟨⟨ws, hD⟩, view_ok I q⟩
theorem vals_snd {kvs : List (Key × V)} {ws : List (Key × Value)} (r : KV kvs ws) : Vals (kvs.map (·.2)) (ws.map (·.2)) := by
  induction r with
  | nil => exact .nil
  | cons h _ ih => exact .cons h.2 ih
theorem KV.at {kvs : List (Key × V)} {ws : List (Key × Value)} (r : KV kvs ws) {j : Nat} {k : Key} {u : Value} (h : ws[j]? = some (k, u)) : ∃ v, kvs[j]? = some (k, v) ∧ RelV v u := by
  induction r generalizing j with
  | nil => simp at h
  | cons h1 _ ih =>
    cases j with
    | zero =>
      simp only [List.getElem?_cons_zero, Option.some.injEq] at h
      rename_i p q _ _ _
      subst h
      refine ⟨p.2, ?_, h1.2⟩
      simp only [List.getElem?_cons_zero, Option.some.injEq]
      exact Prod.ext h1.1 rfl
    | succ j => exact ih (by simpa using h)
theorem call_list_values (hc : X.calm = true) : CallR X (.type "list") (fun xs H Q => ∃ p a kvs, xs = [.ref p] ∧ H p = some (.ext (viewφ "dict_values" p a)) ∧ Rd H a (.dK kvs) ∧ ∀ l, H l = none → Q (.ref l) (upd H l (.lst (kvs.map (·.2))))) := by
  intro pins s σ H xs us Q I r h
  obtain ⟨p, a, kvs, rfl, hp, hd, q⟩ := h
  obtain ⟨u, rfl, ru⟩ := r.one
  cases ru
  obtain ⟨hz, lo, ws, rel, hD⟩ := dk_rd I.hok hd
  obtain ⟨ep, hat⟩ := hD.dictAt
  have hv : s.heap.get? p = some { cls := .type "dict_values", data := .fields #[.ref a] } := (I.hok p _ hp).1
  refine PySem.W.kdl_call (PySem.W.kdl_values (knd := mixKind X.prog X.w) (kvs := ws) (ep := ep)) (I.ok.hd hc) ⟨⟨_, hv, rfl, rfl⟩, hat⟩ (by rw [← rel.length]; exact hz) fun h' tk acc c hk hl hi => ?_
  have e : acc.toList = ws.map (·.2) := PySem.W.kdl_vals_eq acc.toList (by rw [Array.length_toList]; exact hi.1) fun j v e => hi.2 j v (by rw [← Array.getElem?_toList]; exact e)
  refine ⟨.ref s.heap.objs.size, _, I.laid (t' := tk) (o := .lst (kvs.map (·.2))) hk (Nat.le_refl _) ⟨by rw [List.length_map]; exact hz, ws.map (·.2), c, vals_snd rel, ?_⟩, rfl, q _ (I.hok.fresh (Nat.le_refl _))⟩
  rw [hl, ← e]
noncomputable def Prs (H : Hp) : List Addr → List (Key × V) → Prop := Paired fun a kv => H a = some (.tup [kV kv.1, kv.2])
theorem pairs_in {kvs : List (Key × V)} {ws : List (Key × Value)} {lo : Addr} (rel : KV kvs ws) (hs : X.s₀.heap.objs.size ≤ lo) :
    ∀ {as : List Addr} {j : Nat} {H : Hp}, Inv X pins σ H s → (∀ a ∈ as, lo < a ∧ FpOk X pins H a) → as.Pairwise (· < ·) → as.length + j = ws.length →
      (∀ (i : Nat) (a : Addr), as[i]? = some a → ∃ key k x, ws[j + i]? = some (k, x) ∧ (mixKind X.prog X.w).is k key = true ∧ s.heap.get? a = some { cls := .type "tuple", data := .seq #[key, x] }) →
      ∃ H', Inv X pins σ H' s ∧ (∀ b, (∀ a ∈ as, b ≠ a) → H' b = H b) ∧ Prs H' as (kvs.drop j)
  | [], j, H, I, _, _, hl, _ => ⟨H, I, fun _ _ => rfl, by
      rw [List.drop_of_length_le (by rw [rel.length]; simp at hl; omega)]
      exact .nil⟩
  | a :: as, j, H, I, hf, hp, hl, hv => by
    obtain ⟨key, k, x, e1, hk, e2⟩ := hv 0 a rfl
    obtain ⟨v, e3, rv⟩ := rel.at e1
    have rk : RelV (kV k) key := by
      rcases keyIs_shape hk with ⟨i, t, rfl, rfl⟩ | ⟨x, t, rfl, rfl⟩
      · exact ⟨t, rfl⟩
      · exact ⟨t, rfl⟩
    obtain ⟨hlo, fa⟩ := hf a List.mem_cons_self
    have hpa := List.pairwise_cons.mp hp
    have I1 : Inv X pins σ (upd H a (.tup [kV k, v])) s := I.adopt fa (Nat.le_trans hs (Nat.le_of_lt hlo)) ⟨by show 2 ≤ sizeLine; decide, [key, x], .cons rk (.cons rv .nil), _, e2, rfl, _, rfl⟩
    have hne : ∀ b ∈ as, b ≠ a := fun b hb z => absurd (hpa.1 b hb) (by rw [z]; exact Nat.lt_irrefl _)
    obtain ⟨H', I', k1, k2⟩ := pairs_in rel hs (as := as) (j := j + 1) I1 (fun b hb => ⟨(hf b (List.mem_cons_of_mem _ hb)).1, by
      have f := (hf b (List.mem_cons_of_mem _ hb)).2
      exact ⟨by rw [upd_ne (hne b hb)]; exact f.1, f.2⟩⟩) hpa.2 (by simp at hl ⊢; omega) (fun i b hb => by
      obtain ⟨key', k', x', g1, g2, g3⟩ := hv (i + 1) b (by simpa using hb)
      exact ⟨key', k', x', by rw [← g1]; congr 1; omega, g2, g3⟩)
    refine ⟨H', I', fun b hb => ?_, ?_⟩
    · rw [k1 b fun c hc => hb c (List.mem_cons_of_mem _ hc), upd_ne (hb a List.mem_cons_self)]
    · have e3' : kvs[j]? = some (k, v) := by simpa using e3
      have hlt : j < kvs.length := (List.getElem?_eq_some_iff.mp e3').1
      have hd : kvs.drop j = (k, v) :: kvs.drop (j + 1) := by
        rw [List.drop_eq_getElem_cons hlt]
        congr 1
        exact (List.getElem?_eq_some_iff.mp e3').2
      rw [hd]
      refine .cons ?_ k2
      rw [k1 a fun b hb z => hne b hb z.symm, upd_same]
theorem call_list_items (hc : X.calm = true) : CallR X (.type "list") (fun xs H Q => ∃ p a kvs, xs = [.ref p] ∧ H p = some (.ext (viewφ "dict_items" p a)) ∧ Rd H a (.dK kvs) ∧
    ∀ l as H1, H l = none → (∀ a ∈ as, H a = none ∧ a ≠ l) → (∀ b, (∀ a ∈ as, b ≠ a) → H1 b = upd H l (.lst (as.map V.ref)) b) → Prs H1 as kvs → Q (.ref l) H1) := by
  intro pins s σ H xs us Q I r h
  obtain ⟨p, a, kvs, rfl, hp, hd, q⟩ := h
  obtain ⟨u, rfl, ru⟩ := r.one
  cases ru
  obtain ⟨hz, lo, ws, rel, hD⟩ := dk_rd I.hok hd
  obtain ⟨ep, hat⟩ := hD.dictAt
  have hv : s.heap.get? p = some { cls := .type "dict_items", data := .fields #[.ref a] } := (I.hok p _ hp).1
  refine PySem.W.kdx_call (knd := mixKind X.prog X.w) (kvs := ws) (ep := ep) (I.ok.hd hc) ⟨_, hv, rfl, rfl⟩ hat (by rw [← rel.length]; exact hz) fun h' tk acc c as hk hl hlen hG hacc => ?_
  have hl0 := I.hok.fresh (Nat.le_refl s.heap.objs.size)
  have vr : Vals (as.map V.ref) (as.map Value.ref) := by
    clear hlen hG hacc
    induction as with
    | nil => exact .nil
    | cons _ _ ih => exact .cons rfl ih
  have I1 : Inv X pins σ (upd H s.heap.objs.size (.lst (as.map V.ref))) { s with heap := h', toks := tk } := I.laid hk (Nat.le_refl _) ⟨by rw [List.length_map, hlen, ← rel.length]; exact hz, as.map Value.ref, c, vr, by rw [hl, ← hacc]⟩
  have fa : ∀ b ∈ as, s.heap.objs.size < b ∧ FpOk X pins (upd H s.heap.objs.size (.lst (as.map V.ref))) b := fun b hb => by
    have hlt := hG.above b hb
    refine ⟨hlt, I.fpOk (Nat.le_of_lt hlt) ?_⟩
    rw [upd_ne (Nat.ne_of_gt hlt)]
    exact I.hok.fresh (Nat.le_of_lt hlt)
  obtain ⟨H', I', k1, k2⟩ := pairs_in (j := 0) rel I.sz I1 fa hG.rise (by omega) (fun i b hb => by
    obtain ⟨key, k, x, g1, g2, g3⟩ := hG.pairs i b hb
    exact ⟨key, k, x, by simpa using g1, g2, g3⟩)
  exact ⟨.ref s.heap.objs.size, H', I', rfl, q _ as H' hl0 (fun b hb => ⟨I.hok.fresh (Nat.le_of_lt (fa b hb).1), Nat.ne_of_gt (fa b hb).1⟩) k1 (by simpa using k2)⟩
end
end L2

set_option Elab.async false
set_option linter.all false
set_option maxRecDepth 100000

namespace L2
open PySem PySem.Spec PySem.Calls PyProof.Rows



inductive D where
  | non | bl (b : Bool) | int (i : Int) | str (x : Str) | lst (ds : List D) | tup (ds : List D) | scr (ds : List D) | ctp (ds : List D) | obj (p : Addr)
mutual
inductive RD (K : PySem.W.Frag) (F : Hp) : V → D → Prop where
  | non : RD K F .non .non
  | bl (b : Bool) : RD K F (.bl b) (.bl b)
  | int (i : Int) : RD K F (.int i) (.int i)
  | str (x : Str) : RD K F (.str x) (.str x)
  | lst {a : Addr} {xs : List V} {ds : List D} (e : F a = some (.lst xs)) (r : RDs K F xs ds) : RD K F (.ref a) (.lst ds)
  | scr {a : Addr} {xs : List V} {ds : List D} (e : SqL K F a xs) (r : RDs K F xs ds) : RD K F (.ref a) (.scr ds)
  | tup {a : Addr} {xs : List V} {ds : List D} (e : F a = some (.tup xs)) (r : RDs K F xs ds) : RD K F (.ref a) (.tup ds)
  | ctp {a : Addr} {xs : List V} {ds : List D} (e : SqT K F a xs) (r : RDs K F xs ds) : RD K F (.ref a) (.ctp ds)
  | obj (p : Addr) : RD K F (.ref p) (.obj p)
inductive RDs (K : PySem.W.Frag) (F : Hp) : List V → List D → Prop where
  | nil : RDs K F [] []
  | cons {x : V} {d : D} {xs : List V} {ds : List D} (h : RD K F x d) (t : RDs K F xs ds) : RDs K F (x :: xs) (d :: ds)
end
theorem Same.seqT {K : PySem.W.Frag} {H H' : Hp} {a : Addr} {xs : List V} (e : Same H H') (h : SqT K H a xs) : SqT K H' a xs := by
  rcases h with (h | ⟨o, h⟩) | h
  · exact .inl (.inl (e _ _ h))
  · exact .inl (.inr ⟨o, e _ _ h⟩)
  · exact .inr h
mutual
theorem RD.up {K : PySem.W.Frag} {F F' : Hp} (e : Same F F') : ∀ {x : V} {d : D}, RD K F x d → RD K F' x d
  | _, _, .non => .non
  | _, _, .bl b => .bl b
  | _, _, .int i => .int i
  | _, _, .str x => .str x
  | _, _, .lst q rs => .lst (e _ _ q) (RDs.up e rs)
  | _, _, .scr q rs => .scr (e.seq q) (RDs.up e rs)
  | _, _, .tup q rs => .tup (e _ _ q) (RDs.up e rs)
  | _, _, .ctp q rs => .ctp (e.seqT q) (RDs.up e rs)
  | _, _, .obj p => .obj p
theorem RDs.up {K : PySem.W.Frag} {F F' : Hp} (e : Same F F') : ∀ {xs : List V} {ds : List D}, RDs K F xs ds → RDs K F' xs ds
  | _, _, .nil => .nil
  | _, _, .cons h t => .cons (RD.up e h) (RDs.up e t)
end
section
variable {K : PySem.W.Frag} {F : Hp}
theorem RDs.length : ∀ {xs : List V} {ds : List D}, RDs K F xs ds → xs.length = ds.length
  | _, _, .nil => rfl
  | _, _, .cons _ t => by simp [RDs.length t]
theorem RDs.get : ∀ {xs : List V} {ds : List D} {i : Nat} {d : D}, RDs K F xs ds → ds[i]? = some d → ∃ x, xs[i]? = some x ∧ RD K F x d
  | _, _, _, _, .nil, e => by simp at e
  | _, _, 0, _, .cons h _, e => by simp at e; subst e; exact ⟨_, rfl, h⟩
  | _, _, i + 1, d, .cons _ t, e => by
    obtain ⟨x, h1, h2⟩ := RDs.get (i := i) (d := d) t (by simpa using e)
    exact ⟨x, by simpa using h1, h2⟩
theorem RDs.append : ∀ {xs ys : List V} {ds es : List D}, RDs K F xs ds → RDs K F ys es → RDs K F (xs ++ ys) (ds ++ es)
  | _, _, _, _, .nil, s => s
  | _, _, _, _, .cons h t, s => .cons h (RDs.append t s)
theorem RDs.take : ∀ {xs : List V} {ds : List D} (n : Nat), RDs K F xs ds → RDs K F (xs.take n) (ds.take n)
  | _, _, 0, _ => .nil
  | _, _, _ + 1, .nil => .nil
  | _, _, n + 1, .cons r t => .cons r (RDs.take n t)
theorem RDs.drop : ∀ {xs : List V} {ds : List D} (n : Nat), RDs K F xs ds → RDs K F (xs.drop n) (ds.drop n)
  | _, _, 0, r => r
  | _, _, _ + 1, .nil => .nil
  | _, _, n + 1, .cons _ t => RDs.drop n t
theorem RDs.reverse : ∀ {xs : List V} {ds : List D}, RDs K F xs ds → RDs K F xs.reverse ds.reverse
  | _, _, .nil => .nil
  | _, _, .cons r t => by
    rw [List.reverse_cons, List.reverse_cons]
    exact (RDs.reverse t).append (.cons r .nil)
theorem RDs.one' {xs : List V} {d : D} (r : RDs K F xs [d]) : ∃ x, xs = [x] ∧ RD K F x d := by
  cases r with | cons h t => cases t; exact ⟨_, rfl, h⟩
theorem RDs.two' {xs : List V} {d e : D} (r : RDs K F xs [d, e]) : ∃ x y, xs = [x, y] ∧ RD K F x d ∧ RD K F y e := by
  cases r with | cons h t => obtain ⟨y, rfl, hy⟩ := t.one'; exact ⟨_, _, rfl, h, hy⟩
end


inductive MO where
  | lst (ds : List D) | dic (kvs : List (Key × D)) | ins (C : Addr) (fs : List (Str × D)) | exc (cls : Value) | raw (u : HO)
noncomputable abbrev Mem := Addr → Option MO
noncomputable def put (M : Mem) (p : Addr) (o : MO) : Mem := fun b => if b = p then some o else M b
noncomputable def del (M : Mem) (p : Addr) : Mem := fun b => if b = p then none else M b
theorem put_same {M : Mem} {p : Addr} {o : MO} : put M p o p = some o := by unfold put; rw [if_pos rfl]
theorem put_ne {M : Mem} {p q : Addr} {o : MO} (h : q ≠ p) : put M p o q = M q := by unfold put; rw [if_neg h]
theorem put_put {M : Mem} {p : Addr} {o u : MO} : put (put M p o) p u = put M p u := by funext b; unfold put; split <;> rfl
theorem del_same {M : Mem} {p : Addr} : del M p p = none := by unfold del; rw [if_pos rfl]
theorem del_ne {M : Mem} {p q : Addr} (h : q ≠ p) : del M p q = M q := by unfold del; rw [if_neg h]
theorem del_put {M : Mem} {p : Addr} {o : MO} (h : M p = none) : del (put M p o) p = M := by
  funext b; unfold del put
  by_cases hb : b = p
  · rw [if_pos hb, hb, h]
  · rw [if_neg hb, if_neg hb]
theorem put_comm {M : Mem} {p q : Addr} {o u : MO} (h : p ≠ q) : put (put M p o) q u = put (put M q u) p o := by
  funext b; unfold put
  by_cases h1 : b = p
  · subst h1; rw [if_neg h, if_pos rfl, if_pos rfl]
  · by_cases h2 : b = q
    · rw [if_pos h2, if_neg h1, if_pos h2]
    · rw [if_neg h2, if_neg h1, if_neg h1, if_neg h2]
noncomputable def Sub (M M' : Mem) : Prop := ∀ p o, M p = some o → M' p = some o
theorem Sub.refl (M : Mem) : Sub M M := fun _ _ h => h
theorem Sub.put {M : Mem} {p : Addr} {o : MO} (h : M p = none) : Sub M (put M p o) := fun q u e => by
  rw [put_ne (by rintro rfl; rw [h] at e; cases e)]; exact e
theorem Sub.trans {M M1 M2 : Mem} (a : Sub M M1) (b : Sub M1 M2) : Sub M M2 := fun p o h => b p o (a p o h)

noncomputable def PF {κ : Type} (K : PySem.W.Frag) (F : Hp) : List (κ × V) → List (κ × D) → Prop := Paired fun p q => p.1 = q.1 ∧ RD K F p.2 q.2
theorem PF.up {κ : Type} {K : PySem.W.Frag} {F F' : Hp} (e : Same F F') {a : List (κ × V)} {b : List (κ × D)} (h : PF K F a b) : PF K F' a b := Paired.mapP h fun _ _ q => ⟨q.1, q.2.up e⟩
noncomputable def RO (K : PySem.W.Frag) (F : Hp) (a : Addr) : MO → HO → Prop
  | .lst ds, .lst vs => RDs K F vs ds
  | .dic kvs, .dK ws => PF K F ws kvs
  | .ins C fs, .ins C' _ ws => C' = C ∧ PF K F ws fs
  | .exc c, .ext φ => φ = excφ a c
  | .raw u, u' => u' = u
  | _, _ => False
theorem RO.up {K : PySem.W.Frag} {F F' : Hp} (e : Same F F') {a : Addr} : ∀ {o : MO} {u : HO}, RO K F a o u → RO K F' a o u := by
  intro o u h
  cases o <;> cases u <;> first
    | exact (False.elim h)
    | exact RDs.up e h
    | exact PF.up e h
    | exact ⟨h.1, PF.up e h.2⟩
    | exact h
section
variable {K : PySem.W.Frag} {F : Hp} {a : Addr} {u : HO}
theorem RO.isL {ds : List D} (h : RO K F a (.lst ds) u) : ∃ vs, u = .lst vs ∧ RDs K F vs ds := by
  cases u <;> first | exact (False.elim h) | exact ⟨_, rfl, h⟩
theorem RO.isD {kvs : List (Key × D)} (h : RO K F a (.dic kvs) u) : ∃ ws, u = .dK ws ∧ PF K F ws kvs := by
  cases u <;> first | exact (False.elim h) | exact ⟨_, rfl, h⟩
theorem RO.isI {C : Addr} {fs : List (Str × D)} (h : RO K F a (.ins C fs) u) : ∃ dx ws, u = .ins C dx ws ∧ PF K F ws fs := by
  cases u <;> first | exact (False.elim h) | (obtain ⟨rfl, h⟩ := h; exact ⟨_, _, rfl, h⟩)
end

structure AM (K : PySem.W.Frag) (F : Hp) (M : Mem) (H : Hp) : Prop where
  sub : Same F H
  dj : ∀ p o, M p = some o → F p = none
  mem : ∀ p o, M p = some o → ∃ u, H p = some u ∧ RO K F p o u
theorem same_upd {F : Hp} {p : Addr} {u : HO} (h : F p = none) : Same F (upd F p u) := fun b o e => by
  rw [upd_ne (by rintro rfl; rw [h] at e; cases e)]; exact e
section
variable {K : PySem.W.Frag} {F : Hp} {M : Mem} {H : Hp} {p : Addr} {o : MO} {u : HO}
theorem AM.fF (m : AM K F M H) (h : H p = none) : F p = none := m.sub.free h
theorem AM.fM (m : AM K F M H) (h : H p = none) : M p = none := by
  cases q : M p with
  | none => rfl
  | some o => obtain ⟨u, e, _⟩ := m.mem p o q; rw [h] at e; cases e
theorem AM.new (m : AM K F M H) (h : H p = none) (r : RO K F p o u) : AM K F (put M p o) (upd H p u) := by
  refine ⟨fun b x e => ?_, fun b x e => ?_, fun b x e => ?_⟩
  · exact same_upd h b x (m.sub b x e)
  · by_cases hb : b = p
    · subst hb; exact m.fF h
    · rw [put_ne hb] at e; exact m.dj b x e
  · by_cases hb : b = p
    · subst hb; rw [put_same] at e; cases e; exact ⟨u, upd_same, r⟩
    · rw [put_ne hb] at e
      obtain ⟨y, e1, r1⟩ := m.mem b x e
      exact ⟨y, by rw [upd_ne hb]; exact e1, r1⟩
theorem AM.frz (m : AM K F M H) (h : H p = none) : AM K (upd F p u) M (upd H p u) := by
  have hs := same_upd (u := u) (m.fF h)
  refine ⟨fun b x e => ?_, fun b x e => ?_, fun b x e => ?_⟩
  · by_cases hb : b = p
    · subst hb; rw [upd_same] at e ⊢; exact e
    · rw [upd_ne hb] at e ⊢; exact m.sub b x e
  · have hb : b ≠ p := by rintro rfl; rw [m.fM h] at e; cases e
    rw [upd_ne hb]; exact m.dj b x e
  · have hb : b ≠ p := by rintro rfl; rw [m.fM h] at e; cases e
    obtain ⟨y, e1, r1⟩ := m.mem b x e
    exact ⟨y, by rw [upd_ne hb]; exact e1, r1.up hs⟩
theorem AM.more (m : AM K F M H) (h : H p = none) : AM K F M (upd H p u) := by
  refine ⟨fun b x e => same_upd h b x (m.sub b x e), m.dj, fun b x e => ?_⟩
  have hb : b ≠ p := by rintro rfl; rw [m.fM h] at e; cases e
  obtain ⟨y, e1, r1⟩ := m.mem b x e
  exact ⟨y, by rw [upd_ne hb]; exact e1, r1⟩
theorem AM.set {o' : MO} (m : AM K F M H) (h : M p = some o) (r : RO K F p o' u) : AM K F (put M p o') (upd H p u) := by
  refine ⟨fun b x e => ?_, fun b x e => ?_, fun b x e => ?_⟩
  · have hb : b ≠ p := by rintro rfl; rw [m.dj _ _ h] at e; cases e
    rw [upd_ne hb]; exact m.sub b x e
  · by_cases hb : b = p
    · subst hb; exact m.dj _ _ h
    · rw [put_ne hb] at e; exact m.dj b x e
  · by_cases hb : b = p
    · subst hb; rw [put_same] at e; cases e; exact ⟨u, upd_same, r⟩
    · rw [put_ne hb] at e
      obtain ⟨y, e1, r1⟩ := m.mem b x e
      exact ⟨y, by rw [upd_ne hb]; exact e1, r1⟩
theorem AM.freeze {ds : List D} (m : AM K F M H) (h : M p = some (.lst ds)) : ∃ F', Same F F' ∧ AM K F' (del M p) H ∧ RD K F' (.ref p) (.lst ds) := by
  obtain ⟨y, e, r⟩ := m.mem p _ h
  obtain ⟨vs, rfl, r⟩ := r.isL
  have hs := same_upd (u := .lst vs) (m.dj _ _ h)
  refine ⟨upd F p (.lst vs), hs, ⟨fun b x q => ?_, fun b x q => ?_, fun b x q => ?_⟩, .lst upd_same (r.up hs)⟩
  · by_cases hb : b = p
    · subst hb; rw [upd_same] at q; cases q; exact e
    · rw [upd_ne hb] at q; exact m.sub b x q
  · have hb : b ≠ p := by rintro rfl; rw [del_same] at q; cases q
    rw [del_ne hb] at q
    rw [upd_ne hb]; exact m.dj b x q
  · have hb : b ≠ p := by rintro rfl; rw [del_same] at q; cases q
    rw [del_ne hb] at q
    obtain ⟨y, e1, r1⟩ := m.mem b x q
    exact ⟨y, e1, r1.up hs⟩
theorem AM.less {M' : Mem} (m : AM K F M H) (h : Sub M' M) : AM K F M' H := ⟨m.sub, fun p o e => m.dj p o (h p o e), fun p o e => m.mem p o (h p o e)⟩
end


noncomputable abbrev G := List (Option D)
structure AG (K : PySem.W.Frag) (F : Hp) (Γ : G) (σ : St) : Prop where
  len : Γ.length = σ.length
  at' : ∀ (i : Nat) (d : D), Γ[i]? = some (some d) → ∃ v, σ[i]? = some (some v) ∧ RD K F v d
theorem AG.up {K : PySem.W.Frag} {F F' : Hp} {Γ : G} {σ : St} (a : AG K F Γ σ) (e : Same F F') : AG K F' Γ σ := ⟨a.len, fun i d h => let ⟨v, h1, h2⟩ := a.at' i d h; ⟨v, h1, h2.up e⟩⟩
theorem AG.set {K : PySem.W.Frag} {F : Hp} {Γ : G} {σ : St} {v : V} {d : D} (a : AG K F Γ σ) (r : RD K F v d) (i : Nat) : AG K F (Γ.set i (some d)) (σ.set i (some v)) := by
  refine ⟨by simp [a.len], fun j e h => ?_⟩
  by_cases hj : i = j
  · subst hj
    rw [List.getElem?_set] at h
    simp only [if_true] at h
    split at h
    · rename_i hl
      cases h
      refine ⟨v, ?_, r⟩
      rw [List.getElem?_set, if_pos rfl, if_pos (by rw [← a.len]; exact hl)]
    · cases h
  · rw [List.getElem?_set_ne hj] at h ⊢
    exact a.at' j e h

noncomputable abbrev AK := D → Mem → Prop
noncomputable abbrev AE := G → Mem → AK → Prop
noncomputable abbrev AT := G → Mem → (Bool → Mem → Prop) → Prop
noncomputable abbrev AA := G → Mem → (List D → Mem → Prop) → Prop
structure AEnds where
  nx : G → Mem → Prop
  rt : AK
  bk : G → Mem → Prop := fun _ _ => False
  ct : G → Mem → Prop := fun _ _ => False
noncomputable abbrev AS := AEnds → G → Mem → Prop

noncomputable def selfE (X : Cx) (e : Expr) : TE := fun σ H Q => ∀ pins s, Inv X pins σ H s → wpAny (model X.prog X.w) X.A (eval e X.env) (EP X pins σ Q) X.xe s
noncomputable def selfT (X : Cx) (e : Expr) : TT := fun σ H Q => ∀ pins s, Inv X pins σ H s → wpAny (model X.prog X.w) X.A (isTrue e X.env (eval e X.env)) (TP X pins σ Q) X.xe s
noncomputable def selfW (X : Cx) (e : Expr) : TT := fun σ H Q => ∀ whole pins s, Inv X pins σ H s → wpAny (model X.prog X.w) X.A (isTrue e X.env whole) (TP X pins σ Q) X.xe s
noncomputable def selfA (X : Cx) (es : List Expr) : TA := fun σ H Q => ∀ pos pins s, Inv X pins σ H s → wpAny (model X.prog X.w) X.A (spliced (backTo pos (starEach es X.env))) (AP X pins σ Q) X.xe s
noncomputable def selfS (X : Cx) (st : Stmt) : TS := fun D σ H => ∀ pins s, Inv X pins σ H s → wpAny (model X.prog X.w) X.A (exec st X.env) (SP X pins D) X.xe s
noncomputable def selfSs (X : Cx) (st : List Stmt) : TS := fun D σ H => ∀ pins s, Inv X pins σ H s → wpAny (model X.prog X.w) X.A (execs st X.env) (SP X pins D) X.xe s
noncomputable def selfG (X : Cx) (tg : Expr) : TG := fun v σ H Q => ∀ pins s u, Inv X pins σ H s → RelV v u → wpAny (model X.prog X.w) X.A (assign tg X.env u) (fun _ s' => ∃ σ' H', Inv X pins σ' H' s' ∧ Q σ' H') X.xe s
noncomputable def selfGs (X : Cx) (ts : List Expr) : TGs := fun vs σ H Q => ∀ pins s us, Inv X pins σ H s → Vals vs us → wpAny (model X.prog X.w) X.A (assignInOrder ((assignEach ts X.env).map (·.2)) us) (fun _ s' => ∃ σ' H', Inv X pins σ' H' s' ∧ Q σ' H') X.xe s
section
variable {X : Cx} {e : Expr} {es : List Expr} {st : Stmt} {sts : List Stmt} {σ : St} {H : Hp}
theorem pe_self : PE X e (selfE X e) := fun pins s _ _ _ I h => h pins s I
theorem pt_self : PT X e (selfT X e) := fun pins s _ _ _ I h => h pins s I
theorem pw_self : PW X e (selfW X e) := fun w pins s _ _ _ I h => h w pins s I
theorem pa_self : PA X es (selfA X es) := fun pos pins s _ _ _ I h => h pos pins s I
theorem ps_self : PS X st (selfS X st) := fun pins s _ _ _ I h => h pins s I
theorem pss_self : PSs X sts (selfSs X sts) := fun pins s _ _ _ I h => h pins s I
theorem pg_self : PG X e (selfG X e) := fun pins s _ _ _ u _ I r h => h pins s u I r
theorem pgs_self : PGs X es (selfGs X es) := fun pins s _ _ _ us _ I r h => h pins s us I r
theorem PE.to {t : TE} {Q : VK} (h : PE X e t) (hw : t σ H Q) : selfE X e σ H Q := fun pins s I => h pins s σ H Q I hw
theorem PT.to {t : TT} {Q : Bool → Hp → Prop} (h : PT X e t) (hw : t σ H Q) : selfT X e σ H Q := fun pins s I => h pins s σ H Q I hw
theorem PW.to {t : TT} {Q : Bool → Hp → Prop} (h : PW X e t) (hw : t σ H Q) : selfW X e σ H Q := fun w pins s I => h w pins s σ H Q I hw
theorem PA.to {t : TA} {Q : List V → Hp → Prop} (h : PA X es t) (hw : t σ H Q) : selfA X es σ H Q := fun pos pins s I => h pos pins s σ H Q I hw
theorem PS.to {t : TS} {D : Ends} (h : PS X st t) (hw : t D σ H) : selfS X st D σ H := fun pins s I => h pins s σ H D I hw
theorem PSs.to {t : TS} {D : Ends} (h : PSs X sts t) (hw : t D σ H) : selfSs X sts D σ H := fun pins s I => h pins s σ H D I hw
theorem PG.to {t : TG} {v : V} {Q : St → Hp → Prop} (h : PG X e t) (hw : t v σ H Q) : selfG X e v σ H Q := fun pins s u I r => h pins s σ H v u Q I r hw
theorem PGs.to {t : TGs} {vs : List V} {Q : St → Hp → Prop} (h : PGs X es t) (hw : t vs σ H Q) : selfGs X es vs σ H Q := fun pins s us I r => h pins s σ H vs us Q I r hw
theorem selfE.mono {Q Q' : VK} (h : selfE X e σ H Q) (k : ∀ v H', Q v H' → Q' v H') : selfE X e σ H Q' := fun pins s I => thn (h pins s I) fun _ _ ⟨v, H', J, r, q⟩ => ⟨v, H', J, r, k v H' q⟩
theorem selfT.mono {Q Q' : Bool → Hp → Prop} (h : selfT X e σ H Q) (k : ∀ v H', Q v H' → Q' v H') : selfT X e σ H Q' := fun pins s I => thn (h pins s I) fun b _ ⟨H', J, q⟩ => ⟨H', J, k b H' q⟩
theorem selfW.mono {Q Q' : Bool → Hp → Prop} (h : selfW X e σ H Q) (k : ∀ v H', Q v H' → Q' v H') : selfW X e σ H Q' := fun w pins s I => thn (h w pins s I) fun b _ ⟨H', J, q⟩ => ⟨H', J, k b H' q⟩
theorem selfA.mono {Q Q' : List V → Hp → Prop} (h : selfA X es σ H Q) (k : ∀ v H', Q v H' → Q' v H') : selfA X es σ H Q' := fun pos pins s I => thn (h pos pins s I) fun _ _ ⟨v, H', J, r, q⟩ => ⟨v, H', J, r, k v H' q⟩
theorem selfG.mono {v : V} {Q Q' : St → Hp → Prop} (h : selfG X e v σ H Q) (k : ∀ σ' H', Q σ' H' → Q' σ' H') : selfG X e v σ H Q' := fun pins s u I r => thn (h pins s u I r) fun _ _ ⟨σ', H', J, q⟩ => ⟨σ', H', J, k σ' H' q⟩
theorem selfGs.mono {vs : List V} {Q Q' : St → Hp → Prop} (h : selfGs X es vs σ H Q) (k : ∀ σ' H', Q σ' H' → Q' σ' H') : selfGs X es vs σ H Q' := fun pins s u I r => thn (h pins s u I r) fun _ _ ⟨σ', H', J, q⟩ => ⟨σ', H', J, k σ' H' q⟩

structure EndsTo (D D' : Ends) : Prop where
  nx : ∀ σ H, D.nx σ H → D'.nx σ H
  rt : ∀ v H, D.rt v H → D'.rt v H
  bk : ∀ σ H, D.bk σ H → D'.bk σ H
  ct : ∀ σ H, D.ct σ H → D'.ct σ H
theorem SP.to {pins : List (Addr × Obj)} {D D' : Ends} (k : EndsTo D D') {f : Flow} {s : Shared} (h : SP X pins D f s) : SP X pins D' f s := by
  cases f with
  | next => obtain ⟨σ', H', I, q⟩ := h; exact ⟨σ', H', I, k.nx _ _ q⟩
  | brk => obtain ⟨σ', H', I, q⟩ := h; exact ⟨σ', H', I, k.bk _ _ q⟩
  | cont => obtain ⟨σ', H', I, q⟩ := h; exact ⟨σ', H', I, k.ct _ _ q⟩
  | ret u => obtain ⟨v, σ', H', I, r, q⟩ := h; exact ⟨v, σ', H', I, r, k.rt _ _ q⟩
theorem selfS.mono {D D' : Ends} (h : selfS X st D σ H) (k : EndsTo D D') : selfS X st D' σ H := fun pins s I => thn (h pins s I) fun _ _ q => q.to k
theorem selfSs.mono {D D' : Ends} (h : selfSs X sts D σ H) (k : EndsTo D D') : selfSs X sts D' σ H := fun pins s I => thn (h pins s I) fun _ _ q => q.to k
end

noncomputable def PQ (K : PySem.W.Frag) (F : Hp) (Q : AK) : VK := fun v H' => ∃ d F' M', Same F F' ∧ AM K F' M' H' ∧ RD K F' v d ∧ Q d M'
noncomputable def PQb (K : PySem.W.Frag) (F : Hp) (Q : Bool → Mem → Prop) : Bool → Hp → Prop := fun b H' => ∃ F' M', Same F F' ∧ AM K F' M' H' ∧ Q b M'
noncomputable def PQs (K : PySem.W.Frag) (F : Hp) (Q : List D → Mem → Prop) : List V → Hp → Prop := fun vs H' => ∃ ds F' M', Same F F' ∧ AM K F' M' H' ∧ RDs K F' vs ds ∧ Q ds M'
noncomputable def PQg (K : PySem.W.Frag) (F : Hp) (Q : G → Mem → Prop) : St → Hp → Prop := fun σ' H' => ∃ F' Γ' M', Same F F' ∧ AG K F' Γ' σ' ∧ AM K F' M' H' ∧ Q Γ' M'
noncomputable def PQD (K : PySem.W.Frag) (F : Hp) (E : AEnds) : Ends := ⟨PQg K F E.nx, PQ K F E.rt, PQg K F E.bk, PQg K F E.ct⟩
section
variable {K : PySem.W.Frag} {F F1 : Hp}
theorem PQ.dn {Q : AK} (e : Same F F1) {v : V} {H : Hp} (h : PQ K F1 Q v H) : PQ K F Q v H := let ⟨d, F', M', a, b, c, q⟩ := h; ⟨d, F', M', e.trans a, b, c, q⟩
theorem PQb.dn {Q : Bool → Mem → Prop} (e : Same F F1) {v : Bool} {H : Hp} (h : PQb K F1 Q v H) : PQb K F Q v H := let ⟨F', M', a, b, q⟩ := h; ⟨F', M', e.trans a, b, q⟩
theorem PQg.dn {Q : G → Mem → Prop} (e : Same F F1) {v : St} {H : Hp} (h : PQg K F1 Q v H) : PQg K F Q v H := let ⟨d, F', M', a, b, c, q⟩ := h; ⟨d, F', M', e.trans a, b, c, q⟩
theorem PQD.dn {E : AEnds} (e : Same F F1) : EndsTo (PQD K F1 E) (PQD K F E) := ⟨fun _ _ h => PQg.dn e h, fun _ _ h => PQ.dn e h, fun _ _ h => PQg.dn e h, fun _ _ h => PQg.dn e h⟩
end

structure PEA (X : Cx) (F0 : Hp) (e : Expr) (t : AE)  : Prop where
  run : ∀ F Γ M σ H Q, Same F0 F → AG X.K F Γ σ → AM X.K F M H → t Γ M Q → selfE X e σ H (PQ X.K F Q)
structure PTA (X : Cx) (F0 : Hp) (e : Expr) (t : AT)  : Prop where
  run : ∀ F Γ M σ H Q, Same F0 F → AG X.K F Γ σ → AM X.K F M H → t Γ M Q → selfT X e σ H (PQb X.K F Q)
structure PWA (X : Cx) (F0 : Hp) (e : Expr) (t : AT)  : Prop where
  run : ∀ F Γ M σ H Q, Same F0 F → AG X.K F Γ σ → AM X.K F M H → t Γ M Q → selfW X e σ H (PQb X.K F Q)
structure PAA (X : Cx) (F0 : Hp) (es : List Expr) (t : AA)  : Prop where
  run : ∀ F Γ M σ H Q, Same F0 F → AG X.K F Γ σ → AM X.K F M H → t Γ M Q → selfA X es σ H (PQs X.K F Q)
structure PSA (X : Cx) (F0 : Hp) (st : Stmt) (t : AS)  : Prop where
  run : ∀ F Γ M σ H E, Same F0 F → AG X.K F Γ σ → AM X.K F M H → t E Γ M → selfS X st (PQD X.K F E) σ H
structure PSsA (X : Cx) (F0 : Hp) (sts : List Stmt) (t : AS)  : Prop where
  run : ∀ F Γ M σ H E, Same F0 F → AG X.K F Γ σ → AM X.K F M H → t E Γ M → selfSs X sts (PQD X.K F E) σ H
noncomputable abbrev AGt := D → G → Mem → (G → Mem → Prop) → Prop
noncomputable abbrev AGts := List D → G → Mem → (G → Mem → Prop) → Prop
structure PGA (X : Cx) (F0 : Hp) (tg : Expr) (t : AGt)  : Prop where
  run : ∀ F Γ M σ H v d Q, Same F0 F → AG X.K F Γ σ → AM X.K F M H → RD X.K F v d → t d Γ M Q → selfG X tg v σ H (PQg X.K F Q)
structure PGsA (X : Cx) (F0 : Hp) (ts : List Expr) (t : AGts)  : Prop where
  run : ∀ F Γ M σ H vs ds Q, Same F0 F → AG X.K F Γ σ → AM X.K F M H → RDs X.K F vs ds → t ds Γ M Q → selfGs X ts vs σ H (PQg X.K F Q)
end L2

set_option Elab.async false
set_option linter.all false
set_option maxRecDepth 100000
namespace L2
open PySem PySem.Spec PySem.Calls PyProof.Rows


noncomputable def aV (i : Nat) : AE := fun Γ M Q => match Γ[i]? with | some (some d) => Q d M | _ => False
noncomputable def aC (d : D) : AE := fun _ M Q => Q d M
theorem PQ.here {K : PySem.W.Frag} {F : Hp} {M : Mem} {H : Hp} {Q : AK} {v : V} {d : D} (m : AM K F M H) (r : RD K F v d) (q : Q d M) : PQ K F Q v H := ⟨d, F, M, .refl F, m, r, q⟩
theorem PQb.here {K : PySem.W.Frag} {F : Hp} {M : Mem} {H : Hp} {Q : Bool → Mem → Prop} {v : Bool} (m : AM K F M H) (q : Q v M) : PQb K F Q v H := ⟨F, M, .refl F, m, q⟩
theorem PQg.here {K : PySem.W.Frag} {F : Hp} {M : Mem} {H : Hp} {Q : G → Mem → Prop} {Γ : G} {σ : St} (m : AM K F M H) (g : AG K F Γ σ) (q : Q Γ M) : PQg K F Q σ H := ⟨F, Γ, M, .refl F, g, m, q⟩
section
variable {X : Cx} {F0 : Hp} {a b e : Expr} {es : List Expr} {pos : Pos} {ta tb te : AE} {i : Nat} {x : Str}
theorem paV (h : PE X e (tVar i)) : PEA X F0 e (aV i) := by
  refine ⟨?_⟩
  intro F Γ M σ H Q f0 g m hw
  unfold aV at hw
  split at hw
  · rename_i d hd
    obtain ⟨v, e1, r⟩ := g.at' i d hd
    exact h.to ⟨v, e1, .here m r hw⟩
  · exact hw.elim
theorem paC {v : V} {d : D} (h : PE X e (tC v)) (r : ∀ F, RD X.K F v d) : PEA X F0 e (aC d) := ⟨fun F Γ M σ H Q _ _ m hw => h.to (PQ.here m (r F) hw)⟩
theorem paI {n : Int} {j} : PEA X F0 (.Constant (.int n) j pos) (aC (.int n)) := paC pe_int fun _ => .int _
theorem paB {n : Bool} {j} : PEA X F0 (.Constant (.bool n) j pos) (aC (.bl n)) := paC pe_bl fun _ => .bl _
theorem paN {j} : PEA X F0 (.Constant .none j pos) (aC .non) := paC pe_non fun _ => .non
theorem paS {n : Str} {j} : PEA X F0 (.Constant (.str n) j pos) (aC (.str n)) := paC pe_str fun _ => .str _

theorem two (ha : PEA X F0 a ta) (hb : PEA X F0 b tb) {F : Hp} {Γ : G} {M : Mem} {σ : St} {H : Hp} {R : D → D → Mem → Prop} (f0 : Same F0 F) (g : AG X.K F Γ σ) (m : AM X.K F M H) (h : ta Γ M fun x M1 => tb Γ M1 fun y M2 => R x y M2)
    {Q : V → V → Hp → Prop} (k : ∀ F2 M2 H2 v u x y, Same F F2 → AM X.K F2 M2 H2 → RD X.K F2 v x → RD X.K F2 u y → R x y M2 → Q v u H2) : selfE X a σ H fun v H1 => selfE X b σ H1 fun u H2 => Q v u H2 := by
  refine (ha.run F Γ M σ H _ f0 g m h).mono fun v H1 zz9 => ?_
  obtain ⟨x, F1, M1, s1, m1, r1, q1⟩ := zz9
  refine (hb.run F1 Γ M1 σ H1 _ (f0.trans s1) (g.up s1) m1 q1).mono fun u H2 zz9 => ?_
  obtain ⟨y, F2, M2, s2, m2, r2, q2⟩ := zz9
  exact k F2 M2 H2 v u x y (s1.trans s2) m2 (r1.up s2) r2 q2


noncomputable abbrev A2 := D → D → Mem → AK → Prop
noncomputable def aOp (r : A2) (ta tb : AE) : AE := fun Γ M Q => ta Γ M fun x M1 => tb Γ M1 fun y M2 => r x y M2 Q
noncomputable def LO (K : PySem.W.Frag) (r : R2) (a : A2) : Prop := ∀ (F : Hp) (M : Mem) (H : Hp) (x y : V) (dx dy : D) (Q : AK) (R : VK), AM K F M H → RD K F x dx → RD K F y dy → a dx dy M Q → (∀ v H', PQ K F Q v H' → R v H') → r x y H R
theorem paOp {op : Operator} {r : R2} {o : A2} (ho : OpR X (binaryOp op) r) (l : LO X.K r o) (ha : PEA X F0 a ta) (hb : PEA X F0 b tb) : PEA X F0 (.BinOp a op b pos) (aOp o ta tb) := by
  refine ⟨?_⟩
  intro F Γ M σ H Q f0 g m h
  exact (pe_op ho pe_self pe_self).to (two ha hb f0 g m h fun F2 M2 H2 v u x y s m2 r1 r2 q => l F2 M2 H2 v u x y Q _ m2 r1 r2 q fun _ _ z => z.dn s)
theorem paCmp {op : CmpOp} {r : R2} {o : A2} (ho : OpR X (compareOp op) r) (l : LO X.K r o) (ha : PEA X F0 a ta) (hb : PEA X F0 b tb) (hm : behindInMarks op b = false) : PEA X F0 (.Compare a [op] [b] pos) (aOp o ta tb) := by
  refine ⟨?_⟩
  intro F Γ M σ H Q f0 g m h
  exact (pe_cmpR ho pe_self pe_self hm).to (two ha hb f0 g m h fun F2 M2 H2 v u x y s m2 r1 r2 q => l F2 M2 H2 v u x y Q _ m2 r1 r2 q fun _ _ z => z.dn s)
noncomputable def aT (t : AE) : AT := fun Γ M Q => t Γ M fun d M' => match d with | .bl b => Q b M' | _ => False
theorem PQ.bool {K : PySem.W.Frag} {F : Hp} {Q : Bool → Mem → Prop} {v : V} {H : Hp} (h : PQ K F (fun d M' => match d with | .bl b => Q b M' | _ => False) v H) : ∃ k, v = .bl k ∧ PQb K F Q k H := by
  obtain ⟨d, F', M', s, m, r, q⟩ := h
  cases r <;> first
    | exact ⟨_, rfl, F', M', s, m, q⟩
    | exact q.elim
theorem ptCmp {op : CmpOp} {r : R2} {o : A2} (ho : OpR X (compareOp op) r) (l : LO X.K r o) (ha : PEA X F0 a ta) (hb : PEA X F0 b tb) (hm : behindInMarks op b = false) : PTA X F0 (.Compare a [op] [b] pos) (aT (aOp o ta tb)) := by
  refine ⟨?_⟩
  intro F Γ M σ H Q f0 g m h
  refine (pt_cmpR ho pe_self pe_self hm).to (two ha hb f0 g m h fun F2 M2 H2 v u x y s m2 r1 r2 q => l F2 M2 H2 v u x y _ _ m2 r1 r2 q fun _ _ z => ?_)
  exact PQ.bool (z.dn s)
theorem ptV (h : PEA X F0 e te) (he : ∀ whole, isTrue e X.env whole = (do let v ← whole; standAt e.pos; holding [v] (truthy v)) := by intro _; rfl) : PTA X F0 e (aT te) := by
  refine ⟨?_⟩
  intro F Γ M σ H Q f0 g m hw
  refine (pt_val pe_self he).to ((h.run F Γ M σ H _ f0 g m hw).mono fun v H1 z => PQ.bool z)
noncomputable def aAnd (t u : AT) : AT := fun Γ M Q => t Γ M fun c M1 => if c = true then u Γ M1 Q else Q false M1
noncomputable def aOr (t u : AT) : AT := fun Γ M Q => t Γ M fun c M1 => if c = true then Q true M1 else u Γ M1 Q
noncomputable def aNot (t : AT) : AT := fun Γ M Q => t Γ M fun c M1 => Q (!c) M1
variable {tA tB : AT} {rest : List Expr}
theorem ptNot (ha : PTA X F0 a tA) : PTA X F0 (.UnaryOp .Not a pos) (aNot tA) := by
  refine ⟨?_⟩
  intro F Γ M σ H Q f0 g m h
  exact (pt_not pt_self).to ((ha.run F Γ M σ H _ f0 g m h).mono fun c H1 z => z)
theorem pwAnd1 (ha : PTA X F0 a tA) : PWA X F0 (.BoolOp .And [a] pos) tA := ⟨fun F Γ M σ H Q f0 g m h => (pw_and1 pt_self).to (ha.run F Γ M σ H Q f0 g m h)⟩
theorem pwOr1 (ha : PTA X F0 a tA) : PWA X F0 (.BoolOp .Or [a] pos) tA := ⟨fun F Γ M σ H Q f0 g m h => (pw_or1 pt_self).to (ha.run F Γ M σ H Q f0 g m h)⟩
theorem pwAnd (ha : PTA X F0 a tA) (hb : PWA X F0 (.BoolOp .And (b :: rest) pos) tB) : PWA X F0 (.BoolOp .And (a :: b :: rest) pos) (aAnd tA tB) := by
  refine ⟨?_⟩
  intro F Γ M σ H Q f0 g m h
  refine (pw_and pt_self pw_self).to ((ha.run F Γ M σ H _ f0 g m h).mono fun c H1 zz9 => ?_)
  obtain ⟨F1, M1, s1, m1, q1⟩ := zz9
  cases c with
  | true =>
    rw [if_pos rfl] at q1 ⊢
    exact (hb.run F1 Γ M1 σ H1 Q (f0.trans s1) (g.up s1) m1 q1).mono fun _ _ z => z.dn s1
  | false =>
    rw [if_neg Bool.false_ne_true] at q1 ⊢
    exact ⟨F1, M1, s1, m1, q1⟩
theorem pwOr (ha : PTA X F0 a tA) (hb : PWA X F0 (.BoolOp .Or (b :: rest) pos) tB) : PWA X F0 (.BoolOp .Or (a :: b :: rest) pos) (aOr tA tB) := by
  refine ⟨?_⟩
  intro F Γ M σ H Q f0 g m h
  refine (pw_or pt_self pw_self).to ((ha.run F Γ M σ H _ f0 g m h).mono fun c H1 zz9 => ?_)
  obtain ⟨F1, M1, s1, m1, q1⟩ := zz9
  cases c with
  | true =>
    rw [if_pos rfl] at q1 ⊢
    exact ⟨F1, M1, s1, m1, q1⟩
  | false =>
    rw [if_neg Bool.false_ne_true] at q1 ⊢
    exact (hb.run F1 Γ M1 σ H1 Q (f0.trans s1) (g.up s1) m1 q1).mono fun _ _ z => z.dn s1
theorem PWA.pt {t : AT} (h : PWA X F0 e t) : PTA X F0 e t := ⟨fun F Γ M σ H Q f0 g m hw pins s I => h.run F Γ M σ H Q f0 g m hw _ pins s I⟩
noncomputable def aAndV (ta tb : AE) : AE := fun Γ M Q => aT ta Γ M fun c M1 => if c = true then tb Γ M1 Q else Q (.bl false) M1
noncomputable def aOrV (ta tb : AE) : AE := fun Γ M Q => aT ta Γ M fun c M1 => if c = true then Q (.bl true) M1 else tb Γ M1 Q
noncomputable def aNotV (ta : AE) : AE := fun Γ M Q => aT ta Γ M fun c M1 => Q (.bl (!c)) M1
theorem paOne {op} (h : PEA X F0 a ta) : PEA X F0 (.BoolOp op [a] pos) ta := ⟨fun F Γ M σ H Q f0 g m hw => (pe_one pe_self).to (h.run F Γ M σ H Q f0 g m hw)⟩
theorem paAnd (ha : PEA X F0 a ta) (hb : PEA X F0 (.BoolOp .And (b :: rest) pos) tb) : PEA X F0 (.BoolOp .And (a :: b :: rest) pos) (aAndV ta tb) := by
  refine ⟨?_⟩
  intro F Γ M σ H Q f0 g m h
  refine (pe_and pe_self pe_self).to ((ha.run F Γ M σ H _ f0 g m h).mono fun v H1 z => ?_)
  obtain ⟨c, rfl, F1, M1, s1, m1, q1⟩ := PQ.bool z
  refine ⟨c, rfl, ?_⟩
  cases c with
  | true =>
    rw [if_pos rfl] at q1 ⊢
    exact (hb.run F1 Γ M1 σ H1 Q (f0.trans s1) (g.up s1) m1 q1).mono fun _ _ z => z.dn s1
  | false =>
    rw [if_neg Bool.false_ne_true] at q1 ⊢
    exact ⟨_, F1, M1, s1, m1, .bl _, q1⟩
theorem paNot (ha : PEA X F0 a ta) : PEA X F0 (.UnaryOp .Not a pos) (aNotV ta) := by
  refine ⟨?_⟩
  intro F Γ M σ H Q f0 g m h
  refine (pe_not pe_self).to ((ha.run F Γ M σ H _ f0 g m h).mono fun v H1 z => ?_)
  obtain ⟨c, rfl, F1, M1, s1, m1, q1⟩ := PQ.bool z
  exact ⟨c, rfl, _, F1, M1, s1, m1, .bl _, q1⟩
noncomputable def aUn (r : D → Mem → AK → Prop) (ta : AE) : AE := fun Γ M Q => ta Γ M fun x M1 => r x M1 Q
noncomputable def LU (K : PySem.W.Frag) (r : V → Hp → VK → Prop) (a : D → Mem → AK → Prop) : Prop := ∀ (F : Hp) (M : Mem) (H : Hp) (x : V) (dx : D) (Q : AK) (R : VK), AM K F M H → RD K F x dx → a dx M Q → (∀ v H', PQ K F Q v H' → R v H') → r x H R
theorem paUn {op : UnaryOp} {r : V → Hp → VK → Prop} {o : D → Mem → AK → Prop} (ho : UnR X (unaryOp op) r) (l : LU X.K r o) (ha : PEA X F0 a ta) : PEA X F0 (.UnaryOp op a pos) (aUn o ta) := by
  refine ⟨?_⟩
  intro F Γ M σ H Q f0 g m h
  exact (pe_un ho pe_self).to ((ha.run F Γ M σ H _ f0 g m h).mono fun v H1 ⟨x, F1, M1, s1, m1, r1, q1⟩ => l F1 M1 H1 v x Q _ m1 r1 q1 fun _ _ z => z.dn s1)
theorem paIx {r : R2} {o : A2} (ho : IxR X r) (l : LO X.K r o) (ha : PEA X F0 a ta) (hb : PEA X F0 b tb) (hs : PlainIx b) : PEA X F0 (.Subscript a b pos) (aOp o ta tb) := by
  refine ⟨?_⟩
  intro F Γ M σ H Q f0 g m h
  exact (pe_ix ho pe_self pe_self hs).to (two ha hb f0 g m h fun F2 M2 H2 v u x y s m2 r1 r2 q => l F2 M2 H2 v u x y Q _ m2 r1 r2 q fun _ _ z => z.dn s)


noncomputable def aNil : AA := fun _ M Q => Q [] M
noncomputable def aCons (ta : AE) (tr : AA) : AA := fun Γ M Q => ta Γ M fun x M1 => tr Γ M1 fun xs M2 => Q (x :: xs) M2
variable {tt : AA}
theorem aaNil : PAA X F0 [] aNil := ⟨fun F Γ M σ H Q _ _ m h => pa_nil.to ⟨[], F, M, .refl F, m, .nil, h⟩⟩
theorem aaCons (ha : PEA X F0 e te) (hr : PAA X F0 es tt) (hs : starEach (e :: es) X.env = (false, eval e X.env) :: starEach es X.env := by rfl) : PAA X F0 (e :: es) (aCons te tt) := by
  refine ⟨?_⟩
  intro F Γ M σ H Q f0 g m h
  refine (pa_cons pe_self pa_self hs).to ((ha.run F Γ M σ H _ f0 g m h).mono fun v H1 zz9 => ?_)
  obtain ⟨x, F1, M1, s1, m1, r1, q1⟩ := zz9
  exact (hr.run F1 Γ M1 σ H1 _ (f0.trans s1) (g.up s1) m1 q1).mono fun vs H2 ⟨xs, F2, M2, s2, m2, r2, q2⟩ => ⟨x :: xs, F2, M2, s1.trans s2, m2, .cons (r1.up s2) r2, q2⟩
noncomputable def aTup (t : AA) : AE := fun Γ M Q => t Γ M fun ds M1 => ds.length ≤ 1000 ∧ Q (.tup ds) M1
noncomputable def aLst (t : AA) : AE := fun Γ M Q => t Γ M fun ds M1 => ds.length ≤ 1000 ∧ Q (.lst ds) M1
noncomputable def aLstM (t : AA) : AE := fun Γ M Q => t Γ M fun ds M1 => ds.length ≤ 1000 ∧ ∀ p, M1 p = none → Q (.obj p) (put M1 p (.lst ds))
theorem k1000 {n : Nat} (h : n ≤ 1000) : n ≤ sizeLine := Nat.le_of_lt (small1000 h)
theorem paTup {x1} (h : PAA X F0 es tt) : PEA X F0 (.Tuple es x1 pos) (aTup tt) := by
  refine ⟨?_⟩
  intro F Γ M σ H Q f0 g m hw
  refine (pe_tup pa_self).to ((h.run F Γ M σ H _ f0 g m hw).mono fun vs H1 zz9 => ?_)
  obtain ⟨ds, F1, M1, s1, m1, r1, hl, q1⟩ := zz9
  refine ⟨by rw [r1.length]; exact k1000 hl, fun p hp => ⟨.tup ds, upd F1 p (.tup vs), M1, s1.trans (same_upd (m1.fF hp)), m1.frz hp, .tup upd_same (r1.up (same_upd (m1.fF hp))), q1⟩⟩
theorem paLst (h : PAA X F0 es tt) : PEA X F0 (.List es pos) (aLst tt) := by
  refine ⟨?_⟩
  intro F Γ M σ H Q f0 g m hw
  refine (pe_lst pa_self).to ((h.run F Γ M σ H _ f0 g m hw).mono fun vs H1 zz9 => ?_)
  obtain ⟨ds, F1, M1, s1, m1, r1, hl, q1⟩ := zz9
  refine ⟨by rw [r1.length]; exact k1000 hl, fun p hp => ⟨.lst ds, upd F1 p (.lst vs), M1, s1.trans (same_upd (m1.fF hp)), m1.frz hp, .lst upd_same (r1.up (same_upd (m1.fF hp))), q1⟩⟩
theorem paLstM (h : PAA X F0 es tt) : PEA X F0 (.List es pos) (aLstM tt) := by
  refine ⟨?_⟩
  intro F Γ M σ H Q f0 g m hw
  refine (pe_lst pa_self).to ((h.run F Γ M σ H _ f0 g m hw).mono fun vs H1 zz9 => ?_)
  obtain ⟨ds, F1, M1, s1, m1, r1, hl, q1⟩ := zz9
  exact ⟨by rw [r1.length]; exact k1000 hl, fun p hp => ⟨.obj p, F1, _, s1, m1.new (o := .lst ds) hp r1, .obj p, q1 p (m1.fM hp)⟩⟩
noncomputable def aFz (t : AE) : AE := fun Γ M Q => t Γ M fun d M' => match d with | .obj p => (match M' p with | some (.lst ds) => Q (.lst ds) (del M' p) | _ => False) | _ => False
theorem paFz (h : PEA X F0 e te) : PEA X F0 e (aFz te) := by
  refine ⟨?_⟩
  intro F Γ M σ H Q f0 g m hw
  refine (h.run F Γ M σ H _ f0 g m hw).mono fun v H1 zz9 => ?_
  obtain ⟨d, F1, M1, s1, m1, r1, q1⟩ := zz9
  cases r1 with
  | obj p =>
    try dsimp only at q1
    split at q1
    · rename_i ds hd
      obtain ⟨F2, s2, m2, r2⟩ := m1.freeze hd
      exact ⟨_, F2, _, s1.trans s2, m2, r2, q1⟩
    · exact q1.elim
  | _ => exact q1.elim


noncomputable abbrev A1s := List D → Mem → AK → Prop
noncomputable def aCall (r : A1s) (t : AA) : AE := fun Γ M Q => t Γ M fun ds M1 => r ds M1 Q
noncomputable def LC (K : PySem.W.Frag) (r : List V → Hp → VK → Prop) (a : A1s) : Prop := ∀ (F : Hp) (M : Mem) (H : Hp) (xs : List V) (ds : List D) (Q : AK) (R : VK), AM K F M H → RDs K F xs ds → a ds M Q → (∀ v H', PQ K F Q v H' → R v H') → r xs H R
variable {p : Pos} {id T : String} {r : List V → Hp → VK → Prop} {o : A1s}
theorem paCallB (hc : CallR X (.builtin id) r) (l : LC X.K r o) (hg : Gl X x) (hm : X.mg x = none) (hv : bootBuiltins x = some (.builtin id)) (ha : PAA X F0 (e :: es) tt) (hn : x ≠ "__name__" := by decide) (hdb : (x == ("__debug__" : Str)) = false := by decide)
    (he : starEach (e :: es) X.env = (false, eval e X.env) :: starEach es X.env := by rfl) (hpl : (backTo pos (starEach es X.env)).any (·.1) = false := by rfl) : PEA X F0 (.Call (.Name x p) (e :: es) [] pos) (aCall o tt) := by
  refine ⟨?_⟩
  intro F Γ M σ H Q f0 g m hw
  exact (pe_callB hc hg hm hv pa_self hn hdb he hpl).to ((ha.run F Γ M σ H _ f0 g m hw).mono fun vs H1 ⟨ds, F1, M1, s1, m1, r1, q1⟩ => l F1 M1 H1 vs ds Q _ m1 r1 q1 fun _ _ z => z.dn s1)
theorem paCallTy (hc : CallR X (.type T) r) (l : LC X.K r o) (hg : Gl X x) (hm : X.mg x = none) (hv : bootBuiltins x = some (.type T)) (ha : PAA X F0 (e :: es) tt) (hn : x ≠ "__name__" := by decide) (hdb : (x == ("__debug__" : Str)) = false := by decide)
    (he : starEach (e :: es) X.env = (false, eval e X.env) :: starEach es X.env := by rfl) (hpl : (backTo pos (starEach es X.env)).any (·.1) = false := by rfl) : PEA X F0 (.Call (.Name x p) (e :: es) [] pos) (aCall o tt) := by
  refine ⟨?_⟩
  intro F Γ M σ H Q f0 g m hw
  exact (pe_callTy hc hg hm hv pa_self hn hdb he hpl).to ((ha.run F Γ M σ H _ f0 g m hw).mono fun vs H1 ⟨ds, F1, M1, s1, m1, r1, q1⟩ => l F1 M1 H1 vs ds Q _ m1 r1 q1 fun _ _ z => z.dn s1)

noncomputable abbrev A1m := D → List D → Mem → AK → Prop
noncomputable def LM (K : PySem.W.Frag) (r : V → List V → Hp → VK → Prop) (a : A1m) : Prop := ∀ (F : Hp) (M : Mem) (H : Hp) (x : V) (d : D) (xs : List V) (ds : List D) (Q : AK) (R : VK), AM K F M H → RD K F x d → RDs K F xs ds → a d ds M Q → (∀ v H', PQ K F Q v H' → R v H') → r x xs H R
noncomputable def kindD (M : Mem) : D → String
  | .lst _ => "list" | .scr _ => "list" | .str _ => "str" | .tup _ => "tuple"
  | .obj p => (match M p with | some (.lst _) => "list" | some (.dic _) => "dict" | _ => "")
  | _ => ""
noncomputable def aBM (T : String) (r : A1m) (to : AE) (t : AA) : AE := fun Γ M Q => to Γ M fun x M1 => kindD M1 x = T ∧ t Γ M1 fun xs M2 => r x xs M2 Q
end
end L2

set_option Elab.async false
set_option linter.all false
set_option maxRecDepth 100000
namespace L2
open PySem PySem.Spec PySem.Calls PyProof.Rows

noncomputable def both {α β : Type} (a : Option α) (b : Option β) (R : α → β → Prop) : Prop := match a, b with | some x, some y => R x y | _, _ => False
noncomputable def opt {α : Type} (a : Option α) (R : α → Prop) : Prop := match a with | some x => R x | none => False
theorem both_some {α β : Type} {x : α} {y : β} {R : α → β → Prop} : both (some x) (some y) R = R x y := rfl
theorem opt_some {α : Type} {x : α} {R : α → Prop} : opt (some x) R = R x := rfl
theorem two_ex {α β : Type} {a : Option α} {b : Option β} {R : α → β → Prop} (h : both a b R) : ∃ x y, a = some x ∧ b = some y ∧ R x y := by
  unfold both at h
  split at h
  · exact ⟨_, _, rfl, rfl, h⟩
  · exact h.elim
theorem some_ex {α : Type} {a : Option α} {R : α → Prop} (h : opt a R) : ∃ x, a = some x ∧ R x := by
  unfold opt at h
  split at h
  · exact ⟨_, rfl, h⟩
  · exact h.elim

noncomputable def dl (M : Mem) : D → Option (List D)
  | .lst ds => some ds
  | .obj p => (match M p with | some (.lst ds) => some ds | _ => none)
  | _ => none
noncomputable def dr (M : Mem) : D → Option (List D)
  | .lst ds => some ds
  | .scr ds => some ds
  | .obj p => (match M p with | some (.lst ds) => some ds | _ => none)
  | _ => none
noncomputable def dq (M : Mem) : D → Option (List D)
  | .lst ds => some ds
  | .scr ds => some ds
  | .tup ds => some ds
  | .ctp ds => some ds
  | .obj p => (match M p with | some (.lst ds) => some ds | _ => none)
  | _ => none
noncomputable def dd (M : Mem) : D → Option (List (Key × D))
  | .obj p => (match M p with | some (.dic kvs) => some kvs | _ => none)
  | _ => none
section
variable {K : PySem.W.Frag} {F : Hp} {M : Mem} {H : Hp} {x : V} {d : D} {ds : List D}
theorem dl_rep (m : AM K F M H) (r : RD K F x d) (h : dl M d = some ds) : ∃ p vs, x = .ref p ∧ H p = some (.lst vs) ∧ RDs K F vs ds := by
  cases r <;> first
    | (unfold dl at h; cases h; done)
    | skip
  · rename_i a xs es e r
    cases h
    exact ⟨a, xs, rfl, m.sub _ _ e, r⟩
  · rename_i p
    unfold dl at h
    dsimp only at h
    split at h
    · rename_i ds' hd
      cases h
      obtain ⟨u, e, r⟩ := m.mem _ _ hd
      obtain ⟨vs, rfl, r⟩ := r.isL
      exact ⟨p, vs, rfl, e, r⟩
    · cases h
theorem dr_rep (m : AM K F M H) (r : RD K F x d) (h : dr M d = some ds) : ∃ p vs, x = .ref p ∧ SqL K H p vs ∧ RDs K F vs ds := by
  cases r <;> first
    | (unfold dr at h; cases h; done)
    | skip
  · rename_i a xs es e r
    cases h
    exact ⟨a, xs, rfl, .of (m.sub _ _ e), r⟩
  · rename_i a xs es e r
    cases h
    exact ⟨a, xs, rfl, m.sub.seq e, r⟩
  · rename_i p
    unfold dr at h
    dsimp only at h
    split at h
    · rename_i ds' hd
      cases h
      obtain ⟨u, e, r⟩ := m.mem _ _ hd
      obtain ⟨vs, rfl, r⟩ := r.isL
      exact ⟨p, vs, rfl, .of e, r⟩
    · cases h
theorem dq_rep (m : AM K F M H) (r : RD K F x d) (h : dq M d = some ds) : ∃ p vs, x = .ref p ∧ (SqL K H p vs ∨ SqT K H p vs) ∧ RDs K F vs ds := by
  cases r <;> first
    | (unfold dq at h; cases h; done)
    | skip
  · rename_i a xs es e r
    cases h
    exact ⟨a, xs, rfl, .inl (.of (m.sub _ _ e)), r⟩
  · rename_i a xs es e r
    cases h
    exact ⟨a, xs, rfl, .inl (m.sub.seq e), r⟩
  · rename_i a xs es e r
    cases h
    exact ⟨a, xs, rfl, .inr (.of (m.sub _ _ e)), r⟩
  · rename_i a xs es e r
    cases h
    exact ⟨a, xs, rfl, .inr (m.sub.seqT e), r⟩
  · rename_i p
    unfold dq at h
    dsimp only at h
    split at h
    · rename_i ds' hd
      cases h
      obtain ⟨u, e, r⟩ := m.mem _ _ hd
      obtain ⟨vs, rfl, r⟩ := r.isL
      exact ⟨p, vs, rfl, .inl (.of e), r⟩
    · cases h
theorem dd_rep {kvs : List (Key × D)} (m : AM K F M H) (r : RD K F x d) (h : dd M d = some kvs) : ∃ p ws, x = .ref p ∧ d = .obj p ∧ M p = some (.dic kvs) ∧ H p = some (.dK ws) ∧ PF K F ws kvs := by
  cases r <;> first
    | (unfold dd at h; cases h; done)
    | skip
  rename_i p
  unfold dd at h
  dsimp only at h
  split at h
  · rename_i ds' hd
    cases h
    obtain ⟨u, e, r⟩ := m.mem _ _ hd
    obtain ⟨vs, rfl, r⟩ := r.isD
    exact ⟨p, vs, rfl, rfl, hd, e, r⟩
  · cases h
end


noncomputable def addF : D → D → Option D
  | .int i, .int j => some (.int (i + j))
  | .str s, .str t => some (.str (s ++ t))
  | _, _ => none
noncomputable def addC : D → D → Prop
  | .str s, .str t => s.length + t.length ≤ sizeLine
  | _, _ => True
noncomputable def oAdd : A2 := fun x y M Q => addC x y ∧ opt (addF x y) fun d => Q d M
noncomputable def rAdds : R2 := fun x y H Q => rI0 (fun i j => .int (i + j)) x y H Q ∨ (∃ i j, x = .str i ∧ y = .str j ∧ i.length + j.length ≤ sizeLine ∧ Q (.str (i ++ j)) H)
noncomputable def oCatM : A2 := fun x y M Q => both (dl M x) (dl M y) fun xs ys => xs.length + ys.length ≤ 1000 ∧ ∀ p, M p = none → Q (.obj p) (put M p (.lst (xs ++ ys)))
noncomputable def oCat : A2 := fun x y M Q => both (dl M x) (dl M y) fun xs ys => xs.length + ys.length ≤ 1000 ∧ Q (.lst (xs ++ ys)) M
noncomputable def oI (g : Int → Int → D) : A2 := fun x y M Q => match x, y with | .int i, .int j => Q (g i j) M | _, _ => False
noncomputable def oIc (C : Int → Int → Prop) (g : Int → Int → D) : A2 := fun x y M Q => match x, y with | .int i, .int j => C i j ∧ Q (g i j) M | _, _ => False
section
variable {X : Cx} {K : PySem.W.Frag}
theorem op_adds : OpR X (binaryOp .Add) rAdds := op_add.or op_add_str
theorem lAdd : LO K rAdds oAdd := by
  intro F M H x y dx dy Q R m rx ry h k
  obtain ⟨hc, h⟩ := h
  cases rx <;> cases ry <;> first
    | exact h.elim
    | exact .inl ⟨_, _, rfl, rfl, k _ _ (.here m (.int _) h)⟩
    | exact .inr ⟨_, _, rfl, rfl, hc, k _ _ (.here m (.str _) h)⟩
theorem lI {g : Int → Int → V} {g' : Int → Int → D} (e : ∀ i j F, RD K F (g i j) (g' i j)) : LO K (rI0 g) (oI g') := by
  intro F M H x y dx dy Q R m rx ry h k
  cases rx <;> cases ry <;> first
    | exact h.elim
    | exact ⟨_, _, rfl, rfl, k _ _ (.here m (e _ _ F) h)⟩
theorem lIc {C : Int → Int → Prop} {g : Int → Int → V} {g' : Int → Int → D} (e : ∀ i j F, RD K F (g i j) (g' i j)) : LO K (rI C g) (oIc C g') := by
  intro F M H x y dx dy Q R m rx ry h k
  cases rx <;> cases ry <;> first
    | exact h.elim
    | exact ⟨_, _, rfl, rfl, h.1, k _ _ (.here m (e _ _ F) h.2)⟩
noncomputable abbrev oSub : A2 := oI fun i j => .int (i - j)
noncomputable abbrev oMul : A2 := oIc IntMulOk fun i j => .int (i * j)
noncomputable abbrev oMod : A2 := oIc (fun _ j => 0 < j) fun i j => .int (i % j)
noncomputable abbrev oPow : A2 := oIc CPow fun i j => .int (i ^ j.toNat)
noncomputable abbrev oLt : A2 := oI fun i j => .bl (decide (i < j))
noncomputable abbrev oGt : A2 := oI fun i j => .bl (decide (j < i))
noncomputable abbrev oGe : A2 := oI fun i j => .bl (decide (j ≤ i))
noncomputable abbrev oDivB : A2 := oIc (fun _ j => j ≠ 0) fun i j => .int (i.fdiv j)
noncomputable abbrev oDiv : A2 := oIc CDiv fun i j => .int (i / j)
theorem lSub : LO K (rI0 fun i j => .int (i - j)) oSub := lI fun _ _ _ => .int _
theorem lMul : LO K (rI IntMulOk fun i j => .int (i * j)) oMul := lIc fun _ _ _ => .int _
theorem lMod : LO K (rI (fun _ j => 0 < j) fun i j => .int (i % j)) oMod := lIc fun _ _ _ => .int _
theorem lPow : LO K (rI CPow fun i j => .int (i ^ j.toNat)) oPow := lIc fun _ _ _ => .int _
theorem lLt : LO K (rI0 fun i j => .bl (decide (i < j))) oLt := lI fun _ _ _ => .bl _
theorem lGt : LO K (rI0 fun i j => .bl (decide (j < i))) oGt := lI fun _ _ _ => .bl _
theorem lGe : LO K (rI0 fun i j => .bl (decide (j ≤ i))) oGe := lI fun _ _ _ => .bl _
theorem lDivB : LO K (rI (fun _ j => j ≠ 0) fun i j => .int (i.fdiv j)) oDivB := lIc fun _ _ _ => .int _
theorem lDiv : LO K (rI CDiv fun i j => .int (i / j)) oDiv := lIc fun _ _ _ => .int _
noncomputable def oNeg : D → Mem → AK → Prop := fun x M Q => match x with | .int i => Q (.int (-i)) M | _ => False
theorem lNeg : LU K (rU fun i => .int (-i)) oNeg := by
  intro F M H x dx Q R m rx h k
  cases rx <;> first
    | exact h.elim
    | exact ⟨_, rfl, k _ _ (.here m (.int _) h)⟩


mutual
noncomputable def D.py : D → PyData
  | .non => .none | .bl b => .bool b | .int i => .int i | .str x => .str x
  | .lst ds => .list (D.pys ds) | .scr ds => .list (D.pys ds) | .tup ds => .tuple (D.pys ds) | .ctp ds => .tuple (D.pys ds) | .obj _ => .none
noncomputable def D.pys : List D → List PyData
  | [] => []
  | d :: ds => D.py d :: D.pys ds
end
mutual
/-- no thing of the store in it -/
noncomputable def D.flat : D → Bool
  | .lst ds => D.flats ds | .scr ds => D.flats ds | .tup ds => D.flats ds | .ctp ds => D.flats ds | .obj _ => false
  | _ => true
noncomputable def D.flats : List D → Bool
  | [] => true
  | d :: ds => D.flat d && D.flats ds
end
mutual
theorem RD.rep {F H : Hp} (s : Same F H) : ∀ {x : V} {d : D}, RD K F x d → d.flat = true → Rep K H x d.py
  | _, _, .non, _ => by simp only [D.py]; exact .non
  | _, _, .bl b, _ => by simp only [D.py]; exact .bl b
  | _, _, .int i, _ => by simp only [D.py]; exact .int i
  | _, _, .str x, _ => by simp only [D.py]; exact .str x
  | _, _, .lst q rs, h => by simp only [D.py]; exact .lst (.of (s _ _ q)) (RDs.rep s rs (by simpa only [D.flat] using h))
  | _, _, .scr q rs, h => by simp only [D.py]; exact .lst (s.seq q) (RDs.rep s rs (by simpa only [D.flat] using h))
  | _, _, .tup q rs, h => by simp only [D.py]; exact .tup (.of (s _ _ q)) (RDs.rep s rs (by simpa only [D.flat] using h))
  | _, _, .ctp q rs, h => by simp only [D.py]; exact .tup (s.seqT q) (RDs.rep s rs (by simpa only [D.flat] using h))
  | _, _, .obj p, h => by simp [D.flat] at h
theorem RDs.rep {F H : Hp} (s : Same F H) : ∀ {xs : List V} {ds : List D}, RDs K F xs ds → D.flats ds = true → Reps K H xs (D.pys ds)
  | _, _, .nil, _ => by simp only [D.pys]; exact .nil
  | _, _, .cons h t, e => by
    simp only [D.flats, Bool.and_eq_true] at e
    simp only [D.pys]
    exact .cons (RD.rep s h e.1) (RDs.rep s t e.2)
end
noncomputable def drf (M : Mem) : D → D
  | .obj p => (match M p with | some (.lst ds) => .lst ds | _ => .obj p)
  | d => d
theorem drf_rep {F : Hp} {M : Mem} {H : Hp} {x : V} {d : D} (m : AM K F M H) (r : RD K F x d) (h : (drf M d).flat = true) : Rep K H x (drf M d).py := by
  cases d with
  | obj p =>
    unfold drf at h ⊢
    dsimp only at h ⊢
    cases r
    split at h
    · rename_i ds hd
      obtain ⟨u, e, r⟩ := m.mem _ _ hd
      obtain ⟨vs, rfl, r⟩ := r.isL
      simp only [D.py]
      exact .lst (.of e) (r.rep m.sub (by simpa only [D.flat] using h))
    · simp [D.flat] at h
  | _ => exact r.rep m.sub h
noncomputable def scalD : D → D → Bool
  | .non, .non => true | .non, .int _ => true | .int _, .non => true | .non, .bl _ => true | .bl _, .non => true | .non, .str _ => true | .str _, .non => true
  | .int _, .int _ => true | .bl _, .bl _ => true | .str _, .str _ => true
  | .int _, .str _ => true | .str _, .int _ => true | .bl _, .str _ => true | .str _, .bl _ => true
  | _, _ => false
noncomputable def eqS : D → D → Bool
  | .non, .non => true
  | .int a, .int b => decide (a = b)
  | .bl a, .bl b => decide (a = b)
  | .str a, .str b => decide (a = b)
  | _, _ => false
noncomputable def eqD (x y : D) : Bool := PyData.eqv x.py y.py
noncomputable def shD (d : D) : Bool := d.flat && SeqAt.shaped d.py
noncomputable def eqB (M : Mem) (x y : D) : Bool := if scalD x y = true then eqS x y else eqD (drf M x) (drf M y)
noncomputable def eqC (M : Mem) (x y : D) : Prop := scalD x y = true ∨ (shD (drf M x) = true ∧ shD (drf M y) = true)
noncomputable def oEq (neg : Bool) : A2 := fun x y M Q => eqC M x y ∧ Q (.bl (if neg then !eqB M x y else eqB M x y)) M
noncomputable def rEqs (K : PySem.W.Frag) : R2 := fun x y H Q => rEq x y H Q ∨ rEqD K false x y H Q
noncomputable def rNes (K : PySem.W.Frag) : R2 := fun x y H Q => rNe x y H Q ∨ rEqD K true x y H Q
theorem op_eqs (hu : X.A.units + 64 < cLine) : OpR X (compareOp .Eq) (rEqs X.K) := op_eq.or (op_eqD hu)
theorem op_nes (hu : X.A.units + 64 < cLine) : OpR X (compareOp .NotEq) (rNes X.K) := op_ne.or (op_neD hu)
theorem scal_of {F : Hp} {x y : V} {dx dy : D} (rx : RD K F x dx) (ry : RD K F y dy) (h : scalD dx dy = true) : scal x y = true ∧ decide (x = y) = eqS dx dy := by
  cases rx <;> cases ry <;> first
    | (simp [scalD] at h; done)
    | exact ⟨rfl, by simp [eqS]⟩
theorem lEq : LO K (rEqs K) (oEq false) := by
  intro F M H x y dx dy Q R m rx ry h k
  obtain ⟨hc, h⟩ := h
  by_cases hs : scalD dx dy = true
  · obtain ⟨h1, h2⟩ := scal_of rx ry hs
    refine .inl ⟨h1, k _ _ (.here m (.bl _) ?_)⟩
    rw [h2]
    simpa [eqB, hs] using h
  · rcases hc with hc | ⟨h1, h2⟩
    · exact absurd hc hs
    unfold shD at h1 h2
    simp only [Bool.and_eq_true] at h1 h2
    exact .inr ⟨_, _, drf_rep m rx h1.1, drf_rep m ry h2.1, h1.2, h2.2, k _ _ (.here m (.bl _) (by simpa [eqB, hs, eqD] using h))⟩
theorem lNe : LO K (rNes K) (oEq true) := by
  intro F M H x y dx dy Q R m rx ry h k
  obtain ⟨hc, h⟩ := h
  by_cases hs : scalD dx dy = true
  · obtain ⟨h1, h2⟩ := scal_of rx ry hs
    refine .inl ⟨h1, k _ _ (.here m (.bl _) ?_)⟩
    rw [h2]
    simpa [eqB, hs] using h
  · rcases hc with hc | ⟨h1, h2⟩
    · exact absurd hc hs
    unfold shD at h1 h2
    simp only [Bool.and_eq_true] at h1 h2
    exact .inr ⟨_, _, drf_rep m rx h1.1, drf_rep m ry h2.1, h1.2, h2.2, k _ _ (.here m (.bl _) (by simpa [eqB, hs, eqD] using h))⟩

noncomputable def isNon : D → Bool | .non => true | _ => false
noncomputable def oIsN (neg : Bool) : A2 := fun x y M Q => match y with | .non => Q (.bl (if neg then !isNon x else isNon x)) M | _ => False
theorem non_of {F : Hp} {x : V} {d : D} (r : RD K F x d) : decide (x = .non) = isNon d := by cases r <;> simp [isNon]
theorem lIs : LO K (fun x y H Q => y = .non ∧ Q (.bl (decide (x = .non))) H) (oIsN false) := by
  intro F M H x y dx dy Q R m rx ry h k
  cases ry <;> first
    | exact h.elim
    | exact ⟨rfl, k _ _ (.here m (.bl _) (by rw [non_of rx]; simpa [oIsN] using h))⟩
theorem lIsNot : LO K (fun x y H Q => y = .non ∧ Q (.bl (!decide (x = .non))) H) (oIsN true) := by
  intro F M H x y dx dy Q R m rx ry h k
  cases ry <;> first
    | exact h.elim
    | exact ⟨rfl, k _ _ (.here m (.bl _) (by rw [non_of rx]; simpa [oIsN] using h))⟩

noncomputable def flD : D → Bool | .non => true | .bl _ => true | .int _ => true | .str _ => true | _ => false
noncomputable def eqF : D → D → Bool
  | .non, .non => true
  | .bl a, .bl b => a == b
  | .bl a, .int b => (if a then 1 else 0) == b
  | .int a, .bl b => a == (if b then 1 else 0)
  | .int a, .int b => a == b
  | .str a, .str b => a == b
  | _, _ => false
noncomputable def inD (x : D) (ds : List D) : Bool := ds.any fun y => eqF y x
theorem flat_of {F : Hp} {x : V} {d : D} (r : RD K F x d) : flatV x = flD d := by cases r <;> rfl
theorem flats_of {F : Hp} : ∀ {xs : List V} {ds : List D}, RDs K F xs ds → xs.all flatV = ds.all flD
  | _, _, .nil => rfl
  | _, _, .cons h t => by simp only [List.all_cons, flat_of h, flats_of t]
theorem eqF_of {F : Hp} {x y : V} {d e : D} (r : RD K F x d) (q : RD K F y e) (h : flD d = true) (h' : flD e = true) : eqV x y = eqF d e := by
  cases r <;> cases q <;> first | rfl | (simp [flD] at h; done) | (simp [flD] at h'; done)
theorem inD_of {F : Hp} {x : V} {d : D} (r : RD K F x d) (h : flD d = true) : ∀ {xs : List V} {ds : List D}, RDs K F xs ds → ds.all flD = true → inV x xs = inD d ds
  | _, _, .nil, _ => rfl
  | _, _, .cons q t, e => by
    simp only [List.all_cons, Bool.and_eq_true] at e
    have ih := inD_of r h t e.2
    unfold inV inD at ih ⊢
    rw [List.any_cons, List.any_cons, eqF_of q r e.1 h, ih]
noncomputable def hasS (j i : Str) : Bool := !(Builtin.Str.occurrences j i 0 j.length 1).isEmpty
noncomputable def inB (M : Mem) : D → D → Option Bool
  | .str i, .str j => some (hasS j i)
  | x, y => (dq M y).bind fun ds => if (flD x && ds.all flD) = true then some (inD x ds) else none
noncomputable def oIn (neg : Bool) : A2 := fun x y M Q => opt (inB M x y) fun b => Q (.bl (if neg then !b else b)) M
noncomputable def rIns (K : PySem.W.Frag) : R2 := fun x y H Q => rIn K false x y H Q ∨ (∃ i j, x = .str i ∧ y = .str j ∧ Q (.bl (hasS j i)) H)
noncomputable def rNotIns (K : PySem.W.Frag) : R2 := fun x y H Q => rIn K true x y H Q ∨ (∃ i j, x = .str i ∧ y = .str j ∧ Q (.bl (!hasS j i)) H)
theorem op_ins : OpR X (compareOp .In) (rIns X.K) := op_in_seq.or op_in_str
theorem op_notIns : OpR X (compareOp .NotIn) (rNotIns X.K) := op_notIn_seq.or op_notin_str
theorem lInG {neg : Bool} {r : R2} (hs : ∀ i j H R, R (.bl (if neg then !hasS j i else hasS j i)) H → r (.str i) (.str j) H R) (hq : ∀ x p vs H R, (SqL K H p vs ∨ SqT K H p vs) → flatV x = true → vs.all flatV = true → R (.bl (if neg then !inV x vs else inV x vs)) H → r x (.ref p) H R) : LO K r (oIn neg) := by
  intro F M H x y dx dy Q R m rx ry h k
  obtain ⟨b, hb, h⟩ := some_ex h
  unfold inB at hb
  split at hb
  · cases rx; cases ry; cases hb
    exact hs _ _ _ _ (k _ _ (.here m (.bl _) h))
  · cases hd : dq M dy with
    | none => rw [hd] at hb; cases hb
    | some ds =>
      rw [hd] at hb
      simp only [Option.bind_some] at hb
      split at hb
      · rename_i hf
        cases hb
        simp only [Bool.and_eq_true] at hf
        obtain ⟨p, vs, rfl, e, r'⟩ := dq_rep m ry hd
        refine hq _ _ _ _ _ e (by rw [flat_of rx]; exact hf.1) (by rw [flats_of r']; exact hf.2) ?_
        rw [inD_of rx hf.1 r' hf.2]
        exact k _ _ (.here m (.bl _) h)
      · cases hb
theorem lIn : LO K (rIns K) (oIn false) := lInG (fun i j H R h => .inr ⟨i, j, rfl, rfl, by simpa using h⟩) fun x p vs H R e h1 h2 h => .inl ⟨p, vs, rfl, e, h1, h2, by simpa using h⟩
theorem lNotIn : LO K (rNotIns K) (oIn true) := lInG (fun i j H R h => .inr ⟨i, j, rfl, rfl, by simpa using h⟩) fun x p vs H R e h1 h2 h => .inl ⟨p, vs, rfl, e, h1, h2, by simpa using h⟩

theorem RDs.atI {F : Hp} {xs : List V} {ds : List D} {i : Int} {d : D} (r : RDs K F xs ds) (h : L2.atI ds i = some d) : ∃ x, L2.atI xs i = some x ∧ RD K F x d := by
  unfold L2.atI at h ⊢
  rw [r.length]
  cases q : ixN ds.length i with
  | none => rw [q] at h; cases h
  | some j =>
    rw [q] at h
    exact r.get h
noncomputable def ixF (M : Mem) : D → D → Option D
  | .str z, .int i => (atI z.cps.toList i).map fun c => .str ⟨#[c]⟩
  | x, .int i => (dq M x).bind fun ds => atI ds i
  | _, _ => none
noncomputable def ixC : D → D → Prop
  | .str z, .int _ => z.length ≤ sizeLine
  | _, _ => True
noncomputable def oIx : A2 := fun x y M Q => ixC x y ∧ opt (ixF M x y) fun d => Q d M
theorem lIx : LO K (rIx K) oIx := by
  intro F M H x y dx dy Q R m rx ry h k
  obtain ⟨hc, h⟩ := h
  obtain ⟨d, hd, hz⟩ := some_ex h
  unfold ixF at hd
  split at hd
  · rename_i z i
    cases rx; cases ry
    cases ha : atI z.cps.toList i with
    | none => rw [ha] at hd; cases hd
    | some c =>
      rw [ha] at hd
      cases hd
      exact .inr (.inr ⟨_, _, c, rfl, rfl, hc, ha, k _ _ (.here m (.str _) hz)⟩)
  · rename_i i _
    cases hq : dq M dx with
    | none => rw [hq] at hd; cases hd
    | some ds =>
      rw [hq] at hd
      have hd : atI ds i = some d := hd
      obtain ⟨p, vs, rfl, e, r⟩ := dq_rep m rx hq
      obtain ⟨v, hv, rv⟩ := r.atI hd
      cases ry
      rcases e with e | e
      · exact .inl ⟨p, vs, _, v, rfl, rfl, e, hv, k _ _ (.here m rv hz)⟩
      · exact .inr (.inl ⟨p, vs, _, v, rfl, rfl, e, hv, k _ _ (.here m rv hz)⟩)
  · cases hd
end
end L2

set_option Elab.async false
set_option linter.all false
set_option maxRecDepth 100000
namespace L2
open PySem PySem.Spec PySem.Calls PyProof.Rows


noncomputable abbrev AO := G → Mem → (Option Int → Mem → Prop) → Prop
noncomputable def selfO (X : Cx) (e : Option Expr) : TO := fun σ H Q => ∀ pins s, Inv X pins σ H s → wpAny (model X.prog X.w) X.A (evalPart e X.env) (fun u s' => ∃ o H', Inv X pins σ H' s' ∧ IsPart u o ∧ Q o H') X.xe s
theorem po_self {X : Cx} {e : Option Expr} : PO X e (selfO X e) := fun pins s _ _ _ I h => h pins s I
theorem PO.to {X : Cx} {e : Option Expr} {σ : St} {H : Hp} {t : TO} {Q : Option Int → Hp → Prop} (h : PO X e t) (hw : t σ H Q) : selfO X e σ H Q := fun pins s I => h pins s σ H Q I hw
theorem selfO.mono {X : Cx} {e : Option Expr} {σ : St} {H : Hp} {Q Q' : Option Int → Hp → Prop} (h : selfO X e σ H Q) (k : ∀ v H', Q v H' → Q' v H') : selfO X e σ H Q' := fun pins s I => thn (h pins s I) fun _ _ ⟨o, H', J, r, q⟩ => ⟨o, H', J, r, k o H' q⟩
noncomputable def PQo (K : PySem.W.Frag) (F : Hp) (Q : Option Int → Mem → Prop) : Option Int → Hp → Prop := fun o H' => ∃ F' M', Same F F' ∧ AM K F' M' H' ∧ Q o M'
structure POA (X : Cx) (F0 : Hp) (e : Option Expr) (t : AO)  : Prop where
  run : ∀ F Γ M σ H Q, Same F0 F → AG X.K F Γ σ → AM X.K F M H → t Γ M Q → selfO X e σ H (PQo X.K F Q)
noncomputable def aNoPart : AO := fun _ M Q => Q none M
noncomputable def aPart (t : AE) : AO := fun Γ M Q => t Γ M fun d M1 => match d with | .int i => Q (some i) M1 | _ => False
noncomputable def aSl (r : D → Option Int → Option Int → Mem → AK → Prop) (te : AE) (tl th : AO) : AE := fun Γ M Q => te Γ M fun x M1 => tl Γ M1 fun l M2 => th Γ M2 fun u M3 => r x l u M3 Q
noncomputable def LS (K : PySem.W.Frag) (r : V → Option Int → Option Int → Hp → VK → Prop) (a : D → Option Int → Option Int → Mem → AK → Prop) : Prop :=
  ∀ (F : Hp) (M : Mem) (H : Hp) (x : V) (d : D) (lo hi : Option Int) (Q : AK) (R : VK), AM K F M H → RD K F x d → a d lo hi M Q → (∀ v H', PQ K F Q v H' → R v H') → r x lo hi H R
noncomputable def cut (ds : List D) (lo hi : Option Int) : List D := (ds.drop (HT.sIx ds.length 0 lo)).take (HT.sIx ds.length ds.length hi - HT.sIx ds.length 0 lo)
noncomputable def slF (M : Mem) (lo hi : Option Int) : D → Option D
  | .str z => some (.str (Txt.slice z lo hi))
  | x => (dr M x).map fun ds => .lst (cut ds lo hi)
noncomputable def slC : D → Prop
  | .str z => z.length ≤ sizeLine
  | _ => True
noncomputable def oSl : D → Option Int → Option Int → Mem → AK → Prop := fun x lo hi M Q => slC x ∧ opt (slF M lo hi x) fun d => Q d M
noncomputable def rSls (K : PySem.W.Frag) : V → Option Int → Option Int → Hp → VK → Prop := fun x lo hi H Q => rSlS x lo hi H Q ∨ rSlL K x lo hi H Q
section
variable {X : Cx} {F0 : Hp} {e : Expr} {pos p2 : Pos} {te : AE} {lo hi : Option Expr} {tl th : AO} {K : PySem.W.Frag}
theorem poN : POA X F0 none aNoPart := ⟨fun F Γ M σ H Q _ _ m h => po_none.to ⟨F, M, .refl F, m, h⟩⟩
theorem poS (h : PEA X F0 e te) : POA X F0 (some e) (aPart te) := by
  refine ⟨?_⟩
  intro F Γ M σ H Q f0 g m hw
  refine (po_some pe_self).to ((h.run F Γ M σ H _ f0 g m hw).mono fun v H1 zz9 => ?_)
  obtain ⟨d, F1, M1, s1, m1, r1, q1⟩ := zz9
  cases r1 <;> first
    | exact q1.elim
    | exact ⟨_, rfl, F1, M1, s1, m1, q1⟩
theorem paSl {r : V → Option Int → Option Int → Hp → VK → Prop} {o : D → Option Int → Option Int → Mem → AK → Prop} (hr : SlR X r) (l : LS X.K r o) (he : PEA X F0 e te) (hl : POA X F0 lo tl) (hh : POA X F0 hi th) :
    PEA X F0 (.Subscript e (.Slice lo hi none p2) pos) (aSl o te tl th) := by
  refine ⟨?_⟩
  intro F Γ M σ H Q f0 g m hw
  refine (pe_slice hr pe_self po_self po_self).to ((he.run F Γ M σ H _ f0 g m hw).mono fun v H1 zz9 => ?_)
  obtain ⟨d, F1, M1, s1, m1, r1, q1⟩ := zz9
  refine (hl.run F1 Γ M1 σ H1 _ (f0.trans s1) (g.up s1) m1 q1).mono fun l1 H2 zz9 => ?_
  obtain ⟨F2, M2, s2, m2, q2⟩ := zz9
  refine (hh.run F2 Γ M2 σ H2 _ (f0.trans (s1.trans s2)) (g.up (s1.trans s2)) m2 q2).mono fun u1 H3 zz9 => ?_
  obtain ⟨F3, M3, s3, m3, q3⟩ := zz9
  exact l F3 M3 H3 v d l1 u1 Q _ m3 (r1.up (s2.trans s3)) q3 fun _ _ z => z.dn (s1.trans (s2.trans s3))
theorem cut_rep {F : Hp} {vs : List V} {ds : List D} (r : RDs K F vs ds) (lo hi : Option Int) : RDs K F (cutV vs lo hi) (cut ds lo hi) := by
  unfold cutV cut
  rw [r.length]
  exact (r.drop _).take _
theorem sl_all : SlR X (rSls X.K) := sl_str.or sl_list
theorem lSl : LS K (rSls K) oSl := by
  intro F M H x d lo hi Q R m rx h k
  obtain ⟨hc, h⟩ := h
  obtain ⟨d', hd, hz⟩ := some_ex h
  unfold slF at hd
  split at hd
  · cases rx; cases hd
    exact .inl ⟨_, rfl, hc, k _ _ (.here m (.str _) hz)⟩
  · cases hq : dr M d with
    | none => rw [hq] at hd; cases hd
    | some ds =>
      rw [hq] at hd
      cases hd
      obtain ⟨p, vs, rfl, e, r⟩ := dr_rep m rx hq
      exact .inr ⟨p, vs, rfl, e, fun l hn => k _ _ ⟨_, _, M, same_upd (m.fF hn), m.frz hn, .lst upd_same ((cut_rep r lo hi).up (same_upd (m.fF hn))), hz⟩⟩
end


section
variable {X : Cx} {K : PySem.W.Frag}
noncomputable def lenF (M : Mem) : D → Option Nat
  | .str z => some z.length
  | d => (match dd M d with | some kvs => some kvs.length | none => (dq M d).map List.length)
noncomputable def lenC : D → Prop
  | .str z => z.length ≤ sizeLine
  | _ => True
noncomputable def oLen : A1s := fun ds M Q => match ds with
  | [d] => lenC d ∧ opt (lenF M d) fun n => Q (.int n) M
  | _ => False
noncomputable def rLens (K : PySem.W.Frag) : List V → Hp → VK → Prop := fun xs H Q => (∃ x n, xs = [x] ∧ LenV K x H n ∧ Q (.int n) H) ∨ (∃ a kvs, xs = [V.ref a] ∧ H a = some (.dK kvs) ∧ Q (.int kvs.length) H)
theorem call_lens : CallR X (.builtin "len") (rLens X.K) := call_len.or call_lenD
theorem PF.length {κ : Type} {F : Hp} {a : List (κ × V)} {b : List (κ × D)} (h : PF K F a b) : a.length = b.length := Paired.length h
theorem lLen : LC K (rLens K) oLen := by
  intro F M H xs ds Q R m r h k
  unfold oLen at h
  split at h
  · rename_i d
    obtain ⟨x, rfl, rx⟩ := r.one'
    obtain ⟨hc, h⟩ := h
    obtain ⟨n, hn, hz⟩ := some_ex h
    unfold lenF at hn
    split at hn
    · cases rx; cases hn
      exact .inl ⟨_, _, rfl, ⟨hc, rfl⟩, k _ _ (.here m (.int _) hz)⟩
    · split at hn
      · rename_i kvs hd
        cases hn
        obtain ⟨p, ws, rfl, rfl, _, e, pf⟩ := dd_rep m rx hd
        exact .inr ⟨p, ws, rfl, e, k _ _ (.here m (.int _) (by rw [pf.length]; exact hz))⟩
      · cases hq : dq M d with
        | none => rw [hq] at hn; cases hn
        | some ds =>
          rw [hq] at hn
          cases hn
          obtain ⟨p, vs, rfl, e, r⟩ := dq_rep m rx hq
          refine .inl ⟨_, vs.length, rfl, ?_, k _ _ (.here m (.int _) (by rw [r.length]; exact hz))⟩
          rcases e with e | e
          · exact .inl ⟨vs, e, rfl⟩
          · exact .inr ⟨vs, e, rfl⟩
  · exact h.elim
noncomputable def oAbs : A1s := fun ds M Q => match ds with | [.int i] => Q (.int (if i < 0 then -i else i)) M | _ => False
theorem lAbs : LC K (fun xs H Q => ∃ i, xs = [.int i] ∧ Q (.int (if i < 0 then -i else i)) H) oAbs := by
  intro F M H xs ds Q R m r h k
  unfold oAbs at h
  split at h
  · obtain ⟨x, rfl, rx⟩ := r.one'
    cases rx
    exact ⟨_, rfl, k _ _ (.here m (.int _) h)⟩
  · exact h.elim
noncomputable def oMax : A1s := fun ds M Q => match ds with | [.int i, .int j] => Q (.int (if j > i then j else i)) M | _ => False
theorem lMax : LC K (fun xs H Q => ∃ i j, xs = [.int i, .int j] ∧ Q (.int (if j > i then j else i)) H) oMax := by
  intro F M H xs ds Q R m r h k
  unfold oMax at h
  split at h
  · obtain ⟨x, y, rfl, rx, ry⟩ := r.two'
    cases rx; cases ry
    exact ⟨_, _, rfl, k _ _ (.here m (.int _) h)⟩
  · exact h.elim
end


section
variable {X : Cx} {F0 : Hp} {e o : Expr} {es : List Expr} {apos cpos : Pos} {to : AE} {tt : AA} {K : PySem.W.Frag} {T id : String} {name : Str} {r : V → List V → Hp → VK → Prop} {q : A1m}
theorem kindD_ty {F : Hp} {M : Mem} {H : Hp} {x : V} {d : D} (m : AM K F M H) (rx : RD K F x d) (h : kindD M d = T) (hT : T = "list" ∨ T = "dict" ∨ T = "str") : tyV K T x H := by
  cases rx <;> (unfold kindD at h; dsimp only at h) <;> first
    | (subst h; exact absurd hT (by decide))
    | (subst h; rfl)
    | skip
  · rename_i a xs ds e r
    subst h; exact .inl ⟨rfl, xs, .of (m.sub _ _ e)⟩
  · rename_i a xs ds e r
    subst h; exact .inl ⟨rfl, xs, m.sub.seq e⟩
  · rename_i p
    split at h
    · rename_i ds hd
      subst h
      obtain ⟨u, e, r⟩ := m.mem _ _ hd
      obtain ⟨vs, rfl, r⟩ := r.isL
      exact .inl ⟨rfl, vs, .of e⟩
    · rename_i ds hd
      subst h
      obtain ⟨u, e, r⟩ := m.mem _ _ hd
      obtain ⟨vs, rfl, r⟩ := r.isD
      exact .inr (.inr (.inl ⟨rfl, .inl ⟨vs, e⟩⟩))
    · subst h; exact absurd hT (by decide)
theorem paBM (pa : PlainAttrs T) (slot : Slot T name id) (hty : typeOf (.builtin id) = pure (.type "method_descriptor")) (hm : MtR X id r) (l : LM X.K r q) (ho : PEA X F0 o to) (ha : PAA X F0 (e :: es) tt) (hT : T = "list" ∨ T = "dict" ∨ T = "str" := by decide)
    (hbase : attributeBase o name X.env (eval o X.env) = eval o X.env := by rfl)
    (hfew : ((backTo cpos (starEach (e :: es) X.env)).all (fun x => !x.1) && (backToKw cpos (keywordEach [] X.env)).all (fun x => x.1.isSome)
      && decide ((e :: es).length + ([] : List Keyword).length + (if ([] : List Keyword).isEmpty then 0 else 1) < 30)) = true := by rfl)
    (hline : (apos.endLine == cpos.line) = true := by rfl) (hs : starEach (e :: es) X.env = (false, eval e X.env) :: starEach es X.env := by rfl) (hplain : (backTo cpos (starEach es X.env)).any (·.1) = false := by rfl) :
    PEA X F0 (.Call (.Attribute o name apos) (e :: es) [] cpos) (aBM T q to tt) := by
  refine ⟨?_⟩
  intro F Γ M σ H Q f0 g m hw
  refine (pe_bm pa slot hty hm pe_self pa_self hbase hfew hline hs hplain).to ((ho.run F Γ M σ H _ f0 g m hw).mono fun v H1 ⟨d, F1, M1, s1, m1, r1, hk, q1⟩ => ⟨kindD_ty m1 r1 hk hT, ?_⟩)
  refine (ha.run F1 Γ M1 σ H1 _ (f0.trans s1) (g.up s1) m1 q1).mono fun vs H2 zz9 => ?_
  obtain ⟨ds, F2, M2, s2, m2, r2, q2⟩ := zz9
  exact l F2 M2 H2 v d vs ds Q _ m2 (r1.up s2) r2 q2 fun _ _ z => z.dn (s1.trans s2)
theorem obj_lst {F : Hp} {M : Mem} {H : Hp} {p : Addr} {ds : List D} (m : AM K F M H) (h : M p = some (.lst ds)) : ∃ vs, H p = some (.lst vs) ∧ RDs K F vs ds := by
  obtain ⟨u, e, r⟩ := m.mem _ _ h
  obtain ⟨vs, rfl, r⟩ := r.isL
  exact ⟨vs, e, r⟩
noncomputable def oAppend : A1m := fun x vs M Q => match x, vs with
  | .obj p, [y] => (match M p with | some (.lst ds) => ds.length < 1000 ∧ Q .non (put M p (.lst (ds ++ [y]))) | _ => False)
  | _, _ => False
theorem lAppend : LM K rAppend oAppend := by
  intro F M H x d xs ds Q R m rx r h k
  unfold oAppend at h
  split at h
  · cases rx
    rename_i p y
    split at h
    · rename_i es hd
      obtain ⟨vs, e, rr⟩ := obj_lst m hd
      obtain ⟨w, rfl, rw'⟩ := r.one'
      exact ⟨p, vs, w, rfl, rfl, e, by rw [rr.length]; exact small1000 (Nat.le_of_lt h.1), k _ _ (.here (m.set hd (u := .lst (vs ++ [w])) (o' := .lst (es ++ [y])) (rr.append (.cons rw' .nil))) .non h.2)⟩
    · exact h.elim
  · exact h.elim
noncomputable def oPop0 : A1m := fun x vs M Q => match x, vs with
  | .obj p, [.int 0] => (match M p with | some (.lst (d :: ds)) => Q d (put M p (.lst ds)) | _ => False)
  | _, _ => False
theorem lPop0 : LM K rPopAt oPop0 := by
  intro F M H x d xs ds Q R m rx r h k
  unfold oPop0 at h
  split at h
  · cases rx
    rename_i p
    split at h
    · rename_i d1 es hd
      obtain ⟨vs, e, rr⟩ := obj_lst m hd
      obtain ⟨w, rfl, rw'⟩ := r.one'
      cases rw'
      cases rr with
      | cons r1 r2 =>
        rename_i v1 vs1
        refine ⟨p, v1 :: vs1, 0, 0, v1, rfl, rfl, e, by decide, by decide, ?_, rfl, ?_⟩
        · unfold seqIndex?; simp
        · exact k _ _ (.here (m.set hd (u := .lst vs1) (o' := .lst es) r2) r1 h)
    · exact h.elim
  · exact h.elim
end
end L2

set_option Elab.async false
set_option linter.all false
set_option maxRecDepth 100000
namespace L2
open PySem PySem.Spec PySem.Calls PyProof.Rows


noncomputable abbrev AX := G → Mem → Value → Prop
noncomputable def liftR (K : PySem.W.Frag) (F0 : Hp) (R : AX) : RX := fun σ H cls _ => ∃ F Γ M, Same F0 F ∧ AG K F Γ σ ∧ AM K F M H ∧ R Γ M cls
theorem XS.imp {X : Cx} {R R' : RX} (h : ∀ σ H cls a, R σ H cls a → R' σ H cls a) {e : Value} {s' : Shared} (x : XS X R e s') : XS X R' e s' := by
  obtain ⟨a, σ, H, B, cls, a0, m, e1, I, ex, r⟩ := x
  exact ⟨a, σ, H, B, cls, a0, m, e1, I, ex, h _ _ _ _ r⟩
theorem Thr.imp {X : Cx} {R R' : RX} (T : Thr X R') (h : ∀ σ H cls a, R σ H cls a → R' σ H cls a) : Thr X R := fun e s' x => T e s' (x.imp h)

structure Cat (X : Cx) (F0 : Hp) (R : AX) : Prop where
  thr : Thr X (liftR X.K F0 R)
  pl : Plain X
  calm : X.calm = true
  pass : X.A.frames = some X.stack → PassesOwn (model X.prog X.w) X.A X.env X.xe
  un : X.A.units + 64 < cLine

theorem un64 {X : Cx} {F0 : Hp} {R : AX} (c : Cat X F0 R) : X.A.units + 64 < cLine := c.un
theorem un1 {X : Cx} {F0 : Hp} {R : AX} (c : Cat X F0 R) : X.A.units + 1 < cLine := Nat.lt_of_le_of_lt (Nat.add_le_add_left (by decide : 1 ≤ 64) _) c.un

noncomputable abbrev SpA := List D → Mem → AK → (Value → Mem → Prop) → Prop
noncomputable def liftS (K : PySem.W.Frag) (sa : SpA) : Sp := fun vs H Q E => ∃ F ds M Qa Ea, AM K F M H ∧ RDs K F vs ds ∧ sa ds M Qa Ea ∧ (∀ v H', PQ K F Qa v H' → Q v H') ∧ ∀ cls H', (∃ F' M', Same F F' ∧ AM K F' M' H' ∧ Ea cls M') → E cls none H'
noncomputable def Rt (Q : AK) : AK := fun d M => (∃ M', Sub M' M ∧ Q d M') ∨ ∃ p ds M', d = .obj p ∧ M p = some (.lst ds) ∧ Sub M' (del M p) ∧ Q (.lst ds) M'
theorem Rt.now {Q : AK} {d : D} {M : Mem} (h : Q d M) : Rt Q d M := .inl ⟨M, .refl M, h⟩
theorem Rt.sub {Q : AK} {d : D} {M M' : Mem} (s : Sub M' M) (h : Q d M') : Rt Q d M := .inl ⟨M', s, h⟩
theorem Sub.del {M : Mem} {p : Addr} {o : MO} (h : M p = none) : Sub M (del (L2.put M p o) p) := by rw [del_put h]; exact .refl M
theorem Rt.fz {Q : AK} {p : Addr} {M : Mem} {ds : List D} (hp : M p = none) (h : Q (.lst ds) M) : Rt Q (.obj p) (put M p (.lst ds)) := .inr ⟨p, ds, M, rfl, put_same, .del hp, h⟩
theorem PQ.rt {K : PySem.W.Frag} {F : Hp} {Q : AK} {v : V} {H : Hp} (h : PQ K F (Rt Q) v H) : PQ K F Q v H := by
  obtain ⟨d, F', M', s, m, r, q⟩ := h
  rcases q with ⟨M2, hs, q⟩ | ⟨p, ds, M2, rfl, hp, hs, q⟩
  · exact ⟨d, F', M2, s, m.less hs, r, q⟩
  · obtain ⟨F2, s2, m2, r2⟩ := m.freeze hp
    cases r
    exact ⟨_, F2, M2, s.trans s2, m2.less hs, r2, q⟩
section
variable {X : Cx} {F0 : Hp} {R : AX} {k : Nat} {x : Str} {ps : List Str} {sa : SpA} {p pos apos : Pos} {e o : Expr} {es : List Expr} {tt : AA} {to : AE} {C : Addr} {m : Str}
noncomputable def aFun (sa : SpA) (R : AX) (t : AA) : AE := fun Γ M Q => t Γ M fun ds M1 => sa ds M1 Q fun cls M' => R Γ M' cls
theorem paFun (h : Has X.prog X.w X.K X.mg X.base (CXE X.prog X.w) k x ps (liftS X.K sa)) (hr : Room k X.A) (hg : Gl X x) (c : Cat X F0 R) (ha : PAA X F0 (e :: es) tt)
    (hdb : (x == ("__debug__" : Str)) = false := by decide) (he : starEach (e :: es) X.env = (false, eval e X.env) :: starEach es X.env := by rfl) (hpl : (backTo pos (starEach es X.env)).any (·.1) = false := by rfl) :
    PEA X F0 (.Call (.Name x p) (e :: es) [] pos) (aFun sa R tt) := by
  refine ⟨?_⟩
  intro F Γ M σ H Q f0 g mm hw
  refine (pe_callX h hr hg c.thr c.pl pa_self hdb he hpl).to ((ha.run F Γ M σ H _ f0 g mm hw).mono fun vs H1 zz9 => ?_)
  obtain ⟨ds, F1, M1, s1, m1, r1, q1⟩ := zz9
  exact ⟨F1, ds, M1, _, _, m1, r1, q1, fun v H' z => z.dn s1, fun cls H' ⟨F', M', s', m', q'⟩ a => ⟨F', Γ, M', f0.trans (s1.trans s'), g.up (s1.trans s'), m', q'⟩⟩
noncomputable def insAt (o : Option MO) (C : Addr) (R : List (Str × D) → Prop) : Prop := match o with | some (.ins C' fs) => C' = C ∧ R fs | _ => False
theorem insAt_some {C : Addr} {fs : List (Str × D)} {R : List (Str × D) → Prop} : insAt (some (.ins C fs)) C R = R fs := by
  unfold insAt; simp
theorem ins_ex {o : Option MO} {C : Addr} {R : List (Str × D) → Prop} (h : insAt o C R) : ∃ fs, o = some (.ins C fs) ∧ R fs := by
  unfold insAt at h
  split at h
  · obtain ⟨rfl, h⟩ := h; exact ⟨_, rfl, h⟩
  · exact h.elim
noncomputable def aMeth (C : Addr) (m : Str) (sa : SpA) (R : AX) (to : AE) (t : AA) : AE := fun Γ M Q => to Γ M fun x M1 => match x with
  | .obj p => insAt (M1 p) C fun fs => fs.lookup m = none ∧ t Γ M1 fun ds M2 => sa (.obj p :: ds) M2 Q fun cls M' => R Γ M' cls
  | _ => False
theorem PF.lookup {K : PySem.W.Frag} {F : Hp} {f : Str} : ∀ {a : List (Str × V)} {b : List (Str × D)}, PF K F a b → (b.lookup f = none → a.lookup f = none) ∧ ∀ d, b.lookup f = some d → ∃ v, a.lookup f = some v ∧ RD K F v d
  | _, _, .nil => ⟨fun _ => rfl, fun d h => by cases h⟩
  | (n, v) :: a, (n', d) :: b, .cons ⟨h1, h2⟩ t => by
    dsimp only at h1 h2
    subst h1
    simp only [List.lookup_cons]
    split
    · refine ⟨fun h => ?_, fun d' h => ?_⟩
      · cases h
      · cases h; exact ⟨_, rfl, h2⟩
    · exact PF.lookup t
theorem pe_methX0 {pl : Sem Bool} {sp : Sp} {R : RX} {ta : TE} (h : HasM X.prog X.w X.K X.mg X.base (CXE X.prog X.w) k C m ps sp) (hr : Room k X.A) (T : Thr X R) (Pl : Plain X) (ho : PE X o ta)
    (ht : eval (.Call (.Attribute o m apos) [] [] pos) X.env = (do
      let ov ← eval o X.env
      standAt apos.atName
      let (f, first) ← holding [ov] (getMethod ov m pl)
      callWith pos f first (backTo pos (starEach [] X.env)) (backToKw pos (keywordEach [] X.env))) := by rfl) :
    PE X (.Call (.Attribute o m apos) [] [] pos) (tMethX C m sp R ta tNil) := by
  intro pins s σ H Q I hw
  obtain ⟨f, fd, F, hm, hb⟩ := h.ex
  refine PySem.W.methodCall_KW (pl := pl) (thn (ho pins s σ H _ I hw) fun u s1 ⟨x, H1, I1, rx, a, dx, fs, ex, ea, l, q⟩ => ?_) ht
  subst ex
  obtain rfl : u = Value.ref a := rx
  refine getmeth_ok I1 ea h.cl hm l ?_
  exact PySem.W.callWith_K0 (first := [.ref a]) I1.kIn hm.kp (run_fnX (us := [.ref a]) (vs := [.ref a]) F hr hb T Pl I1 (.cons rfl .nil) q)
theorem paMeth {pl : Sem Bool} (h : HasM X.prog X.w X.K X.mg X.base (CXE X.prog X.w) k C m ps (liftS X.K sa)) (hr : Room k X.A) (c : Cat X F0 R) (ho : PEA X F0 o to) (ha : PAA X F0 (e :: es) tt)
    (hst : starEach (e :: es) X.env = (false, eval e X.env) :: starEach es X.env := by rfl) (hpl : (backTo pos (starEach es X.env)).any (·.1) = false := by rfl)
    (ht : eval (.Call (.Attribute o m apos) (e :: es) [] pos) X.env = (do
      let ov ← eval o X.env
      standAt apos.atName
      let (f, first) ← holding [ov] (getMethod ov m pl)
      callWith pos f first (backTo pos (starEach (e :: es) X.env)) (backToKw pos (keywordEach [] X.env))) := by rfl) :
    PEA X F0 (.Call (.Attribute o m apos) (e :: es) [] pos) (aMeth C m sa R to tt) := by
  refine ⟨?_⟩
  intro F Γ M σ H Q f0 g mm hw
  refine (pe_methX h hr c.thr c.pl pe_self pa_self hst hpl ht).to ((ho.run F Γ M σ H _ f0 g mm hw).mono fun v H1 zz9 => ?_)
  obtain ⟨d, F1, M1, s1, m1, r1, q1⟩ := zz9
  obtain ⟨pp, rfl, rfl⟩ : ∃ pp, v = .ref pp ∧ d = .obj pp := by cases r1 <;> first | exact q1.elim | exact ⟨_, rfl, rfl⟩
  obtain ⟨fs, hp, hl, q1⟩ := ins_ex q1
  obtain ⟨u, e1, ro⟩ := m1.mem _ _ hp
  obtain ⟨dx, ws, rfl, pf⟩ := ro.isI
  refine ⟨pp, dx, ws, rfl, e1, pf.lookup.1 hl, ?_⟩
  refine (ha.run F1 Γ M1 σ H1 _ (f0.trans s1) (g.up s1) m1 q1).mono fun vs H2 zz9 => ?_
  obtain ⟨ds, F2, M2, s2, m2, r2, q2⟩ := zz9
  exact ⟨F2, .obj pp :: ds, M2, _, _, m2, .cons (.obj pp) r2, q2, fun v H' z => z.dn (s1.trans s2), fun cls H' ⟨F', M', s', m', q'⟩ a => ⟨F', Γ, M', f0.trans (s1.trans (s2.trans s')), g.up (s1.trans (s2.trans s')), m', q'⟩⟩
theorem paMeth0 {pl : Sem Bool} (h : HasM X.prog X.w X.K X.mg X.base (CXE X.prog X.w) k C m ps (liftS X.K sa)) (hr : Room k X.A) (c : Cat X F0 R) (ho : PEA X F0 o to)
    (ht : eval (.Call (.Attribute o m apos) [] [] pos) X.env = (do
      let ov ← eval o X.env
      standAt apos.atName
      let (f, first) ← holding [ov] (getMethod ov m pl)
      callWith pos f first (backTo pos (starEach [] X.env)) (backToKw pos (keywordEach [] X.env))) := by rfl) :
    PEA X F0 (.Call (.Attribute o m apos) [] [] pos) (aMeth C m sa R to aNil) := by
  refine ⟨?_⟩
  intro F Γ M σ H Q f0 g mm hw
  refine (pe_methX0 h hr c.thr c.pl pe_self ht).to ((ho.run F Γ M σ H _ f0 g mm hw).mono fun v H1 zz9 => ?_)
  obtain ⟨d, F1, M1, s1, m1, r1, q1⟩ := zz9
  obtain ⟨pp, rfl, rfl⟩ : ∃ pp, v = .ref pp ∧ d = .obj pp := by cases r1 <;> first | exact q1.elim | exact ⟨_, rfl, rfl⟩
  obtain ⟨fs, hp, hl, q1⟩ := ins_ex q1
  obtain ⟨u, e1, ro⟩ := m1.mem _ _ hp
  obtain ⟨dx, ws, rfl, pf⟩ := ro.isI
  refine ⟨pp, dx, ws, rfl, e1, pf.lookup.1 hl, ?_⟩
  exact ⟨F1, [.obj pp], M1, _, _, m1, .cons (.obj pp) .nil, q1, fun v H' z => z.dn s1, fun cls H' ⟨F', M', s', m', q'⟩ a => ⟨F', Γ, M', f0.trans (s1.trans s'), g.up (s1.trans s'), m', q'⟩⟩

structure Pln (K : PySem.W.Frag) (C : Addr) (f : Str) : Prop where
  cl : Cls K C
  no : NoAttr K C f
noncomputable def aFldC (C : Addr) (f : Str) (to : AE) : AE := fun Γ M Q => to Γ M fun x M1 => match x with
  | .obj p => insAt (M1 p) C fun fs => opt (fs.lookup f) fun d => Q d M1
  | _ => False
theorem paFld {f : Str} (P : Pln X.K C f) (ho : PEA X F0 e to) (hb : attributeBase e f X.env (eval e X.env) = eval e X.env) : PEA X F0 (.Attribute e f pos) (aFldC C f to) := by
  refine ⟨?_⟩
  intro F Γ M σ H Q f0 g mm hw
  refine (pe_fld pe_self hb).to ((ho.run F Γ M σ H _ f0 g mm hw).mono fun v H1 zz9 => ?_)
  obtain ⟨d, F1, M1, s1, m1, r1, q1⟩ := zz9
  obtain ⟨pp, rfl, rfl⟩ : ∃ pp, v = .ref pp ∧ d = .obj pp := by cases r1 <;> first | exact q1.elim | exact ⟨_, rfl, rfl⟩
  obtain ⟨fs, hp, q1⟩ := ins_ex q1
  obtain ⟨d, hl, q⟩ := some_ex q1
  obtain ⟨u, e1, ro⟩ := m1.mem _ _ hp
  obtain ⟨dx, ws, rfl, pf⟩ := ro.isI
  obtain ⟨v, lv, rv⟩ := pf.lookup.2 d hl
  exact ⟨pp, C, dx, ws, v, rfl, e1, P.cl, P.no, lv, d, F1, M1, s1, m1, rv, q⟩
noncomputable def putD (f : Str) (v : D) : List (Str × D) → List (Str × D)
  | [] => [(f, v)]
  | (g, x) :: r => if g = f then (g, v) :: r else (g, x) :: putD f v r
end
end L2

set_option Elab.async false
set_option linter.all false
set_option maxRecDepth 100000
namespace L2
open PySem PySem.Spec PySem.Calls PyProof.Rows

section
variable {X : Cx} {F0 : Hp} {R : AX} {e o c : Expr} {es : List Expr} {pos pos' : Pos} {te t_o : AE} {tt : AA} {t u : AS} {st : Stmt} {rest a b : List Stmt} {tc : AT}

noncomputable def aNext : AS := fun E Γ M => E.nx Γ M
noncomputable def aSeq (t u : AS) : AS := fun E Γ M => t { E with nx := u E } Γ M
theorem ssNil : PSsA X F0 [] aNext := ⟨fun F Γ M σ H E _ g m h => pss_nil.to (PQg.here m g h)⟩
theorem ssCons (h1 : PSA X F0 st t) (h2 : PSsA X F0 rest u) : PSsA X F0 (st :: rest) (aSeq t u) := by
  refine ⟨?_⟩
  intro F Γ M σ H E f0 g m h
  refine (pss_cons ps_self pss_self).to ((h1.run F Γ M σ H _ f0 g m h).mono ⟨fun σ1 H1 ⟨F1, Γ1, M1, s1, g1, m1, q1⟩ => ?_, fun _ _ z => z, fun _ _ z => z, fun _ _ z => z⟩)
  exact (h2.run F1 Γ1 M1 σ1 H1 E (f0.trans s1) g1 m1 q1).mono (PQD.dn s1)
theorem ssOne (h1 : PSA X F0 st t) : PSsA X F0 [st] t := ⟨fun F Γ M σ H E f0 g m h => (pss_one ps_self).to (h1.run F Γ M σ H E f0 g m h)⟩
noncomputable def aDrop (te : AE) : AS := fun E Γ M => te Γ M fun _ M1 => E.nx Γ M1
theorem sExpr (he : PEA X F0 e te) (hs : swapsWith e none pos.line X.env = pure false := by rfl) : PSA X F0 (.Expr e pos) (aDrop te) := by
  refine ⟨?_⟩
  intro F Γ M σ H E f0 g m h
  exact (ps_expr pe_self hs).to ((he.run F Γ M σ H _ f0 g m h).mono fun v H1 ⟨d, F1, M1, s1, m1, _, q1⟩ => ⟨F1, Γ, M1, s1, g.up s1, m1, q1⟩)
noncomputable def aRet (te : AE) : AS := fun E Γ M => te Γ M E.rt
theorem sRet (he : PEA X F0 e te) : PSA X F0 (.Return (some e) pos) (aRet te) := ⟨fun F Γ M σ H E f0 g m h => (ps_ret pe_self).to (he.run F Γ M σ H _ f0 g m h)⟩
noncomputable def aRetN : AS := fun E _ M => E.rt .non M
noncomputable def aIf (c : AT) (t u : AS) : AS := fun E Γ M => c Γ M fun b M1 => if b = true then t E Γ M1 else u E Γ M1
theorem sIf (hc : PTA X F0 c tc) (ha : PSsA X F0 a t) (hb : PSsA X F0 b u) : PSA X F0 (.If c a b pos) (aIf tc t u) := by
  refine ⟨?_⟩
  intro F Γ M σ H E f0 g m h
  refine (ps_if pt_self pss_self pss_self).to ((hc.run F Γ M σ H _ f0 g m h).mono fun k H1 zz9 => ?_)
  obtain ⟨F1, M1, s1, m1, q1⟩ := zz9
  cases k with
  | true =>
    rw [if_pos rfl] at q1 ⊢
    exact (ha.run F1 Γ M1 σ H1 E (f0.trans s1) (g.up s1) m1 q1).mono (PQD.dn s1)
  | false =>
    rw [if_neg Bool.false_ne_true] at q1 ⊢
    exact (hb.run F1 Γ M1 σ H1 E (f0.trans s1) (g.up s1) m1 q1).mono (PQD.dn s1)

noncomputable def gaN (i : Nat) : AGt := fun d Γ M Q => Q (Γ.set i (some d)) M
theorem tgName {i : Nat} {x : Str} (hN : X.N.Nodup) (hi : X.N[i]? = some x) (hx : Loc X.env.scope x) (hf : X.fn x = true ∨ X.env.scope.names.lookup x = some .local := by first | exact .inl rfl | exact .inr rfl | assumption) : PGA X F0 (.Name x pos) (gaN i) :=
  ⟨fun F Γ M σ H v d Q _ g m r h => (pg_name hN hi hx hf).to (PQg.here m (g.set r i) h)⟩
noncomputable def gaNil : AGts := fun ds Γ M Q => ds = [] ∧ Q Γ M
noncomputable def gaCons (t : AGt) (u : AGts) : AGts := fun ds Γ M Q => match ds with | d :: r => t d Γ M fun Γ' M' => u r Γ' M' Q | [] => False
theorem tgsNil : PGsA X F0 [] gaNil := by
  refine ⟨?_⟩
  intro F Γ M σ H vs ds Q _ g m r h
  obtain ⟨rfl, h⟩ := h
  cases r
  exact pgs_nil.to ⟨rfl, PQg.here m g h⟩
theorem tgsCons {gt : AGt} {gu : AGts} (h1 : PGA X F0 e gt) (h2 : PGsA X F0 es gu) (hs : (assignEach (e :: es) X.env).map (·.2) = assign e X.env :: (assignEach es X.env).map (·.2) := by rfl) : PGsA X F0 (e :: es) (gaCons gt gu) := by
  refine ⟨?_⟩
  intro F Γ M σ H vs ds Q f0 g m r h
  cases r with
  | nil => exact h.elim
  | cons r1 r2 =>
    refine (pgs_cons pg_self pgs_self hs).to ⟨_, _, rfl, ?_⟩
    refine (h1.run F Γ M σ H _ _ _ f0 g m r1 h).mono fun σ1 H1 zz9 => ?_
    obtain ⟨F1, Γ1, M1, s1, g1, m1, q1⟩ := zz9
    exact (h2.run F1 Γ1 M1 σ1 H1 _ _ Q (f0.trans s1) g1 m1 (r2.up s1) q1).mono fun _ _ z => z.dn s1
noncomputable def gaTup (n : Nat) (t : AGts) : AGt := fun d Γ M Q => match d with | .tup ds => ds.length = n ∧ t ds Γ M Q | _ => False
theorem tgTup {k : Nat} {gu : AGts} {n : Nat} (hc : X.calm = true) (h : PGsA X F0 es gu)
    (hn : (assignEach es X.env).length = n := by rfl) (hst : (assignEach es X.env).findIdx? (·.1) = none := by rfl) : PGA X F0 (.Tuple es k pos) (gaTup n gu) := by
  refine ⟨?_⟩
  intro F Γ M σ H v d Q f0 g m r hw
  cases r <;> first | exact hw.elim | skip
  rename_i a xs ds e r
  exact (pg_tup hc pgs_self hn hst).to ⟨a, xs, rfl, .of (m.sub _ _ e), by rw [r.length]; exact hw.1, h.run F Γ M σ H xs ds Q f0 g m r hw.2⟩
noncomputable def gaLst (n : Nat) (t : AGts) : AGt := fun d Γ M Q => match dr M d with | some ds => ds.length = n ∧ t ds Γ M Q | none => False
theorem tgLst {k : Nat} {gu : AGts} {n : Nat} (hc : X.calm = true) (h : PGsA X F0 es gu)
    (hn : (assignEach es X.env).length = n := by rfl) (hst : (assignEach es X.env).findIdx? (·.1) = none := by rfl) : PGA X F0 (.Tuple es k pos) (gaLst n gu) := by
  refine ⟨?_⟩
  intro F Γ M σ H v d Q f0 g m r hw
  unfold gaLst at hw
  split at hw
  · rename_i ds hd
    obtain ⟨p, vs, rfl, e, rr⟩ := dr_rep m r hd
    exact (pg_lst hc pgs_self hn hst).to ⟨p, vs, rfl, e, by rw [rr.length]; exact hw.1, h.run F Γ M σ H vs ds Q f0 g m rr hw.2⟩
  · exact hw.elim
noncomputable def gaSub (to ti : AE) : AGt := fun d Γ M Q => to Γ M fun x M1 => ti Γ M1 fun y M2 => match x, y with
  | .obj p, .int k => (match M2 p with | some (.lst ds) => (match ixN ds.length k with | some j => Q Γ (put M2 p (.lst (ds.set j d))) | none => False) | _ => False)
  | _, _ => False
noncomputable def aAsg (te : AE) (gt : AGt) : AS := fun E Γ M => te Γ M fun d M1 => gt d Γ M1 E.nx
theorem sAsg {tg : Expr} {gt : AGt} (he : PEA X F0 e te) (hg : PGA X F0 tg gt) (hs : swapsWithSole [tg] e pos.line X.env = pure false := by rfl) (hw : swappedStores [tg] e X.env = pure none := by rfl)
    (h1 : (assignEach [tg] X.env).map (·.2) = [assign tg X.env] := by rfl) : PSA X F0 (.Assign [tg] e pos) (aAsg te gt) := by
  refine ⟨?_⟩
  intro F Γ M σ H E f0 g m h
  refine (ps_asg pe_self pg_self hs hw h1).to ((he.run F Γ M σ H _ f0 g m h).mono fun v H1 zz9 => ?_)
  obtain ⟨d, F1, M1, s1, m1, r1, q1⟩ := zz9
  exact (hg.run F1 Γ M1 σ H1 v d _ (f0.trans s1) (g.up s1) m1 r1 q1).mono fun _ _ z => PQg.dn s1 z
noncomputable def aSet (i : Nat) (te : AE) : AS := fun E Γ M => te Γ M fun d M1 => E.nx (Γ.set i (some d)) M1
theorem sSet {i : Nat} {x : Str} (hN : X.N.Nodup) (hi : X.N[i]? = some x) (hx : Loc X.env.scope x) (he : PEA X F0 e te) (hs : swapsWith e (some (.Name x pos')) pos.line X.env = pure false := by rfl) (hf : X.fn x = true ∨ X.env.scope.names.lookup x = some .local := by first | exact .inl rfl | exact .inr rfl | assumption) :
    PSA X F0 (.Assign [.Name x pos'] e pos) (aSet i te) := by
  refine ⟨?_⟩
  intro F Γ M σ H E f0 g m h
  exact (ps_set hN hi hx pe_self hs hf).to ((he.run F Γ M σ H _ f0 g m h).mono fun v H1 ⟨d, F1, M1, s1, m1, r1, q1⟩ => ⟨F1, _, M1, s1, (g.up s1).set r1 i, m1, q1⟩)
noncomputable def aPar (i j : Nat) (t : AA) : AS := fun E Γ M => t Γ M fun ds M1 => match ds with | [v, w] => E.nx ((Γ.set i (some v)).set j (some w)) M1 | _ => False
theorem sPar {i j : Nat} {x y : Str} {a b : Expr} {px py pt : Pos} {kt k2 pt2} (hc : X.calm = true) (hN : X.N.Nodup) (hi : X.N[i]? = some x) (hj : X.N[j]? = some y) (hij : i ≠ j)
    (hx : X.env.scope.names.lookup x = some .local) (hy : X.env.scope.names.lookup y = some .local) (ha : PAA X F0 [a, b] tt)
    (hw : swappedStores [.Tuple [.Name x px, .Name y py] kt pt] (.Tuple [a, b] k2 pt2) X.env = pure (some [x, y]))
    (hs : swapsWithSole [.Tuple [.Name x px, .Name y py] kt pt] (.Tuple [a, b] k2 pt2) pos.line X.env = pure false := by rfl) :
    PSA X F0 (.Assign [.Tuple [.Name x px, .Name y py] kt pt] (.Tuple [a, b] k2 pt2) pos) (aPar i j tt) := by
  refine ⟨?_⟩
  intro F Γ M σ H E f0 g m h
  refine (ps_par hc hN hi hj hij hx hy pa_self hw hs).to ((ha.run F Γ M σ H _ f0 g m h).mono fun vs H1 zz9 => ?_)
  obtain ⟨ds, F1, M1, s1, m1, r1, q1⟩ := zz9
  try dsimp only at q1
  split at q1
  · obtain ⟨v, w, rfl, rv, rw'⟩ := r1.two'
    exact ⟨v, w, rfl, F1, _, M1, s1, ((g.up s1).set rv i).set rw' j, m1, q1⟩
  · exact q1.elim
noncomputable def aSetF (C : Addr) (f : Str) (to te : AE) : AS := fun E Γ M => te Γ M fun y M1 => to Γ M1 fun x M2 => match x with
  | .obj p => insAt (M2 p) C fun fs => fs.length < 1000 ∧ E.nx Γ (put M2 p (.ins C (putD f y fs)))
  | _ => False
theorem PF.put {K : PySem.W.Frag} {F : Hp} {f : Str} {v : V} {d : D} (r : RD K F v d) : ∀ {a : List (Str × V)} {b : List (Str × D)}, PF K F a b → PF K F (putF f v a) (putD f d b)
  | _, _, .nil => .cons ⟨rfl, r⟩ .nil
  | (n, _) :: _, (n', _) :: _, .cons ⟨h1, h2⟩ t => by
    dsimp only at h1 h2
    subst h1
    unfold putF putD
    split
    · exact .cons ⟨rfl, r⟩ t
    · exact .cons ⟨rfl, h2⟩ (PF.put r t)
theorem sSetF {C : Addr} {f : Str} (P : Pln X.K C f) (ho : PEA X F0 o t_o) (he : PEA X F0 e te) (hs : swapsWith e (some (.Attribute o f pos')) pos.line X.env = pure false) : PSA X F0 (.Assign [.Attribute o f pos'] e pos) (aSetF C f t_o te) := by
  refine ⟨?_⟩
  intro F Γ M σ H E f0 g m h
  refine (ps_fld pe_self pe_self hs).to (two he ho f0 g m h fun F2 M2 H2 v u x y s m2 r1 r2 q => ?_)
  cases r2 <;> first | exact q.elim | skip
  rename_i p
  obtain ⟨fs, hp, hl, q⟩ := ins_ex q
  obtain ⟨w, e1, ro⟩ := m2.mem _ _ hp
  obtain ⟨dx, ws, rfl, pf⟩ := ro.isI
  exact ⟨p, C, dx, ws, rfl, e1, P.cl, P.no, by rw [pf.length]; exact hl, F2, Γ, _, s, g.up s, m2.set hp (u := .ins C dx (putF f v ws)) (o' := .ins C (putD f x fs)) ⟨rfl, pf.put r1⟩, q⟩
noncomputable def aRaise (R : AX) (C : Addr) (t : AA) : AS := fun _ Γ M => t Γ M fun ds M1 => ds.length ≤ 1000 ∧ R Γ M1 (.ref C)
theorem sRaise {x : Str} {C : Addr} {np cpos : Pos} (k : Cat X F0 R) (O : ExCls X.K X.mg x C) (hg : Gl X x) (ha : PAA X F0 (e :: es) tt)
    (hd : (x == ("__debug__" : Str)) = false := by decide) (he : starEach (e :: es) X.env = (false, eval e X.env) :: starEach es X.env := by rfl) (hpl : (backTo cpos (starEach es X.env)).any (·.1) = false := by rfl) :
    PSA X F0 (.Raise (some (.Call (.Name x np) (e :: es) [] cpos)) none pos) (aRaise R C tt) := by
  refine ⟨?_⟩
  intro F Γ M σ H E f0 g m h
  refine (ps_raise k.thr k.pl O k.calm hg pa_self hd he hpl).to ((ha.run F Γ M σ H _ f0 g m h).mono fun vs H1 zz9 => ?_)
  obtain ⟨ds, F1, M1, s1, m1, r1, hl, q1⟩ := zz9
  exact ⟨by rw [r1.length]; exact k1000 hl, fun a => ⟨F1, Γ, M1, f0.trans s1, g.up s1, m1, q1⟩⟩

noncomputable def aWhile (c : AT) (tb : AS) : AS := fun E Γ M => ∃ W : Nat → G → Mem → Prop, (∃ m, W m Γ M) ∧ ∀ m Γ M, W m Γ M →
  c Γ M fun b M1 => if b = true then tb { E with nx := fun Γ' M' => ∃ m', m' < m ∧ W m' Γ' M', ct := fun Γ' M' => ∃ m', m' < m ∧ W m' Γ' M', bk := E.nx } Γ M1 else E.nx Γ M1
theorem sWhile {tb : AS} {body : List Stmt} (k : Cat X F0 R) (hc : PTA X F0 c tc) (hb : PSsA X F0 body tb) : PSA X F0 (.While c body [] pos) (aWhile tc tb) := by
  refine ⟨?_⟩
  intro F Γ M σ H E f0 g m h
  obtain ⟨W, ⟨m0, w0⟩, turn⟩ := h
  intro pins s I
  refine (ps_while (k.pass I.ok.frames) pt_self pss_self).to ⟨fun n σ' H' => ∃ F' Γ' M', Same F F' ∧ AG X.K F' Γ' σ' ∧ AM X.K F' M' H' ∧ W n Γ' M', ⟨m0, F, Γ, M, .refl F, g, m, w0⟩, ?_⟩ pins s I
  rintro n σ1 H1 ⟨F1, Γ1, M1, s1, g1, m1, w1⟩
  refine (hc.run F1 Γ1 M1 σ1 H1 _ (f0.trans s1) g1 m1 (turn n Γ1 M1 w1)).mono fun b H2 zz9 => ?_
  obtain ⟨F2, M2, s2, m2, q2⟩ := zz9
  cases b with
  | true =>
    rw [if_pos rfl] at q2 ⊢
    refine ⟨PQg X.K F (fun Γ' M' => ∃ m', m' < n ∧ W m' Γ' M'), fun σ' H' ⟨F', Γ', M', s', g', m', n'⟩ => ?_, ?_⟩
    · obtain ⟨k', hm, w'⟩ := n'
      exact ⟨k', hm, F', Γ', M', s', g', m', w'⟩
    · exact (hb.run F2 Γ1 M2 σ1 H2 _ (f0.trans (s1.trans s2)) (g1.up s2) m2 q2).mono ⟨fun _ _ z => PQg.dn (s1.trans s2) z, fun _ _ z => PQ.dn (s1.trans s2) z, fun _ _ z => PQg.dn (s1.trans s2) z, fun _ _ z => PQg.dn (s1.trans s2) z⟩
  | false =>
    rw [if_neg Bool.false_ne_true] at q2 ⊢
    exact ⟨F2, Γ1, M2, s1.trans s2, g1.up s2, m2, q2⟩

structure Src where
  n : Nat
  item : Nat → D
  held : Mem → Prop
noncomputable abbrev AI := G → Mem → (Src → Mem → Prop) → Prop
noncomputable def selfI (X : Cx) (tg iter : Expr) : TI := fun σ H Rr => ∀ pins s, Inv X pins σ H s → wpAny (model X.prog X.w) X.A (eval iter X.env) (fun v s1 => wpAny (model X.prog X.w) X.A (pyIter v) (PIE X pins σ tg Rr) X.xe s1) X.xe s
theorem pi_self {tg iter : Expr} : PI X tg iter (selfI X tg iter) := fun pins s _ _ _ I h => h pins s I
theorem PI.to {tg iter : Expr} {σ : St} {H : Hp} {wi : TI} {Rr : It → Hp → Prop} (h : PI X tg iter wi) (hw : wi σ H Rr) : selfI X tg iter σ H Rr := fun pins s I => h pins s σ H Rr I hw

structure ItS (K : PySem.W.Frag) (F : Hp) (J : It) (S : Src) : Prop where
  go : ∀ i F' M H, Same F F' → AM K F' M H → S.held M → i < S.n → J.go i H
  yld : ∀ i F' M H x H', Same F F' → AM K F' M H → S.held M → i < S.n → J.yld i H x H' → ∃ F2, Same F' F2 ∧ AM K F2 M H' ∧ RD K F2 x (S.item i)
  stop : ∀ F' M H, Same F F' → AM K F' M H → S.held M → J.stop S.n H
structure PIA (X : Cx) (F0 : Hp) (tg iter : Expr) (t : AI)  : Prop where
  run : ∀ F Γ M σ H Q, Same F0 F → AG X.K F Γ σ → AM X.K F M H → t Γ M Q → selfI X tg iter σ H fun J H1 => ∃ S F1 M1, Same F F1 ∧ AM X.K F1 M1 H1 ∧ ItS X.K F1 J S ∧ Q S M1
noncomputable def LoopP (S : Src) (gt : AGt) (tb : AS) : AS := fun E Γ M => ∃ W : Nat → G → Mem → Prop, W 0 Γ M ∧ ∀ i Γ M, W i Γ M → S.held M ∧ if i < S.n then gt (S.item i) Γ M fun Γ2 M2 => tb { E with nx := W (i + 1), ct := W (i + 1), bk := E.nx } Γ2 M2 else E.nx Γ M
theorem LoopP.by {S : Src} {gt : AGt} {tb : AS} {E : AEnds} {Γ : G} {M : Mem} (W : Nat → G → Mem → Prop) (h0 : W 0 Γ M) (hl : ∀ i Γ M, W i Γ M → S.held M)
    (step : ∀ i Γ M, i < S.n → W i Γ M → gt (S.item i) Γ M fun Γ2 M2 => tb { E with nx := fun Γ' M' => i + 1 ≤ S.n ∧ W (i + 1) Γ' M', ct := fun Γ' M' => i + 1 ≤ S.n ∧ W (i + 1) Γ' M', bk := E.nx } Γ2 M2) (done : ∀ Γ M, W S.n Γ M → E.nx Γ M) : LoopP S gt tb E Γ M := by
  refine ⟨fun i Γ M => i ≤ S.n ∧ W i Γ M, ⟨Nat.zero_le _, h0⟩, fun i Γ M ⟨hi, w⟩ => ⟨hl i Γ M w, ?_⟩⟩
  by_cases h : i < S.n
  · rw [if_pos h]; exact step i Γ M h w
  · rw [if_neg h]
    have e : i = S.n := by omega
    subst e
    exact done Γ M w
noncomputable def aFor (wi : AI) (gt : AGt) (tb : AS) : AS := fun E Γ M => wi Γ M fun S M1 => LoopP S gt tb E Γ M1
theorem sFor {tg iter : Expr} {body : List Stmt} {wi : AI} {gt : AGt} {tb : AS} (k : Cat X F0 R) (hi : PIA X F0 tg iter wi) (hg : PGA X F0 tg gt) (hb : PSsA X F0 body tb)
    (hs : ∀ x, foldedSetIterable iter X.env x = pure x := by intro _; rfl) : PSA X F0 (.For tg iter body [] pos) (aFor wi gt tb) := by
  refine ⟨?_⟩
  intro F Γ M σ H E f0 g m h
  intro pins0 s0 I0
  refine (ps_for (k.pass I0.ok.frames) k.calm pi_self pg_self pss_self hs).to ?_ pins0 s0 I0
  intro pins s I
  refine thn (hi.run F Γ M σ H _ f0 g m h pins s I) fun v s1 h1 => thn h1 fun itv s2 zz9 => ?_
  obtain ⟨it, fp, tn, J, H2, e1, I2, T, st, fo, S, F1, M1, s1, m1, iS, W, w0, turn⟩ := zz9
  refine ⟨it, fp, tn, J, H2, e1, I2, T, st, fo, fun i n σ' H' => n = S.n - i ∧ i ≤ S.n ∧ ∃ F' Γ' M', Same F1 F' ∧ AG X.K F' Γ' σ' ∧ AM X.K F' M' H' ∧ W i Γ' M', ⟨S.n, rfl, Nat.zero_le _, F1, Γ, M1, .refl _, g.up s1, m1, w0⟩, ?_⟩
  rintro i n σ3 H3 ⟨rfl, hle, F3, Γ3, M3, s3, g3, m3, w3⟩
  obtain ⟨hh, w3⟩ := turn i Γ3 M3 w3
  by_cases hlt : i < S.n
  · rw [if_pos hlt] at w3
    refine .inr ⟨iS.go i F3 M3 H3 s3 m3 hh hlt, PQg X.K F1 (W (i + 1)), fun σ' H' ⟨F', Γ', M', s', g', m', w'⟩ => ⟨S.n - (i + 1), by omega, rfl, hlt, F', Γ', M', s', g', m', w'⟩, fun x H' y => ?_⟩
    obtain ⟨F4, s4, m4, r4⟩ := iS.yld i F3 M3 H3 x H' s3 m3 hh hlt y
    refine (hg.run F4 Γ3 M3 σ3 H' x _ _ (f0.trans (s1.trans (s3.trans s4))) (g3.up s4) m4 r4 w3).mono fun σ5 H5 zz9 => ?_
    obtain ⟨F5, Γ5, M5, s5, g5, m5, q5⟩ := zz9
    have sx := s3.trans (s4.trans s5)
    refine (hb.run F5 Γ5 M5 σ5 H5 _ (f0.trans (s1.trans sx)) g5 m5 q5).mono ⟨fun _ _ z => PQg.dn sx z, fun _ _ z => PQ.dn (s1.trans sx) z, fun _ _ z => PQg.dn (s1.trans sx) z, fun _ _ z => PQg.dn sx z⟩
  · rw [if_neg hlt] at w3
    have hin : i = S.n := by omega
    have w3 : E.nx Γ3 M3 := w3
    exact .inl ⟨by rw [hin]; exact iS.stop F3 M3 H3 s3 m3 hh, F3, Γ3, M3, s1.trans s3, g3, m3, w3⟩
noncomputable def iaL (tl : AE) : AI := fun Γ M Q => tl Γ M fun d M1 => match dr M1 d with
  | some ds => Q ⟨ds.length, fun i => ds.getD i .non, fun M => dr M d = some ds⟩ M1
  | none => False
theorem iList' {tg l : Expr} {tl : AE} (hl : PEA X F0 l tl) : PIA X F0 tg l (iaL tl) := by
  refine ⟨?_⟩
  intro F Γ M σ H Q f0 g m h
  refine (pi_list pe_self).to ((hl.run F Γ M σ H _ f0 g m h).mono fun v H1 zz9 => ?_)
  obtain ⟨d, F1, M1, s1, m1, r1, q1⟩ := zz9
  try dsimp only at q1
  split at q1
  · rename_i ds hd
    obtain ⟨p, vs, rfl, e, rr⟩ := dr_rep m1 r1 hd
    refine ⟨p, rfl, ⟨vs, e⟩, _, F1, M1, s1, m1, ⟨fun i F' M' H' s' m' hh hi => ?_, fun i F' M' H' x H'' s' m' hh hi y => ?_, fun F' M' H' s' m' hh => ?_⟩, q1⟩
    · obtain ⟨p', ws, e1, e2, r2⟩ := dr_rep m' (r1.up s') hh
      cases e1
      obtain ⟨w, e3, _⟩ := r2.get (i := i) (d := ds[i]) (by simp [hi])
      exact ⟨ws, w, e2, e3⟩
    · obtain ⟨p', ws, e1, e2, r2⟩ := dr_rep m' (r1.up s') hh
      cases e1
      obtain ⟨rfl, y⟩ := y
      obtain ⟨w, e3, r3⟩ := r2.get (i := i) (d := ds[i]) (by simp [hi])
      have hx := y ws e2
      rw [e3] at hx
      have hx := Option.some.inj hx
      subst hx
      refine ⟨F', .refl _, m', ?_⟩
      have e4 : ds.getD i .non = ds[i] := by simp [List.getD, List.getElem?_eq_getElem hi]
      show RD X.K F' _ (ds.getD i .non)
      rw [e4]; exact r3
    · obtain ⟨p', ws, e1, e2, r2⟩ := dr_rep m' (r1.up s') hh
      cases e1
      exact ⟨ws, e2, by rw [r2.length]; exact Nat.le_refl _⟩
  · exact q1.elim
noncomputable def iaR1 (tt : AA) : AI := fun Γ M Q => tt Γ M fun ds M1 => match ds with
  | [.int j] => -(2 ^ 62) ≤ j ∧ j < 2 ^ 62 ∧ Q ⟨j.toNat, fun i => .int i, fun _ => True⟩ M1
  | _ => False
theorem itr_src {K : PySem.W.Frag} {F : Hp} {lo : Int} {n : Nat} : ItS K F (Itr lo n) ⟨n, fun i => .int (lo + i), fun _ => True⟩ :=
  ⟨fun i _ _ _ _ _ _ h => h, fun i F' M H x H' _ m _ _ ⟨e1, e2⟩ => by subst e1 e2; exact ⟨F', .refl _, m, .int _⟩, fun _ _ _ _ _ _ => Nat.le_refl _⟩
noncomputable def iaR2 (tt : AA) : AI := fun Γ M Q => tt Γ M fun ds M1 => match ds with
  | [.int i, .int j] => (-(2 ^ 62) ≤ i ∧ i < 2 ^ 62 ∧ -(2 ^ 62) ≤ j ∧ j < 2 ^ 62) ∧ Q ⟨(j - i).toNat, fun k => .int (i + k), fun _ => True⟩ M1
  | _ => False
theorem iRange2 {tg a b : Expr} {p : Pos} (hg : Gl X "range") (hm : X.mg "range" = none) (ha : PAA X F0 [a, b] tt) (hs : starEach [a, b] X.env = [(false, eval a X.env), (false, eval b X.env)] := by rfl) (hs2 : starEach [b] X.env = [(false, eval b X.env)] := by rfl) : PIA X F0 tg (.Call (.Name "range" p) [a, b] [] pos) (iaR2 tt) := by
  refine ⟨?_⟩
  intro F Γ M σ H Q f0 g m h
  refine (pi_range2 hg hm pa_self hs hs2).to ((ha.run F Γ M σ H _ f0 g m h).mono fun vs H1 zz9 => ?_)
  obtain ⟨ds, F1, M1, s1, m1, r1, q1⟩ := zz9
  try dsimp only at q1
  split at q1
  · rename_i i j
    obtain ⟨x, y, rfl, rx, ry⟩ := r1.two'
    obtain rfl : x = .int i := by cases rx; rfl
    obtain rfl : y = .int j := by cases ry; rfl
    exact ⟨i, j, rfl, q1.1, ⟨(j - i).toNat, fun k => .int (i + k), fun _ => True⟩, F1, M1, s1, m1, itr_src, q1.2⟩
  · exact q1.elim
noncomputable def iaS (tl : AE) : AI := fun Γ M Q => tl Γ M fun d M1 => match d with
  | .str x => Q ⟨x.cps.size, fun i => .str ⟨#[x.cps.getD i 0]⟩, fun _ => True⟩ M1
  | _ => False
theorem iStr' {tg l : Expr} {tl : AE} (hl : PEA X F0 l tl) : PIA X F0 tg l (iaS tl) := by
  refine ⟨?_⟩
  intro F Γ M σ H Q f0 g m h
  refine (pi_str pe_self).to ((hl.run F Γ M σ H _ f0 g m h).mono fun v H1 zz9 => ?_)
  obtain ⟨d, F1, M1, s1, m1, r1, q1⟩ := zz9
  obtain ⟨x, rfl, rfl⟩ : ∃ x, v = .str x ∧ d = .str x := by cases r1 <;> first | exact q1.elim | exact ⟨_, rfl, rfl⟩
  exact ⟨x, rfl, ⟨x.cps.size, fun i => .str ⟨#[x.cps.getD i 0]⟩, fun _ => True⟩, F1, M1, s1, m1, ⟨fun i _ _ _ _ _ _ h => h, fun i F' M H x H' _ m _ _ ⟨e1, e2⟩ => by subst e1 e2; exact ⟨F', .refl _, m, .str _⟩, fun _ _ _ _ _ _ => rfl⟩, q1⟩
end
end L2

set_option Elab.async false
set_option linter.all false
set_option maxRecDepth 100000
namespace L2
open PySem PySem.Spec PySem.Calls PyProof.Rows


noncomputable def startA (N : List Str) (ds : List D) : G := ds.map some ++ List.replicate (N.length - ds.length) none
theorem start_at {K : PySem.W.Frag} {F : Hp} : ∀ {vs : List V} {ds : List D} {n i : Nat} {d : D}, RDs K F vs ds → (ds.map some ++ List.replicate n none : G)[i]? = some (some d) → ∃ v, (vs.map some ++ List.replicate n none : St)[i]? = some (some v) ∧ RD K F v d
  | _, _, n, i, d, .nil, h => by
    simp only [List.map_nil, List.nil_append, List.getElem?_replicate] at h
    split at h <;> cases h
  | _, _, n, 0, d, .cons r _, h => by simp at h; subst h; exact ⟨_, by simp, r⟩
  | _, _, n, i + 1, d, .cons _ t, h => by
    obtain ⟨v, e, r⟩ := start_at (i := i) t (by simpa using h)
    exact ⟨v, by simpa using e, r⟩
theorem start_ok {K : PySem.W.Frag} {F : Hp} {N : List Str} {vs : List V} {ds : List D} (r : RDs K F vs ds) : AG K F (startA N ds) (start N vs) := by
  refine ⟨by simp [startA, start, r.length], fun i d h => ?_⟩
  unfold start
  rw [r.length]
  exact start_at r h
theorem Cat.of {P : Program} {w : World} {K : PySem.W.Frag} {mg : Str → Option Value} {base : Heap} {N : List Str} {qual : Str} {scope : Scope} {f : Addr} {cd : Value} {A : Around} {outer : List Env} {s : Shared} {H : Hp} {E : XK} {F : Hp} {Ea : Value → Mem → Prop}
    (hE : ∀ cls H', (∃ F' M', Same F F' ∧ AM K F' M' H' ∧ Ea cls M') → E cls none H') (hu : (A.deeper (envOfC qual scope s.heap.objs.size f cd)).units + 64 < cLine) : Cat ((cxOf (CXE P w) P w K mg base N qual scope f cd A outer s H E).by (rE E)) F (fun _ M cls => Ea cls M) :=
  ⟨Thr.imp thr_self fun _ H' cls _ ⟨F', _, M', s', _, m', q⟩ => hE cls H' ⟨F', M', s', m', q⟩, plain_cx.wish _, rfl, fun fr => passes_XS plain_cx fr, hu⟩
theorem Fun.okA {P : Program} {w : World} {K : PySem.W.Frag} {mg : Str → Option Value} {base : Heap} {x qual : Str} {st : Stmt} {f : Addr} {fd : FuncData} {N ps : List Str} {k : Nat} {sa : SpA} (Fn : Fun K x qual st f fd) (S : FnScope N ps (defScope st)) (len : ∀ ds M Q E, sa ds M Q E → ds.length = ps.length)
    (hbody : ∀ (cdv : Value) (A : Around) (outer : List Env) (s : Shared) (H : Hp) (E : XK) (F0 : Hp) (ds : List D) (M : Mem) (Q : AK) (Ea : Value → Mem → Prop), Room k (A.deeper (envOfC qual (defScope st) s.heap.objs.size f cdv)) →
      Cat ((cxOf (CXE P w) P w K mg base N qual (defScope st) f cdv A outer s H E).by (rE E)) F0 (fun _ M cls => Ea cls M) → sa ds M Q Ea →
      ∃ t, PSsA ((cxOf (CXE P w) P w K mg base N qual (defScope st) f cdv A outer s H E).by (rE E)) F0 (defBody st) t ∧ t { nx := fun _ M' => Rt Q .non M', rt := Rt Q } (startA N ds) M) : FnOk P w K mg base (CXE P w) (k + 1) f fd ps (liftS K sa) := by
  refine Fn.okX S (fun vs H Q E ⟨F, ds, M, Qa, Ea, m, r, h, _⟩ => by rw [r.length]; exact len _ _ _ _ h) ?_
  intro cdv A outer s H vs Q E hr ⟨F, ds, M, Qa, Ea, m, r, h, hQ, hE⟩
  obtain ⟨t, ht, q⟩ := hbody cdv A outer s H E F ds M Qa Ea hr (Cat.of hE hr.units) h
  refine ⟨_, pss_self, ?_⟩
  refine (ht.run F _ M _ H _ (.refl F) (start_ok r) m q).mono ⟨fun σ' H' ⟨F', Γ', M', s', g', m', q'⟩ => ?_, fun v H' z => ?_, fun _ _ ⟨_, _, _, _, _, _, q'⟩ => q'.elim, fun _ _ ⟨_, _, _, _, _, _, q'⟩ => q'.elim⟩
  · exact hQ _ _ (PQ.rt ⟨.non, F', M', s', m', .non, q'⟩)
  · exact hQ _ _ (PQ.rt z)


theorem passE {X : Cx} : Passes (CXE X.prog X.w) X E0 := fun _ _ _ _ _ _ _ ⟨_, _, _, _, _, _, _, _, _, _, _, _, _, _, q⟩ => q.elim
section
variable {X : Cx} {F0 : Hp} {R : AX} {k : Nat} {x : Str} {sa : SpA} {p pos : Pos} {C : Addr}
structure HasC (P : Program) (w : World) (K : PySem.W.Frag) (mg : Str → Option Value) (base : Heap) (k : Nat) (x : Str) (C : Addr) (sa : SpA) : Prop where
  bound : mg x = some (.ref C)
  ex : ∃ f fd, FnOk P w K mg base (CXE P w) k f fd ["self"] (liftS K sa) ∧ Mk K C f ∧ Binds K fd ["self"] []
noncomputable def aMake (C : Addr) (sa : SpA) : AE := fun _ M Q => ∀ p, M p = none → sa [.obj p] (put M p (.ins C [])) (fun d M' => d = .non ∧ Q (.obj p) M') fun _ _ => False
theorem paMake (h : HasC X.prog X.w X.K X.mg X.base k x C sa) (hr : Room (k + 1) X.A) (hg : Gl X x) (hdb : (x == ("__debug__" : Str)) = false := by decide) : PEA X F0 (.Call (.Name x p) [] [] pos) (aMake C sa) := by
  refine ⟨?_⟩
  intro F Γ M σ H Q f0 g m hw
  obtain ⟨f, fd, Fn, mk, hb⟩ := h.ex
  refine (pe_make0 mk Fn hr hg h.bound hb .nil passE hdb).to ?_
  intro q dx hq hdx hne
  have hs := hw q (m.fM hq)
  have hq2 : upd H dx (.own q) q = none := by rw [upd_ne (Ne.symm hne)]; exact hq
  refine ⟨F, [.obj q], put M q (.ins C []), _, _, (m.more (u := .own q) hdx).new (o := .ins C []) hq2 ⟨rfl, .nil⟩, .cons (.obj q) .nil, hs, fun v H' ⟨d, F', M', s', m', r', hd, q'⟩ => ?_, fun _ _ ⟨_, _, _, _, z⟩ => z.elim⟩
  subst hd
  cases r'
  exact ⟨rfl, .obj q, F', M', s', m', .obj q, q'⟩
end


noncomputable def keyD : D → Option Key
  | .int i => some (.inl i)
  | .str x => some (.inr x)
  | _ => none
noncomputable def getK (kvs : List (Key × D)) (k : Key) : Option D := (kvs.find? fun kv => decide (kv.1 = k)).map (·.2)
noncomputable def putKD (kvs : List (Key × D)) (k : Key) (v : D) : List (Key × D) := if (getK kvs k).isSome then kvs.map fun kv => if kv.1 = k then (kv.1, v) else kv else kvs ++ [(k, v)]
noncomputable def dropKD (kvs : List (Key × D)) (k : Key) : List (Key × D) := kvs.filter fun kv => decide (kv.1 ≠ k)
section
variable {K : PySem.W.Frag} {F : Hp}
theorem key_rd {x : V} {d : D} {k : Key} (r : RD K F x d) (h : keyD d = some k) : x = kV k := by
  cases r <;> first | (cases h; done) | (cases h; rfl)
theorem PF.get (k : Key) : ∀ {a : List (Key × V)} {b : List (Key × D)}, PF K F a b → (getK b k = none → valV a k = none) ∧ ∀ d, getK b k = some d → ∃ v, valV a k = some v ∧ RD K F v d
  | _, _, .nil => ⟨fun _ => rfl, fun d h => by cases h⟩
  | (n, v) :: a, (n', d) :: b, .cons ⟨h1, h2⟩ t => by
    dsimp only at h1 h2
    subst h1
    obtain ⟨i1, i2⟩ := PF.get k t
    by_cases hn : n = k
    · rw [valV_pos (p := (n, v)) hn]
      have : getK ((n, d) :: b) k = some d := by simp [getK, List.find?_cons, hn]
      rw [this]
      refine ⟨fun h => ?_, fun d' h => ?_⟩
      · cases h
      · cases h; exact ⟨v, rfl, h2⟩
    · rw [valV_neg (p := (n, v)) hn]
      have : getK ((n, d) :: b) k = getK b k := by simp [getK, List.find?_cons, hn]
      rw [this]
      exact ⟨i1, i2⟩
theorem PF.append {κ : Type} : ∀ {a a' : List (κ × V)} {b b' : List (κ × D)}, PF K F a b → PF K F a' b' → PF K F (a ++ a') (b ++ b')
  | _, _, _, _, .nil, s => s
  | _, _, _, _, .cons h t, s => .cons h (PF.append t s)
theorem PF.mapK {k : Key} {v : V} {d : D} (r : RD K F v d) : ∀ {a : List (Key × V)} {b : List (Key × D)}, PF K F a b → PF K F (a.map fun kv => if kv.1 = k then (kv.1, v) else kv) (b.map fun kv => if kv.1 = k then (kv.1, d) else kv)
  | _, _, .nil => .nil
  | (n, _) :: _, (n', _) :: _, .cons ⟨h1, h2⟩ t => by
    dsimp only at h1 h2
    subst h1
    simp only [List.map_cons]
    refine .cons ?_ (PF.mapK r t)
    split
    · exact ⟨rfl, r⟩
    · exact ⟨rfl, h2⟩
theorem PF.putK {k : Key} {v : V} {d : D} (r : RD K F v d) {a : List (Key × V)} {b : List (Key × D)} (h : PF K F a b) : PF K F (L2.putK a k v) (putKD b k d) := by
  unfold L2.putK putKD
  rw [valV_any]
  cases q : getK b k with
  | none =>
    rw [(h.get k).1 q]
    simp only [Option.isSome_none, Bool.false_eq_true, if_false]
    exact h.append (.cons ⟨rfl, r⟩ .nil)
  | some d' =>
    obtain ⟨v', e, _⟩ := (h.get k).2 d' q
    rw [e]
    simp only [Option.isSome_some, if_true]
    exact PF.mapK r h
end
section
variable {X : Cx} {F0 : Hp} {e o i : Expr} {pos pos' : Pos} {td ti tv : AE}
noncomputable def aDGet (td ti : AE) : AE := fun Γ M Q => td Γ M fun x M1 => ti Γ M1 fun y M2 => both (dd M2 x) (keyD y) fun kvs k => opt (getK kvs k) fun d => Q d M2
theorem paDGet (hu : X.A.units + 1 < cLine) (ho : PEA X F0 o td) (hi : PEA X F0 i ti) (hs : NoSl i) : PEA X F0 (.Subscript o i pos) (aDGet td ti) := by
  refine ⟨?_⟩
  intro F Γ M σ H Q f0 g m hw
  refine (pe_dget hu pe_self pe_self hs).to (two ho hi f0 g m hw fun F2 M2 H2 v u x y s m2 r1 r2 q0 => ?_)
  obtain ⟨kvs, k, h1, h2, q0⟩ := two_ex q0
  obtain ⟨d, h3, q⟩ := some_ex q0
  obtain ⟨p, ws, rfl, rfl, _, e1, pf⟩ := dd_rep m2 r1 h1
  obtain ⟨w, e2, rw'⟩ := (pf.get k).2 d h3
  refine ⟨p, w, rfl, ?_, d, F2, M2, s, m2, rw', q⟩
  rw [key_rd r2 h2, ← e2]
  exact DGet.k e1
noncomputable def oDIn (neg : Bool) : A2 := fun y x M Q => both (dd M x) (keyD y) fun kvs k => Q (.bl (if neg then !(getK kvs k).isSome else (getK kvs k).isSome)) M
theorem PF.some {K : PySem.W.Frag} {F : Hp} {a : List (Key × V)} {b : List (Key × D)} (h : PF K F a b) (k : Key) : (valV a k).isSome = (getK b k).isSome := by
  cases q : getK b k with
  | none => rw [(h.get k).1 q]; rfl
  | some d => obtain ⟨v, e, _⟩ := (h.get k).2 d q; rw [e]; rfl
structure PCA (X : Cx) (F0 : Hp) (op : CmpOp) (a b : Expr) (t : AE)  : Prop where
  run : ∀ F Γ M σ H Q, Same F0 F → AG X.K F Γ σ → AM X.K F M H → t Γ M Q → ∃ tc : TE, PC X op a b tc ∧ ∀ Rv : VK, (∀ v H', PQ X.K F Q v H' → Rv v H') → tc σ H Rv
theorem pcDIn (hu : X.A.units + 1 < cLine) (hi : PEA X F0 i ti) (ho : PEA X F0 o td) : PCA X F0 .In i o (aOp (oDIn false) ti td) := by
  refine ⟨?_⟩
  intro F Γ M σ H Q f0 g m hw
  refine ⟨_, pc_din hu pe_self pe_self, fun Rv kk => two hi ho f0 g m hw fun F2 M2 H2 v u y x s m2 r1 r2 q0 => ?_⟩
  obtain ⟨kvs, k, h1, h2, q⟩ := two_ex q0
  obtain ⟨p, ws, rfl, rfl, _, e1, pf⟩ := dd_rep m2 r2 h1
  refine ⟨p, _, rfl, by rw [key_rd r1 h2]; exact DGet.k e1, kk _ _ ⟨_, F2, M2, s, m2, .bl _, ?_⟩⟩
  rw [pf.some k]; simpa using q
theorem pcDNotIn (hu : X.A.units + 1 < cLine) (hi : PEA X F0 i ti) (ho : PEA X F0 o td) : PCA X F0 .NotIn i o (aOp (oDIn true) ti td) := by
  refine ⟨?_⟩
  intro F Γ M σ H Q f0 g m hw
  refine ⟨_, pc_dnotin hu pe_self pe_self, fun Rv kk => two hi ho f0 g m hw fun F2 M2 H2 v u y x s m2 r1 r2 q0 => ?_⟩
  obtain ⟨kvs, k, h1, h2, q⟩ := two_ex q0
  obtain ⟨p, ws, rfl, rfl, _, e1, pf⟩ := dd_rep m2 r2 h1
  refine ⟨p, _, rfl, by rw [key_rd r1 h2]; exact DGet.k e1, kk _ _ ⟨_, F2, M2, s, m2, .bl _, ?_⟩⟩
  rw [pf.some k]; simpa using q
theorem ptPC {op : CmpOp} {a b : Expr} {t : AE} (h : PCA X F0 op a b t) (h1 : behindInMarks op b = false := by first | exact nobehind _ (by decide) (by decide) | rfl) : PTA X F0 (.Compare a [op] [b] pos) (aT t) := by
  refine ⟨?_⟩
  intro F Γ M σ H Q f0 g m hw
  obtain ⟨tc, pc, k⟩ := h.run F Γ M σ H _ f0 g m hw
  refine (pt_cmp pc h1).to (k _ fun v H' z => ?_)
  exact PQ.bool z
noncomputable def aDPut (td ti tv : AE) : AS := fun E Γ M => tv Γ M fun v M1 => td Γ M1 fun x M2 => ti Γ M2 fun y M3 => match x with
  | .obj p => both (dd M3 (.obj p)) (keyD y) fun kvs k => kvs.length < 1000 ∧ E.nx Γ (put M3 p (.dic (putKD kvs k v)))
  | _ => False
theorem dd_obj {M : Mem} {p : Addr} {kvs : List (Key × D)} (h : dd M (.obj p) = some kvs) : M p = some (.dic kvs) := by
  unfold dd at h
  dsimp only at h
  split at h
  · rename_i h'; cases h; exact h'
  · cases h
theorem sPutD (hu : X.A.units + 1 < cLine) (ho : PEA X F0 o td) (hi : PEA X F0 i ti) (hv : PEA X F0 e tv) (hs : swapsWith e (some (.Subscript o i pos')) pos.line X.env = pure false) : PSA X F0 (.Assign [.Subscript o i pos'] e pos) (aDPut td ti tv) := by
  refine ⟨?_⟩
  intro F Γ M σ H E f0 g m hw
  refine (ps_dput hu pe_self pe_self pe_self hs).to ?_
  refine (hv.run F Γ M σ H _ f0 g m hw).mono fun v H1 zz9 => ?_
  obtain ⟨dv, F1, M1, s1, m1, r1, q1⟩ := zz9
  refine two ho hi (f0.trans s1) (g.up s1) m1 q1 fun F2 M2 H2 u w x y s m2 r2 r3 q => ?_
  cases r2 <;> first | exact q.elim | skip
  rename_i p
  obtain ⟨kvs, k, hp, hk, hl, q⟩ := two_ex q
  have hp := dd_obj hp
  obtain ⟨u', e1, ro⟩ := m2.mem _ _ hp
  obtain ⟨ws, rfl, pf⟩ := ro.isD
  refine ⟨p, _, rfl, ?_, F2, Γ, put M2 p (.dic (putKD kvs k dv)), s1.trans s, g.up (s1.trans s), m2.set hp (u := .dK (putK ws k v)) (o' := .dic (putKD kvs k dv)) (pf.putK (r1.up s)), q⟩
  rw [key_rd r3 hk]
  exact DPut.k e1 (by rw [pf.length]; exact small1000 (Nat.le_of_lt hl))
noncomputable def aDNew : AE := fun _ M Q => ∀ p, M p = none → Q (.obj p) (put M p (.dic []))
theorem paDNew : PEA X F0 (.Dict [] [] pos) aDNew := by
  refine ⟨?_⟩
  intro F Γ M σ H Q f0 g m hw
  exact pe_dnewK.to fun p hp => ⟨.obj p, F, _, .refl F, m.new (o := .dic []) hp .nil, .obj p, hw p (m.fM hp)⟩
variable {apos cpos : Pos}
noncomputable def aDPop (td ti : AE) : AE := fun Γ M Q => td Γ M fun x M1 => (dd M1 x).isSome = true ∧ ti Γ M1 fun y M2 => match x with
  | .obj p => both (dd M2 (.obj p)) (keyD y) fun kvs k => opt (getK kvs k) fun d => Q d (put M2 p (.dic (dropKD kvs k)))
  | _ => False
noncomputable def aDGet1 (td ti : AE) : AE := fun Γ M Q => td Γ M fun x M1 => (dd M1 x).isSome = true ∧ ti Γ M1 fun y M2 => both (dd M2 x) (keyD y) fun kvs k => Q ((getK kvs k).getD .non) M2
theorem paDGet1 (hu : X.A.units + 1 < cLine) (ho : PEA X F0 o td) (he : PEA X F0 e ti) (mm : M1 X o "get" apos e cpos) : PEA X F0 (.Call (.Attribute o "get" apos) [e] [] cpos) (aDGet1 td ti) := by
  refine ⟨?_⟩
  intro F Γ M σ H Q f0 g m hw
  refine (pe_dget1 hu pe_self pe_self mm).to ((ho.run F Γ M σ H _ f0 g m hw).mono fun v H1 zz9 => ?_)
  obtain ⟨x, F1, M1, s1, m1, r1, hd, q1⟩ := zz9
  cases hdd : dd M1 x with
  | none => rw [hdd] at hd; cases hd
  | some kvs0 =>
    obtain ⟨p, ws, rfl, rfl, hp, e1, pf⟩ := dd_rep m1 r1 hdd
    refine ⟨p, rfl, .inl ⟨ws, .inl e1⟩, (he.run F1 Γ M1 σ H1 _ (f0.trans s1) (g.up s1) m1 q1).mono fun u H2 zz9 => ?_⟩
    obtain ⟨y, F2, M2, s2, m2, r2, q0⟩ := zz9
    obtain ⟨kvs, k, h1, h2, q⟩ := two_ex q0
    obtain ⟨p', ws2, e0, _, hp2, e2, pf2⟩ := dd_rep m2 (r1.up s2) h1
    cases e0
    refine ⟨valV ws2 k, by rw [key_rd r2 h2]; exact DGet.k e2, ?_⟩
    cases hk : getK kvs k with
    | none =>
      rw [(pf2.get k).1 hk]
      rw [hk] at q
      exact ⟨_, F2, M2, s1.trans s2, m2, .non, q⟩
    | some d =>
      obtain ⟨w, e3, rw'⟩ := (pf2.get k).2 d hk
      rw [e3]
      rw [hk] at q
      exact ⟨_, F2, M2, s1.trans s2, m2, rw', q⟩
end
end L2

set_option Elab.async false
set_option linter.all false
set_option maxRecDepth 100000
namespace L2
open PySem PySem.Spec PySem.Calls PyProof.Rows


noncomputable def jsOf (n : Nat) (fs : List Nat) : List (Option Nat) := List.replicate n none ++ fs.map some
noncomputable def frG (fs : List Nat) (Γ : G) : G := fs.map fun j => (Γ[j]?).join
noncomputable def outs (f : Nat → Option D) (n : Nat) : List D := (List.range n).filterMap f
theorem outs_succ (f : Nat → Option D) (n : Nat) : outs f (n + 1) = outs f n ++ (f n).toList := by
  unfold outs
  rw [List.range_succ, List.filterMap_append]
  cases h : f n <;> simp [h]
theorem outs_le (f : Nat → Option D) (n : Nat) : (outs f n).length ≤ n := by
  unfold outs
  exact Nat.le_trans (List.length_filterMap_le _ _) (by simp)
noncomputable def aCompM (n : Nat) (fs : List Nat) (wi : AI) (gt : AGt) (ti : AT) (te : AE) : AE := fun Γ M Q => wi Γ M fun S M1 => ∃ out : Nat → Option D, S.n ≤ 1000 ∧
  (∀ M', Sub M1 M' → S.held M' ∧ ∀ i, i < S.n → ∀ own : G, own.length = n → gt (S.item i) (own ++ frG fs Γ) M' fun Γ2 M2 => M2 = M' ∧ (∃ own', own'.length = n ∧ Γ2 = own' ++ frG fs Γ) ∧
    ti Γ2 M' fun b M3 => M3 = M' ∧ if b = true then te Γ2 M' fun y M4 => M4 = M' ∧ out i = some y else out i = none) ∧
  ∀ p, M1 p = none → Q (.obj p) (put M1 p (.lst (outs out S.n)))
noncomputable def aYes : AT := fun _ M Q => Q true M
section
variable {X : Cx} {F0 : Hp} {Nc : List Str} {scope : Scope} {cl : List (Str × Addr)} {n : Nat} {fs : List Nat} {tg iter elt : Expr} {ifs : List Expr} {gt : AGt} {ti : AT} {te : AE} {wi : AI} {pos : Pos}
structure PIfsA (X : Cx) (F0 : Hp) (ifs : List Expr) (t : AT)  : Prop where
  run : ∀ F Γ M σ H Q, Same F0 F → AG X.K F Γ σ → AM X.K F M H → t Γ M Q → ∀ pins s, Inv X pins σ H s → wpAny (model X.prog X.w) X.A (ifsRun X.env ifs) (TP X pins σ (PQb X.K F Q)) X.xe s
theorem fiNil : PIfsA X F0 [] aYes := ⟨fun F Γ M σ H Q _ _ m h pins s I => pif_nil pins s σ H _ I (PQb.here m h)⟩
theorem frG_ok {K : PySem.W.Frag} {F : Hp} {Γ : G} {σ : St} (g : AG K F Γ σ) (n : Nat) (fs : List Nat) : AG K F (List.replicate n none ++ frG fs Γ) (sigC (jsOf n fs) σ) := by
  have e : sigC (jsOf n fs) σ = List.replicate n none ++ fs.map fun j => (σ[j]?).join := by
    unfold sigC jsOf
    rw [List.map_append, List.map_replicate, List.map_map]
    rfl
  rw [e]
  refine ⟨by simp [frG], fun i d h => ?_⟩
  by_cases hi : i < n
  · rw [List.getElem?_append_left (by simpa using hi), List.getElem?_replicate, if_pos hi] at h
    cases h
  · rw [List.getElem?_append_right (by simp; omega)] at h ⊢
    simp only [List.length_replicate, frG, List.getElem?_map] at h ⊢
    cases q : fs[i - n]? with
    | none => rw [q] at h; cases h
    | some j =>
      rw [q] at h
      simp only [Option.map_some, Option.some.injEq] at h ⊢
      have h2 : Γ[j]? = some (some d) := by
        cases q2 : Γ[j]? with
        | none => rw [q2] at h; cases h
        | some z => rw [q2] at h; cases z <;> cases h; rfl
      obtain ⟨v, e1, r⟩ := g.at' j d h2
      exact ⟨v, by rw [e1]; rfl, r⟩
theorem comp_read {σ : St} {H : Hp} {F : Hp} {Γ : G} {M : Mem} {Q : AK} {Rv : VK} (f0 : Same F0 F) (g : AG X.K F Γ σ) (m : AM X.K F M H) (hi : PIA X F0 tg iter wi)
    (hg : ∀ pins C fp s H, PGA (cxComp X pins Nc scope cl C fp s H) F0 tg gt) (hti : ∀ pins C fp s H, PIfsA (cxComp X pins Nc scope cl C fp s H) F0 ifs ti) (he : ∀ pins C fp s H, PEA (cxComp X pins Nc scope cl C fp s H) F0 elt te)
    (hw : aCompM n fs wi gt ti te Γ M Q) (hR : ∀ v H', PQ X.K F Q v H' → Rv v H') :
    tComp (jsOf n fs) (selfI X tg iter) (fun v σ H Q => ∀ pins C fp s H0, selfG (cxComp X pins Nc scope cl C fp s H0) tg v σ H Q)
      (fun σ H Q => ∀ pins C fp s H0 pins' s', Inv (cxComp X pins Nc scope cl C fp s H0) pins' σ H s' → wpAny (model X.prog X.w) X.A (ifsRun (cxComp X pins Nc scope cl C fp s H0).env ifs) (TP (cxComp X pins Nc scope cl C fp s H0) pins' σ Q) (fun _ _ => False) s')
      (fun σ H Q => ∀ pins C fp s H0, selfE (cxComp X pins Nc scope cl C fp s H0) elt σ H Q) σ H Rv := by
  intro pins s I
  refine thn (hi.run F Γ M σ H _ f0 g m hw pins s I) fun v s1 h1 => thn h1 fun itv s2 zz9 => ?_
  obtain ⟨it, fp, tn, J, H2, e1, I2, T, st, fo, S, F1, M1, s1, m1, iS, out, hn, turn, q⟩ := zz9
  refine ⟨it, fp, tn, J, H2, e1, I2, T, st, fo, fun l hl => ?_⟩
  have hMl := m1.fM hl
  refine ⟨fun i k ys σ' H' => k = S.n - i ∧ i ≤ S.n ∧ ∃ F' own, Same F1 F' ∧ own.length = n ∧ AG X.K F' (own ++ frG fs Γ) σ' ∧ AM X.K F' (put M1 l (.raw (.lst ys))) H' ∧ RDs X.K F' ys (outs out i), ⟨S.n, rfl, Nat.zero_le _, F1, List.replicate n none, .refl _, by simp, frG_ok (g.up s1) n fs, m1.new (o := .raw (.lst [])) hl rfl, .nil⟩, ?_⟩
  rintro i k ys σ3 H3 ⟨rfl, hle, F3, own, s3, ho, g3, m3, hys⟩
  have hs3 : Sub M1 (put M1 l (.raw (.lst ys))) := .put hMl
  obtain ⟨hh, turn⟩ := turn _ hs3
  have at_l : ∀ {F5 : Hp} {H5 : Hp}, AM X.K F5 (put M1 l (.raw (.lst ys))) H5 → H5 l = some (.lst ys) := fun m5 => by
    obtain ⟨u, e, r⟩ := m5.mem l _ put_same
    rw [e]; exact congrArg some r
  refine ⟨at_l m3, ?_⟩
  by_cases hlt : i < S.n
  · refine .inr ⟨iS.go i F3 _ H3 s3 m3 hh hlt, by rw [hys.length]; exact small1000 (Nat.le_trans (outs_le out i) (by omega)), fun x H' y pins C fp s H0 => ?_⟩
    obtain ⟨F4, s4, m4, r4⟩ := iS.yld i F3 _ H3 x H' s3 m3 hh hlt y
    have ft := f0.trans (s1.trans (s3.trans s4))
    refine ((hg pins C fp s H0).run F4 _ _ σ3 H' x _ _ ft (g3.up s4) m4 r4 (turn i hlt own ho)).mono fun σ5 H5 zz9 => ?_
    obtain ⟨F5, Γ5, M5, s5, g5, m5, e5, ⟨own5, ho5, eΓ5⟩, q5⟩ := zz9
    subst e5 eΓ5
    intro pinsb Cb fpb sb H0b pins' s' I'
    refine thn ((hti pinsb Cb fpb sb H0b).run F5 _ _ σ5 H5 _ (ft.trans s5) g5 m5 q5 pins' s' I') fun b s6 ⟨H6, I6, F6, M6, s6', m6, e6, q6⟩ => ⟨H6, I6, ?_⟩
    subst e6
    have sx := s4.trans (s5.trans s6')
    cases b with
    | true =>
      rw [if_pos rfl] at q6 ⊢
      intro pinsc Cc fpc sc H0c
      refine ((he pinsc Cc fpc sc H0c).run F6 _ _ σ5 H6 _ (ft.trans (s5.trans s6')) (g5.up s6') m6 q6).mono fun vy H7 zz9 => ?_
      obtain ⟨y7, F7, M7, s7, m7, r7, e7, q7⟩ := zz9
      subst e7
      refine ⟨at_l m7, S.n - (i + 1), by omega, rfl, hlt, F7, own5, s3.trans (sx.trans s7), ho5, g5.up (s6'.trans s7), ?_, ?_⟩
      · have := m7.set (p := l) (o' := .raw (.lst (ys ++ [vy]))) (u := .lst (ys ++ [vy])) put_same rfl
        rw [put_put] at this
        exact this
      · rw [outs_succ, q7]
        exact (hys.up (sx.trans s7)).append (.cons r7 .nil)
    | false =>
      rw [if_neg Bool.false_ne_true] at q6 ⊢
      refine ⟨S.n - (i + 1), by omega, rfl, hlt, F6, own5, s3.trans sx, ho5, g5.up s6', m6, ?_⟩
      rw [outs_succ, q6]
      simpa using hys.up sx
  · have hin : i = S.n := by omega
    subst hin
    have m4 : AM X.K F3 (put M1 l (.lst (outs out S.n))) H3 := by
      have := m3.set (p := l) (o' := .lst (outs out S.n)) (u := .lst ys) put_same hys
      rw [put_put] at this
      have e : upd H3 l (.lst ys) = H3 := by
        funext b
        by_cases hb : b = l
        · subst hb; rw [upd_same, at_l m3]
        · rw [upd_ne hb]
      rw [e] at this
      exact this
    exact .inl ⟨iS.stop F3 _ H3 s3 m3 hh, hR _ _ ⟨.obj l, F3, _, s1.trans s3, m4, .obj l, q l hMl⟩⟩
theorem paCompM (O : CompOk X scope cl Nc (jsOf n fs)) (hc : X.calm = true) (hi : PIA X F0 tg iter wi) (hg : ∀ pins C fp s H, PGA (cxComp X pins Nc scope cl C fp s H) F0 tg gt) (hti : ∀ pins C fp s H, PIfsA (cxComp X pins Nc scope cl C fp s H) F0 ifs ti)
    (he : ∀ pins C fp s H, PEA (cxComp X pins Nc scope cl C fp s H) F0 elt te) (hs : ∀ x, foldedSetIterable iter X.env x = pure x := by intro _; rfl) :
    PEA X F0 (.ListComp elt [⟨tg, iter, ifs, 0⟩] scope pos) (aCompM n fs wi gt ti te) := by
  refine ⟨?_⟩
  intro F Γ M σ H Q f0 g m hw
  refine (pe_comp O hc pi_self (g := fun v σ H Q => ∀ pins C fp s H0, selfG (cxComp X pins Nc scope cl C fp s H0) tg v σ H Q)
    (ti := fun σ H Q => ∀ pins C fp s H0 pins' s', Inv (cxComp X pins Nc scope cl C fp s H0) pins' σ H s' → wpAny (model X.prog X.w) X.A (ifsRun (cxComp X pins Nc scope cl C fp s H0).env ifs) (TP (cxComp X pins Nc scope cl C fp s H0) pins' σ Q) (fun _ _ => False) s')
    (te := fun σ H Q => ∀ pins C fp s H0, selfE (cxComp X pins Nc scope cl C fp s H0) elt σ H Q)
    (fun pins C fp s H => fun pins' s' _ _ _ u _ I r h => h pins C fp s H pins' s' u I r) (fun pins C fp s H => fun pins' s' _ _ _ I h => h pins C fp s H pins' s' I) (fun pins C fp s H => fun pins' s' _ _ _ I h => h pins C fp s H pins' s' I) hs).to ?_
  exact comp_read f0 g m hi hg hti he hw fun _ _ z => z
theorem sCompZ {i : Nat} {y : Str} {py spos : Pos} (hN : X.N.Nodup) (hiN : X.N[i]? = some y) (hyl : X.env.scope.names.lookup y = some .local) (O : CompOk X scope cl Nc (jsOf n fs)) (hc : X.calm = true) (hi : PIA X F0 tg iter wi) (hg : ∀ pins C fp s H, PGA (cxComp X pins Nc scope cl C fp s H) F0 tg gt)
    (hti : ∀ pins C fp s H, PIfsA (cxComp X pins Nc scope cl C fp s H) F0 ifs ti) (he : ∀ pins C fp s H, PEA (cxComp X pins Nc scope cl C fp s H) F0 elt te)
    (hsw : swapsWith (.ListComp elt [⟨tg, iter, ifs, 0⟩] scope pos) (some (.Name y py)) spos.line X.env = pure true) (hs : ∀ x, foldedSetIterable iter X.env x = pure x := by intro _; rfl) :
    PSA X F0 (.Assign [.Name y py] (.ListComp elt [⟨tg, iter, ifs, 0⟩] scope pos) spos) (aSet i (aFz (aCompM n fs wi gt ti te))) := by
  refine ⟨?_⟩
  intro F Γ M σ H E f0 g m hw
  refine (ps_comp hN hiN hyl O hc pi_self (g := fun v σ H Q => ∀ pins C fp s H0, selfG (cxComp X pins Nc scope cl C fp s H0) tg v σ H Q)
    (ti := fun σ H Q => ∀ pins C fp s H0 pins' s', Inv (cxComp X pins Nc scope cl C fp s H0) pins' σ H s' → wpAny (model X.prog X.w) X.A (ifsRun (cxComp X pins Nc scope cl C fp s H0).env ifs) (TP (cxComp X pins Nc scope cl C fp s H0) pins' σ Q) (fun _ _ => False) s')
    (te := fun σ H Q => ∀ pins C fp s H0, selfE (cxComp X pins Nc scope cl C fp s H0) elt σ H Q)
    (fun pins C fp s H => fun pins' s' _ _ _ u _ I r h => h pins C fp s H pins' s' u I r) (fun pins C fp s H => fun pins' s' _ _ _ I h => h pins C fp s H pins' s' I) (fun pins C fp s H => fun pins' s' _ _ _ I h => h pins C fp s H pins' s' I) hsw hs).to ?_
  refine comp_read f0 g m hi hg hti he (Q := fun d M' => match d with | .obj p => (match M' p with | some (.lst ds) => E.nx (Γ.set i (some (.lst ds))) (del M' p) | _ => False) | _ => False) hw fun v H1 zz9 => ?_
  obtain ⟨d, F1, M1, s1, m1, r1, q1⟩ := zz9
  cases r1 with
  | obj p =>
    try dsimp only at q1
    split at q1
    · rename_i ds hd
      obtain ⟨F2, s2, m2, r2⟩ := m1.freeze hd
      exact ⟨F2, _, _, s1.trans s2, (g.up (s1.trans s2)).set r2 i, m2, q1⟩
    · exact q1.elim
  | _ => exact q1.elim

noncomputable def oAll : A1s := fun ds M Q => match ds with
  | [d] => (match dr M d with | some xs => ∃ bs : List Bool, xs = bs.map D.bl ∧ Q (.bl (bs.all id)) M | none => False)
  | _ => False
theorem bools_of {K : PySem.W.Frag} {F : Hp} : ∀ {vs : List V} {bs : List Bool} {us : List Value}, RDs K F vs (bs.map D.bl) → Vals vs us → us = bs.map Value.bool
  | _, [], _, r, v => by cases r; cases v; rfl
  | _, b :: bs, _, r, v => by
    cases r with
    | cons r1 r2 =>
      cases r1
      cases v with
      | cons v1 v2 =>
        cases (show _ = Value.bool b from v1)
        rw [bools_of r2 v2]; rfl
theorem paAll {tt : AA} {e : Expr} {p : Pos} (hg : Gl X "all") (hm : X.mg "all" = none) (hc : X.calm = true) (ha : PAA X F0 [e] tt)
    (he : starEach [e] X.env = (false, eval e X.env) :: starEach [] X.env := by rfl) : PEA X F0 (.Call (.Name "all" p) [e] [] pos) (aCall oAll tt) := by
  refine ⟨?_⟩
  intro F Γ M σ H Q f0 g m hw
  have base : CallR X (.builtin "all") (fun vs H Rv => ∃ F1 M1 ds, AM X.K F1 M1 H ∧ RDs X.K F1 vs ds ∧ oAll ds M1 (fun d M' => ∀ v, RD X.K F1 v d → AM X.K F1 M' H → Rv v H)) := by
    intro pins s σ H vs us Rv I rv ⟨F1, M1, ds, m1, r1, h⟩
    unfold oAll at h
    split at h
    · obtain ⟨x, rfl, rx⟩ := r1.one'
      split at h
      · rename_i xs hd
        obtain ⟨bs, rfl, q⟩ := h
        obtain ⟨a, ws, rfl, e, rr⟩ := dr_rep m1 rx hd
        obtain ⟨u, rfl, ru⟩ := rv.one
        cases ru
        obtain ⟨its, ri, pl, hz⟩ := I.list e
        have hits := bools_of rr ri
        subst hits
        have hl := pl.isList
        have hlt : a < s.heap.objs.size := by obtain ⟨_, e, _⟩ := hl; exact Heap.lt_size e
        refine call_all_walk (wpAny_pyIter_list hl ?_)
        refine ⟨s.heap.objs.size, [s.heap.objs.size, a], [s.heap.objs.size], (bs.map Value.bool).toArray.size, _, _, fun i => (bs[i]?).getD true, rfl, Walks.list (prog := X.prog) (w := X.w) (A := X.A.in1) (I.ok.hd hc) s.heap.objs.size a (Nat.ne_of_lt hlt) (bs.map Value.bool).toArray, ⟨⟨_, Heap.get?_push_size _ rfl, rfl, rfl⟩, hl.push _⟩, fun i v s' Q' E' hP hQ => ?_, fun h' tk hk => ?_⟩
        · have hP' : (bs.map Value.bool)[i]? = some v := by simpa using hP
          rw [List.getElem?_map] at hP'
          cases hb : bs[i]? with
          | none => rw [hb] at hP'; cases hP'
          | some b =>
            rw [hb] at hP'
            cases hP'
            have hQ : Q' ((bs[i]?).getD true) s' := hQ
            rw [hb] at hQ
            exact wpAny_truthy_bool hQ
        · have e2 : ((List.range bs.length).all fun i => (bs[i]?).getD true) = bs.all id := by
            rw [Bool.eq_iff_iff, List.all_eq_true, List.all_eq_true]
            constructor
            · intro h b hb
              obtain ⟨i, hi, rfl⟩ := List.getElem_of_mem hb
              have := h i (List.mem_range.mpr hi)
              simpa [List.getElem?_eq_getElem hi] using this
            · intro h i hi
              have hi' := List.mem_range.mp hi
              simpa [List.getElem?_eq_getElem hi'] using h _ (List.getElem_mem hi')
          rw [show (bs.map Value.bool).toArray.size = bs.length by simp, e2]
          refine ⟨.bl _, H, ?_, rfl, q _ (.bl _) m1⟩
          exact I.kept (t' := tk) fun b o e => hk b o (fun hm => by rw [List.mem_singleton.mp hm] at e; exact Nat.lt_irrefl _ (Heap.lt_size e)) (Heap.get?_push_of_some _ e)
      · exact h.elim
    · exact h.elim
  refine (pe_callB base hg hm boot_all pa_self (by decide) (by decide) he rfl).to ((ha.run F Γ M σ H _ f0 g m hw).mono fun vs H1 ⟨ds, F1, M1, s1, m1, r1, q1⟩ => ⟨F1, M1, ds, m1, r1, ?_⟩)
  unfold oAll at q1 ⊢
  try dsimp only at q1
  split at q1
  · rename_i d
    dsimp only
    cases hd : dr M1 d with
    | none => rw [hd] at q1; exact q1.elim
    | some xs =>
      rw [hd] at q1
      obtain ⟨bs, e, q⟩ := q1
      exact ⟨bs, e, fun v rv m' => ⟨_, F1, M1, s1, m1, rv, q⟩⟩
  · exact q1.elim
end
end L2

namespace L2
open PySem PySem.Spec PySem.Calls PyProof.Rows

theorem FnOk.noX {P : Program} {w : World} {K : PySem.W.Frag} {mg : Str → Option Value} {base : Heap} {k : Nat} {f : Addr} {fd : FuncData} {ps : List Str} {sp sp' : Sp} (Fn : FnOk P w K mg base (CXE P w) k f fd ps sp)
    (h : ∀ vs H Q E, sp' vs H Q E → sp vs H Q fun _ _ _ => False) : FnOk P w K mg base CX0 k f fd ps sp' := by
  refine ⟨fun vs H Q E q => Fn.len vs H Q _ (h _ _ _ _ q), fun A outer s H args us vs Q E hr he hb hv hs => codeAny_mono (Fn.run A outer s H args us vs Q _ hr he hb hv (h _ _ _ _ hs)) fun r s' q => ?_⟩
  cases r with
  | error e => obtain ⟨_, _, _, _, _, _, _, _, _, _, _, _, _, _, z⟩ := q; exact z.elim
  | ok fl =>
    cases fl with
    | ret u => exact q
    | _ => exact q
noncomputable def spScript (K : PySem.W.Frag) : Sp := fun vs H Q _ => ∃ (a : Addr) (ns : List Int), vs = [.ref a] ∧ SqL K H a (ns.map V.int) ∧ Script 63 ns ∧ ∀ H', Q (.bl true) H'
noncomputable def spTrue : SpA := fun ds _ Q _ => ∃ ns : List Int, ds = [.scr (ns.map D.int)] ∧ Script 63 ns ∧ ∀ M', Q (.bl true) M'
theorem ints_rd {K : PySem.W.Frag} {F : Hp} : ∀ ns : List Int, RDs K F (ns.map V.int) (ns.map D.int)
  | [] => .nil
  | _ :: ns => .cons (.int _) (ints_rd ns)
theorem law_ok {P : Program} {w : World} {K : PySem.W.Frag} {mg : Str → Option Value} {base : Heap} {k : Nat} {f : Addr} {fd : FuncData} {ps : List Str} (Fn : FnOk P w K mg base (CXE P w) k f fd ps (liftS K spTrue)) : FnOk P w K mg base CX0 k f fd ps (spScript K) := by
  refine Fn.noX fun vs H Q E zz9 => ?_
  obtain ⟨a, ns, e, hS, hsc, q⟩ := zz9
  subst e
  refine ⟨fun b => if b = a then H b else none, [.scr (ns.map D.int)], fun _ => none, fun d _ => d = .bl true, fun _ _ => False, ⟨fun b o e => ?_, fun b o e => ?_, fun b o e => ?_⟩, .cons (.scr ?_ (ints_rd ns)) .nil, ⟨ns, rfl, hsc, fun _ => rfl⟩, fun v H' ⟨d, _, _, _, _, r, hd⟩ => ?_, fun _ _ ⟨_, _, _, _, z⟩ => z.elim⟩
  · split at e
    · exact e
    · cases e
  · cases e
  · cases e
  · rcases hS with (h | ⟨o, h⟩) | h
    · exact .inl (.inl (by simpa using h))
    · exact .inl (.inr ⟨o, by simpa using h⟩)
    · exact .inr h
  · subst hd
    cases r
    exact q H'
end L2
namespace L2
open PySem PySem.Spec PySem.Calls PyProof.Rows
theorem compL {fs : List Nat} {tl te : AE} {Γ : G} {M : Mem} {Q : AK} (ds : List D) (f : D → D) (htl : ∀ R : AK, R (.lst ds) M → tl Γ M R) (hn : ds.length ≤ 1000) (he : ∀ x ∈ ds, ∀ (M' : Mem) (R : AK), R (f x) M' → te (some x :: frG fs Γ) M' R)
    (q : Q (.lst (ds.map f)) M) : aFz (aCompM 1 fs (iaL tl) (gaN 0) aYes te) Γ M Q := by
  refine htl _ ?_
  refine ⟨fun i => some (f (ds.getD i .non)), hn, fun M' _ => ⟨rfl, fun i hi own ho => ?_⟩, fun p hp => ?_⟩
  · obtain ⟨o, rfl⟩ : ∃ o, own = [o] := by
      cases own with
      | nil => cases ho
      | cons o l => cases l with
        | nil => exact ⟨o, rfl⟩
        | cons _ _ => simp at ho
    refine ⟨rfl, ⟨[some _], rfl, rfl⟩, rfl, ?_⟩
    rw [if_pos rfl]
    have hi' : i < ds.length := hi
    have e : ds.getD i .non = ds[i] := by simp [List.getD, List.getElem?_eq_getElem hi']
    show te (some (ds.getD i .non) :: frG fs Γ) M' _
    rw [e]
    exact he _ (List.getElem_mem hi') M' _ ⟨rfl, by dsimp only; rw [e]⟩
  · dsimp only
    rw [put_same]
    dsimp only
    rw [del_put hp]
    have e : outs (fun i => some (f (ds.getD i .non))) ds.length = ds.map f := by
      apply List.ext_getElem?
      intro i
      have : outs (fun i => some (f (ds.getD i .non))) ds.length = (List.range ds.length).map fun i => f (ds.getD i .non) := by
        unfold outs
        induction List.range ds.length with
        | nil => rfl
        | cons a l ih => simp only [List.filterMap_cons, List.map_cons, ih]
      rw [this]
      simp only [List.getElem?_map]
      by_cases hi : i < ds.length
      · simp [List.getElem?_range hi, List.getElem?_eq_getElem hi, List.getD]
      · simp [List.getElem?_eq_none (show (List.range ds.length).length ≤ i by simp; omega), List.getElem?_eq_none (show ds.length ≤ i by omega)]
    rw [e]
    exact q
theorem at_map {α : Type} (f : α → D) (xs : List α) (j : Int) (h0 : 0 ≤ j) (h1 : j < xs.length) : ∃ x, atI (xs.map f) j = some (f x) ∧ x ∈ xs := by
  obtain ⟨k, rfl⟩ := Int.eq_ofNat_of_zero_le h0
  have hk : k < xs.length := by omega
  exact ⟨xs[k], atI_nat (by simp [List.getElem?_eq_getElem hk]), List.getElem_mem hk⟩
theorem at0 {a : D} {l : List D} : atI (a :: l) 0 = some a := atI_nat (j := 0) rfl
theorem at1 {a b : D} {l : List D} : atI (a :: b :: l) 1 = some b := atI_nat (j := 1) rfl
theorem at2 {a b c : D} {l : List D} : atI (a :: b :: c :: l) 2 = some c := atI_nat (j := 2) rfl
theorem at3 {a b c d : D} {l : List D} : atI (a :: b :: c :: d :: l) 3 = some d := atI_nat (j := 3) rfl
end L2
namespace L2
open PySem PySem.Spec PySem.Calls PyProof.Rows
end L2
namespace L2
section
variable {M : Mem} {Q : AK}
theorem eqq_int {i j : Int} : oEq false (.int i) (.int j) M Q = Q (.bl (decide (i = j))) M := by unfold oEq eqC eqB; simp [scalD, eqS]
theorem eqq_str {i j : PySem.Str} : oEq false (.str i) (.str j) M Q = Q (.bl (decide (i = j))) M := by unfold oEq eqC eqB; simp [scalD, eqS]
theorem eqq_bl {i j : Bool} : oEq false (.bl i) (.bl j) M Q = Q (.bl (decide (i = j))) M := by unfold oEq eqC eqB; simp [scalD, eqS]
theorem neq_int {i j : Int} : oEq true (.int i) (.int j) M Q = Q (.bl (!decide (i = j))) M := by unfold oEq eqC eqB; simp [scalD, eqS]
theorem neq_str {i j : PySem.Str} : oEq true (.str i) (.str j) M Q = Q (.bl (!decide (i = j))) M := by unfold oEq eqC eqB; simp [scalD, eqS]
theorem neq_bl {i j : Bool} : oEq true (.bl i) (.bl j) M Q = Q (.bl (!decide (i = j))) M := by unfold oEq eqC eqB; simp [scalD, eqS]
end
end L2
namespace L2
theorem seqIfF {c : AT} {t rest : AS} {E : AEnds} {Γ : G} {M : Mem} (h : ∀ R : Bool → Mem → Prop, R false M → c Γ M R) (h2 : rest E Γ M) : aSeq (aIf c t aNext) rest E Γ M := h _ (by rw [if_neg Bool.false_ne_true]; exact h2)
theorem seqIfT {c : AT} {t u rest : AS} {E : AEnds} {Γ : G} {M : Mem} (h : ∀ R : Bool → Mem → Prop, R true M → c Γ M R) (h2 : t { E with nx := rest E } Γ M) : aSeq (aIf c t u) rest E Γ M := h _ (by rw [if_pos rfl]; exact h2)
end L2
namespace L2
theorem eqB_refl {d : D} {M : Mem} (h : shD (drf M d) = true) : eqB M d d = true := by
  unfold eqB
  split
  · rename_i hs
    cases d <;> first
      | (simp [scalD] at hs; done)
      | simp [eqS]
  · unfold shD at h
    simp only [Bool.and_eq_true] at h
    exact eqv_refl _ (PySem.SeqAt.canLay_of_shaped h.2)
theorem eq_self' {d : D} {M : Mem} {Q : AK} (h : shD (drf M d) = true) (q : Q (.bl true) M) : oEq false d d M Q := ⟨.inr ⟨h, h⟩, by rw [eqB_refl h]; exact q⟩
end L2
namespace L2
open PySem

inductive Gd : Nat → D → Prop where
  | non (n : Nat) : Gd n .non
  | bl (n : Nat) (b : Bool) : Gd n (.bl b)
  | int (n : Nat) (i : Int) : Gd n (.int i)
  | str (n : Nat) (x : Str) (h : PyData.strOk x = true) : Gd n (.str x)
  | lst (n : Nat) (ds : List D) (h : ∀ d ∈ ds, Gd n d) : Gd (n + 1) (.lst ds)
  | tup (n : Nat) (ds : List D) (h : ∀ d ∈ ds, Gd n d) : Gd (n + 1) (.tup ds)
theorem gd_all {n : Nat} : ∀ {ds : List D}, (∀ d ∈ ds, d.flat = true ∧ d.py.canLay0 = true ∧ d.py.depth ≤ n) → D.flats ds = true ∧ PyData.canLayAll0 (D.pys ds) = true ∧ PyData.depthAll (D.pys ds) ≤ n
  | [], _ => ⟨by simp [D.flats], by simp [D.pys, PyData.canLayAll0], by simp [D.pys, PyData.depthAll]⟩
  | d :: ds, h => by
    obtain ⟨h1, h2, h3⟩ := h d List.mem_cons_self
    obtain ⟨g1, g2, g3⟩ := gd_all fun e he => h e (List.mem_cons_of_mem _ he)
    refine ⟨by simp [D.flats, h1, g1], by simp [D.pys, PyData.canLayAll0, h2, g2], ?_⟩
    simp only [D.pys, PyData.depthAll]
    omega
theorem Gd.ok {n : Nat} {d : D} (h : Gd n d) : d.flat = true ∧ d.py.canLay0 = true ∧ d.py.depth ≤ n := by
  induction h with
  | non n => simp [D.flat, D.py, PyData.canLay0, PyData.depth]
  | bl n b => simp [D.flat, D.py, PyData.canLay0, PyData.depth]
  | int n i => simp [D.flat, D.py, PyData.canLay0, PyData.depth]
  | str n x h => simp [D.flat, D.py, PyData.canLay0, PyData.depth, h]
  | lst n ds _ ih =>
    obtain ⟨h1, h2, h3⟩ := gd_all ih
    exact ⟨by simpa [D.flat] using h1, by simpa [D.py, PyData.canLay0] using h2, by simp only [D.py, PyData.depth]; omega⟩
  | tup n ds _ ih =>
    obtain ⟨h1, h2, h3⟩ := gd_all ih
    exact ⟨by simpa [D.flat] using h1, by simpa [D.py, PyData.canLay0] using h2, by simp only [D.py, PyData.depth]; omega⟩
theorem Gd.sh {n : Nat} {d : D} (h : Gd n d) (hn : n ≤ 64 := by decide) : shD d = true := by
  obtain ⟨h1, h2, h3⟩ := h.ok
  unfold shD SeqAt.shaped
  rw [h1, h2]
  simp; omega
end L2

set_option Elab.async false
set_option linter.all false
set_option maxRecDepth 100000
namespace L2
open PySem PySem.Spec PySem.Calls PyProof.Rows


noncomputable def keyOf : Key → D
  | .inl i => .int i
  | .inr x => .str x
section
variable {X : Cx} {F0 : Hp} {o : Expr} {td : AE} {p q pos apos cpos : Pos} {K : PySem.W.Frag}
noncomputable def aVals (td : AE) : AE := fun Γ M Q => td Γ M fun x M1 => opt (dd M1 x) fun kvs => ∀ p, M1 p = none → Q (.obj p) (put M1 p (.lst (kvs.map fun kv => kv.2)))
noncomputable def aItems (td : AE) : AE := fun Γ M Q => td Γ M fun x M1 => opt (dd M1 x) fun kvs => ∀ p, M1 p = none → Q (.obj p) (put M1 p (.lst (kvs.map fun kv => .tup [keyOf kv.1, kv.2])))
theorem PF.vals {F : Hp} : ∀ {ws : List (Key × V)} {kvs : List (Key × D)}, PF K F ws kvs → RDs K F (ws.map (·.2)) (kvs.map (·.2))
  | _, _, .nil => .nil
  | _, _, .cons h t => .cons h.2 (PF.vals t)
theorem key_of_rd {F : Hp} : ∀ k : Key, RD K F (kV k) (keyOf k)
  | .inl _ => .int _
  | .inr _ => .str _
theorem paVals (hm : X.mg "list" = none) (hc : X.calm = true) (hg : Gl X "list") (ho : PEA X F0 o td)
    (hbase : attributeBase o "values" X.env (eval o X.env) = eval o X.env := by rfl) (hline : (apos.endLine == cpos.line) = true := by rfl)
    (he : starEach [.Call (.Attribute o "values" apos) [] [] cpos] X.env = (false, eval (.Call (.Attribute o "values" apos) [] [] cpos) X.env) :: starEach [] X.env := by rfl) (hpl : (backTo pos (starEach [] X.env)).any (·.1) = false := by rfl) :
    PEA X F0 (.Call (.Name "list" p) [.Call (.Attribute o "values" apos) [] [] cpos] [] pos) (aVals td) := by
  refine ⟨?_⟩
  intro F Γ M σ H Q f0 g m hw
  refine (pe_callTy (call_list_values hc) hg hm boot_list (pa_cons (pe_bm0 PySem.F.plainAttrs_dict PySem.F.slot_dict_values PySem.F.type_dict_values mt_values pe_self hbase hline) pa_nil he) (by decide) (by decide) he hpl).to
    ((ho.run F Γ M σ H _ f0 g m hw).mono fun v H1 ⟨d, F1, M1, s1, m1, r1, q1⟩ => ?_)
  obtain ⟨kvs, hd, q2⟩ := some_ex q1
  obtain ⟨a, ws, rfl, rfl, hM, e1, pf⟩ := dd_rep m1 r1 hd
  refine ⟨.inr (.inr (.inl ⟨rfl, .inl ⟨ws, e1⟩⟩)), a, ws, rfl, rfl, .inl e1, fun vw hvw => ?_⟩
  have ha : a ≠ vw := fun z => by rw [z, hvw] at e1; cases e1
  refine ⟨vw, a, ws, rfl, upd_same, .inl (by rw [upd_ne ha]; exact e1), fun l hl => ?_⟩
  exact ⟨.obj l, F1, _, s1, (m1.more (u := .ext (viewφ "dict_values" vw a)) hvw).new (o := .lst (kvs.map fun kv : Key × D => kv.2)) hl (PF.vals pf), .obj l, q2 l ((m1.more (u := .ext (viewφ "dict_values" vw a)) hvw).fM hl)⟩
theorem items_rd {F : Hp} {M : Mem} {H H1 : Hp} {l : Addr} {as : List Addr} {ws : List (Key × V)} {kvs : List (Key × D)} (m : AM K F M H) (hl : H l = none) (ha : ∀ a ∈ as, H a = none ∧ a ≠ l)
    (hb : ∀ b, (∀ a ∈ as, b ≠ a) → H1 b = upd H l (.lst (as.map V.ref)) b) (hp : Prs H1 as ws) (pf : PF K F ws kvs) :
    ∃ F', Same F F' ∧ AM K F' (put M l (.lst (kvs.map fun kv => .tup [keyOf kv.1, kv.2]))) H1 := by
  have hs : Same F fun b => if b ∈ as then H1 b else F b := fun b x e => by
    have : b ∉ as := fun hm => by rw [m.sub.free (ha b hm).1] at e; cases e
    dsimp only; rw [if_neg this]; exact e
  have out : ∀ b, b ∉ as → H1 b = upd H l (.lst (as.map V.ref)) b := fun b hn => hb b fun a hm z => hn (z ▸ hm)
  have hll : l ∉ as := fun hm => (ha l hm).2 rfl
  refine ⟨_, hs, ⟨fun b x e => ?_, fun b x e => ?_, fun b x e => ?_⟩⟩
  · split at e
    · exact e
    · rename_i hn
      have hbl : b ≠ l := by rintro rfl; rw [m.fF hl] at e; cases e
      rw [out b hn, upd_ne hbl]; exact m.sub b x e
  · have hn : b ∉ as := by
      by_cases hbl : b = l
      · subst hbl; exact hll
      · rw [put_ne hbl] at e
        intro hm
        rw [m.fM (ha b hm).1] at e; cases e
    rw [if_neg hn]
    by_cases hbl : b = l
    · subst hbl; exact m.fF hl
    · rw [put_ne hbl] at e; exact m.dj b x e
  · by_cases hbl : b = l
    · subst hbl
      rw [put_same] at e
      cases e
      refine ⟨.lst (as.map V.ref), by rw [out b hll, upd_same], ?_⟩
      show RDs K _ (as.map V.ref) (kvs.map fun kv => .tup [keyOf kv.1, kv.2])
      have key : ∀ {as' : List Addr} {ws' : List (Key × V)} {kvs' : List (Key × D)}, (∀ a ∈ as', a ∈ as) → Prs H1 as' ws' → PF K F ws' kvs' → RDs K (fun b => if b ∈ as then H1 b else F b) (as'.map V.ref) (kvs'.map fun kv => .tup [keyOf kv.1, kv.2]) := by
        intro as' ws' kvs' hin hp' pf'
        induction hp' generalizing kvs' with
        | nil => cases pf'; exact .nil
        | cons h t ih =>
          cases pf' with
          | cons h2 t2 =>
            refine .cons (.tup (by rw [if_pos (hin _ List.mem_cons_self)]; exact h) ?_) (ih (fun a hm => hin a (List.mem_cons_of_mem _ hm)) t2)
            refine .cons ?_ (.cons (h2.2.up hs) .nil)
            rw [h2.1]; exact key_of_rd _
      exact key (fun _ h => h) hp pf
    · rw [put_ne hbl] at e
      obtain ⟨y, e1, r1⟩ := m.mem b x e
      have hn : b ∉ as := fun hm => by rw [(ha b hm).1] at e1; cases e1
      exact ⟨y, by rw [out b hn, upd_ne hbl]; exact e1, r1.up hs⟩
theorem paItems (hm : X.mg "list" = none) (hc : X.calm = true) (hg : Gl X "list") (ho : PEA X F0 o td)
    (hbase : attributeBase o "items" X.env (eval o X.env) = eval o X.env := by rfl) (hline : (apos.endLine == cpos.line) = true := by rfl)
    (he : starEach [.Call (.Attribute o "items" apos) [] [] cpos] X.env = (false, eval (.Call (.Attribute o "items" apos) [] [] cpos) X.env) :: starEach [] X.env := by rfl) (hpl : (backTo pos (starEach [] X.env)).any (·.1) = false := by rfl) :
    PEA X F0 (.Call (.Name "list" p) [.Call (.Attribute o "items" apos) [] [] cpos] [] pos) (aItems td) := by
  refine ⟨?_⟩
  intro F Γ M σ H Q f0 g m hw
  refine (pe_callTy (call_list_items hc) hg hm boot_list (pa_cons (pe_bm0 PySem.F.plainAttrs_dict PySem.F.slot_dict_items PySem.F.type_dict_items mt_items pe_self hbase hline) pa_nil he) (by decide) (by decide) he hpl).to
    ((ho.run F Γ M σ H _ f0 g m hw).mono fun v H1 ⟨d, F1, M1, s1, m1, r1, q1⟩ => ?_)
  obtain ⟨kvs, hd, q2⟩ := some_ex q1
  obtain ⟨a, ws, rfl, rfl, hM, e1, pf⟩ := dd_rep m1 r1 hd
  refine ⟨.inr (.inr (.inl ⟨rfl, .inl ⟨ws, e1⟩⟩)), a, ws, rfl, rfl, .inl e1, fun vw hvw => ?_⟩
  have ha : a ≠ vw := fun z => by rw [z, hvw] at e1; cases e1
  refine ⟨vw, a, ws, rfl, upd_same, .inl (by rw [upd_ne ha]; exact e1), fun l as H2 hl has hH2 hp => ?_⟩
  have m2 := m1.more (u := .ext (viewφ "dict_items" vw a)) hvw
  obtain ⟨F', s', m'⟩ := items_rd m2 hl has hH2 hp pf
  exact ⟨.obj l, F', _, s1.trans s', m', .obj l, q2 l (m2.fM hl)⟩
end


noncomputable def instD (M : Mem) (T : String) : D → Bool
  | .int _ => T == "int"
  | .bl _ => T == "bool" || T == "int"
  | .str _ => T == "str"
  | .lst _ => T == "list"
  | .tup _ => T == "tuple"
  | .obj p => (match M p with | some (.lst _) => T == "list" | some (.dic _) => T == "dict" | _ => false)
  | _ => false
noncomputable def instOk (M : Mem) : D → Bool
  | .scr _ => false | .ctp _ => false
  | .obj p => (match M p with | some (.lst _) => true | some (.dic _) => true | _ => false)
  | _ => true
section
variable {X : Cx} {F0 : Hp} {e : Expr} {te : AE} {p q pos : Pos} {K : PySem.W.Frag} {T : String} {x : Str}
theorem ty_of {F : Hp} {M : Mem} {H : Hp} {v : V} {d : D} (m : AM K F M H) (r : RD K F v d) (h : instOk M d = true) (hT : T = "int" ∨ T = "bool" ∨ T = "str" ∨ T = "list" ∨ T = "tuple") :
    ∃ t, TyOf K H v t ∧ PySem.W.kitOne K t (.type T) = some (instD M T d) := by
  cases r <;> first
    | (simp [instOk] at h; done)
    | skip
  · exact ⟨_, .non, by rcases hT with rfl | rfl | rfl | rfl | rfl <;> rfl⟩
  · exact ⟨_, .bl _, by rcases hT with rfl | rfl | rfl | rfl | rfl <;> rfl⟩
  · exact ⟨_, .int _, by rcases hT with rfl | rfl | rfl | rfl | rfl <;> rfl⟩
  · exact ⟨_, .str _, by rcases hT with rfl | rfl | rfl | rfl | rfl <;> rfl⟩
  · rename_i e r
    exact ⟨_, .lst (m.sub _ _ e), by rcases hT with rfl | rfl | rfl | rfl | rfl <;> rfl⟩
  · rename_i e r
    exact ⟨_, .tup (m.sub _ _ e), by rcases hT with rfl | rfl | rfl | rfl | rfl <;> rfl⟩
  · rename_i pp
    unfold instOk at h
    dsimp only at h
    unfold instD
    dsimp only
    split at h
    · rename_i ds hd
      obtain ⟨u, e, r⟩ := m.mem _ _ hd
      obtain ⟨vs, rfl, r⟩ := r.isL
      exact ⟨_, .lst e, by rcases hT with rfl | rfl | rfl | rfl | rfl <;> rfl⟩
    · rename_i ds hd
      obtain ⟨u, e, r⟩ := m.mem _ _ hd
      obtain ⟨vs, rfl, r⟩ := r.isD
      exact ⟨_, .dK e, by rcases hT with rfl | rfl | rfl | rfl | rfl <;> rfl⟩
    · cases h
noncomputable def aInst (T : String) (te : AE) : AE := fun Γ M Q => te Γ M fun d M1 => instOk M1 d = true ∧ Q (.bl (instD M1 T d)) M1
theorem paInst (hT : T = "int" ∨ T = "bool" ∨ T = "str" ∨ T = "list" ∨ T = "tuple") (hg : Gl X "isinstance") (hm : X.mg "isinstance" = none) (hx : Gl X x) (hmx : X.mg x = none) (hv : bootBuiltins x = some (.type T)) (ha : PEA X F0 e te)
    (hn : x ≠ "__name__" := by decide) (hdb : (x == ("__debug__" : Str)) = false := by decide)
    (he : starEach [e, .Name x q] X.env = (false, eval e X.env) :: starEach [.Name x q] X.env := by rfl) (he2 : starEach [.Name x q] X.env = (false, eval (.Name x q) X.env) :: starEach [] X.env := by rfl) (hpl : (backTo pos (starEach [.Name x q] X.env)).any (·.1) = false := by rfl) :
    PEA X F0 (.Call (.Name "isinstance" p) [e, .Name x q] [] pos) (aInst T te) := by
  refine ⟨?_⟩
  intro F Γ M σ H Q f0 g m hw
  refine (pe_callB call_isinstC hg hm boot_isinstance (pa_cons pe_self (pa_cons (pe_bltn (v := .ty T) hx hmx hv rfl hn hdb) pa_nil he2) he) (by decide) (by decide) he hpl).to ((ha.run F Γ M σ H _ f0 g m hw).mono fun v H1 zz9 => ?_)
  obtain ⟨d, F1, M1, s1, m1, r1, hok, q1⟩ := zz9
  obtain ⟨t, h1, h2⟩ := ty_of m1 r1 hok hT
  exact ⟨v, .ty T, t, .type T, _, rfl, h1, rfl, h2, _, F1, M1, s1, m1, .bl _, q1⟩
end
end L2

set_option Elab.async false
set_option linter.all false
set_option maxRecDepth 100000
namespace L2
open PySem PySem.Spec PySem.Calls PyProof.Rows


noncomputable abbrev ATh := AEnds → Value → G → Mem → Prop
noncomputable def selfH (X : Cx) (hs : List ExceptHandler) : TH := fun D cls a σ H => ∀ s B a0, Inv X [] σ H s → Exn X H B a cls a0 (some .none) s.heap → wpAny (model X.prog X.w) X.A (handleBy (.ref a) X.env hs) (SP X [] D) X.xe s
theorem ph_self {X : Cx} {hs : List ExceptHandler} : PH X hs (selfH X hs) := fun s σ H D B a cls a0 I ex h => h s B a0 I ex
theorem PH.to {X : Cx} {hs : List ExceptHandler} {t : TH} {D : Ends} {cls : Value} {a : Addr} {σ : St} {H : Hp} (h : PH X hs t) (hw : t D cls a σ H) : selfH X hs D cls a σ H := fun s B a0 I ex => h s σ H D B a cls a0 I ex hw
theorem selfH.mono {X : Cx} {hs : List ExceptHandler} {D D' : Ends} {cls : Value} {a : Addr} {σ : St} {H : Hp} (h : selfH X hs D cls a σ H) (k : EndsTo D D') : selfH X hs D' cls a σ H := fun s B a0 I ex => thn (h s B a0 I ex) fun _ _ q => q.to k
structure PHA (X : Cx) (F0 : Hp) (hs : List ExceptHandler) (t : ATh)  : Prop where
  run : ∀ F Γ M σ H E cls a, Same F0 F → AG X.K F Γ σ → AM X.K F M H → t E cls Γ M → selfH X hs (PQD X.K F E) cls a σ H
noncomputable def aTry (tb : AX → AS) (th : ATh) (to : AS) : AS := fun E Γ M => tb (fun Γ' M' cls => th E cls Γ' M') { E with nx := to E } Γ M
section
variable {X : Cx} {F0 : Hp} {R : AX}
theorem selfSs.byImp {R R' : RX} {sts : List Stmt} {D : Ends} {σ : St} {H : Hp} (h : selfSs (X.by R) sts D σ H) (k : ∀ σ H cls a, R σ H cls a → R' σ H cls a) : selfSs (X.by R') sts D σ H := fun pins s I =>
  wpAny_mono (h pins s (I.unwish.wish _)) (fun _ _ q => by
    cases ‹Flow› with
    | next => obtain ⟨σ', H', J, q⟩ := q; exact ⟨σ', H', J.unwish.wish _, q⟩
    | brk => obtain ⟨σ', H', J, q⟩ := q; exact ⟨σ', H', J.unwish.wish _, q⟩
    | cont => obtain ⟨σ', H', J, q⟩ := q; exact ⟨σ', H', J.unwish.wish _, q⟩
    | ret u => obtain ⟨v, σ', H', J, r, q⟩ := q; exact ⟨v, σ', H', J.unwish.wish _, r, q⟩) fun e s' x => x.imp k
theorem Cat.by {R' : AX} (pl : Plain X) (calm : X.calm = true) (hu : X.A.units + 64 < cLine) : Cat (X.by (liftR X.K F0 R')) F0 R' := ⟨thr_self, pl.wish _, calm, fun fr => passes_XS pl fr, hu⟩
theorem sTry {body orelse : List Stmt} {h₀ : ExceptHandler} {hs : List ExceptHandler} {pos : Pos} {tb : AX → AS} {th : ATh} {t_o : AS} (k : Cat X F0 R)
    (hb : ∀ pn F1 R', Cat ((X.pin pn).by (liftR X.K F1 R')) F1 R' → PSsA ((X.pin pn).by (liftR X.K F1 R')) F1 body (tb R')) (hh : ∀ pn, PHA (X.pin pn) F0 (h₀ :: hs) th) (ho : PSsA X F0 orelse t_o) :
    PSA X F0 (.Try body (h₀ :: hs) orelse [] pos) (aTry tb th t_o) := by
  refine ⟨?_⟩
  intro F Γ M σ H E f0 g m hw
  refine (ps_try k.pl (tb := fun R D σ H => ∀ pn, selfSs ((X.pin pn).by R) body D σ H) (th := fun D cls a σ H => ∀ pn, selfH (X.pin pn) (h₀ :: hs) D cls a σ H) (to := selfSs X orelse)
    (fun pn R pins s σ H D I h => h pn pins s I) (fun pn s σ H D B a cls a0 I ex h => h pn s B a0 I ex) pss_self).to ?_
  intro pn
  have b := (hb pn F (fun Γ' M' cls => th E cls Γ' M') (Cat.by (k.pl.pin pn) k.calm k.un)).run F Γ M σ H _ (.refl F) g m hw
  refine (b.byImp fun σ' H' cls a ⟨F', Γ', M', s', g', m', q'⟩ pn' => ?_).mono ⟨fun σ' H' ⟨F', Γ', M', s', g', m', q'⟩ => ?_, fun _ _ z => z, fun _ _ z => z, fun _ _ z => z⟩
  · exact (ho.run F' Γ' M' σ' H' E (f0.trans s') g' m' q').mono (PQD.dn s')
  · exact ((hh pn').run F' Γ' M' σ' H' E cls a (f0.trans s') g' m' q').mono (PQD.dn s')
theorem Cat.pin (k : Cat X F0 R) (h : X.pn = []) (pn : List (Addr × Obj)) : Thr (X.pin pn) (liftR X.K F0 R) := by
  rintro e s' ⟨a, σ, H, B, cls, a0, m, rfl, I, ex, r⟩
  have J : Inv X [] σ H s' := ⟨I.ok.unpin, I.os, I.bare, I.base, I.loc, I.cell, I.free, I.freeC, fun p hp => by rw [h] at hp; simp at hp, I.hok, I.len⟩
  refine k.thr _ _ ⟨a, σ, H, B, cls, a0, m, rfl, J, ⟨ex.air, ex.tr, ex.md, fun b o e q n => ex.cov b o e ?_ n, ex.nd⟩, r⟩
  rcases q with q | q | q | ⟨p, hp, e⟩ | q
  · exact .inl q
  · exact .inr (.inl q)
  · exact .inr (.inr (.inl q))
  · rw [h] at hp; simp at hp
  · exact .inr (.inr (.inr (.inr q)))
theorem haNil (k : Cat X F0 R) (h : X.pn = []) (pn : List (Addr × Obj)) : PHA (X.pin pn) F0 [] (fun _ cls Γ M => R Γ M cls) := by
  refine ⟨?_⟩
  intro F Γ M σ H E cls a f0 g m hw
  exact (ph_nil (k.pin h pn) (k.pl.pin pn)).to ⟨F, Γ, M, f0, g, m, hw⟩
variable {x n : Str} {C : Addr} {np hp : Pos} {b₀ : Stmt} {suite : List Stmt} {rest : List ExceptHandler} {ts : Addr → AS} {tr : ATh} {K' : PySem.W.Frag}
theorem haCons (hK : X.K = K') (Pl : Plain X) (hm : X.mg x = some (.ref C)) (hg : Gl X x) (hs : ∀ a, PSsA (X.hand a) F0 (b₀ :: suite) (ts a)) (hr : PHA X F0 rest tr) (hd : (x == ("__debug__" : Str)) = false := by decide) :
    PHA X F0 (.ExceptHandler (some (.Name x np)) none (b₀ :: suite) hp :: rest) (fun E cls Γ M => ∃ b, PySem.W.exmOne K' cls (.ref C) = some b ∧ if b = true then ∀ a, ts a E Γ M else tr E cls Γ M) := by
  refine ⟨?_⟩
  intro F Γ M σ H E cls a f0 g m hw
  subst hK
  refine (ph_cons Pl hm hg (ts := fun a D σ H => selfSs (X.hand a) (b₀ :: suite) D σ H) (fun a pins s σ H D I h => h pins s I) ph_self hd).to ?_
  obtain ⟨b, hx, hw⟩ := hw
  refine ⟨b, hx, ?_⟩
  cases b with
  | true => rw [if_pos rfl] at hw ⊢; exact (hs a).run F Γ M σ H E f0 g m (hw a)
  | false => rw [if_neg Bool.false_ne_true] at hw ⊢; exact hr.run F Γ M σ H E cls a f0 g m hw
end


section
variable {X : Cx} {F0 : Hp} {k : Nat} {x : Str} {ps : List Str} {sa : Addr → SpA} {p pos : Pos} {e : Expr} {es : List Expr} {tt : AA} {a : Addr}
end

section
variable {X : Cx} {F0 : Hp} {e : Expr} {te : AE} {p q pos : Pos} {x : Str} {C : Addr}
end
end L2

set_option Elab.async false
set_option linter.all false
set_option maxRecDepth 100000

namespace L2
open PySem PySem.Spec PySem.Calls PyProof.Rows
section
variable {X : Cx} {tg : Expr} {F0 : Hp} {tt : AA} {pos : Pos}
noncomputable def size2 (a b : Int) : Nat := ((b - a + 1) / 2).toNat
noncomputable def iaR3 (tt : AA) : AI := fun Γ M Q => tt Γ M fun ds M1 => match ds with
  | [.int i, .int j, .int c] => c = 2 ∧ (-(2 ^ 61) ≤ i ∧ i < 2 ^ 61 ∧ -(2 ^ 61) ≤ j ∧ j < 2 ^ 61) ∧ Q ⟨size2 i j, fun k => .int (i + k * 2), fun _ => True⟩ M1
  | _ => False
end
end L2

set_option Elab.async false
set_option linter.all false
set_option maxRecDepth 100000

namespace L2
open PySem PySem.Spec PySem.Calls PyProof.Rows
section
variable {X : Cx} {F0 : Hp} {pos : Pos} {k v : Expr} {tk tv : AE}
noncomputable def aDict1 (tk tv : AE) : AE := fun Γ M Q => ∀ p, M p = none → tk Γ (put M p (.dic [])) fun x M1 => tv Γ M1 fun y M2 => M2 p = some (.dic []) ∧ opt (keyD x) fun kk => Q (.obj p) (put M2 p (.dic [(kk, y)]))
theorem paDict1 (hk : PEA X F0 k tk) (hv : PEA X F0 v tv) : PEA X F0 (.Dict [some k] [v] pos) (aDict1 tk tv) := by
  refine ⟨?_⟩
  intro F Γ M σ H Q f0 g m hw
  refine (pe_disp (trs := [(selfE X k, selfE X v)]) (pps_cons pe_self pe_self pps_nil) rfl rfl (by simp) (Nat.le_of_ble_eq_true rfl)).to ?_
  intro p hp
  have hq := hw p (m.fM hp)
  have m1 := m.new (o := .dic []) hp (u := .dK []) .nil
  refine two hk hv f0 g m1 hq fun F2 M2 H2 a b x y s m2 r1 r2 q => ?_
  obtain ⟨e1, q⟩ := q
  obtain ⟨kk, hkk, q⟩ := some_ex q
  obtain ⟨u, e2, ro⟩ := m2.mem _ _ e1
  obtain ⟨ws, rfl, pf⟩ := ro.isD
  cases pf
  refine ⟨e2, [(kk, b)], ?_, Nat.le_of_ble_eq_true rfl, .obj p, F2, put M2 p (.dic [(kk, y)]), s, ?_, .obj p, q⟩
  · rw [key_rd r1 hkk]; rfl
  · exact m2.set e1 (u := .dK (mergeK [] [(kk, b)])) (o' := .dic [(kk, y)]) (.cons ⟨rfl, r2⟩ .nil)
end
end L2

set_option Elab.async false
set_option linter.all false
set_option maxRecDepth 100000

namespace L2
open PySem PySem.Spec PySem.Calls PyProof.Rows
section
variable {X : Cx} {F0 : Hp} {e : Expr} {te : AE}
end
end L2

set_option Elab.async false
set_option linter.all false
set_option maxRecDepth 100000

namespace PySem
open Sem (wp)
theorem keys_miss : typeLookup (.type "list") "keys" = pure none := am_miss_of_fast (by decide +kernel)
theorem getAttrQ_miss_list {prog : Program} {w : World} {A : Around} {E : Value → Shared → Prop} {s : Shared} {a : Addr} {o : Obj} {xs : Array Value} {k : Nat} {name : Str} {Q : Option Value → Shared → Prop}
    (hx : s.heap.get? a = some o) (hc : o.cls = .type "list") (hdat : o.data = .seq xs k) (hd : o.dict = none) (hmiss : typeLookup (.type "list") name = pure none) (hname : (["__module__", "__name__", "__qualname__", "__doc__", "__annotations__"] : List Str).contains name = false) (hA : A.handled = none)
    (h : ∀ h' tk, (∀ b ob, s.heap.get? b = some ob → h'.get? b = some ob) → Q none { s with heap := h', toks := tk }) (hsz : name.length + 100 ≤ sizeLine := by size_fits) :
    wpAny (model prog w) A (getAttr? (.ref a) name) Q E s := by
  obtain ⟨c, dct, dat, sl⟩ := o
  simp only at hc hdat hd
  subst hc hdat hd
  obtain ⟨hp, g, d, tk, os⟩ := s
  have hT : ∀ tk', (⟨hp, g, d, tk', os⟩ : Shared).TypeIs (.ref a) "list" := fun _ => ⟨_, hx, rfl⟩
  have f1 := sub_AttributeError
  have f3 := F.slot_list_getattribute.lookup
  have f4 := F.slot_list_getattribute.bind (.ref a)
  have f5 := am_list_getattr_none
  unfold getAttr? getAttrBy? getAttrBy
  repeat (any_goals (first | assumption | exact hT _ | ((with_reducible show wpAny _ _ (call (Value.builtin "list.__getattribute__") _ _) _ _ _); refine call_meets F.slot_list_getattribute (hT _) am_entry_list_getattribute (F.args_list_getattribute_2 _ _) (meets_getattribute_miss_list a xs k sl name _ hmiss hname hsz) ⟨hx, hA, fun h' tk' e hx' => ?_⟩) | wp_step))
  obtain ⟨t', u', he⟩ := hx'.there
  show wpAny _ _ (getattributeRaised _ _ _ _ _ _ _) _ _ _
  unfold getattributeRaised
  repeat (any_goals (first | assumption | wp_step))
  exact h _ _ hx'.keeps
theorem plain_upd_loop : plainId "dict.update.loop" = true := by decide +kernel
theorem entry_upd_loop : entryFor table "dict.update.loop" = some Builtin.«dict.update.loop» := entryFor_of_fast (by kernel_rfl)
section
variable {prog : Program} {w : World} {K : Type} [DecidableEq K] {knd : KeyKind prog w K} {A : Around} {R : Result → Shared → Prop} {I : Addr} {fp wr : List Addr} {n : Nat} {P : Nat → Value → Prop} {St : Nat → Heap → Prop}
noncomputable def PairAt (knd : KeyKind prog w K) (d : Addr) (wr : List Addr) (h : Heap) (p : K × Value) (v : Value) : Prop :=
  ∃ t key o, v = .ref t ∧ t ≠ d ∧ t ∉ wr ∧ h.get? t = some o ∧ o.cls = .type "tuple" ∧ (∃ n, o.data = .seq #[key, p.2] n) ∧ knd.is p.1 key = true
theorem codeAny_upd_loop (W : Walks prog w A.in1 I fp wr n P St) (d : Addr) (hd : d ∉ fp) (ps : List (K × Value)) (hl : ps.length = n) (hn : n ≤ 1000) :
    ∀ (k i : Nat) (s : Shared) (tk : Tok), n - i = k → i ≤ n → St i s.heap → (∀ j v p, P j v → ps[j]? = some p → PairAt knd d wr s.heap p v) → s.heap.DictOf knd d ((ps.take i).foldl (fun m p => stored m p.1 p.2) []) →
    (∀ h' tk', (∀ b o, b ≠ d → b ∉ wr → s.heap.get? b = some o → h'.get? b = some o) → h'.DictOf knd d (ps.foldl (fun m p => stored m p.1 p.2) []) → R (.ok (.ret .none)) { s with heap := h', toks := tk' }) →
    codeAny (model prog w) A (.builtin "dict.update.loop" ⟨[.ref d, .ref I, .int i tk, .none], []⟩) R s := by
  have hdw : d ∉ wr := fun h => hd (W.sub _ h)
  have hlen : ∀ i, ((ps.take i).foldl (fun m p => stored m p.1 p.2) []).length ≤ i := by
    intro i
    have all : ∀ (ps : List (K × Value)) (m : List (K × Value)), (ps.foldl (fun m p => stored m p.1 p.2) m).length ≤ m.length + ps.length := by
      intro ps
      induction ps with
      | nil => intro m; simp
      | cons p ps ih2 =>
        intro m
        have h1 := ih2 (stored m p.1 p.2)
        have h2 := stored_length_le m p.1 p.2
        simp only [List.foldl_cons, List.length_cons]
        omega
    have h := all (ps.take i) []
    rw [List.length_take] at h
    simp only [List.length_nil] at h
    omega
  intro k
  induction k with
  | zero =>
    intro i s tk hk hi hst hps hD hR
    have hin : i = n := by omega
    subst hin
    refine codeAny_builtin entry_upd_loop ?_
    rw [Around.under_plainId plain_upd_loop _]
    show wpAny _ A.in1 (pyNext (.ref I) >>= _) _ _ s
    refine wpAny_bind (W.done s _ _ hst fun h' tk' hm => ?_)
    rw [← hl, List.take_length] at hD
    exact wpAny_pure (hR h' tk' (fun b o _ hb e => hm b o hb e) (by obtain ⟨o, es, ep, ho, r⟩ := hD; exact ⟨o, es, ep, hm d o hdw ho, r⟩))
  | succ k ih =>
    intro i s tk hk hi hst hps hD hR
    have hlt : i < n := by omega
    refine codeAny_builtin entry_upd_loop ?_
    rw [Around.under_plainId plain_upd_loop _]
    show wpAny _ A.in1 (pyNext (.ref I) >>= _) _ _ s
    refine wpAny_bind (W.item i s _ _ hlt hst fun v h' tk' hP hst' hm => ?_)
    obtain ⟨p, hp⟩ : ∃ p, ps[i]? = some p := ⟨ps[i]'(by omega), List.getElem?_eq_getElem (by omega)⟩
    obtain ⟨t, key, o, rfl, ht1, ht2, ht3, ht4, ⟨m, ht5⟩, hkey⟩ := hps i v p hP hp
    have ht3' := hm t o ht2 ht3
    have hD' : h'.DictOf knd d ((ps.take i).foldl (fun m p => stored m p.1 p.2) []) := by obtain ⟨o, es, ep, ho, r⟩ := hD; exact ⟨o, es, ep, hm d o hdw ho, r⟩
    dsimp only
    refine wpAny_bind (wpAny_holding (wpAny_bind (wpAny_tryCatch ?_)))
    unfold Builtin.Dict.pairItems
    refine wpAny_bind (wpAny_typeOf (T := "tuple") ⟨o, ht3', ht4⟩ ?_)
    rw [if_pos (by decide)]
    refine wpAny_bind (wpAny_seqItems ht3' ht5 (wpAny_pure ?_))
    have hsl : (1000 : Nat) ≤ sizeLine := by decide
    have hls := hlen i
    refine wpAny_holding (wpAny_dictSet_pairs hkey hD' (fun h2 hD2 hs2 => ?_) (by omega))
    have e : stored ((ps.take i).foldl (fun m p => stored m p.1 p.2) []) p.1 p.2 = (ps.take (i + 1)).foldl (fun m p => stored m p.1 p.2) [] := by
      rw [List.take_succ, hp, List.foldl_append]; rfl
    rw [e] at hD2
    refine wpAny_pure ⟨plainId_quiet plain_upd_loop _, ih (i + 1) _ 0 (by omega) hlt (W.frame _ _ _ hst' fun b hb o' e' => ?_) (fun j v q hPj hq => ?_) hD2 fun h3 tk3 hk3 hD3 => ?_⟩
    · exact (hs2.2 b (fun z => hd (z ▸ hb))).trans e'
    · obtain ⟨t', key', o2, rfl, g1, g2, g3, g4⟩ := hps j v q hPj hq
      exact ⟨t', key', o2, rfl, g1, g2, (hs2.2 t' g1).trans (hm t' o2 g2 g3), g4⟩
    · exact hR h3 tk3 (fun b o' hb1 hb2 e' => hk3 b o' hb1 hb2 ((hs2.2 b hb1).trans (hm b o' hb2 e'))) hD3
end
section
variable {prog : Program} {w : World} {K : Type} [DecidableEq K] {knd : KeyKind prog w K} {A : Around} {E : Value → Shared → Prop} {s : Shared}
theorem call_dict_pairs {l : Addr} {o : Obj} {items : Array Value} {m : Nat} {Q : Value → Shared → Prop} (hA : A.handled = none) (hl : s.heap.get? l = some o) (hc : o.cls = .type "list") (hdat : o.data = .seq items m) (hdn : o.dict = none) (ps : List (K × Value)) (hlen : ps.length = items.size) (hn : items.size ≤ 1000)
    (hps : ∀ (j : Nat) (v : Value) (p : K × Value), items[j]? = some v → ps[j]? = some p → ∃ t key o, v = .ref t ∧ s.heap.get? t = some o ∧ o.cls = .type "tuple" ∧ (∃ n, o.data = .seq #[key, p.2] n) ∧ knd.is p.1 key = true)
    (h : ∀ h' tk, (∀ b ob, s.heap.get? b = some ob → h'.get? b = some ob) → h'.DictOf knd s.heap.objs.size (ps.foldl (fun m p => stored m p.1 p.2) []) → Q (.ref s.heap.objs.size) { s with heap := h', toks := tk }) :
    wpAny (model prog w) A (call (.type "dict") [.ref l]) Q E s := by
  refine callType_codes (Q₁ := fun obj s₁ => obj = .ref s.heap.objs.size ∧ s₁ = { s with heap := s.heap.push { cls := .type "dict", data := .dict #[] } }) F.kt_called_dict (F.kt_typeCall_dict_1 _) F.entry_dict_init (kt_code_dict_new _ ⟨rfl, rfl⟩) ?_
  rintro obj s₁ ⟨rfl, rfl⟩
  have hnew : (s.heap.push { cls := .type "dict", data := .dict #[] }).DictOf knd s.heap.objs.size [] := Heap.DictOf.new s.heap
  have hl1 := Heap.get?_push_of_some { cls := .type "dict", data := .dict #[] } hl
  refine ⟨hnew.typeIs, F.args_dict_init_2 _ _, ?_⟩
  unfold Builtin.«dict.__init__»
  refine wpAny_bind ?_
  unfold Builtin.Dict.selfAndRest
  refine wpAny_bind (wpAny_notOrdered_dict hnew.typeIs ?_)
  show wpAny _ _ (pure (s.heap.objs.size, [Value.ref l])) _ _ _
  refine wpAny_pure ?_
  show wpAny _ _ (Builtin.Dict.updateFrom "dict.__init__" s.heap.objs.size (.ref l) [] .none) _ _ _
  unfold Builtin.Dict.updateFrom
  refine wpAny_bind (wpAny_typeOf (T := "list") ⟨o, hl1, hc⟩ ?_)
  rw [if_pos (by decide)]
  refine wpAny_bind (getAttrQ_miss_list hl1 hc hdat hdn keys_miss (by decide +kernel) hA fun h2 tk2 hk2 => ?_)
  rw [if_pos (show (none : Option Value).isNone = true from rfl)]
  have hl2 := hk2 _ _ hl1
  have hD2 : h2.DictOf knd s.heap.objs.size [] := by obtain ⟨o, es, ep, ho, r⟩ := hnew; exact ⟨o, es, ep, hk2 _ _ ho, r⟩
  have hlt : l < s.heap.objs.size := Heap.lt_size hl
  have hsz : s.heap.objs.size < h2.objs.size := by obtain ⟨o, es, ep, ho, r⟩ := hD2; exact Heap.lt_size ho
  refine wpAny_bind (wpAny_rule (wpAny_bind (wpAny_pyIter_list (items := items) ⟨o, hl2, hc, m, hdat⟩ ?_)))
  refine wpAny_pure ⟨plainId_quiet plain_upd_loop _, ?_⟩
  have hIl : ∀ b, b < h2.objs.size → b ≠ h2.objs.size := fun b hb => Nat.ne_of_lt hb
  have hne : l ≠ h2.objs.size := hIl l (Heap.lt_size hl2)
  have hdf : s.heap.objs.size ∉ [h2.objs.size, l] := by
    simp only [List.mem_cons, List.not_mem_nil, or_false, not_or]
    exact ⟨Nat.ne_of_lt hsz, Nat.ne_of_gt hlt⟩
  refine codeAny_upd_loop (knd := knd) (Walks.list (A := A.in1.in1) hA h2.objs.size l hne items) s.heap.objs.size hdf ps hlen hn items.size 0 _ 0 (by omega) (Nat.zero_le _) ⟨⟨_, Heap.get?_push_size _ rfl, rfl, rfl⟩, o, Heap.get?_push_of_some _ hl2, hc, m, hdat⟩ (fun j v p hP hp => ?_) (by
      obtain ⟨o, es, ep, ho, r⟩ := hD2
      exact ⟨o, es, ep, Heap.get?_push_of_some _ ho, r⟩) fun h3 tk3 hk3 hD3 => ⟨rfl, h h3 tk3 (fun b ob e => ?_) hD3⟩
  · obtain ⟨t, key, ot, rfl, g1, g2⟩ := hps j v p hP hp
    have g3 := hk2 _ _ (Heap.get?_push_of_some { cls := .type "dict", data := .dict #[] } g1)
    exact ⟨t, key, ot, rfl, Nat.ne_of_lt (Heap.lt_size g1), by simp only [List.mem_singleton]; exact hIl t (Heap.lt_size g3), Heap.get?_push_of_some _ g3, g2⟩
  · have e2 := hk2 _ _ (Heap.get?_push_of_some { cls := .type "dict", data := .dict #[] } e)
    exact hk3 b ob (Nat.ne_of_lt (Heap.lt_size e)) (by simp only [List.mem_singleton]; exact hIl b (Heap.lt_size e2)) (Heap.get?_push_of_some _ e2)
end
end PySem

set_option Elab.async false
set_option linter.all false
set_option maxRecDepth 100000
namespace L2
open PySem PySem.Spec PySem.Calls PyProof.Rows
theorem fold_stored {κ : Type} [DecidableEq κ] : ∀ (ps m : List (κ × Value)), ((m ++ ps).map (·.1)).Nodup → ps.foldl (fun m p => stored m p.1 p.2) m = m ++ ps
  | [], m, _ => by simp
  | p :: ps, m, h => by
    have h1 : stored m p.1 p.2 = m ++ [p] := by
      refine stored_absent ?_ _
      have hn : p.1 ∉ m.map (·.1) := fun z => by
        rw [List.map_append, List.map_cons, List.nodup_append] at h
        exact h.2.2 _ z _ List.mem_cons_self rfl
      unfold valueAt
      rw [List.find?_eq_none.mpr fun x hx => by
        have : x.1 ≠ p.1 := fun e => hn (by rw [← e]; exact List.mem_map.mpr ⟨x, hx, rfl⟩)
        simp [this]]
      rfl
    rw [List.foldl_cons, h1, fold_stored ps (m ++ [p]) (by simpa using h)]
    simp
section
variable {X : Cx}
noncomputable def Prs' (H : Hp) : List V → List (Key × V) → Prop := Paired fun v p => ∃ t, v = .ref t ∧ H t = some (.tup [kV p.1, p.2])
noncomputable def rDictOf : List V → Hp → VK → Prop := fun xs H Q => ∃ a vs ps, xs = [.ref a] ∧ H a = some (.lst vs) ∧ vs.length ≤ 1000 ∧ Prs' H vs ps ∧ (ps.map (·.1)).Nodup ∧ ∀ p, H p = none → Q (.ref p) (upd H p (.dK ps))
theorem prs_len {H : Hp} {vs : List V} {ps : List (Key × V)} (h : Prs' H vs ps) : vs.length = ps.length := by
  induction h with
  | nil => rfl
  | cons _ _ ih => simp [ih]
theorem prs_rel {pins : List (Addr × Obj)} {σ : St} {H : Hp} {s : Shared} (I : Inv X pins σ H s) {vs : List V} {ps : List (Key × V)} (h : Prs' H vs ps) : ∀ {its : List Value}, Vals vs its →
    ∃ ws : List (Key × Value), KV ps ws ∧ ∀ (j : Nat) (v : Value) (p : Key × Value), its[j]? = some v → ws[j]? = some p → ∃ t key o, v = .ref t ∧ s.heap.get? t = some o ∧ o.cls = .type "tuple" ∧ (∃ n, o.data = .seq #[key, p.2] n) ∧ (mixKind X.prog X.w).is p.1 key = true := by
  induction h with
  | nil => intro its _; exact ⟨[], .nil, fun j v p _ h => by simp at h⟩
  | cons hd _ ih =>
    intro its r
    cases r with
    | cons r1 r2 =>
      obtain ⟨ws, k1, k2⟩ := ih r2
      obtain ⟨t, rfl, ht⟩ := hd
      cases r1
      obtain ⟨_, us, ru, o, ho, hc, n, hdat⟩ := I.hok t _ ht
      obtain ⟨key, x, rfl, rk, rv⟩ := vals2 ru
      refine ⟨(_, x) :: ws, .cons ⟨rfl, rv⟩ k1, fun j v p hj hp => ?_⟩
      cases j with
      | zero =>
        simp only [List.getElem?_cons_zero, Option.some.injEq] at hj hp
        subst hj hp
        exact ⟨t, key, o, rfl, ho, hc, ⟨n, hdat⟩, kV_is rk⟩
      | succ j => exact k2 j v p (by simpa using hj) (by simpa using hp)
theorem kv_keys {ps : List (Key × V)} {ws : List (Key × Value)} (kv : KV ps ws) : ps.map (·.1) = ws.map (·.1) := by
  induction kv with
  | nil => rfl
  | cons h _ ih => simp only [List.map_cons, h.1, ih]
theorem call_dict_of (hc : X.calm = true) : CallR X (.type "dict") rDictOf := by
  intro pins s σ H xs us Q I r h
  obtain ⟨a, vs, ps, rfl, ha, hn, hp, nd, q⟩ := h
  obtain ⟨u, rfl, rx⟩ := vals1 r
  cases rx
  obtain ⟨hz, its, n, rv, hg⟩ := I.hok a _ ha
  obtain ⟨ws, kv, hps⟩ := prs_rel I hp rv
  have hl1 := rv.length
  have hl2 := prs_len hp
  have hl3 := kv.length
  have ek := kv_keys kv
  refine call_dict_pairs (knd := mixKind X.prog X.w) (I.ok.hd hc) hg rfl rfl rfl ws (by simp; omega) (by simp; omega) (fun j v p hj hp => hps j v p (by simpa using hj) hp) fun h' tk hk hD => ?_
  rw [fold_stored ws [] (by rw [List.nil_append, ← ek]; exact nd), List.nil_append] at hD
  refine ⟨.ref s.heap.objs.size, _, I.laid (t' := tk) (o := .dK ps) hk (Nat.le_refl _) (dk_new (by omega) (beq_eq_false_iff_ne.mpr (Ne.symm (Nat.ne_of_lt I.big))) kv hD), rfl, q _ (I.hok.fresh (Nat.le_refl _))⟩
end
end L2

set_option Elab.async false
set_option linter.all false
set_option maxRecDepth 100000

namespace L2
open PySem PySem.Spec PySem.Calls PyProof.Rows
noncomputable def pairsD : List D → Option (List (Key × D))
  | [] => some []
  | .tup [k, v] :: r => (match keyD k, pairsD r with | some k', some r' => some ((k', v) :: r') | _, _ => none)
  | _ => none
theorem pairs_rd {K : PySem.W.Frag} {F : Hp} {M : Mem} {H : Hp} (m : AM K F M H) : ∀ {ds : List D} {vs : List V} {kvs : List (Key × D)}, RDs K F vs ds → pairsD ds = some kvs → ∃ ps, Prs' H vs ps ∧ PF K F ps kvs
  | [], _, _, .nil, h => by cases h; exact ⟨[], .nil, .nil⟩
  | d :: ds, _, kvs, .cons r1 r2, h => by
    unfold pairsD at h
    split at h
    · rename_i heq; cases heq
    · rename_i k v r heq
      cases heq
      split at h
      · rename_i k' r' hk hr
        cases h
        obtain ⟨ps, h1, h2⟩ := pairs_rd m r2 hr
        cases r1 with
        | tup e rr =>
          obtain ⟨x, y, rfl, rx, ry⟩ := rr.two'
          have ek := key_rd rx hk
          subst ek
          exact ⟨(k', y) :: ps, .cons ⟨_, rfl, m.sub _ _ e⟩ h1, .cons ⟨rfl, ry⟩ h2⟩
      · cases h
    · cases h
noncomputable def oDictOf : A1s := fun ds M Q => match ds with
  | [d] => opt (dl M d) fun xs => xs.length ≤ 1000 ∧ opt (pairsD xs) fun kvs => (kvs.map (·.1)).Nodup ∧ ∀ p, M p = none → Q (.obj p) (put M p (.dic kvs))
  | _ => False
theorem pf_keys {K : PySem.W.Frag} {F : Hp} {ps : List (Key × V)} {kvs : List (Key × D)} (h : PF K F ps kvs) : ps.map (·.1) = kvs.map (·.1) := by
  induction h with
  | nil => rfl
  | cons h _ ih => simp only [List.map_cons, h.1, ih]
theorem lDictOf {K : PySem.W.Frag} : LC K rDictOf oDictOf := by
  intro F M H xs ds Q R m r h k
  unfold oDictOf at h
  split at h
  · obtain ⟨x, rfl, rx⟩ := r.one'
    obtain ⟨es, hd, hn, h⟩ := some_ex h
    obtain ⟨kvs, hp, nd, h⟩ := some_ex h
    obtain ⟨p, vs, rfl, e, rr⟩ := dl_rep m rx hd
    obtain ⟨ps, h1, h2⟩ := pairs_rd m rr hp
    exact ⟨p, vs, ps, rfl, e, by rw [rr.length]; exact hn, h1, by rw [pf_keys h2]; exact nd, fun l hl => k _ _ ⟨.obj l, F, _, .refl F, m.new (o := .dic kvs) hl h2, .obj l, h l (m.fM hl)⟩⟩
  · exact h.elim
end L2

set_option Elab.async false
set_option linter.all false
set_option maxRecDepth 100000

namespace L2
open PySem PySem.Spec PySem.Calls PyProof.Rows
section
variable {X : Cx} {pins : List (Addr × Obj)} {σ : St} {H : Hp} {s : Shared}
theorem Inv.still {d : Addr} {kvs : List (Key × V)} {o : Obj} (I : Inv X pins σ H s) (hd : H d = some (.dK kvs)) (ho : s.heap.get? d = some o) : Inv X pins σ (upd H d (.frz o (.dK kvs))) s := by
  have key : ∀ b u, H b = some u → (∀ ws, u ≠ .dK ws) → upd H d (.frz o (.dK kvs)) b = some u := fun b u e n => by
    rw [upd_ne (by rintro rfl; rw [hd] at e; cases e; exact n _ rfl)]; exact e
  have nn : ∀ b, H b = none → upd H d (.frz o (.dK kvs)) b = none := fun b e => by
    rw [upd_ne (by rintro rfl; rw [hd] at e; cases e)]; exact e
  refine ⟨I.ok, I.os, I.bare, ⟨I.base.keep, I.base.slot, fun c oc e n hx => nn c (I.base.free c oc e n hx), I.base.there, fun c xs e => key c _ (I.base.tups c xs e) (fun _ z => by cases z), fun c oc u e => key c _ (I.base.frzs c oc u e) (fun _ z => by cases z), fun c ps e => ?_⟩, I.loc, I.cell, nn _ I.free, fun x c e => nn _ (I.freeC x c e), fun p hp => ?_, fun c u q => ?_, I.len⟩
  · obtain ⟨m1, e'⟩ := I.base.tbls c ps e
    exact ⟨m1, key c _ e' (fun _ z => by cases z)⟩
  · obtain ⟨e, n, n1, n2, dd⟩ := I.pin p hp
    exact ⟨e, nn _ n, n1, n2, dd⟩
  · have st : ∀ {b : Addr} {u : HO}, ObjOk X.prog X.w H s.heap b u → ObjOk X.prog X.w (upd H d (.frz o (.dK kvs))) s.heap b u := fun x => x.stay (fun _ _ _ r => r) (fun c' r => key c' _ r (fun _ z => by cases z)) fun c' xs r => key c' _ r (fun _ z => by cases z)
    by_cases hc : c = d
    · subst hc
      rw [upd_same] at q
      cases q
      exact ⟨ho, st (I.hok c _ hd)⟩
    · rw [upd_ne hc] at q
      exact st (I.hok c u q)
noncomputable def ItdI (d : Addr) (o : Obj) (kvs : List (Key × V)) : It := ⟨fun i H => i < kvs.length ∧ H d = some (.frz o (.dK kvs)), fun i H x H' => ∃ T k v, H T = none ∧ kvs[i]? = some (k, v) ∧ x = .ref T ∧ H' = upd H T (.tup [kV k, v]), fun i H => i = kvs.length ∧ H d = some (.frz o (.dK kvs))⟩
noncomputable def ItdV (d : Addr) (o : Obj) (kvs : List (Key × V)) : It := ⟨fun i H => i < kvs.length ∧ H d = some (.frz o (.dK kvs)), fun i H x H' => H' = H ∧ ∃ k, kvs[i]? = some (k, x), fun i H => i = kvs.length ∧ H d = some (.frz o (.dK kvs))⟩
theorem kv_at {kvs : List (Key × V)} {ws : List (Key × Value)} (r : KV kvs ws) {i : Nat} (h : i < kvs.length) : ∃ k v u, kvs[i]? = some (k, v) ∧ ws[i]? = some (k, u) ∧ RelV v u := by
  have hw : i < ws.length := by rw [← r.length]; exact h
  obtain ⟨v, e, rv⟩ := r.at (j := i) (k := ws[i].1) (u := ws[i].2) (List.getElem?_eq_getElem hw)
  exact ⟨_, v, _, e, List.getElem?_eq_getElem hw, rv⟩
theorem turn_vals {P : Program} {w : World} {K : PySem.W.Frag} {tg : Expr} {it d : Addr} {o : Obj} {kvs : List (Key × V)} {ws : List (Key × Value)} {ep : Nat} (rel : KV kvs ws) (hat : ∀ h : Heap, h.get? d = some o → h.DictAt (mixKind P w) d ws ep) :
    Turn P w K tg (ItdV d o kvs) [it] it (fun i h => h.IsValIter it d i ws.length ep) where
  mem := by simp
  obj := fun i h st b hb => by
    have e : b = it := by simpa using hb
    subst e
    obtain ⟨o', e, _, dt⟩ := st
    exact ⟨o', e, fun v z => by rw [dt] at z; cases z⟩
  keep := fun i h h' st k => st.at fun o e => k it (by simp) o e
  item := by
    intro X hP hw hK hc i pins s σ H E I hf st hg
    subst hP hw hK
    obtain ⟨f0, f1, f2, f3, f4, f5⟩ := hf it (by simp)
    obtain ⟨hi, hd⟩ := hg
    obtain ⟨k, v, u, e1, e2, rv⟩ := kv_at rel hi
    refine wpAny_pyNext_values_item st (hat _ (I.hok d _ hd).1) e2 fun h' st' hs' => ?_
    have I1 : Inv X pins σ H { s with heap := h', toks := s.toks } := I.turned (fun b o hb e => (hs'.2 b hb).trans e) f0 f1 f3 f4 f5
    obtain ⟨oi, g, c, dt⟩ := id st'
    exact ⟨u, rfl, go_of (s := { s with heap := h' }) g c dt (by decide) ⟨v, H, I1, rv, ⟨rfl, k, e1⟩, st', fun b hb => (hf b hb).1⟩⟩
  done := by
    intro X hP hw hK hc i pins s σ H E I hf st hg
    subst hP hw hK
    obtain ⟨f0, f1, f2, f3, f4, f5⟩ := hf it (by simp)
    obtain ⟨hi, hd⟩ := hg
    refine wpAny_pyNext_values_end (I.ok.hd hc) st (hat _ (I.hok d _ hd).1) (by rw [hi, rel.length]; simp) fun h' he' => ⟨rfl, ?_⟩
    exact I.turned (t' := s.toks) (fun b o hb e => he' b o hb e) f0 f1 f3 f4 f5
  self := fun A i s Q E st q => wpAny_pyIter_valiter st q
theorem turn_items {P : Program} {w : World} {K : PySem.W.Frag} {elts : List Expr} {kk : Nat} {pos : Pos} {it d : Addr} {o : Obj} {kvs : List (Key × V)} {ws : List (Key × Value)} {ep : Nat} (rel : KV kvs ws) (hat : ∀ h : Heap, h.get? d = some o → h.DictAt (mixKind P w) d ws ep) :
    Turn P w K (.Tuple elts kk pos) (ItdI d o kvs) [it] it (fun i h => ∃ ok ov, IsItemIter h it d i ws.length ep ok ov) where
  mem := by simp
  obj := fun i h st b hb => by
    have e : b = it := by simpa using hb
    subst e
    obtain ⟨ok, ov, e⟩ := st
    exact ⟨_, e, fun v z => by cases z⟩
  keep := fun i h h' st k => by
    obtain ⟨ok, ov, e⟩ := st
    exact ⟨ok, ov, k it (by simp) _ e⟩
  item := by
    intro X hP hw hK hc i pins s σ H E I hf st hg
    subst hP hw hK
    obtain ⟨f0, f1, f2, f3, f4, f5⟩ := hf it (by simp)
    obtain ⟨hi, hd⟩ := hg
    obtain ⟨k, v, u, e1, e2, rv⟩ := kv_at rel hi
    obtain ⟨ok, ov, st⟩ := st
    refine wpAny_pyNext_items_item st (hat _ (I.hok d _ hd).1) e2 fun key h' hk ho hT hsz hkeep => ?_
    refine ⟨.ref s.heap.objs.size, rfl, wpAny_letOwnedTupleGo_items ho fun h2 st2 hs2 => ?_⟩
    have hTi : s.heap.objs.size ≠ it := Nat.ne_of_gt (Heap.lt_size st)
    have I1 : Inv X pins σ H { s with heap := h2, toks := s.toks } := I.turned (fun b o hb e => (hs2.2 b hb).trans (hkeep b o hb e)) f0 f1 f3 f4 f5
    have hT2 : h2.get? s.heap.objs.size = some { cls := .type "tuple", data := .seq #[key, u] } := (hs2.2 _ hTi).trans hT
    have hnone : H s.heap.objs.size = none := I.hok.fresh (Nat.le_refl _)
    have fp : FpOk X pins H s.heap.objs.size := I.fpOk (Nat.le_refl _) hnone
    have rk : RelV (kV k) key := by
      rcases keyIs_shape hk with ⟨i, t, rfl, rfl⟩ | ⟨x, t, rfl, rfl⟩
      · exact ⟨t, rfl⟩
      · exact ⟨t, rfl⟩
    refine ⟨.ref s.heap.objs.size, upd H s.heap.objs.size (.tup [kV k, v]), I1.adopt fp I.sz ⟨by show 2 ≤ sizeLine; decide, [key, u], .cons rk (.cons rv .nil), _, hT2, rfl, _, rfl⟩, rfl, ⟨_, k, v, hnone, e1, rfl, rfl⟩, ⟨_, _, st2⟩, fun b hb => ?_⟩
    have e : b = it := by simpa using hb
    subst e
    rw [upd_ne (Ne.symm hTi)]; exact f0
  done := by
    intro X hP hw hK hc i pins s σ H E I hf st hg
    subst hP hw hK
    obtain ⟨f0, f1, f2, f3, f4, f5⟩ := hf it (by simp)
    obtain ⟨hi, hd⟩ := hg
    obtain ⟨ok, ov, st⟩ := st
    refine wpAny_pyNext_items_end (I.ok.hd hc) st (hat _ (I.hok d _ hd).1) (by rw [hi, rel.length]; simp) fun h' he' => ⟨rfl, ?_⟩
    exact I.turned (t' := s.toks) (fun b o hb e => he' b o hb e) f0 f1 f3 f4 f5
  self := by
    intro A i s Q E st q
    obtain ⟨ok, ov, st⟩ := st
    exact PySem.W.kcp_self st q
end
end L2

set_option Elab.async false
set_option linter.all false
set_option maxRecDepth 100000

namespace L2
open PySem PySem.Spec PySem.Calls PyProof.Rows
section
variable {X : Cx} {tg o : Expr} {apos cpos : Pos} {tl : TE}
noncomputable def iVals (K : PySem.W.Frag) (tl : TE) : TI := fun σ H R => tBM0 K "dict" (rView "dict_values") tl σ H fun v H2 => ∃ d kvs vw, v = .ref vw ∧ H2 vw = some (.ext (viewφ "dict_values" vw d)) ∧ H2 d = some (.dK kvs) ∧ ∀ o, R (ItdV d o kvs) (upd H2 d (.frz o (.dK kvs)))
noncomputable def iItms (K : PySem.W.Frag) (tl : TE) : TI := fun σ H R => tBM0 K "dict" (rView "dict_items") tl σ H fun v H2 => ∃ d kvs vw, v = .ref vw ∧ H2 vw = some (.ext (viewφ "dict_items" vw d)) ∧ H2 d = some (.dK kvs) ∧ ∀ o, R (ItdI d o kvs) (upd H2 d (.frz o (.dK kvs)))
theorem pi_vals (ho : PE X o tl) (hbase : attributeBase o "values" X.env (eval o X.env) = eval o X.env := by rfl) (hline : (apos.endLine == cpos.line) = true := by rfl) : PI X tg (.Call (.Attribute o "values" apos) [] [] cpos) (iVals X.K tl) := by
  intro pins s σ H R I h
  refine thn (pe_bm0 PySem.F.plainAttrs_dict PySem.F.slot_dict_values PySem.F.type_dict_values mt_values ho hbase hline pins s σ H _ I h) fun v s1 zz9 => ?_
  obtain ⟨x, H1, I1, r1, d, kvs, vw, e, hv, hd, q⟩ := zz9
  subst e
  cases r1
  have hvw : s1.heap.get? vw = some { cls := .type "dict_values", data := .fields #[.ref d] } := (I1.hok vw _ hv).1
  obtain ⟨hz, lo, ws, rel, hD⟩ := dk_of I1.hok hd
  obtain ⟨ep, hat⟩ := hD.dictAt
  obtain ⟨ob, es, hob, rest⟩ := id hat
  refine wpAny_pyIter_values ⟨_, hvw, rfl, rfl⟩ hat ?_
  have I2 := I1.still hd hob
  refine ⟨s1.heap.objs.size, [s1.heap.objs.size], _, _, _, rfl, I2.kept (t' := s1.toks) fun b o e => Heap.get?_push_of_some _ e, turn_vals rel (fun h e => ⟨ob, es, e, rest⟩), ⟨_, Heap.get?_push_size _ rfl, rfl, rfl⟩, fun b hb => ?_, q ob⟩
  have e : b = s1.heap.objs.size := by simpa using hb
  subst e
  exact I2.fpOk (Nat.le_refl _) (I2.hok.fresh (Nat.le_refl _))
theorem pi_itms {elts : List Expr} {kk : Nat} {tpos : Pos} (ho : PE X o tl) (hbase : attributeBase o "items" X.env (eval o X.env) = eval o X.env := by rfl) (hline : (apos.endLine == cpos.line) = true := by rfl) : PI X (.Tuple elts kk tpos) (.Call (.Attribute o "items" apos) [] [] cpos) (iItms X.K tl) := by
  intro pins s σ H R I h
  refine thn (pe_bm0 PySem.F.plainAttrs_dict PySem.F.slot_dict_items PySem.F.type_dict_items mt_items ho hbase hline pins s σ H _ I h) fun v s1 zz9 => ?_
  obtain ⟨x, H1, I1, r1, d, kvs, vw, e, hv, hd, q⟩ := zz9
  subst e
  cases r1
  have hvw : s1.heap.get? vw = some { cls := .type "dict_items", data := .fields #[.ref d] } := (I1.hok vw _ hv).1
  obtain ⟨hz, lo, ws, rel, hD⟩ := dk_of I1.hok hd
  obtain ⟨ep, hat⟩ := hD.dictAt
  obtain ⟨ob, es, hob, rest⟩ := id hat
  refine wpAny_pyIter_items ⟨_, hvw, rfl, rfl⟩ hat ?_
  have I2 := I1.still hd hob
  refine ⟨s1.heap.objs.size, [s1.heap.objs.size], _, _, _, rfl, I2.kept (t' := s1.toks) fun b o e => Heap.get?_push_of_some _ e, turn_items rel (fun h e => ⟨ob, es, e, rest⟩), ⟨_, _, Heap.get?_push_size _ rfl⟩, fun b hb => ?_, q ob⟩
  have e : b = s1.heap.objs.size := by simpa using hb
  subst e
  exact I2.fpOk (Nat.le_refl _) (I2.hok.fresh (Nat.le_refl _))
end
theorem AM.fix {K : PySem.W.Frag} {F : Hp} {M : Mem} {H : Hp} {p : Addr} {o : MO} {u : HO} (m : AM K F M H) (hp : M p = some o) : Same F (upd F p u) ∧ AM K (upd F p u) (del M p) (upd H p u) := by
  have hs : Same F (upd F p u) := same_upd (m.dj p o hp)
  refine ⟨hs, fun b x e => ?_, fun b x e => ?_, fun b x e => ?_⟩
  · by_cases hb : b = p
    · subst hb; rw [upd_same] at e ⊢; exact e
    · rw [upd_ne hb] at e ⊢; exact m.sub b x e
  · have hb : b ≠ p := by rintro rfl; rw [del_same] at e; cases e
    rw [del_ne hb] at e
    rw [upd_ne hb]; exact m.dj b x e
  · have hb : b ≠ p := by rintro rfl; rw [del_same] at e; cases e
    rw [del_ne hb] at e
    obtain ⟨y, e1, r1⟩ := m.mem b x e
    exact ⟨y, by rw [upd_ne hb]; exact e1, r1.up hs⟩
section
variable {X : Cx} {F0 : Hp} {tg o : Expr} {td : AE} {apos cpos : Pos}
noncomputable def valAt (kvs : List (Key × D)) (i : Nat) : D := match kvs[i]? with | some kv => kv.2 | none => .non
noncomputable def itemAt (kvs : List (Key × D)) (i : Nat) : D := match kvs[i]? with | some kv => .tup [keyOf kv.1, kv.2] | none => .non
noncomputable def iaV (td : AE) : AI := fun Γ M Q => td Γ M fun x M1 => match x with
  | .obj p => (match M1 p with | some (.dic kvs) => Q ⟨kvs.length, valAt kvs, fun _ => True⟩ (del M1 p) | _ => False)
  | _ => False
noncomputable def iaI (td : AE) : AI := fun Γ M Q => td Γ M fun x M1 => match x with
  | .obj p => (match M1 p with | some (.dic kvs) => Q ⟨kvs.length, itemAt kvs, fun _ => True⟩ (del M1 p) | _ => False)
  | _ => False
theorem pf_at {K : PySem.W.Frag} {F : Hp} {ws : List (Key × V)} {kvs : List (Key × D)} (h : PF K F ws kvs) : ∀ {i : Nat} {k : Key} {v : V}, ws[i]? = some (k, v) → ∃ d, kvs[i]? = some (k, d) ∧ RD K F v d := by
  induction h with
  | nil => intro i k v e; simp at e
  | cons h1 _ ih =>
    intro i k v e
    cases i with
    | zero =>
      simp only [List.getElem?_cons_zero, Option.some.injEq] at e
      rename_i p q _ _ _
      subst e
      exact ⟨q.2, by simp only [List.getElem?_cons_zero, Option.some.injEq]; exact Prod.ext h1.1.symm rfl, h1.2⟩
    | succ i => exact ih (by simpa using e)
theorem key_of' {K : PySem.W.Frag} {F : Hp} (k : Key) : RD K F (kV k) (keyOf k) := by
  cases k
  · exact .int _
  · exact .str _
theorem iValues (ho : PEA X F0 o td) (hbase : attributeBase o "values" X.env (eval o X.env) = eval o X.env := by rfl) (hline : (apos.endLine == cpos.line) = true := by rfl) : PIA X F0 tg (.Call (.Attribute o "values" apos) [] [] cpos) (iaV td) := by
  refine ⟨?_⟩
  intro F Γ M σ H Q f0 g m h
  refine (pi_vals pe_self hbase hline).to ((ho.run F Γ M σ H _ f0 g m h).mono fun v H1 zz9 => ?_)
  obtain ⟨d, F1, M1, s1, m1, r1, q1⟩ := zz9
  obtain ⟨p, rfl⟩ : ∃ p, d = .obj p := by
    cases d <;> first | exact q1.elim | exact ⟨_, rfl⟩
  cases r1
  try dsimp only at q1
  split at q1
  · rename_i kvs hp
    obtain ⟨u, e1, ro⟩ := m1.mem _ _ hp
    obtain ⟨ws, rfl, pf⟩ := ro.isD
    refine ⟨.inr (.inr (.inl ⟨rfl, .inl ⟨ws, e1⟩⟩)), p, ws, rfl, rfl, .inl e1, fun vw hvw => ⟨p, ws, vw, rfl, upd_same, ?_, fun ob => ?_⟩⟩
    · rw [upd_ne (fun z => by rw [z, hvw] at e1; cases e1)]; exact e1
    · obtain ⟨s2, m2⟩ := (m1.more (u := .ext (viewφ "dict_values" vw p)) hvw).fix (u := .frz ob (.dK ws)) hp
      have hl := pf.length
      refine ⟨_, _, _, s1.trans s2, m2, ⟨fun i F' M' H' s' m' _ hi => ⟨by rw [hl]; exact hi, m'.sub _ _ (s' _ _ upd_same)⟩, fun i F' M' H' x H'' s' m' _ hi y => ?_, fun F' M' H' s' m' _ => ⟨hl.symm, m'.sub _ _ (s' _ _ upd_same)⟩⟩, q1⟩
      obtain ⟨rfl, k, e⟩ := y
      obtain ⟨d, e2, rd⟩ := pf_at pf e
      refine ⟨F', .refl _, m', ?_⟩
      show RD X.K F' x (valAt kvs i)
      unfold valAt
      rw [e2]
      exact rd.up (s2.trans s')
  · exact q1.elim
theorem iItems {elts : List Expr} {kk : Nat} {tpos : Pos} (ho : PEA X F0 o td) (hbase : attributeBase o "items" X.env (eval o X.env) = eval o X.env := by rfl) (hline : (apos.endLine == cpos.line) = true := by rfl) : PIA X F0 (.Tuple elts kk tpos) (.Call (.Attribute o "items" apos) [] [] cpos) (iaI td) := by
  refine ⟨?_⟩
  intro F Γ M σ H Q f0 g m h
  refine (pi_itms pe_self hbase hline).to ((ho.run F Γ M σ H _ f0 g m h).mono fun v H1 zz9 => ?_)
  obtain ⟨d, F1, M1, s1, m1, r1, q1⟩ := zz9
  obtain ⟨p, rfl⟩ : ∃ p, d = .obj p := by
    cases d <;> first | exact q1.elim | exact ⟨_, rfl⟩
  cases r1
  try dsimp only at q1
  split at q1
  · rename_i kvs hp
    obtain ⟨u, e1, ro⟩ := m1.mem _ _ hp
    obtain ⟨ws, rfl, pf⟩ := ro.isD
    refine ⟨.inr (.inr (.inl ⟨rfl, .inl ⟨ws, e1⟩⟩)), p, ws, rfl, rfl, .inl e1, fun vw hvw => ⟨p, ws, vw, rfl, upd_same, ?_, fun ob => ?_⟩⟩
    · rw [upd_ne (fun z => by rw [z, hvw] at e1; cases e1)]; exact e1
    · obtain ⟨s2, m2⟩ := (m1.more (u := .ext (viewφ "dict_items" vw p)) hvw).fix (u := .frz ob (.dK ws)) hp
      have hl := pf.length
      refine ⟨_, _, _, s1.trans s2, m2, ⟨fun i F' M' H' s' m' _ hi => ⟨by rw [hl]; exact hi, m'.sub _ _ (s' _ _ upd_same)⟩, fun i F' M' H' x H'' s' m' _ hi y => ?_, fun F' M' H' s' m' _ => ⟨hl.symm, m'.sub _ _ (s' _ _ upd_same)⟩⟩, q1⟩
      obtain ⟨T, k, v, hT, e, rfl, rfl⟩ := y
      obtain ⟨d, e2, rd⟩ := pf_at pf e
      have s3 := same_upd (u := .tup [kV k, v]) (m'.fF hT)
      refine ⟨_, s3, m'.frz hT, ?_⟩
      show RD X.K _ (.ref T) (itemAt kvs i)
      unfold itemAt
      rw [e2]
      exact .tup upd_same (.cons (key_of' k) (.cons (rd.up (s2.trans (s'.trans s3))) .nil))
  · exact q1.elim
end
end L2

set_option Elab.async false
set_option linter.all false
set_option maxRecDepth 100000

namespace L2
open PySem PySem.Spec PySem.Calls PyProof.Rows
structure FunD (K : PySem.W.Frag) (x qual : Str) (st : Stmt) (f : Addr) (fd : FuncData) : Prop where
  ex : ∃ (oc : Value) (od : Option Addr) (dv : Addr) (kV doc pm : Value) (an : Option Addr) (cdv ct : Value) (osl : Array (Option Value)),
    fd = PySem.W.fnOf x qual (defArgs st) (defBody st) (defScope st) (.ref dv) kV doc pm an cdv ct ∧ K.lookup f = some ⟨oc, od, .func fd, osl⟩ ∧ PySem.W.codeIn K cdv qual = true ∧ ∃ oc2 od2 n2 osl2, K.lookup dv = some ⟨oc2, od2, .seq #[.none] n2, osl2⟩
theorem funD_mk {K : PySem.W.Frag} {x qual : Str} {st : Stmt} {f dv : Addr} {oc oc2 : Value} {od an od2 : Option Addr} {osl osl2 : Array (Option Value)} {kV doc pm cdv ct : Value} {n2 : Nat} (l : K.lookup f = some ⟨oc, od, .func (PySem.W.fnOf x qual (defArgs st) (defBody st) (defScope st) (.ref dv) kV doc pm an cdv ct), osl⟩)
    (c : PySem.W.codeIn K cdv qual = true) (d : K.lookup dv = some ⟨oc2, od2, .seq #[.none] n2, osl2⟩) : FunD K x qual st f (PySem.W.fnOf x qual (defArgs st) (defBody st) (defScope st) (.ref dv) kV doc pm an cdv ct) :=
  ⟨oc, od, dv, kV, doc, pm, an, cdv, ct, osl, rfl, l, c, oc2, od2, n2, osl2, d⟩
theorem FunD.okX {P : Program} {w : World} {K : PySem.W.Frag} {mg : Str → Option Value} {base : Heap} {x qual : Str} {st : Stmt} {f : Addr} {fd : FuncData} {N ps : List Str} {k : Nat} {sp : Sp} (F : FunD K x qual st f fd) (S : FnScope N ps (defScope st)) (len : ∀ vs H Q E, sp vs H Q E → vs.length = ps.length)
    (hbody : ∀ (cdv : Value) (A : Around) (outer : List Env) (s : Shared) (H : Hp) (vs : List V) (Q : VK) (E : XK), Room k (A.deeper (envOfC qual (defScope st) s.heap.objs.size f cdv)) → sp vs H Q E →
      ∃ t, PSs ((cxOf (CXE P w) P w K mg base N qual (defScope st) f cdv A outer s H E).by (rE E)) (defBody st) t ∧ t { nx := fun _ H' => Q .non H', rt := Q } (start N vs) H) : FnOk P w K mg base (CXE P w) (k + 1) f fd ps sp := by
  obtain ⟨oc, od, dv, kV, doc, pm, an, cdv, ct, osl, rfl, lk, hcd, _⟩ := F.ex
  refine fn_of lk hcd S len fun A outer s H vs Q E hr hsp => ?_
  obtain ⟨t, h, q⟩ := hbody cdv A outer s H vs Q E hr hsp
  exact ⟨t, h.unthr leave_ok, q⟩
theorem FunD.okA {P : Program} {w : World} {K : PySem.W.Frag} {mg : Str → Option Value} {base : Heap} {x qual : Str} {st : Stmt} {f : Addr} {fd : FuncData} {N ps : List Str} {k : Nat} {sa : SpA} (Fn : FunD K x qual st f fd) (S : FnScope N ps (defScope st)) (len : ∀ ds M Q E, sa ds M Q E → ds.length = ps.length)
    (hbody : ∀ (cdv : Value) (A : Around) (outer : List Env) (s : Shared) (H : Hp) (E : XK) (F0 : Hp) (ds : List D) (M : Mem) (Q : AK) (Ea : Value → Mem → Prop), Room k (A.deeper (envOfC qual (defScope st) s.heap.objs.size f cdv)) →
      Cat ((cxOf (CXE P w) P w K mg base N qual (defScope st) f cdv A outer s H E).by (rE E)) F0 (fun _ M cls => Ea cls M) → sa ds M Q Ea →
      ∃ t, PSsA ((cxOf (CXE P w) P w K mg base N qual (defScope st) f cdv A outer s H E).by (rE E)) F0 (defBody st) t ∧ t { nx := fun _ M' => Rt Q .non M', rt := Rt Q } (startA N ds) M) : FnOk P w K mg base (CXE P w) (k + 1) f fd ps (liftS K sa) := by
  refine Fn.okX S (fun vs H Q E ⟨F, ds, M, Qa, Ea, m, r, h, _⟩ => by rw [r.length]; exact len _ _ _ _ h) ?_
  intro cdv A outer s H vs Q E hr ⟨F, ds, M, Qa, Ea, m, r, h, hQ, hE⟩
  obtain ⟨t, ht, q⟩ := hbody cdv A outer s H E F ds M Qa Ea hr (Cat.of hE hr.units) h
  refine ⟨_, pss_self, ?_⟩
  refine (ht.run F _ M _ H _ (.refl F) (start_ok r) m q).mono ⟨fun σ' H' ⟨F', Γ', M', s', g', m', q'⟩ => ?_, fun v H' z => ?_, fun _ _ ⟨_, _, _, _, _, _, q'⟩ => q'.elim, fun _ _ ⟨_, _, _, _, _, _, q'⟩ => q'.elim⟩
  · exact hQ _ _ (PQ.rt ⟨.non, F', M', s', m', .non, q'⟩)
  · exact hQ _ _ (PQ.rt z)

structure HasD (P : Program) (w : World) (K : PySem.W.Frag) (mg : Str → Option Value) (base : Heap) (k : Nat) (x : Str) (ps : List Str) (sp : Sp) : Prop where
  ex : ∃ f fd, FnOk P w K mg base (CXE P w) k f fd ps sp ∧ mg x = some (.ref f) ∧ PySem.W.keepIn K (.ref f) = true ∧ Binds K fd ps [] ∧ Binds K fd ps [.none]
theorem HasD.all {P : Program} {w : World} {K : PySem.W.Frag} {mg : Str → Option Value} {base : Heap} {k : Nat} {x : Str} {ps : List Str} {sp : Sp} (h : HasD P w K mg base k x ps sp) : Has P w K mg base (CXE P w) k x ps sp := by
  obtain ⟨f, fd, h1, h2, h3, h4, _⟩ := h.ex
  exact ⟨f, fd, h1, h2, h3, h4⟩
section
variable {X : Cx} {k : Nat} {f : Addr} {fd : FuncData} {ps : List Str} {sp : Sp} {R : RX} {x : Str} {p pos : Pos} {e : Expr} {es : List Expr} {t : TA}
theorem run_fnXD {pins : List (Addr × Obj)} {σ : St} {H : Hp} {s : Shared} {Q : VK} {us : List Value} {vs : List V} (F : FnOk X.prog X.w X.K X.mg X.base (CXE X.prog X.w) k f fd ps sp) (hr : Room k X.A) (hb : Binds X.K fd ps [.none]) (T : Thr X R) (Pl : Plain X)
    (I : Inv X pins σ H s) (r : Vals vs us) (h : sp (vs ++ [.non]) H Q (fun cls _ H' => ∀ a, R σ H' cls a)) : wpAny (model X.prog X.w) X.A (call (.ref f) us) (EP X pins σ Q) X.xe s := by
  have r2 : Vals (vs ++ [.non]) (us ++ [.none]) := r.append (.cons rfl .nil)
  have hl : (us ++ [Value.none]).length = ps.length := by rw [← r2.length]; exact F.len _ _ _ _ h
  refine wpAny_call (codeAny_mono (F.run X.A X.stack s H ⟨us, []⟩ (us ++ [.none]) (vs ++ [.non]) Q _ hr I.env0 (hb s us I.kIn hl) r2 h) fun r s' hq => ?_)
  cases r with
  | error e => exact T.call Pl I hq
  | ok fl =>
    cases fl with
    | ret u => exact I.after hq
    | next => exact False.elim hq
    | brk => exact False.elim hq
    | cont => exact False.elim hq
noncomputable def tCallXD (sp : Sp) (R : RX) (t : TA) : TE := fun σ H Q => t σ H fun vs H1 => sp (vs ++ [.non]) H1 Q (fun cls _ H' => ∀ a, R σ H' cls a)
theorem pe_callXD (h : HasD X.prog X.w X.K X.mg X.base k x ps sp) (hr : Room k X.A) (hg : Gl X x) (T : Thr X R) (Pl : Plain X) (ha : PA X (e :: es) t)
    (hdb : (x == ("__debug__" : Str)) = false := by decide) (he : starEach (e :: es) X.env = (false, eval e X.env) :: starEach es X.env := by rfl) (hpl : (backTo pos (starEach es X.env)).any (·.1) = false := by rfl) :
    PE X (.Call (.Name x p) (e :: es) [] pos) (tCallXD sp R t) := by
  intro pins s σ H Q I hw
  obtain ⟨f, fd, F, hm, hk, _, hb⟩ := h.ex
  refine wpAny_Call_Name_kw (ld_glob I hg hm ?_ hdb)
  refine PySem.W.callWith_K (h₀ := X.base) I.ok.mod.kin hk (thn (ha pos pins s σ H _ I hw) fun us s1 ⟨vs, H1, I1, r, q⟩ => ⟨I1.kIn, ?_⟩) he hpl
  exact run_fnXD F hr hb T Pl I1 r q
end
section
variable {X : Cx} {F0 : Hp} {R : AX} {k : Nat} {x : Str} {ps : List Str} {sa : SpA} {p pos : Pos} {e : Expr} {es : List Expr} {tt : AA}
noncomputable def aFunD (sa : SpA) (R : AX) (t : AA) : AE := fun Γ M Q => t Γ M fun ds M1 => sa (ds ++ [.non]) M1 Q fun cls M' => R Γ M' cls
theorem paFunD (h : HasD X.prog X.w X.K X.mg X.base k x ps (liftS X.K sa)) (hr : Room k X.A) (hg : Gl X x) (c : Cat X F0 R) (ha : PAA X F0 (e :: es) tt)
    (hdb : (x == ("__debug__" : Str)) = false := by decide) (he : starEach (e :: es) X.env = (false, eval e X.env) :: starEach es X.env := by rfl) (hpl : (backTo pos (starEach es X.env)).any (·.1) = false := by rfl) :
    PEA X F0 (.Call (.Name x p) (e :: es) [] pos) (aFunD sa R tt) := by
  refine ⟨?_⟩
  intro F Γ M σ H Q f0 g mm hw
  refine (pe_callXD h hr hg c.thr c.pl pa_self hdb he hpl).to ((ha.run F Γ M σ H _ f0 g mm hw).mono fun vs H1 zz9 => ?_)
  obtain ⟨ds, F1, M1, s1, m1, r1, q1⟩ := zz9
  exact ⟨F1, ds ++ [.non], M1, _, _, m1, r1.append (.cons .non .nil), q1, fun v H' z => z.dn s1, fun cls H' ⟨F', M', s', m', q'⟩ a => ⟨F', Γ, M', f0.trans (s1.trans s'), g.up (s1.trans s'), m', q'⟩⟩
end
end L2

set_option Elab.async false
set_option linter.all false
set_option maxRecDepth 100000
namespace K7
open PySem PySem.Spec PySem.Calls PyProof.Rows L2

noncomputable def letters : List Nat := ("abcdefghijklmnopqrstuvwxyz" : Str).cps.toList
noncomputable def isName (x : Str) : Bool := !(decide (x.length < 1) || decide (8 < x.length)) && x.cps.toList.all fun c => decide (c ∈ letters)
structure TS where
  ws : List (Str × Int)
  js : List (Int × Str × Str × Str)
  nx : Int
noncomputable def dW (ws : List (Str × Int)) : List (Key × D) := ws.map fun w => (Sum.inr w.1, .int w.2)
noncomputable def eJ (j : Int × Str × Str × Str) : D := .tup [.int j.1, .str j.2.1, .str j.2.2.1, .str j.2.2.2]
noncomputable def eW (w : Str × Int) : D := .tup [.str w.1, .int w.2]
noncomputable def dJ (js : List (Int × Str × Str × Str)) : List (Key × D) := js.map fun j => (Sum.inl j.1, eJ j)
noncomputable def fsT (d1 d2 : Addr) (n : Int) : List (Str × D) := [("teeth_of", .obj d1), ("join_of", .obj d2), ("next_number", .int n)]

structure Tr (C : Addr) (M : Mem) (p d1 d2 : Addr) (S : TS) : Prop where
  self : M p = some (.ins C (fsT d1 d2 S.nx))
  teeth : M d1 = some (.dic (dW S.ws))
  join : M d2 = some (.dic (dJ S.js))
  ne : d1 ≠ d2
  lt : ∀ j ∈ S.js, j.1 < S.nx

inductive Rk where
  | noName | twice | noTeeth | full | noWheel | noJoin
noncomputable def TS.has (S : TS) (n : Str) : Bool := S.ws.any fun w => decide (w.1 = n)
noncomputable def refW (S : TS) (n : Str) (t : Int) : Option Rk :=
  if isName n = false then some .noName else if S.has n = true then some .twice else if t < 1 ∨ 1000000000 ≤ t then some .noTeeth else if 100 ≤ S.ws.length then some .full else none
noncomputable def isKind (k : Str) : Bool := decide (k = "mesh") || decide (k = "pin") || decide (k = "band") || decide (k = "cross")
noncomputable def refJ (S : TS) (k a b : Str) : Option Rk :=
  if isKind k = false then some .noJoin else if S.has a = false ∨ S.has b = false then some .noWheel else if a = b then some .noJoin else if 200 ≤ S.js.length then some .full else none
noncomputable def TS.hasJ (S : TS) (n : Int) : Bool := S.js.any fun j => decide (j.1 = n)
noncomputable def refL (S : TS) (n : Int) : Option Rk := if S.hasJ n = false then some .noJoin else none
theorem getK_dW (ws : List (Str × Int)) (n : Str) : (getK (dW ws) (Sum.inr n)).isSome = ws.any fun w => decide (w.1 = n) := by
  induction ws with
  | nil => rfl
  | cons w ws ih =>
    unfold dW getK at ih ⊢
    simp only [List.map_cons, List.find?_cons, List.any_cons, Sum.inr.injEq]
    by_cases h : w.1 = n
    · simp [h]
    · simp only [h, decide_false, Bool.false_or]; exact ih
theorem getK_dJ (js : List (Int × Str × Str × Str)) (n : Int) : (getK (dJ js) (Sum.inl n)).isSome = js.any fun j => decide (j.1 = n) := by
  induction js with
  | nil => rfl
  | cons w ws ih =>
    unfold dJ getK at ih ⊢
    simp only [List.map_cons, List.find?_cons, List.any_cons, Sum.inl.injEq]
    by_cases h : w.1 = n
    · simp [h]
    · simp only [h, decide_false, Bool.false_or]; exact ih
theorem putKD_new {kvs : List (Key × D)} {k : Key} {v : D} (h : (getK kvs k).isSome = false) : putKD kvs k v = kvs ++ [(k, v)] := by
  unfold putKD; rw [h]; rfl

inductive Deed where
  | wheel (n : Str) (t : Int) | join (k a b : Str) | less (n : Int)
noncomputable def Deed.ok : Deed → Prop
  | .wheel n _ => n.length ≤ 1000
  | _ => True
noncomputable def wordOf : Rk → Str
  | .noName => "no name" | .twice => "twice" | .noTeeth => "no teeth" | .full => "full" | .noWheel => "no wheel" | .noJoin => "no join"
noncomputable def refD (S : TS) : Deed → Option Rk
  | .wheel n t => refW S n t
  | .join k a b => refJ S k a b
  | .less n => refL S n
noncomputable def gives (S : TS) : Deed → D
  | .join _ _ _ => .int S.nx
  | _ => .non
noncomputable def behind (S : TS) : Deed → TS
  | .wheel n t => { S with ws := S.ws ++ [(n, t)] }
  | .join k a b => { S with js := S.js ++ [(S.nx, k, a, b)], nx := S.nx + 1 }
  | .less n => { S with js := S.js.filter fun j => decide (j.1 ≠ n) }
noncomputable def due (S : TS) (d : Deed) : D := match refD S d with
  | some r => .tup [.str "refused", .str (wordOf r)]
  | none => .tup [.str "done", gives S d]


noncomputable abbrev Jn := Int × Str × Str × Str
noncomputable abbrev Ld := Int × Str × Str
noncomputable abbrev TT := List (Str × Option Ld)
noncomputable def lead1 (here : Str) (j : Jn) : List Ld := (if j.2.2.1 = here then [(j.1, j.2.1, j.2.2.2)] else []) ++ (if j.2.2.2 = here then [(j.1, j.2.1, j.2.2.1)] else [])
noncomputable def lead (js : List Jn) (here : Str) : List Ld := js.flatMap (lead1 here)
noncomputable def eL (l : Ld) : D := .tup [.int l.1, .str l.2.1, .str l.2.2]
noncomputable def names (t : TT) : List Str := t.map Prod.fst
noncomputable def eE : Option Ld → D
  | none => .non
  | some l => eL l
noncomputable def encT (t : TT) : List (Key × D) := t.map fun e => (Sum.inr e.1, eE e.2)
noncomputable def ends (js : List Jn) : List Str := js.flatMap fun j => [j.2.2.1, j.2.2.2]
noncomputable def unseen (js : List Jn) (t : TT) : Nat := ((ends js).filter fun n => decide (n ∉ names t)).length
inductive Grown (js : List Jn) (start : Str) : TT → Prop where
  | root : Grown js start [(start, none)]
  | more (t : TT) (n : Str) (e : Ld) (g : Grown js start t) (new : n ∉ names t) (old : e.2.2 ∈ names t) (by_ : (e.1, e.2.1, n) ∈ lead js e.2.2) : Grown js start (t ++ [(n, some e)])
noncomputable def Closed (js : List Jn) (t : TT) : Prop := ∀ n ∈ names t, ∀ l ∈ lead js n, l.2.2 ∈ names t
inductive Reach (js : List Jn) (a : Str) : Str → Prop where
  | refl : Reach js a a
  | step {b : Str} {l : Ld} (h : Reach js a b) (hl : l ∈ lead js b) : Reach js a l.2.2
inductive Way (js : List Jn) : Str → List (Int × Str) → Str → Prop where
  | nil (a : Str) : Way js a [] a
  | cons {a b : Str} {l : Ld} {st : List (Int × Str)} (hl : l ∈ lead js a) (h : Way js l.2.2 st b) : Way js a ((l.1, l.2.2) :: st) b
theorem names_app (t : TT) (n : Str) (e : Option Ld) : names (t ++ [(n, e)]) = names t ++ [n] := by simp [names]
theorem lead1_len (here : Str) (j : Jn) : (lead1 here j).length ≤ 2 := by
  unfold lead1; rw [List.length_append]
  split <;> split <;> simp
theorem lead_len (js : List Jn) (here : Str) : (lead js here).length ≤ 2 * js.length := by
  induction js with
  | nil => simp [lead]
  | cons j js ih =>
    have := lead1_len here j
    unfold lead at ih ⊢
    rw [List.flatMap_cons, List.length_append, List.length_cons]; omega
theorem lead_ends {js : List Jn} {here : Str} {l : Ld} (h : l ∈ lead js here) : l.2.2 ∈ ends js := by
  unfold lead at h
  obtain ⟨j, hj, h⟩ := List.mem_flatMap.mp h
  unfold ends
  refine List.mem_flatMap.mpr ⟨j, hj, ?_⟩
  unfold lead1 at h
  rcases List.mem_append.mp h with h | h
  · split at h
    · have : l = (j.1, j.2.1, j.2.2.2) := by simpa using h
      subst this; simp
    · cases h
  · split at h
    · have : l = (j.1, j.2.1, j.2.2.1) := by simpa using h
      subst this; simp
    · cases h
theorem ends_len (js : List Jn) : (ends js).length = 2 * js.length := by
  induction js with
  | nil => rfl
  | cons j js ih =>
    unfold ends at ih ⊢
    rw [List.flatMap_cons, List.length_append, List.length_cons, ih]; simp; omega
theorem filter_less {α : Type} {p q : α → Bool} {l : List α} {x : α} (hx : x ∈ l) (hp : p x = true) (hq : q x = false) (h : ∀ y, q y = true → p y = true) : (l.filter q).length + 1 ≤ (l.filter p).length := by
  induction l with
  | nil => cases hx
  | cons y l ih =>
    have all : ∀ l : List α, (l.filter q).length ≤ (l.filter p).length := by
      intro l
      induction l with
      | nil => exact Nat.le_refl _
      | cons z l ih2 =>
        rw [List.filter_cons, List.filter_cons]
        cases hz : q z with
        | true => rw [if_pos (h z hz), if_pos rfl, List.length_cons, List.length_cons]; omega
        | false =>
          rw [if_neg Bool.false_ne_true]
          split
          · rw [List.length_cons]; omega
          · exact ih2
    rw [List.filter_cons, List.filter_cons]
    rcases List.mem_cons.mp hx with rfl | hx
    · rw [if_pos hp, hq, if_neg Bool.false_ne_true, List.length_cons]
      have := all l; omega
    · have := ih hx
      cases hz : q y with
      | true => rw [if_pos (h y hz), if_pos rfl, List.length_cons, List.length_cons]; omega
      | false =>
        rw [if_neg Bool.false_ne_true]
        split
        · rw [List.length_cons]; omega
        · exact this
theorem unseen_less {js : List Jn} {t : TT} {n : Str} {e : Option Ld} (h : n ∈ ends js) (hn : n ∉ names t) : unseen js (t ++ [(n, e)]) + 1 ≤ unseen js t := by
  unfold unseen
  refine filter_less h (decide_eq_true hn) (decide_eq_false fun z => z ?_) fun y hy => ?_
  · rw [names_app]; simp
  · have hy := of_decide_eq_true hy
    rw [names_app] at hy
    exact decide_eq_true fun z => hy (List.mem_append_left _ z)
theorem Grown.nodup {js : List Jn} {s : Str} {t : TT} (g : Grown js s t) : (names t).Nodup := by
  induction g with
  | root => simp [names]
  | more t n e g new old by_ ih =>
    rw [names_app]
    rw [List.nodup_append]
    refine ⟨ih, by simp, fun a ha b hb => ?_⟩
    have : b = n := by simpa using hb
    subst this
    rintro rfl
    exact new ha
theorem Grown.start {js : List Jn} {s : Str} {t : TT} (g : Grown js s t) : s ∈ names t := by
  induction g with
  | root => simp [names]
  | more t n e g new old by_ ih => rw [names_app]; exact List.mem_append_left _ ih
theorem Grown.all {js : List Jn} {s : Str} {t : TT} (g : Grown js s t) (c : Closed js t) {n : Str} (h : Reach js s n) : n ∈ names t := by
  induction h with
  | refl => exact g.start
  | step h hl ih => exact c _ ih _ hl
theorem getK_encT (t0 t2 : TT) (n : Str) (e : Option Ld) (h : n ∉ names t0) : getK (encT (t0 ++ (n, e) :: t2)) (Sum.inr n) = some (eE e) := by
  induction t0 with
  | nil => unfold encT getK; simp
  | cons x t0 ih =>
    have hx : x.1 ≠ n := fun z => h (by simp [names, z])
    have ht : n ∉ names t0 := fun z => h (by unfold names at z ⊢; simp only [List.map_cons, List.mem_cons]; exact .inr z)
    have := ih ht
    unfold encT getK at this ⊢
    simp only [List.cons_append, List.map_cons, List.find?_cons, Sum.inr.injEq]
    rw [decide_eq_false hx]
    exact this
theorem getK_names (t : TT) (n : Str) : (getK (encT t) (Sum.inr n)).isSome = decide (n ∈ names t) := by
  induction t with
  | nil => rfl
  | cons x t ih =>
    unfold encT getK names at ih ⊢
    simp only [List.map_cons, List.find?_cons, List.mem_cons, Sum.inr.injEq]
    by_cases h : x.1 = n
    · simp [h]
    · rw [decide_eq_false h]
      have h' : ¬ n = x.1 := fun z => h z.symm
      simp only [h', false_or]
      exact ih
theorem putK_encT {t : TT} {n : Str} {l : Ld} (h : n ∉ names t) : putKD (encT t) (Sum.inr n) (eL l) = encT (t ++ [(n, some l)]) := by
  rw [putKD_new (by rw [getK_names, decide_eq_false h])]
  simp [encT, eE]


noncomputable def chF (s k : Nat) : Nat := 97 + (k / 26 + s) % 26
noncomputable def chL (s k : Nat) : Nat := 97 + (k + s) % 26
noncomputable def wNameL (s k : Nat) : List Nat :=
  if s % 3 = 0 then (if k < 26 then [chL s k] else [chF s k, chL s k]) else if s % 3 = 1 then List.replicate (s % 7) 97 ++ [chF s k, chL s k] else [chF s k, chL s k] ++ List.replicate ((s + k) % 7) 113
noncomputable def wName (s k : Nat) : Str := ⟨(wNameL s k).toArray⟩
theorem wName_inj {s k k' : Nat} (h : k < 676) (h' : k' < 676) (e : wName s k = wName s k') : k = k' := by
  have e : wNameL s k = wNameL s k' := by
    have := congrArg (fun x : Str => x.cps.toList) e
    exact this
  have both : chF s k = chF s k' → chL s k = chL s k' → k = k' := fun e1 e2 => by unfold chF at e1; unfold chL at e2; omega
  unfold wNameL at e
  split at e
  · split at e <;> split at e
    · have := (List.cons.inj e).1
      unfold chL at this; omega
    · simp at e
    · simp at e
    · obtain ⟨e1, e2⟩ := List.cons.inj e
      exact both e1 (List.cons.inj e2).1
  · split at e
    · have := List.append_cancel_left e
      obtain ⟨e1, e2⟩ := List.cons.inj this
      exact both e1 (List.cons.inj e2).1
    · obtain ⟨e1, e2⟩ := List.cons.inj e
      exact both e1 (List.cons.inj e2).1
theorem letter_in {c : Nat} (h1 : 97 ≤ c) (h2 : c < 123) : c ∈ letters := by
  have : ∀ i, i < 26 → 97 + i ∈ letters := by decide +kernel
  have := this (c - 97) (by omega)
  rwa [show 97 + (c - 97) = c by omega] at this
theorem wNameL_mem {s k c : Nat} (h : c ∈ wNameL s k) : 97 ≤ c ∧ c < 123 := by
  have l : 97 ≤ chL s k ∧ chL s k < 123 := by unfold chL; omega
  have f : 97 ≤ chF s k ∧ chF s k < 123 := by unfold chF; omega
  have two : c ∈ [chF s k, chL s k] → 97 ≤ c ∧ c < 123 := fun h => by
    rcases List.mem_cons.mp h with h | h
    · rw [h]; exact f
    · rw [List.mem_singleton.mp h]; exact l
  unfold wNameL at h
  split at h
  · split at h
    · rw [List.mem_singleton.mp h]; exact l
    · exact two h
  · split at h
    · rcases List.mem_append.mp h with h | h
      · rw [(List.mem_replicate.mp h).2]; omega
      · exact two h
    · rcases List.mem_append.mp h with h | h
      · exact two h
      · rw [(List.mem_replicate.mp h).2]; omega
theorem wNameL_len (s k : Nat) : 1 ≤ (wNameL s k).length ∧ (wNameL s k).length ≤ 8 := by
  unfold wNameL
  split
  · split <;> simp
  · split <;> simp <;> omega
theorem isName_wName (s k : Nat) : isName (wName s k) = true := by
  have hl := wNameL_len s k
  have e : (wName s k).length = (wNameL s k).length := rfl
  unfold isName
  rw [decide_eq_false (by rw [e]; omega), decide_eq_false (by rw [e]; omega)]
  show (wNameL s k).all _ = true
  rw [List.all_eq_true]
  intro c hc
  have := wNameL_mem hc
  exact decide_eq_true (letter_in this.1 this.2)
noncomputable def noNames : List Str := ["", "zzzzzzzz", "A", "a b"]
theorem wName_no (s k : Nat) : wName s k ∉ noNames := by
  intro h
  have hl := wNameL_len s k
  have key : ∀ x : Str, wName s k = x → wNameL s k = x.cps.toList := fun x e => congrArg (fun x : Str => x.cps.toList) e
  simp only [noNames, List.mem_cons, List.not_mem_nil, or_false] at h
  rcases h with h | h | h | h
  · have e := key _ h
    have e2 : ("" : Str).cps.toList = [] := by decide +kernel
    rw [e2] at e; rw [e] at hl; simp at hl
  · have e := key _ h
    have e2 : ("zzzzzzzz" : Str).cps.toList = List.replicate 8 122 := by decide +kernel
    rw [e2] at e
    unfold wNameL at e
    split at e
    · split at e
      · have := congrArg List.length e; simp at this
      · have := congrArg List.length e; simp at this
    · split at e
      · have hlen := congrArg List.length e
        simp at hlen
        have : (97 : Nat) ∈ List.replicate 8 122 := by
          rw [← e]
          exact List.mem_append_left _ (List.mem_replicate.mpr ⟨by omega, rfl⟩)
        simp at this
      · have hlen := congrArg List.length e
        simp at hlen
        have : (113 : Nat) ∈ List.replicate 8 122 := by
          rw [← e]
          exact List.mem_append_right _ (List.mem_replicate.mpr ⟨by omega, rfl⟩)
        simp at this
  · have e := key _ h
    have e2 : ("A" : Str).cps.toList = [65] := by decide +kernel
    rw [e2] at e
    have := wNameL_mem (s := s) (k := k) (c := 65) (by rw [e]; simp)
    omega
  · have e := key _ h
    have e2 : ("a b" : Str).cps.toList = [97, 32, 98] := by decide +kernel
    rw [e2] at e
    have := wNameL_mem (s := s) (k := k) (c := 32) (by rw [e]; simp)
    omega
theorem wNames_nodup (s : Nat) {n : Nat} (h : n ≤ 676) : ((List.range n).map (wName s)).Nodup := by
  refine List.pairwise_map.mpr (List.Pairwise.imp_of_mem (fun {a b} ha hb hab e => ?_) List.pairwise_lt_range)
  have ha := List.mem_range.mp ha
  have hb := List.mem_range.mp hb
  have := wName_inj (by omega) (by omega) e
  omega

noncomputable abbrev En := Int × Nat × Nat
inductive Hung (es : List En) (a : Nat) : Nat → Prop where
  | refl : Hung es a a
  | to {e : En} (h : Hung es a e.2.1) (he : e ∈ es) : Hung es a e.2.2
  | fro {e : En} (h : Hung es a e.2.2) (he : e ∈ es) : Hung es a e.2.1
noncomputable def at_ (ns : List Str) (i : Nat) : Str := ns.getD i ""
noncomputable def jE (j : Jn) : Int × Str × Str := (j.1, j.2.2.1, j.2.2.2)
noncomputable def eN (ns : List Str) (e : En) : Int × Str × Str := (e.1, at_ ns e.2.1, at_ ns e.2.2)
structure Net (ns : List Str) (js : List Jn) (es : List En) : Prop where
  same : js.map jE = es.map (eN ns)
  inn : ∀ e ∈ es, e.2.1 < ns.length ∧ e.2.2 < ns.length ∧ e.2.1 ≠ e.2.2
  nd : ns.Nodup
  keys : (es.map Prod.fst).Nodup
theorem at_inj {ns : List Str} (nd : ns.Nodup) {i j : Nat} (hi : i < ns.length) (hj : j < ns.length) (e : at_ ns i = at_ ns j) : i = j := by
  unfold at_ at e
  rw [List.getD_eq_getElem?_getD, List.getD_eq_getElem?_getD, List.getElem?_eq_getElem hi, List.getElem?_eq_getElem hj] at e
  have e : ns[i] = ns[j] := e
  have P := List.pairwise_iff_getElem.mp nd
  rcases Nat.lt_trichotomy i j with h | h | h
  · exact absurd e (P i j hi hj h)
  · exact h
  · exact absurd e.symm (P j i hj hi h)
theorem mem_lead {js : List Jn} {x : Str} {l : Ld} (h : l ∈ lead js x) : ∃ j ∈ js, j.1 = l.1 ∧ ((j.2.2.1 = x ∧ j.2.2.2 = l.2.2) ∨ (j.2.2.2 = x ∧ j.2.2.1 = l.2.2)) := by
  unfold lead at h
  obtain ⟨j, hj, h⟩ := List.mem_flatMap.mp h
  refine ⟨j, hj, ?_⟩
  unfold lead1 at h
  rcases List.mem_append.mp h with h | h <;> split at h
  · rename_i e
    rw [List.mem_singleton.mp h]; exact ⟨rfl, .inl ⟨e, rfl⟩⟩
  · cases h
  · rename_i e
    rw [List.mem_singleton.mp h]; exact ⟨rfl, .inr ⟨e, rfl⟩⟩
  · cases h
theorem Net.keyOf {ns : List Str} {js : List Jn} {es : List En} (N : Net ns js es) : js.map Prod.fst = es.map Prod.fst := by
  have := congrArg (List.map Prod.fst) N.same
  rw [List.map_map, List.map_map] at this
  exact this
theorem Net.len {ns : List Str} {js : List Jn} {es : List En} (N : Net ns js es) : js.length = es.length := by
  have := congrArg List.length N.same
  simpa using this
noncomputable def loose (bs : List Bool) : Nat := (bs.filter fun b => !b).length

structure Hg (es : List En) (a n : Nat) (bs : List Bool) : Prop where
  len : bs.length = n
  sound : ∀ b, bs.getD b false = true → Hung es a b
  first : bs.getD a false = true

structure Rw (s : Nat) (ws : List (Str × Int)) (js : List (Str × Nat × Nat)) : Prop where
  names : ws.map Prod.fst = (List.range ws.length).map (wName s)
  teeth : ∀ w ∈ ws, 1 ≤ w.2 ∧ w.2 < 1000000000
  kinds : ∀ j ∈ js, isKind j.1 = true ∧ j.2.1 < ws.length ∧ j.2.2 < ws.length ∧ j.2.1 ≠ j.2.2
theorem Rw.wheel {s : Nat} {ws : List (Str × Int)} {js : List (Str × Nat × Nat)} (r : Rw s ws js) {t : Int} (h1 : 1 ≤ t) (h2 : t < 1000000000) : Rw s (ws ++ [(wName s ws.length, t)]) js := by
  refine ⟨?_, fun w hw => ?_, fun j hj => ?_⟩
  · rw [List.map_append, r.names, List.length_append]
    simp [List.range_succ]
  · rcases List.mem_append.mp hw with hw | hw
    · exact r.teeth w hw
    · rw [List.mem_singleton.mp hw]; exact ⟨h1, h2⟩
  · obtain ⟨a, b, c, d⟩ := r.kinds j hj
    rw [List.length_append]
    exact ⟨a, by omega, by omega, d⟩
theorem Rw.join {s : Nat} {ws : List (Str × Int)} {js : List (Str × Nat × Nat)} (r : Rw s ws js) {k : Str} {a b : Nat} (hk : isKind k = true) (ha : a < ws.length) (hb : b < ws.length) (ne : a ≠ b) : Rw s ws (js ++ [(k, a, b)]) := by
  refine ⟨r.names, r.teeth, fun j hj => ?_⟩
  rcases List.mem_append.mp hj with hj | hj
  · exact r.kinds j hj
  · rw [List.mem_singleton.mp hj]; exact ⟨hk, ha, hb, ne⟩
theorem Rw.nil (s : Nat) : Rw s [] [] := ⟨rfl, fun _ h => (List.not_mem_nil h).elim, fun _ h => (List.not_mem_nil h).elim⟩
theorem Rw.nodup {s : Nat} {ws : List (Str × Int)} {js : List (Str × Nat × Nat)} (r : Rw s ws js) (h : ws.length ≤ 676) : (ws.map Prod.fst).Nodup := by
  rw [r.names]; exact wNames_nodup s h
theorem Rw.name {s : Nat} {ws : List (Str × Int)} {js : List (Str × Nat × Nat)} (r : Rw s ws js) {x : Str} (h : x ∈ ws.map Prod.fst) : ∃ k, k < ws.length ∧ x = wName s k := by
  rw [r.names] at h
  obtain ⟨k, hk, rfl⟩ := List.mem_map.mp h
  exact ⟨k, List.mem_range.mp hk, rfl⟩
noncomputable def jsRow (ns : List Str) (i : Nat) (j : Str × Nat × Nat) : Jn := ((i : Int), j.1, at_ ns j.2.1, at_ ns j.2.2)
noncomputable def jsOf' (ns : List Str) (js : List (Str × Nat × Nat)) : List Jn := js.mapIdx (jsRow ns)
theorem jsOf_snoc (ns : List Str) (js : List (Str × Nat × Nat)) (j : Str × Nat × Nat) : jsOf' ns (js ++ [j]) = jsOf' ns js ++ [jsRow ns js.length j] := by
  unfold jsOf'; rw [List.mapIdx_append]; simp
theorem gcd_step {d r : Nat} : Nat.gcd r (d % r) = Nat.gcd d r := by
  rw [Nat.gcd_comm r, Nat.gcd_comm d, Nat.gcd_rec r d]
noncomputable def low (t b : Int) : Int := if b < 0 then -(Int.gcd t b : Int) else (Int.gcd t b : Int)
theorem low_ne {t b : Int} (hb : b ≠ 0) : low t b ≠ 0 := by
  have : Int.gcd t b ≠ 0 := by rw [Ne, Int.gcd_eq_zero_iff]; intro h; exact hb h.2
  unfold low; split <;> omega
theorem low_dvd_l (t b : Int) : low t b ∣ t := by
  unfold low; split
  · exact Int.neg_dvd.mpr (Int.gcd_dvd_left ..)
  · exact Int.gcd_dvd_left ..
theorem low_dvd_r (t b : Int) : low t b ∣ b := by
  unfold low; split
  · exact Int.neg_dvd.mpr (Int.gcd_dvd_right ..)
  · exact Int.gcd_dvd_right ..
noncomputable def lowT (t b : Int) : Int := t.fdiv (low t b)
noncomputable def lowB (t b : Int) : Int := b.fdiv (low t b)
theorem lowT_mul (t b : Int) : lowT t b * low t b = t := Int.fdiv_mul_cancel (low_dvd_l t b)
theorem lowB_mul (t b : Int) : lowB t b * low t b = b := Int.fdiv_mul_cancel (low_dvd_r t b)
theorem low_pos {t b : Int} (hb : b ≠ 0) : 1 ≤ lowB t b := by
  have e2 := lowB_mul t b
  have h0 : (Int.gcd t b : Int) > 0 := by
    have : Int.gcd t b ≠ 0 := by rw [Ne, Int.gcd_eq_zero_iff]; intro h; exact hb h.2
    omega
  unfold low at e2
  generalize lowB t b = y at *
  rcases Int.lt_or_le y 1 with h | h
  · exfalso
    split at e2
    · have := Int.mul_nonneg (show 0 ≤ -y by omega) (Int.le_of_lt h0)
      rw [Int.neg_mul] at this
      rw [Int.mul_neg] at e2
      omega
    · have := Int.mul_nonneg (show 0 ≤ -y by omega) (Int.le_of_lt h0)
      rw [Int.neg_mul] at this
      omega
  · exact h
theorem absE (a : Int) : (if a < 0 then -a else a) = ((a.natAbs : Nat) : Int) := by split <;> omega


noncomputable def addW (x : Str) (st : TT × List Str) (l : Ld) : TT × List Str := if l.2.2 ∈ names st.1 then st else (st.1 ++ [(l.2.2, some (l.1, l.2.1, x))], st.2 ++ [l.2.2])
noncomputable def stepT (js : List Jn) (st : TT × List Str) : TT × List Str := match st.2 with | [] => st | x :: ws => (lead js x).foldl (addW x) (st.1, ws)
noncomputable def iterT (js : List Jn) : Nat → TT × List Str → TT × List Str
  | 0, s => s
  | k + 1, s => stepT js (iterT js k s)
noncomputable def IsTree (js : List Jn) (n : Str) (t : TT) : Prop := ∃ k, iterT js k ([(n, none)], [n]) = (t, [])
theorem iterT_end {js : List Jn} {s : TT × List Str} {t : TT} {k : Nat} (h : iterT js k s = (t, [])) : ∀ m, iterT js (k + m) s = (t, [])
  | 0 => h
  | m + 1 => by
    show stepT js (iterT js (k + m) s) = _
    rw [iterT_end h m]; rfl
theorem IsTree.one {js : List Jn} {n : Str} {t t' : TT} (h : IsTree js n t) (h' : IsTree js n t') : t = t' := by
  obtain ⟨k, e⟩ := h
  obtain ⟨k', e'⟩ := h'
  have a := iterT_end e k'
  have b := iterT_end e' k
  rw [Nat.add_comm k' k, a] at b
  exact (Prod.mk.inj b).1

noncomputable abbrev Fr := Int × Int
noncomputable def fac (k : Str) (a b : Int) : Fr := if k = "pin" then (1, 1) else if k = "band" then (lowT a b, lowB a b) else (lowT (-a) b, lowB (-a) b)
noncomputable def mulF (x y : Fr) : Fr := (lowT (x.1 * y.1) (x.2 * y.2), lowB (x.1 * y.1) (x.2 * y.2))
noncomputable def teethOf (ws : List (Str × Int)) (n : Str) : Int := ((ws.find? fun w => decide (w.1 = n)).map Prod.snd).getD 1
noncomputable abbrev Sh := List (Str × Fr)
noncomputable def lk (sh : Sh) (n : Str) : Fr := ((sh.find? fun e => decide (e.1 = n)).map Prod.snd).getD (1, 1)
noncomputable def share1 (ws : List (Str × Int)) (sh : Sh) (e : Str × Option Ld) : Fr := match e.2 with
  | none => (1, 1)
  | some l => mulF (lk sh l.2.2) (fac l.2.1 (teethOf ws l.2.2) (teethOf ws e.1))
noncomputable def shares (ws : List (Str × Int)) (t : TT) : Sh := t.foldl (fun sh e => sh ++ [(e.1, share1 ws sh e)]) []
theorem shares_snoc (ws : List (Str × Int)) (t : TT) (e : Str × Option Ld) : shares ws (t ++ [e]) = shares ws t ++ [(e.1, share1 ws (shares ws t) e)] := by
  unfold shares; rw [List.foldl_append]; rfl
theorem shares_names (ws : List (Str × Int)) (t : TT) : (shares ws t).map Prod.fst = names t := by
  suffices ∀ (t : TT) (sh : Sh), (t.foldl (fun sh e => sh ++ [(e.1, share1 ws sh e)]) sh).map Prod.fst = sh.map Prod.fst ++ names t by
    have := this t []
    simpa [shares] using this
  intro t
  induction t with
  | nil => intro sh; simp [names]
  | cons e t ih => intro sh; rw [List.foldl_cons, ih]; simp [names]
theorem shares_len (ws : List (Str × Int)) (t : TT) : (shares ws t).length = t.length := by
  have := congrArg List.length (shares_names ws t)
  simpa [names] using this
noncomputable def Small (i : Nat) (x : Fr) : Prop := 1 ≤ x.2 ∧ x.2 < 2 ^ (30 * i) ∧ x.1.natAbs < 2 ^ (30 * i)
theorem lowB_le {t b : Int} (hb : 1 ≤ b) : lowB t b ≤ b := by
  have hp := low_pos (t := t) (b := b) (by omega)
  have e := lowB_mul t b
  have hl : 1 ≤ low t b := by
    have hn := low_ne (t := t) (b := b) (by omega)
    have : low t b = (Int.gcd t b : Int) := if_neg (by omega)
    omega
  have : lowB t b * 1 ≤ lowB t b * low t b := Int.mul_le_mul_of_nonneg_left hl (by omega)
  omega
theorem lowT_le {t b : Int} (hb : 1 ≤ b) : (lowT t b).natAbs ≤ t.natAbs := by
  have e := lowT_mul t b
  have hl : 1 ≤ (low t b).natAbs := by
    have hn := low_ne (t := t) (b := b) (by omega)
    omega
  have e2 : (lowT t b).natAbs * (low t b).natAbs = t.natAbs := by rw [← Int.natAbs_mul, e]
  have := Nat.mul_le_mul_left (lowT t b).natAbs hl
  omega
theorem fac_small {k : Str} {a b : Int} (ha : 1 ≤ a) (ha2 : a < 1000000000) (hb : 1 ≤ b) (hb2 : b < 1000000000) : Small 1 (fac k a b) := by
  have e30 : (2 : Nat) ^ (30 * 1) = 1073741824 := by decide
  have e30' : (2 : Int) ^ (30 * 1) = 1073741824 := by decide
  unfold fac Small
  rw [e30, e30']
  split
  · exact ⟨by decide, by decide, by decide⟩
  · split
    · have h1 := low_pos (t := a) (b := b) (by omega)
      have h2 := lowB_le (t := a) hb
      have h3 := lowT_le (t := a) hb
      exact ⟨h1, by show lowB a b < _; omega, by show (lowT a b).natAbs < _; omega⟩
    · have h1 := low_pos (t := -a) (b := b) (by omega)
      have h2 := lowB_le (t := -a) hb
      have h3 := lowT_le (t := -a) hb
      exact ⟨h1, by show lowB (-a) b < _; omega, by show (lowT (-a) b).natAbs < _; omega⟩
theorem mulF_small {i j : Nat} {x y : Fr} (hx : Small i x) (hy : Small j y) : Small (i + j) (mulF x y) := by
  obtain ⟨x1, x2, x3⟩ := hx
  obtain ⟨y1, y2, y3⟩ := hy
  have hb : 1 ≤ x.2 * y.2 := by
    have := Int.mul_le_mul_of_nonneg_left y1 (show 0 ≤ x.2 by omega)
    omega
  have e : (2 : Nat) ^ (30 * (i + j)) = 2 ^ (30 * i) * 2 ^ (30 * j) := by rw [Nat.mul_add, Nat.pow_add]
  have e' : (2 : Int) ^ (30 * (i + j)) = 2 ^ (30 * i) * 2 ^ (30 * j) := by rw [Nat.mul_add, Int.pow_add]
  have h1 := low_pos (t := x.1 * y.1) (b := x.2 * y.2) (by omega)
  have h2 := lowB_le (t := x.1 * y.1) hb
  have h3 := lowT_le (t := x.1 * y.1) hb
  refine ⟨h1, ?_, ?_⟩
  · show lowB _ _ < _
    rw [e']
    refine Int.lt_of_le_of_lt h2 ?_
    exact Int.mul_lt_mul x2 (by omega) (by omega) (by omega)
  · show (lowT _ _).natAbs < _
    rw [e]
    refine Nat.lt_of_le_of_lt h3 ?_
    rw [Int.natAbs_mul]
    exact Nat.mul_lt_mul'' x3 y3
theorem Small.up {i j : Nat} {x : Fr} (h : Small i x) (hij : i ≤ j) : Small j x := by
  have e : (2 : Nat) ^ (30 * i) ≤ 2 ^ (30 * j) := Nat.pow_le_pow_right (by decide) (by omega)
  have e' : (2 : Int) ^ (30 * i) ≤ 2 ^ (30 * j) := by
    have h1 : ((2 ^ (30 * i) : Nat) : Int) = (2 : Int) ^ (30 * i) := by rw [Int.natCast_pow]; rfl
    have h2 : ((2 ^ (30 * j) : Nat) : Int) = (2 : Int) ^ (30 * j) := by rw [Int.natCast_pow]; rfl
    omega
  exact ⟨h.1, Int.lt_of_lt_of_le h.2.1 e', Nat.lt_of_lt_of_le h.2.2 e⟩
theorem lk_mem {sh : Sh} {n : Str} (h : n ∈ sh.map Prod.fst) : ∃ e ∈ sh, e.1 = n ∧ lk sh n = e.2 := by
  induction sh with
  | nil => cases h
  | cons e sh ih =>
    by_cases he : e.1 = n
    · exact ⟨e, List.mem_cons_self, he, by simp [lk, he]⟩
    · obtain ⟨x, h1, h2, h3⟩ := ih (by
        rcases List.mem_cons.mp h with h | h
        · exact absurd h.symm he
        · exact h)
      refine ⟨x, List.mem_cons_of_mem _ h1, h2, ?_⟩
      rw [← h3]
      unfold lk
      rw [List.find?_cons, decide_eq_false he]
noncomputable def Teeth (ws : List (Str × Int)) : Prop := ∀ w ∈ ws, 1 ≤ w.2 ∧ w.2 < 1000000000
theorem teethOf_ok {ws : List (Str × Int)} (h : Teeth ws) (n : Str) : 1 ≤ teethOf ws n ∧ teethOf ws n < 1000000000 := by
  unfold teethOf
  cases e : ws.find? (fun w => decide (w.1 = n)) with
  | none => exact ⟨by decide, by decide⟩
  | some w => exact h w (List.mem_of_find?_eq_some e)
theorem shares_small {ws : List (Str × Int)} (h : Teeth ws) {js : List Jn} {n : Str} {t : TT} (g : Grown js n t) : ∀ e ∈ shares ws t, Small t.length e.2 := by
  induction g with
  | root =>
    intro e he
    have : e = (n, (1, 1)) := by simpa [shares, share1] using he
    rw [this]
    show Small 1 (1, 1)
    exact ⟨by decide, by decide, by decide⟩
  | more t m l g new old by_ ih =>
    intro e he
    rw [shares_snoc] at he
    rw [List.length_append]
    rcases List.mem_append.mp he with he | he
    · exact (ih e he).up (Nat.le_add_right _ _)
    · rw [List.mem_singleton.mp he]
      obtain ⟨x, h1, _, h3⟩ := lk_mem (sh := shares ws t) (n := l.2.2) (by rw [shares_names]; exact old)
      show Small _ (mulF (lk (shares ws t) l.2.2) _)
      rw [h3]
      have t1 := teethOf_ok h l.2.2
      have t2 := teethOf_ok h m
      exact mulF_small (ih x h1) (fac_small t1.1 t1.2 t2.1 t2.2)
noncomputable def jams (ws : List (Str × Int)) (sh : Sh) (j : Jn) : Bool := decide (j.2.2.1 ∈ sh.map Prod.fst) && !decide (mulF (lk sh j.2.2.1) (fac j.2.1 (teethOf ws j.2.2.1) (teethOf ws j.2.2.2)) = lk sh j.2.2.2)

noncomputable def lcms (bs : List Nat) : Nat := bs.foldl Nat.lcm 1
theorem lcms_snoc (bs : List Nat) (b : Nat) : lcms (bs ++ [b]) = Nat.lcm (lcms bs) b := by unfold lcms; rw [List.foldl_append]; rfl
theorem lcms_dvd {bs : List Nat} {m : Nat} (h : ∀ b ∈ bs, b ∣ m) : lcms bs ∣ m := by
  suffices ∀ (bs : List Nat) (a : Nat), a ∣ m → (∀ b ∈ bs, b ∣ m) → bs.foldl Nat.lcm a ∣ m from this bs 1 (Nat.one_dvd _) h
  intro bs
  induction bs with
  | nil => intro a ha _; exact ha
  | cons b bs ih => intro a ha hb; exact ih _ (Nat.lcm_dvd ha (hb b List.mem_cons_self)) fun c hc => hb c (List.mem_cons_of_mem _ hc)
theorem dvd_lcms {bs : List Nat} {b : Nat} (h : b ∈ bs) : b ∣ lcms bs := by
  suffices ∀ (bs : List Nat) (a : Nat), (b ∣ a ∨ b ∈ bs) → b ∣ bs.foldl Nat.lcm a from this bs 1 (.inr h)
  intro bs
  induction bs with
  | nil => intro a ha; exact ha.resolve_right (List.not_mem_nil)
  | cons c bs ih =>
    intro a ha
    refine ih _ ?_
    rcases ha with ha | ha
    · exact .inl (Nat.dvd_trans ha (Nat.dvd_lcm_left ..))
    · rcases List.mem_cons.mp ha with ha | ha
      · rw [ha]; exact .inl (Nat.dvd_lcm_right ..)
      · exact .inr ha
theorem lcms_pos {bs : List Nat} (h : ∀ b ∈ bs, 0 < b) : 0 < lcms bs := by
  suffices ∀ (bs : List Nat) (a : Nat), 0 < a → (∀ b ∈ bs, 0 < b) → 0 < bs.foldl Nat.lcm a from this bs 1 (by decide) h
  intro bs
  induction bs with
  | nil => intro a ha _; exact ha
  | cons c bs ih => intro a ha hb; exact ih _ (Nat.lcm_pos ha (hb c List.mem_cons_self)) fun d hd => hb d (List.mem_cons_of_mem _ hd)
theorem lcms_le {bs : List Nat} {m : Nat} (h : ∀ b ∈ bs, b ≤ 2 ^ m) (h0 : ∀ b ∈ bs, 0 < b) : lcms bs ≤ 2 ^ (m * bs.length) := by
  suffices ∀ (bs : List Nat) (a k : Nat), a ≤ 2 ^ k → 0 < a → (∀ b ∈ bs, b ≤ 2 ^ m) → (∀ b ∈ bs, 0 < b) → bs.foldl Nat.lcm a ≤ 2 ^ (k + m * bs.length) by
    have := this bs 1 0 (by decide) (by decide) h h0
    simpa [lcms] using this
  intro bs
  induction bs with
  | nil => intro a k ha _ _ _; simpa using ha
  | cons c bs ih =>
    intro a k ha ha0 hb hb0
    have hc := hb c List.mem_cons_self
    have hc0 := hb0 c List.mem_cons_self
    have h1 : Nat.lcm a c ≤ 2 ^ (k + m) := by
      have := Nat.le_of_dvd (Nat.mul_pos ha0 hc0) (Nat.lcm_dvd_mul a c)
      rw [Nat.pow_add]
      exact Nat.le_trans this (Nat.mul_le_mul ha hc)
    have := ih (Nat.lcm a c) (k + m) h1 (Nat.lcm_pos ha0 hc0) (fun d hd => hb d (List.mem_cons_of_mem _ hd)) fun d hd => hb0 d (List.mem_cons_of_mem _ hd)
    rw [List.foldl_cons, List.length_cons]
    have e : k + m * (bs.length + 1) = k + m + m * bs.length := by rw [Nat.mul_add]; omega
    rw [e]; exact this
noncomputable def gcds (xs : List Nat) : Nat := xs.foldl Nat.gcd 0
theorem gcds_dvd {xs : List Nat} {x : Nat} (h : x ∈ xs) : gcds xs ∣ x := by
  suffices ∀ (xs : List Nat) (a : Nat), xs.foldl Nat.gcd a ∣ a ∧ (x ∈ xs → xs.foldl Nat.gcd a ∣ x) from (this xs 0).2 h
  intro xs
  induction xs with
  | nil => intro a; exact ⟨Nat.dvd_refl _, fun h => (List.not_mem_nil h).elim⟩
  | cons y ys ih =>
    intro a
    obtain ⟨h1, h2⟩ := ih (Nat.gcd a y)
    refine ⟨Nat.dvd_trans h1 (Nat.gcd_dvd_left ..), fun h => ?_⟩
    rcases List.mem_cons.mp h with h | h
    · rw [h]; exact Nat.dvd_trans h1 (Nat.gcd_dvd_right ..)
    · exact h2 h
theorem gcds_one {bs cs : List Nat} (hb : ∀ b ∈ bs, 0 < b) (hc : ∀ b ∈ bs, b ∈ cs) (hcb : ∀ c ∈ cs, c ∈ bs) (hne : cs ≠ []) : gcds (cs.map fun c => lcms bs / c) = 1 := by
  have hL := lcms_pos hb
  have hg : ∀ c ∈ cs, gcds (cs.map fun c => lcms bs / c) ∣ lcms bs / c := fun c h => gcds_dvd (List.mem_map.mpr ⟨c, h, rfl⟩)
  generalize gcds (cs.map fun c => lcms bs / c) = g at hg
  have hgL : g ∣ lcms bs := by
    cases cs with
    | nil => exact absurd rfl hne
    | cons c cs =>
      refine Nat.dvd_trans (hg c List.mem_cons_self) ?_
      exact Nat.div_dvd_of_dvd (dvd_lcms (hcb c List.mem_cons_self))
  have hg0 : 0 < g := Nat.pos_of_dvd_of_pos hgL hL
  have key : lcms bs ∣ lcms bs / g := by
    refine lcms_dvd fun b hbm => ?_
    have h1 := hg b (hc b hbm)
    have h2 := dvd_lcms hbm
    obtain ⟨q, hq⟩ := h1
    have e1 : lcms bs = b * (g * q) := by rw [← hq, Nat.mul_div_cancel' h2]
    rw [e1, show b * (g * q) = g * (b * q) by rw [← Nat.mul_assoc, Nat.mul_comm b g, Nat.mul_assoc], Nat.mul_div_cancel_left _ hg0]
    exact Nat.dvd_mul_right ..
  have hpos : 0 < lcms bs / g := Nat.div_pos (Nat.le_of_dvd hL hgL) hg0
  have hle := Nat.le_of_dvd hpos key
  have : g ≤ 1 := by
    rcases Nat.lt_or_ge 1 g with h | h
    · have := Nat.div_lt_self hL h
      omega
    · exact h
  omega


noncomputable def top (i : Nat) : Stmt := PySem.Challenge.pw_cogtrain_k07_back_after.main.body.getD i (.Pass ⟨0, 0, 0, 0⟩)
structure Txt (K : PySem.W.Frag) (mg : Str → Option Value) : Prop where
  len : mg "len" = none
  all : mg "all" = none
  list : mg "list" = none
  range : mg "range" = none
  isinstance : mg "isinstance" = none
  int : mg "int" = none
  bool : mg "bool" = none
  str : mg "str" = none
  max : mg "max" = none
  abs : mg "abs" = none
  dict : mg "dict" = none
  LONGEST_NAME : ∃ t, mg "LONGEST_NAME" = some (.int 8 t)
  TEETH_BOUND : ∃ t, mg "TEETH_BOUND" = some (.int 1000000000 t)
  MOST_WHEELS : ∃ t, mg "MOST_WHEELS" = some (.int 100 t)
  MOST_JOINS : ∃ t, mg "MOST_JOINS" = some (.int 200 t)
  LETTERS : ∃ t, mg "LETTERS" = some (.str "abcdefghijklmnopqrstuvwxyz" t)
  KINDS : ∃ a, mg "KINDS" = some (.ref a) ∧ ∀ H, SqT K H a ([.str "mesh", .str "pin", .str "band", .str "cross"])
noncomputable abbrev s_greatest_divisor : Stmt := top 11
theorem sc_greatest_divisor : FnScope ["one", "other", "divisor", "rest", "left_over"] ["one", "other"] (defScope s_greatest_divisor) := ⟨rfl, rfl, rfl, by decide +kernel, rfl, by decide +kernel, by decide +kernel⟩
noncomputable abbrev s_lowest : Stmt := top 12
theorem sc_lowest : FnScope ["top", "bottom", "divisor"] ["top", "bottom"] (defScope s_lowest) := ⟨rfl, rfl, rfl, by decide +kernel, rfl, by decide +kernel, by decide +kernel⟩
noncomputable abbrev s_times : Stmt := top 13
theorem sc_times : FnScope ["one", "other"] ["one", "other"] (defScope s_times) := ⟨rfl, rfl, rfl, by decide +kernel, rfl, by decide +kernel, by decide +kernel⟩
noncomputable abbrev s_factor : Stmt := top 15
theorem sc_factor : FnScope ["kind", "one", "other"] ["kind", "one", "other"] (defScope s_factor) := ⟨rfl, rfl, rfl, by decide +kernel, rfl, by decide +kernel, by decide +kernel⟩
noncomputable abbrev s_refuse_unknown : Stmt := top 16
theorem sc_refuse_unknown : FnScope ["names", "name"] ["names", "name"] (defScope s_refuse_unknown) := ⟨rfl, rfl, rfl, by decide +kernel, rfl, by decide +kernel, by decide +kernel⟩
noncomputable abbrev s_wheel_meant : Stmt := top 17
theorem sc_wheel_meant : FnScope ["train", "name", "names"] ["train", "name"] (defScope s_wheel_meant) := ⟨rfl, rfl, rfl, by decide +kernel, rfl, by decide +kernel, by decide +kernel⟩
noncomputable abbrev s_joins_from : Stmt := top 18
theorem sc_joins_from : FnScope ["joins", "here", "leading", "number", "kind", "one", "other"] ["joins", "here"] (defScope s_joins_from) := ⟨rfl, rfl, rfl, by decide +kernel, rfl, by decide +kernel, by decide +kernel⟩
noncomputable abbrev s_tree_from : Stmt := top 19
theorem sc_tree_from : FnScope ["joins", "start", "tree", "waiting", "here", "number", "kind", "there"] ["joins", "start"] (defScope s_tree_from) := ⟨rfl, rfl, rfl, by decide +kernel, rfl, by decide +kernel, by decide +kernel⟩
noncomputable abbrev s_shares_along : Stmt := top 20
theorem sc_shares_along : FnScope ["train", "tree", "teeth_of", "shares", "name", "entry", "before"] ["train", "tree"] (defScope s_shares_along) := ⟨rfl, rfl, rfl, by decide +kernel, rfl, by decide +kernel, by decide +kernel⟩
noncomputable abbrev s_jamming_join : Stmt := top 21
theorem sc_jamming_join : FnScope ["train", "shares", "teeth_of", "join", "one", "other", "share"] ["train", "shares"] (defScope s_jamming_join) := ⟨rfl, rfl, rfl, by decide +kernel, rfl, by decide +kernel, by decide +kernel⟩
noncomputable abbrev s_free_shares : Stmt := top 22
theorem sc_free_shares : FnScope ["train", "name", "tree", "shares"] ["train", "name"] (defScope s_free_shares) := ⟨rfl, rfl, rfl, by decide +kernel, rfl, by decide +kernel, by decide +kernel⟩
noncomputable abbrev s_turns : Stmt := top 23
theorem sc_turns : FnScope ["train", "name", "shares"] ["train", "name"] (defScope s_turns) := ⟨rfl, rfl, rfl, by decide +kernel, rfl, by decide +kernel, by decide +kernel⟩
noncomputable abbrev s_back_after : Stmt := top 24
theorem sc_back_after : FnScope ["train", "name", "count", "share", "bottom"] ["train", "name"] (defScope s_back_after) := ⟨rfl, rfl, rfl, by decide +kernel, rfl, by decide +kernel, by decide +kernel⟩
noncomputable abbrev s_is_name : Stmt := top 32
theorem sc_is_name : FnScope ["text"] ["text"] (defScope s_is_name) := ⟨rfl, rfl, rfl, by decide +kernel, rfl, by decide +kernel, by decide +kernel⟩
noncomputable abbrev s_Train___init__ : Stmt := inClass (top 33) 0
theorem sc_Train___init__ : FnScope ["self"] ["self"] (defScope s_Train___init__) := ⟨rfl, rfl, rfl, by decide +kernel, rfl, by decide +kernel, by decide +kernel⟩
noncomputable abbrev s_Train_put_wheel : Stmt := inClass (top 33) 1
theorem sc_Train_put_wheel : FnScope ["self", "name", "teeth"] ["self", "name", "teeth"] (defScope s_Train_put_wheel) := ⟨rfl, rfl, rfl, by decide +kernel, rfl, by decide +kernel, by decide +kernel⟩
noncomputable abbrev s_Train_put_join : Stmt := inClass (top 33) 2
theorem sc_Train_put_join : FnScope ["self", "kind", "one", "other", "number"] ["self", "kind", "one", "other"] (defScope s_Train_put_join) := ⟨rfl, rfl, rfl, by decide +kernel, rfl, by decide +kernel, by decide +kernel⟩
noncomputable abbrev s_Train_wheels : Stmt := inClass (top 33) 4
theorem sc_Train_wheels : FnScope ["self"] ["self"] (defScope s_Train_wheels) := ⟨rfl, rfl, rfl, by decide +kernel, rfl, by decide +kernel, by decide +kernel⟩
noncomputable abbrev s_Train_joins : Stmt := inClass (top 33) 5
theorem sc_Train_joins : FnScope ["self"] ["self"] (defScope s_Train_joins) := ⟨rfl, rfl, rfl, by decide +kernel, rfl, by decide +kernel, by decide +kernel⟩
noncomputable abbrev s_law_cell_at : Stmt := top 35
theorem sc_law_cell_at : FnScope ["_law_script", "_law_k"] ["_law_script", "_law_k"] (defScope s_law_cell_at) := ⟨rfl, rfl, rfl, by decide +kernel, rfl, by decide +kernel, by decide +kernel⟩
noncomputable abbrev s_law_whole : Stmt := top 36
theorem sc_law_whole : FnScope ["_law_found"] ["_law_found"] (defScope s_law_whole) := ⟨rfl, rfl, rfl, by decide +kernel, rfl, by decide +kernel, by decide +kernel⟩
noncomputable abbrev s_law_common : Stmt := top 37
theorem sc_law_common : FnScope ["_law_one", "_law_other"] ["_law_one", "_law_other"] (defScope s_law_common) := ⟨rfl, rfl, rfl, by decide +kernel, rfl, by decide +kernel, by decide +kernel⟩
noncomputable abbrev s_law_name : Stmt := top 38
theorem sc_law_name : FnScope ["_law_k", "_law_spin", "_law_letters", "_law_first", "_law_last"] ["_law_k", "_law_spin"] (defScope s_law_name) := ⟨rfl, rfl, rfl, by decide +kernel, rfl, by decide +kernel, by decide +kernel⟩
noncomputable abbrev s_law_teeth : Stmt := top 39
theorem sc_law_teeth : FnScope ["_law_number", "_law_way"] ["_law_number", "_law_way"] (defScope s_law_teeth) := ⟨rfl, rfl, rfl, by decide +kernel, rfl, by decide +kernel, by decide +kernel⟩
noncomputable abbrev s_law_rows : Stmt := top 40
theorem sc_law_rows : FnScope ["_law_script", "_law_wheels", "_law_joins", "_law_start", "_law_kinds", "_law_k", "_law_way", "_law_rest", "_law_kind", "_law_many", "_law_at", "_law_to"] ["_law_script"] (defScope s_law_rows) := ⟨rfl, rfl, rfl, by decide +kernel, rfl, by decide +kernel, by decide +kernel⟩
noncomputable abbrev s_law_train : Stmt := top 41
theorem sc_law_train : FnScope ["_law_wheels", "_law_joins", "_law_train_here", "_law_name_here", "_law_teeth_here", "_law_kind", "_law_one", "_law_other"] ["_law_wheels", "_law_joins"] (defScope s_law_train) := ⟨rfl, rfl, rfl, by decide +kernel, rfl, by decide +kernel, by decide +kernel⟩
noncomputable abbrev s_law_least : Stmt := top 42
theorem sc_law_least : FnScope ["_law_found", "_law_told", "_law_common_here", "_law_turned"] ["_law_found", "_law_told"] (defScope s_law_least) := ⟨rfl, rfl, rfl, by decide +kernel, rfl, by decide +kernel, by decide +kernel⟩
noncomputable abbrev s_law_after : Stmt := top 43
theorem sc_law_after : FnScope ["_law_train_here", "_law_name_here", "_law_way"] ["_law_train_here", "_law_name_here", "_law_way"] (defScope s_law_after) := ⟨rfl, rfl, rfl, by decide +kernel, rfl, by decide +kernel, by decide +kernel⟩
noncomputable abbrev s_law_turns : Stmt := top 44
theorem sc_law_turns : FnScope ["_law_train_here", "_law_name_here", "_law_way"] ["_law_train_here", "_law_name_here", "_law_way"] (defScope s_law_turns) := ⟨rfl, rfl, rfl, by decide +kernel, rfl, by decide +kernel, by decide +kernel⟩
noncomputable abbrev s_law_asked : Stmt := top 45
theorem sc_law_asked : FnScope ["_law_train_here", "_law_name_here", "_law_way", "_law_told", "_law_jams", "_law_found", "_law_refused_here"] ["_law_train_here", "_law_name_here", "_law_way"] (defScope s_law_asked) := ⟨rfl, rfl, rfl, by decide +kernel, rfl, by decide +kernel, by decide +kernel⟩
noncomputable abbrev s_law_refused : Stmt := top 46
theorem sc_law_refused : FnScope ["_law_train_here", "_law_name_here"] ["_law_train_here", "_law_name_here"] (defScope s_law_refused) := ⟨rfl, rfl, rfl, by decide +kernel, rfl, by decide +kernel, by decide +kernel⟩
noncomputable abbrev s_law : Stmt := top 47
theorem sc_law : FnScope ["_law_script", "_law_wheels", "_law_joins", "_law_train_here", "_law_cell", "_law_at", "_law_way", "_law_name_here"] ["_law_script"] (defScope s_law) := ⟨rfl, rfl, rfl, by decide +kernel, rfl, by decide +kernel, by decide +kernel⟩
section
variable {P : Program} {w : World} {K : PySem.W.Frag} {mg : Str → Option Value} {base : Heap}
theorem pa_LONGEST_NAME {X : Cx} {F0 : Hp} {pos : Pos} (T : Txt X.K X.mg) (hg : Gl X "LONGEST_NAME" := by rfl) : PEA X F0 (.Name "LONGEST_NAME" pos) (aC (.int 8)) := by
  obtain ⟨t, h⟩ := T.LONGEST_NAME
  exact paC (pe_glob (v := .int 8) hg h ⟨t, rfl⟩) fun _ => .int _
theorem pa_TEETH_BOUND {X : Cx} {F0 : Hp} {pos : Pos} (T : Txt X.K X.mg) (hg : Gl X "TEETH_BOUND" := by rfl) : PEA X F0 (.Name "TEETH_BOUND" pos) (aC (.int 1000000000)) := by
  obtain ⟨t, h⟩ := T.TEETH_BOUND
  exact paC (pe_glob (v := .int 1000000000) hg h ⟨t, rfl⟩) fun _ => .int _
theorem pa_MOST_WHEELS {X : Cx} {F0 : Hp} {pos : Pos} (T : Txt X.K X.mg) (hg : Gl X "MOST_WHEELS" := by rfl) : PEA X F0 (.Name "MOST_WHEELS" pos) (aC (.int 100)) := by
  obtain ⟨t, h⟩ := T.MOST_WHEELS
  exact paC (pe_glob (v := .int 100) hg h ⟨t, rfl⟩) fun _ => .int _
theorem pa_MOST_JOINS {X : Cx} {F0 : Hp} {pos : Pos} (T : Txt X.K X.mg) (hg : Gl X "MOST_JOINS" := by rfl) : PEA X F0 (.Name "MOST_JOINS" pos) (aC (.int 200)) := by
  obtain ⟨t, h⟩ := T.MOST_JOINS
  exact paC (pe_glob (v := .int 200) hg h ⟨t, rfl⟩) fun _ => .int _
theorem pa_LETTERS {X : Cx} {F0 : Hp} {pos : Pos} (T : Txt X.K X.mg) (hg : Gl X "LETTERS" := by rfl) : PEA X F0 (.Name "LETTERS" pos) (aC (.str "abcdefghijklmnopqrstuvwxyz")) := by
  obtain ⟨t, h⟩ := T.LETTERS
  exact paC (pe_glob (v := .str "abcdefghijklmnopqrstuvwxyz") hg h ⟨t, rfl⟩) fun _ => .str _
theorem pa_KINDS {X : Cx} {F0 : Hp} {pos : Pos} (T : Txt X.K X.mg) (hg : Gl X "KINDS" := by rfl) : PEA X F0 (.Name "KINDS" pos) (aC (.ctp [.str "mesh", .str "pin", .str "band", .str "cross"])) := by
  obtain ⟨a, h, hs⟩ := T.KINDS
  exact paC (pe_glob (v := .ref a) hg h rfl) fun _ => .ctp (hs _) (.cons (.str _) (.cons (.str _) (.cons (.str _) (.cons (.str _) .nil))))

noncomputable def cell (ns : List Int) (k : Int) : Int := (ns[k.toNat]?).getD 0
noncomputable def spCell : SpA := fun ds M Q _ => ∃ (ns : List Int) (k : Int), ds = [.scr (ns.map D.int), .int k] ∧ 0 ≤ k ∧ Q (.int (cell ns k)) M
theorem ok_cell {f : Addr} {fd : FuncData} (Fn : Fun K "_law_cell_at" "_law_cell_at" s_law_cell_at f fd) (T : Txt K mg) : FnOk P w K mg base (CXE P w) 1 f fd ["_law_script", "_law_k"] (liftS K spCell) := by
  refine Fn.okA sc_law_cell_at (fun ds M Q E h => ?_) ?_
  · obtain ⟨a, b, rfl, _⟩ := h; rfl
  intro cdv A outer s H E F0 ds M Q Ea hr ct hsp
  obtain ⟨ns, k, rfl, hk, q⟩ := hsp
  refine ⟨_, (ssCons (sIf (ptCmp op_lt lLt (paV (pv 1)) (paCallB call_lens lLen (by rfl) T.len PySem.boot_len (aaCons (paV (pv 0)) aaNil)) (nomark _))
        (ssOne (sRet (paIx ix_seq lIx (paV (pv 0)) (paV (pv 1)) (fun _ _ => rfl))))
        ssNil)
      (ssOne (sRet paI))), ?_⟩
  simp only [aYes, Bool.and_self, at0, at1, at2, at3, aSeq, aNext, aIf, aFor, iaR1, iaR2, iaR3, iaS, iaL, gaN, aSl, aPart, aNoPart, aT, aOp, aV, aC, aRet, aRetN, aTup, aLst, aLstM, aCons, aNil, aAnd, aOr, aNot, aAndV, aOrV, aNotV, aSet, aAsg, aDrop, aCall, aFun, aUn, oAdd, addF, addC, oI, oIc, eqq_int, eqq_str, eqq_bl, neq_int, neq_str, neq_bl, oIsN, isNon, oNeg, oLen, lenF, lenC, oIx, ixF, ixC, oIn, inB, oSl, slF, slC, Option.bind_some, Option.map_some, true_and, L2.dq, L2.dr, L2.dl, L2.dd, both_some, opt_some, insAt_some, keyD, aFldC, aDPut, oDIn, aDGet, aDPop, aDGet1, aSetF, aDNew, aRaise, aMeth, oCat, oCatM, startA, List.map_cons, List.map_nil, List.length_cons, List.length_nil, List.replicate, List.cons_append, List.nil_append, List.getElem?_cons_zero, List.getElem?_cons_succ, List.set_cons_zero, List.set_cons_succ, Nat.reduceAdd, Nat.reduceSub, if_true, Bool.false_eq_true, if_false, List.length_map]
  obtain ⟨n, rfl⟩ := Int.eq_ofNat_of_zero_le hk
  refine ite2 (fun h => ?_) fun h => ?_
  · have h := of_decide_eq_true h
    have hn : n < ns.length := by omega
    rw [atI_nat (v := D.int ns[n]) (by simp [List.getElem?_eq_getElem hn])]
    have e : cell ns (n : Int) = ns[n] := by simp [cell, List.getElem?_eq_getElem hn]
    rw [e] at q
    exact .now q
  · have hn : ¬ n < ns.length := fun z => h (decide_eq_true (by omega))
    have e : cell ns (n : Int) = 0 := by simp [cell, List.getElem?_eq_none (Nat.le_of_not_lt hn)]
    rw [e] at q
    exact .now q
noncomputable def isInt : D → Bool | .int _ => true | _ => false
noncomputable def spWhole : SpA := fun ds M Q _ => ∃ d, ds = [d] ∧ instOk M d = true ∧ Q (.bl (isInt d)) M
theorem ok_whole {f : Addr} {fd : FuncData} (Fn : Fun K "_law_whole" "_law_whole" s_law_whole f fd) (T : Txt K mg) : FnOk P w K mg base (CXE P w) 1 f fd ["_law_found"] (liftS K spWhole) := by
  refine Fn.okA sc_law_whole (fun ds M Q E h => ?_) ?_
  · obtain ⟨a, rfl, _⟩ := h; rfl
  intro cdv A outer s H E F0 ds M Q Ea hr ct hsp
  obtain ⟨d, rfl, hk, q⟩ := hsp
  refine ⟨_, (ssOne (sRet (paAnd (paInst (T := "int") (x := "int") (by decide) (by rfl) T.isinstance (by rfl) T.int boot_int (paV (pv 0))) (paOne (paNot (paInst (T := "bool") (x := "bool") (by decide) (by rfl) T.isinstance (by rfl) T.bool boot_bool (paV (pv 0)))))))), ?_⟩
  simp only [aYes, Bool.and_self, at0, at1, at2, at3, aSeq, aNext, aIf, aFor, iaR1, iaR2, iaR3, iaS, iaL, gaN, aSl, aPart, aNoPart, aT, aOp, aV, aC, aRet, aRetN, aTup, aLst, aLstM, aCons, aNil, aAnd, aOr, aNot, aAndV, aOrV, aNotV, aSet, aAsg, aDrop, aCall, aFun, aUn, oAdd, addF, addC, oI, oIc, eqq_int, eqq_str, eqq_bl, neq_int, neq_str, neq_bl, oIsN, isNon, oNeg, oLen, lenF, lenC, oIx, ixF, ixC, oIn, inB, oSl, slF, slC, Option.bind_some, Option.map_some, true_and, L2.dq, L2.dr, L2.dl, L2.dd, both_some, opt_some, insAt_some, keyD, aFldC, aDPut, oDIn, aDGet, aDPop, aDGet1, aSetF, aDNew, aRaise, aMeth, oCat, oCatM, startA, List.map_cons, List.map_nil, List.length_cons, List.length_nil, List.replicate, List.cons_append, List.nil_append, List.getElem?_cons_zero, List.getElem?_cons_succ, List.set_cons_zero, List.set_cons_succ, Nat.reduceAdd, Nat.reduceSub, if_true, Bool.false_eq_true, if_false, aInst]
  refine ⟨hk, ite2 (fun h => ⟨hk, ?_⟩) fun h => ?_⟩
  · cases d <;> first
      | exact .now q
      | (simp [instD] at h; done)
      | skip
    rename_i p
    unfold instD at h
    dsimp only at h
    split at h <;> simp at h
  · cases d <;> first
      | exact .now q
      | (exact absurd rfl h)

theorem comp0 {X : Cx} {scope : Scope} {Nc : List Str} {n : Nat} (clos : closureFor scope X.env = pure [] := by rfl) (cell : ∀ y ∈ scope.names, y.2 ≠ .cell := by decide +kernel) (kind : scope.kind = .function := by rfl)
    (names : ∀ x ∈ scope.names, x.2 = .local → scope.names.lookup x.1 = some .local := by decide +kernel) (nof : ∀ y ∈ scope.names, y.2 ≠ .free := by decide +kernel) (rl : (relabel scope X.env).names = scope.names := by rfl) (len : n = Nc.length := by rfl) : CompOk X scope [] Nc (jsOf n []) := by
  have look : ∀ {x : Str} {k : NameKind}, scope.names.lookup x = some k → ∃ y ∈ scope.names, y.2 = k := by
    intro x k
    generalize scope.names = l
    intro h
    induction l with
    | nil => cases h
    | cons a l ih =>
      rw [List.lookup_cons] at h
      split at h
      · cases h; exact ⟨a, List.mem_cons_self, rfl⟩
      · obtain ⟨y, h1, h2⟩ := ih h; exact ⟨y, List.mem_cons_of_mem _ h1, h2⟩
  refine ⟨clos, (fun _ _ h => by cases h), cell, kind, names, fun x h => ?_, by simp [jsOf, len], fun k j h => ?_⟩
  · rw [rl] at h
    rcases h with h | h
    · obtain ⟨y, h1, h2⟩ := look h; exact absurd h2 (cell y h1)
    · obtain ⟨y, h1, h2⟩ := look h; exact absurd h2 (nof y h1)
  · unfold jsOf at h
    simp only [List.map_nil, List.append_nil, List.getElem?_replicate] at h
    split at h <;> cases h
theorem outs_map (f : Nat → D) (n : Nat) : outs (fun i => some (f i)) n = (List.range n).map f := by
  unfold outs
  induction List.range n with
  | nil => rfl
  | cons a l ih => simp only [List.filterMap_cons, List.map_cons, ih]
theorem all_cps (x : Str) (q : Nat → Bool) : ((List.range x.cps.size).map fun i => q (x.cps.getD i 0)).all id = x.cps.toList.all q := by
  rw [Bool.eq_iff_iff, List.all_eq_true, List.all_eq_true]
  constructor
  · intro h c hc
    obtain ⟨i, hi, rfl⟩ := List.getElem_of_mem hc
    have hi' : i < x.cps.size := by simpa using hi
    have := h _ (List.mem_map.mpr ⟨i, List.mem_range.mpr hi', rfl⟩)
    simpa [Array.getD, hi'] using this
  · intro h b hb
    obtain ⟨i, hi, rfl⟩ := List.mem_map.mp hb
    have hi' := List.mem_range.mp hi
    have := h (x.cps.toList[i]'(by simpa using hi')) (List.getElem_mem _)
    simpa [Array.getD, hi'] using this
theorem own1 {own : G} (h : own.length = 1) : ∃ o, own = [o] := by
  cases own with
  | nil => cases h
  | cons o l => cases l with
    | nil => exact ⟨o, rfl⟩
    | cons _ _ => simp at h
noncomputable def spIsName : SpA := fun ds M Q _ => ∃ x : Str, ds = [.str x] ∧ x.length ≤ 1000 ∧ Q (.bl (isName x)) M
theorem ok_is_name {f : Addr} {fd : FuncData} (Fn : Fun K "is_name" "is_name" s_is_name f fd) (T : Txt K mg) : FnOk P w K mg base (CXE P w) 1 f fd ["text"] (liftS K spIsName) := by
  refine Fn.okA sc_is_name (fun ds M Q E h => ?_) ?_
  · obtain ⟨x, rfl, _⟩ := h; rfl
  intro cdv A outer s H E F0 ds M Q Ea hr ct hsp
  obtain ⟨x, rfl, hx, q⟩ := hsp
  refine ⟨_, (ssCons (sIf ((pwOr (ptCmp op_lt lLt (paCallB call_lens lLen (by rfl) T.len PySem.boot_len (aaCons (paV (pv 0)) aaNil)) paI (nomark _)) (pwOr1 (ptCmp op_gt lGt (paCallB call_lens lLen (by rfl) T.len PySem.boot_len (aaCons (paV (pv 0)) aaNil)) (pa_LONGEST_NAME T) (nomark _))))).pt
        (ssOne (sRet paB))
        ssNil)
      (ssOne (sRet (paAll (by rfl) T.all rfl (aaCons (paFz (paCompM (Nc := ["sign"]) (n := 1) (fs := []) comp0 rfl (iStr' (paV (pv 0))) (fun _ _ _ _ _ => (tgName (i := 0) (show List.Nodup (["sign"] : List Str) by decide +kernel) rfl (Or.inl rfl))) (fun _ _ _ _ _ => fiNil) (fun _ _ _ _ _ => (paCmp op_ins lIn (paV (pv 0)) (pa_LETTERS T) (by with_unfolding_all rfl))))) aaNil))))), ?_⟩
  have hl : x.length ≤ sizeLine := k1000 hx
  simp only [aYes, Bool.and_self, at0, at1, at2, at3, aSeq, aNext, aIf, aFor, iaR1, iaR2, iaR3, iaS, iaL, gaN, aSl, aPart, aNoPart, aT, aOp, aV, aC, aRet, aRetN, aTup, aLst, aLstM, aCons, aNil, aAnd, aOr, aNot, aAndV, aOrV, aNotV, aSet, aAsg, aDrop, aCall, aFun, aUn, oAdd, addF, addC, oI, oIc, eqq_int, eqq_str, eqq_bl, neq_int, neq_str, neq_bl, oIsN, isNon, oNeg, oLen, lenF, lenC, oIx, ixF, ixC, oIn, inB, oSl, slF, slC, Option.bind_some, Option.map_some, true_and, L2.dq, L2.dr, L2.dl, L2.dd, both_some, opt_some, insAt_some, keyD, aFldC, aDPut, oDIn, aDGet, aDPop, aDGet1, aSetF, aDNew, aRaise, aMeth, oCat, oCatM, startA, List.map_cons, List.map_nil, List.length_cons, List.length_nil, List.replicate, List.cons_append, List.nil_append, List.getElem?_cons_zero, List.getElem?_cons_succ, List.set_cons_zero, List.set_cons_succ, Nat.reduceAdd, Nat.reduceSub, if_true, Bool.false_eq_true, if_false]
  refine ⟨hl, ite2 (fun h1 => ?_) (fun h1 => ⟨hl, ite2 (fun h2 => ?_) (fun h2 => ?_)⟩)⟩
  · have h1 := of_decide_eq_true h1
    have e : isName x = false := by
      unfold isName
      rw [decide_eq_true (show x.length < 1 by omega)]; rfl
    rw [e] at q
    exact .now q
  · have h2 := of_decide_eq_true h2
    have e : isName x = false := by
      unfold isName
      rw [decide_eq_true (show 8 < x.length by omega), Bool.or_true]; rfl
    rw [e] at q
    exact .now q
  · have h1 : ¬ (x.length < 1) := fun z => h1 (decide_eq_true (by omega))
    have h2 : ¬ (8 < x.length) := fun z => h2 (decide_eq_true (by omega))
    have e : isName x = x.cps.toList.all fun c => decide (c ∈ letters) := by
      unfold isName
      rw [decide_eq_false h1, decide_eq_false h2]; rfl
    rw [e, ← all_cps] at q
    simp only [aFz, aCompM, aYes, Bool.and_self, at0, at1, at2, at3, aSeq, aNext, aIf, aFor, iaR1, iaR2, iaR3, iaS, iaL, gaN, aSl, aPart, aNoPart, aT, aOp, aV, aC, aRet, aRetN, aTup, aLst, aLstM, aCons, aNil, aAnd, aOr, aNot, aAndV, aOrV, aNotV, aSet, aAsg, aDrop, aCall, aFun, aUn, oAdd, addF, addC, oI, oIc, eqq_int, eqq_str, eqq_bl, neq_int, neq_str, neq_bl, oIsN, isNon, oNeg, oLen, lenF, lenC, oIx, ixF, ixC, oIn, inB, oSl, slF, slC, Option.bind_some, Option.map_some, true_and, L2.dq, L2.dr, L2.dl, L2.dd, both_some, opt_some, insAt_some, keyD, aFldC, aDPut, oDIn, aDGet, aDPop, aDGet1, aSetF, aDNew, aRaise, aMeth, oCat, oCatM, startA, List.map_cons, List.map_nil, List.length_cons, List.length_nil, List.replicate, List.cons_append, List.nil_append, List.getElem?_cons_zero, List.getElem?_cons_succ, List.set_cons_zero, List.set_cons_succ, Nat.reduceAdd, Nat.reduceSub, if_true, Bool.false_eq_true, if_false, frG, oIn]
    refine ⟨fun i => some (.bl (decide (x.cps.getD i 0 ∈ letters))), by show x.cps.size ≤ 1000; exact hx, fun M' _ i hi own ho => ?_, fun p hp => ?_⟩
    · obtain ⟨o, rfl⟩ := own1 ho
      refine ⟨⟨[some _], rfl, rfl⟩, ?_⟩
      simp only [aYes, Bool.and_self, at0, at1, at2, at3, aSeq, aNext, aIf, aFor, iaR1, iaR2, iaR3, iaS, iaL, gaN, aSl, aPart, aNoPart, aT, aOp, aV, aC, aRet, aRetN, aTup, aLst, aLstM, aCons, aNil, aAnd, aOr, aNot, aAndV, aOrV, aNotV, aSet, aAsg, aDrop, aCall, aFun, aUn, oAdd, addF, addC, oI, oIc, eqq_int, eqq_str, eqq_bl, neq_int, neq_str, neq_bl, oIsN, isNon, oNeg, oLen, lenF, lenC, oIx, ixF, ixC, oIn, inB, oSl, slF, slC, Option.bind_some, Option.map_some, true_and, L2.dq, L2.dr, L2.dl, L2.dd, both_some, opt_some, insAt_some, keyD, aFldC, aDPut, oDIn, aDGet, aDPop, aDGet1, aSetF, aDNew, aRaise, aMeth, oCat, oCatM, startA, List.map_cons, List.map_nil, List.length_cons, List.length_nil, List.replicate, List.cons_append, List.nil_append, List.getElem?_cons_zero, List.getElem?_cons_succ, List.set_cons_zero, List.set_cons_succ, Nat.reduceAdd, Nat.reduceSub, if_true, Bool.false_eq_true, if_false]
      exact (congrArg (fun b => some (D.bl b)) (PySem.StrLaws.found_one ("abcdefghijklmnopqrstuvwxyz" : Str) (x.cps.getD i 0)).symm)
    · simp only [put_same, del_put hp, oAll, L2.dr]
      refine ⟨_, ?_, .now q⟩
      rw [outs_map, List.map_map]; rfl


theorem look_teeth {d1 d2 : Addr} {n : Int} : (fsT d1 d2 n).lookup ("teeth_of" : Str) = some (.obj d1) := rfl
theorem look_join {d1 d2 : Addr} {n : Int} : (fsT d1 d2 n).lookup ("join_of" : Str) = some (.obj d2) := rfl
theorem look_next {d1 d2 : Addr} {n : Int} : (fsT d1 d2 n).lookup ("next_number" : Str) = some (.int n) := rfl
noncomputable def spInit (C : Addr) : SpA := fun ds M Q _ => ∃ p, ds = [.obj p] ∧ M p = some (.ins C []) ∧ ∀ d1 d2, M d1 = none → M d2 = none → d1 ≠ d2 → d1 ≠ p → d2 ≠ p → Q .non (put (put (put M d1 (.dic [])) d2 (.dic [])) p (.ins C (fsT d1 d2 0)))
theorem ok_init {f C : Addr} {fd : FuncData} (Fn : Fun K "__init__" "Train.__init__" s_Train___init__ f fd) (pl_teeth_of : Pln K C "teeth_of") (pl_join_of : Pln K C "join_of") (pl_next_number : Pln K C "next_number") :
    FnOk P w K mg base (CXE P w) 1 f fd ["self"] (liftS K (spInit C)) := by
  refine Fn.okA sc_Train___init__ (fun ds M Q E h => ?_) ?_
  · obtain ⟨x, rfl, _⟩ := h; rfl
  intro cdv A outer s H E F0 ds M Q Ea hr ct hsp
  obtain ⟨p, rfl, hp, q⟩ := hsp
  refine ⟨_, (ssCons (sSetF pl_teeth_of (paV (pv 0)) paDNew rfl)
      (ssCons (sSetF pl_join_of (paV (pv 0)) paDNew rfl)
      (ssOne (sSetF pl_next_number (paV (pv 0)) paI rfl)))), ?_⟩
  simp only [aYes, Bool.and_self, at0, at1, at2, at3, aSeq, aNext, aIf, aFor, iaR1, iaR2, iaR3, iaS, iaL, gaN, aSl, aPart, aNoPart, aT, aOp, aV, aC, aRet, aRetN, aTup, aLst, aLstM, aCons, aNil, aAnd, aOr, aNot, aAndV, aOrV, aNotV, aSet, aAsg, aDrop, aCall, aFun, aUn, oAdd, addF, addC, oI, oIc, eqq_int, eqq_str, eqq_bl, neq_int, neq_str, neq_bl, oIsN, isNon, oNeg, oLen, lenF, lenC, oIx, ixF, ixC, oIn, inB, oSl, slF, slC, Option.bind_some, Option.map_some, true_and, L2.dq, L2.dr, L2.dl, L2.dd, both_some, opt_some, insAt_some, keyD, aFldC, aDPut, oDIn, aDGet, aDPop, aDGet1, aSetF, aDNew, aRaise, aMeth, oCat, oCatM, startA, List.map_cons, List.map_nil, List.length_cons, List.length_nil, List.replicate, List.cons_append, List.nil_append, List.getElem?_cons_zero, List.getElem?_cons_succ, List.set_cons_zero, List.set_cons_succ, Nat.reduceAdd, Nat.reduceSub, if_true, Bool.false_eq_true, if_false]
  intro d1 h1
  have n1 : p ≠ d1 := by rintro rfl; rw [hp] at h1; cases h1
  simp only [put_ne n1, hp, insAt_some, put_same]
  refine ⟨by decide, fun d2 h2 => ?_⟩
  have n2 : p ≠ d2 := by rintro rfl; rw [put_same] at h2; cases h2
  rw [put_ne n2.symm] at h2
  have n3 : d1 ≠ d2 := by rintro rfl; rw [put_same] at h2; cases h2
  rw [put_ne n3.symm] at h2
  simp only [put_ne n2, insAt_some, put_same]
  refine ⟨by show 1 < 1000; decide, by show 2 < 1000; decide, ?_⟩
  rw [put_put, put_comm n2, put_put]
  exact .now (q d1 d2 h1 h2 n3 n1.symm n2.symm)

structure ExK (K : PySem.W.Frag) (mg : Str → Option Value) (EC : Rk → Addr) : Prop where
  noName : ExCls K mg "NoName" (EC .noName)
  twice : ExCls K mg "Twice" (EC .twice)
  noTeeth : ExCls K mg "NoTeeth" (EC .noTeeth)
  full : ExCls K mg "Full" (EC .full)
  noWheel : ExCls K mg "NoWheel" (EC .noWheel)
  noJoin : ExCls K mg "NoJoin" (EC .noJoin)
noncomputable def spPutW (C : Addr) (EC : Rk → Addr) : SpA := fun ds M Q E => ∃ p d1 d2 S n t, ds = [.obj p, .str n, .int t] ∧ Tr C M p d1 d2 S ∧ n.length ≤ 1000 ∧
  match refW S n t with | some r => E (.ref (EC r)) M | none => Q .non (put M d1 (.dic (dW (S.ws ++ [(n, t)]))))
theorem ok_put_wheel {f C : Addr} {fd : FuncData} {EC : Rk → Addr} (Fn : Fun K "put_wheel" "Train.put_wheel" s_Train_put_wheel f fd) (T : Txt K mg) (XK : ExK K mg EC) (pl_teeth_of : Pln K C "teeth_of")
    (h_is_name : Has P w K mg base (CXE P w) 1 "is_name" ["text"] (liftS K spIsName)) : FnOk P w K mg base (CXE P w) 2 f fd ["self", "name", "teeth"] (liftS K (spPutW C EC)) := by
  refine Fn.okA sc_Train_put_wheel (fun ds M Q E h => ?_) ?_
  · obtain ⟨p, d1, d2, S, n, t, rfl, _⟩ := h; rfl
  intro cdv A outer s H E F0 ds M Q Ea hr ct hsp
  obtain ⟨p, d1, d2, S, n, t, rfl, tr, hn, q⟩ := hsp
  have hu := hu_of hr
  have X_NoName := XK.noName
  have X_Twice := XK.twice
  have X_NoTeeth := XK.noTeeth
  have X_Full := XK.full
  refine ⟨_, (ssCons (sIf (ptNot (ptV (paFun h_is_name (hr.mono (by decide)) (by rfl) ct (aaCons (paV (pv 1)) aaNil))))
        (ssOne (sRaise ct X_NoName (by rfl) (aaCons paS aaNil)))
        ssNil)
      (ssCons (sIf (ptPC (pcDIn (un1 ct) (paV (pv 1)) (paFld pl_teeth_of (paV (pv 0)) rfl)))
        (ssOne (sRaise ct X_Twice (by rfl) (aaCons paS aaNil)))
        ssNil)
      (ssCons (sIf ((pwOr (ptCmp op_lt lLt (paV (pv 2)) paI (nomark _)) (pwOr1 (ptCmp op_ge lGe (paV (pv 2)) (pa_TEETH_BOUND T) (nomark _))))).pt
        (ssOne (sRaise ct X_NoTeeth (by rfl) (aaCons paS aaNil)))
        ssNil)
      (ssCons (sIf (ptCmp op_ge lGe (paCallB call_lens lLen (by rfl) T.len PySem.boot_len (aaCons (paFld pl_teeth_of (paV (pv 0)) rfl) aaNil)) (pa_MOST_WHEELS T) (nomark _))
        (ssOne (sRaise ct X_Full (by rfl) (aaCons paS aaNil)))
        ssNil)
      (ssOne (sPutD (un1 ct) (paFld pl_teeth_of (paV (pv 0)) rfl) (paV (pv 1)) (paV (pv 2)) rfl)))))), ?_⟩
  simp only [aYes, Bool.and_self, at0, at1, at2, at3, aSeq, aNext, aIf, aFor, iaR1, iaR2, iaR3, iaS, iaL, gaN, aSl, aPart, aNoPart, aT, aOp, aV, aC, aRet, aRetN, aTup, aLst, aLstM, aCons, aNil, aAnd, aOr, aNot, aAndV, aOrV, aNotV, aSet, aAsg, aDrop, aCall, aFun, aUn, oAdd, addF, addC, oI, oIc, eqq_int, eqq_str, eqq_bl, neq_int, neq_str, neq_bl, oIsN, isNon, oNeg, oLen, lenF, lenC, oIx, ixF, ixC, oIn, inB, oSl, slF, slC, Option.bind_some, Option.map_some, true_and, L2.dq, L2.dr, L2.dl, L2.dd, both_some, opt_some, insAt_some, keyD, aFldC, aDPut, oDIn, aDGet, aDPop, aDGet1, aSetF, aDNew, aRaise, aMeth, oCat, oCatM, startA, List.map_cons, List.map_nil, List.length_cons, List.length_nil, List.replicate, List.cons_append, List.nil_append, List.getElem?_cons_zero, List.getElem?_cons_succ, List.set_cons_zero, List.set_cons_succ, Nat.reduceAdd, Nat.reduceSub, if_true, Bool.false_eq_true, if_false, spIsName]
  refine ⟨n, rfl, hn, ?_⟩
  simp only [aYes, Bool.and_self, at0, at1, at2, at3, aSeq, aNext, aIf, aFor, iaR1, iaR2, iaR3, iaS, iaL, gaN, aSl, aPart, aNoPart, aT, aOp, aV, aC, aRet, aRetN, aTup, aLst, aLstM, aCons, aNil, aAnd, aOr, aNot, aAndV, aOrV, aNotV, aSet, aAsg, aDrop, aCall, aFun, aUn, oAdd, addF, addC, oI, oIc, eqq_int, eqq_str, eqq_bl, neq_int, neq_str, neq_bl, oIsN, isNon, oNeg, oLen, lenF, lenC, oIx, ixF, ixC, oIn, inB, oSl, slF, slC, Option.bind_some, Option.map_some, true_and, L2.dq, L2.dr, L2.dl, L2.dd, both_some, opt_some, insAt_some, keyD, aFldC, aDPut, oDIn, aDGet, aDPop, aDGet1, aSetF, aDNew, aRaise, aMeth, oCat, oCatM, startA, List.map_cons, List.map_nil, List.length_cons, List.length_nil, List.replicate, List.cons_append, List.nil_append, List.getElem?_cons_zero, List.getElem?_cons_succ, List.set_cons_zero, List.set_cons_succ, Nat.reduceAdd, Nat.reduceSub, if_true, Bool.false_eq_true, if_false, tr.self, look_teeth, tr.teeth, getK_dW]
  have hh : (S.ws.any fun w => decide (w.1 = n)) = S.has n := rfl
  rw [hh]
  cases h1 : isName n with
  | false => simpa [refW, h1] using q
  | true =>
    cases h2 : S.has n with
    | true => simpa [refW, h1, h2] using q
    | false =>
      by_cases h3 : t < 1
      · simpa [refW, h1, h2, h3] using q
      · by_cases h4 : 1000000000 ≤ t
        · simpa [refW, h1, h2, h3, h4] using q
        · by_cases h5 : 100 ≤ S.ws.length
          · have e5 : (100 : Int) ≤ ((dW S.ws).length : Nat) := by simp [dW]; omega
            simpa [refW, h1, h2, h3, h4, h5, e5] using q
          · have e5 : ¬ (100 : Int) ≤ ((dW S.ws).length : Nat) := by simp [dW]; omega
            have e6 : putKD (dW S.ws) (Sum.inr n) (.int t) = dW (S.ws ++ [(n, t)]) := by
              rw [putKD_new (by rw [getK_dW]; exact h2)]
              simp [dW]
            have e7 : (dW S.ws).length < 1000 := by simp [dW]; omega
            simp [h3, h4, e5, e7, e6]
            simp [refW, h1, h2, h3, h4, h5] at q
            exact .now q
theorem str_beq (a k : Str) : (a == k) = decide (k = a) := by
  rw [← dec_str]
  by_cases h : a = k
  · subst h; rw [decide_eq_true rfl, decide_eq_true rfl]
  · rw [decide_eq_false fun z => h (V.str.inj z), decide_eq_false fun z => h z.symm]
theorem kinds_in (k : Str) : inD (.str k) [.str "mesh", .str "pin", .str "band", .str "cross"] = isKind k := by
  unfold inD isKind
  simp only [List.any_cons, List.any_nil, eqF, Bool.or_false]
  rw [str_beq, str_beq, str_beq, str_beq]
  simp only [Bool.or_assoc]
theorem kindsB (k : Str) : (if (flD (.str k) && ([.str "mesh", .str "pin", .str "band", .str "cross"] : List D).all flD) = true then some (inD (.str k) [.str "mesh", .str "pin", .str "band", .str "cross"]) else none) = some (isKind k) := by
  rw [if_pos (show (flD (.str k) && ([.str "mesh", .str "pin", .str "band", .str "cross"] : List D).all flD) = true from rfl), kinds_in]
noncomputable def spPutJ (C : Addr) (EC : Rk → Addr) : SpA := fun ds M Q E => ∃ p d1 d2 S k a b, ds = [.obj p, .str k, .str a, .str b] ∧ Tr C M p d1 d2 S ∧
  match refJ S k a b with | some r => E (.ref (EC r)) M | none => Q (.int S.nx) (put (put M d2 (.dic (dJ (S.js ++ [(S.nx, k, a, b)])))) p (.ins C (fsT d1 d2 (S.nx + 1))))
theorem ok_put_join {f C : Addr} {fd : FuncData} {EC : Rk → Addr} (Fn : Fun K "put_join" "Train.put_join" s_Train_put_join f fd) (T : Txt K mg) (XK : ExK K mg EC) (pl_teeth_of : Pln K C "teeth_of") (pl_join_of : Pln K C "join_of") (pl_next_number : Pln K C "next_number") :
    FnOk P w K mg base (CXE P w) 2 f fd ["self", "kind", "one", "other"] (liftS K (spPutJ C EC)) := by
  refine Fn.okA sc_Train_put_join (fun ds M Q E h => ?_) ?_
  · obtain ⟨p, d1, d2, S, k, a, b, rfl, _⟩ := h; rfl
  intro cdv A outer s H E F0 ds M Q Ea hr ct hsp
  obtain ⟨p, d1, d2, S, k, a, b, rfl, tr, q⟩ := hsp
  have hu := hu_of hr
  have hu64 := hr.units
  have X_NoJoin := XK.noJoin
  have X_NoWheel := XK.noWheel
  have X_Full := XK.full
  refine ⟨_, (ssCons (sIf (ptCmp op_notIns lNotIn (paV (pv 1)) (pa_KINDS T) (by with_unfolding_all rfl))
        (ssOne (sRaise ct X_NoJoin (by rfl) (aaCons paS aaNil)))
        ssNil)
      (ssCons (sIf ((pwOr (ptPC (pcDNotIn (un1 ct) (paV (pv 2)) (paFld pl_teeth_of (paV (pv 0)) rfl))) (pwOr1 (ptPC (pcDNotIn (un1 ct) (paV (pv 3)) (paFld pl_teeth_of (paV (pv 0)) rfl)))))).pt
        (ssOne (sRaise ct X_NoWheel (by rfl) (aaCons paS aaNil)))
        ssNil)
      (ssCons (sIf (ptCmp (op_eqs (un64 ct)) lEq (paV (pv 2)) (paV (pv 3)) (nomark _))
        (ssOne (sRaise ct X_NoJoin (by rfl) (aaCons paS aaNil)))
        ssNil)
      (ssCons (sIf (ptCmp op_ge lGe (paCallB call_lens lLen (by rfl) T.len PySem.boot_len (aaCons (paFld pl_join_of (paV (pv 0)) rfl) aaNil)) (pa_MOST_JOINS T) (nomark _))
        (ssOne (sRaise ct X_Full (by rfl) (aaCons paS aaNil)))
        ssNil)
      (ssCons (sSet (i := 4) sc_Train_put_join.nd rfl (Or.inl rfl) (paFld pl_next_number (paV (pv 0)) rfl))
      (ssCons (sPutD (un1 ct) (paFld pl_join_of (paV (pv 0)) rfl) (paV (pv 4)) (paTup (aaCons (paV (pv 4)) (aaCons (paV (pv 1)) (aaCons (paV (pv 2)) (aaCons (paV (pv 3)) aaNil))))) rfl)
      (ssCons (sSetF pl_next_number (paV (pv 0)) (paOp op_adds lAdd (paV (pv 4)) paI) rfl)
      (ssOne (sRet (paV (pv 4))))))))))), ?_⟩
  simp only [aYes, Bool.and_self, at0, at1, at2, at3, aSeq, aNext, aIf, aFor, iaR1, iaR2, iaR3, iaS, iaL, gaN, aSl, aPart, aNoPart, aT, aOp, aV, aC, aRet, aRetN, aTup, aLst, aLstM, aCons, aNil, aAnd, aOr, aNot, aAndV, aOrV, aNotV, aSet, aAsg, aDrop, aCall, aFun, aUn, oAdd, addF, addC, oI, oIc, eqq_int, eqq_str, eqq_bl, neq_int, neq_str, neq_bl, oIsN, isNon, oNeg, oLen, lenF, lenC, oIx, ixF, ixC, oIn, inB, oSl, slF, slC, Option.bind_some, Option.map_some, true_and, L2.dq, L2.dr, L2.dl, L2.dd, both_some, opt_some, insAt_some, keyD, aFldC, aDPut, oDIn, aDGet, aDPop, aDGet1, aSetF, aDNew, aRaise, aMeth, oCat, oCatM, startA, List.map_cons, List.map_nil, List.length_cons, List.length_nil, List.replicate, List.cons_append, List.nil_append, List.getElem?_cons_zero, List.getElem?_cons_succ, List.set_cons_zero, List.set_cons_succ, Nat.reduceAdd, Nat.reduceSub, if_true, Bool.false_eq_true, if_false, kindsB]
  have n1 : p ≠ d2 := by rintro rfl; have := tr.self; rw [tr.join] at this; cases this
  simp only [aYes, Bool.and_self, at0, at1, at2, at3, aSeq, aNext, aIf, aFor, iaR1, iaR2, iaR3, iaS, iaL, gaN, aSl, aPart, aNoPart, aT, aOp, aV, aC, aRet, aRetN, aTup, aLst, aLstM, aCons, aNil, aAnd, aOr, aNot, aAndV, aOrV, aNotV, aSet, aAsg, aDrop, aCall, aFun, aUn, oAdd, addF, addC, oI, oIc, eqq_int, eqq_str, eqq_bl, neq_int, neq_str, neq_bl, oIsN, isNon, oNeg, oLen, lenF, lenC, oIx, ixF, ixC, oIn, inB, oSl, slF, slC, Option.bind_some, Option.map_some, true_and, L2.dq, L2.dr, L2.dl, L2.dd, both_some, opt_some, insAt_some, keyD, aFldC, aDPut, oDIn, aDGet, aDPop, aDGet1, aSetF, aDNew, aRaise, aMeth, oCat, oCatM, startA, List.map_cons, List.map_nil, List.length_cons, List.length_nil, List.replicate, List.cons_append, List.nil_append, List.getElem?_cons_zero, List.getElem?_cons_succ, List.set_cons_zero, List.set_cons_succ, Nat.reduceAdd, Nat.reduceSub, if_true, Bool.false_eq_true, if_false, tr.self, look_teeth, look_join, look_next, tr.teeth, tr.join, getK_dW, put_ne n1]
  have ha : (S.ws.any fun w => decide (w.1 = a)) = S.has a := rfl
  have hb : (S.ws.any fun w => decide (w.1 = b)) = S.has b := rfl
  rw [ha, hb]
  cases h1 : isKind k with
  | false => simpa [refJ, h1] using q
  | true =>
    cases h2 : S.has a with
    | false => simpa [refJ, h1, h2] using q
    | true =>
      cases h3 : S.has b with
      | false => simpa [refJ, h1, h2, h3] using q
      | true =>
        by_cases h4 : a = b
        · subst h4
          simpa [refJ, h1, h2, h3] using q
        · by_cases h5 : 200 ≤ S.js.length
          · have e5 : (200 : Int) ≤ ((dJ S.js).length : Nat) := by simp [dJ]; omega
            simpa [refJ, h1, h2, h3, h4, h5, e5] using q
          · have e5 : ¬ (200 : Int) ≤ ((dJ S.js).length : Nat) := by simp [dJ]; omega
            have e7 : (dJ S.js).length < 1000 := by simp [dJ]; omega
            have e8 : (getK (dJ S.js) (Sum.inl S.nx)).isSome = false := by
              rw [getK_dJ]
              rw [List.any_eq_false]
              intro j hj
              have := tr.lt j hj
              simp; omega
            have e6 : putKD (dJ S.js) (Sum.inl S.nx) (.tup [.int S.nx, .str k, .str a, .str b]) = dJ (S.js ++ [(S.nx, k, a, b)]) := by
              rw [putKD_new e8]
              simp [dJ, eJ]
            simp [h4, e5, e7, e6]
            simp [refJ, h1, h2, h3, h4, h5] at q
            exact ⟨by show 3 < 1000; decide, .now q⟩
noncomputable def spWheels (C : Addr) : SpA := fun ds M Q _ => ∃ p d1 d2 S, ds = [.obj p] ∧ Tr C M p d1 d2 S ∧ ∀ l, M l = none → Q (.obj l) (put M l (.lst (S.ws.map eW)))
theorem ok_wheels {f C : Addr} {fd : FuncData} (Fn : Fun K "wheels" "Train.wheels" s_Train_wheels f fd) (T : Txt K mg) (pl_teeth_of : Pln K C "teeth_of") : FnOk P w K mg base (CXE P w) 1 f fd ["self"] (liftS K (spWheels C)) := by
  refine Fn.okA sc_Train_wheels (fun ds M Q E h => ?_) ?_
  · obtain ⟨p, d1, d2, S, rfl, _⟩ := h; rfl
  intro cdv A outer s H E F0 ds M Q Ea hr ct hsp
  obtain ⟨p, d1, d2, S, rfl, tr, q⟩ := hsp
  refine ⟨_, ssOne (sRet (paItems T.list rfl (by rfl) (paFld pl_teeth_of (paV (pv 0)) rfl))), ?_⟩
  simp only [aYes, Bool.and_self, at0, at1, at2, at3, aSeq, aNext, aIf, aFor, iaR1, iaR2, iaR3, iaS, iaL, gaN, aSl, aPart, aNoPart, aT, aOp, aV, aC, aRet, aRetN, aTup, aLst, aLstM, aCons, aNil, aAnd, aOr, aNot, aAndV, aOrV, aNotV, aSet, aAsg, aDrop, aCall, aFun, aUn, oAdd, addF, addC, oI, oIc, eqq_int, eqq_str, eqq_bl, neq_int, neq_str, neq_bl, oIsN, isNon, oNeg, oLen, lenF, lenC, oIx, ixF, ixC, oIn, inB, oSl, slF, slC, Option.bind_some, Option.map_some, true_and, L2.dq, L2.dr, L2.dl, L2.dd, both_some, opt_some, insAt_some, keyD, aFldC, aDPut, oDIn, aDGet, aDPop, aDGet1, aSetF, aDNew, aRaise, aMeth, oCat, oCatM, startA, List.map_cons, List.map_nil, List.length_cons, List.length_nil, List.replicate, List.cons_append, List.nil_append, List.getElem?_cons_zero, List.getElem?_cons_succ, List.set_cons_zero, List.set_cons_succ, Nat.reduceAdd, Nat.reduceSub, if_true, Bool.false_eq_true, if_false, aItems, tr.self, look_teeth, tr.teeth]
  intro l hl
  have e : (dW S.ws).map (fun kv => D.tup [keyOf kv.1, kv.2]) = S.ws.map eW := by
    unfold dW; rw [List.map_map]; rfl
  rw [e]
  exact .now (q l hl)
noncomputable def spJoins (C : Addr) : SpA := fun ds M Q _ => ∃ p d1 d2 S, ds = [.obj p] ∧ Tr C M p d1 d2 S ∧ ∀ l, M l = none → Q (.obj l) (put M l (.lst (S.js.map eJ)))
theorem ok_joins {f C : Addr} {fd : FuncData} (Fn : Fun K "joins" "Train.joins" s_Train_joins f fd) (T : Txt K mg) (pl_join_of : Pln K C "join_of") : FnOk P w K mg base (CXE P w) 1 f fd ["self"] (liftS K (spJoins C)) := by
  refine Fn.okA sc_Train_joins (fun ds M Q E h => ?_) ?_
  · obtain ⟨p, d1, d2, S, rfl, _⟩ := h; rfl
  intro cdv A outer s H E F0 ds M Q Ea hr ct hsp
  obtain ⟨p, d1, d2, S, rfl, tr, q⟩ := hsp
  refine ⟨_, ssOne (sRet (paVals T.list rfl (by rfl) (paFld pl_join_of (paV (pv 0)) rfl))), ?_⟩
  simp only [aYes, Bool.and_self, at0, at1, at2, at3, aSeq, aNext, aIf, aFor, iaR1, iaR2, iaR3, iaS, iaL, gaN, aSl, aPart, aNoPart, aT, aOp, aV, aC, aRet, aRetN, aTup, aLst, aLstM, aCons, aNil, aAnd, aOr, aNot, aAndV, aOrV, aNotV, aSet, aAsg, aDrop, aCall, aFun, aUn, oAdd, addF, addC, oI, oIc, eqq_int, eqq_str, eqq_bl, neq_int, neq_str, neq_bl, oIsN, isNon, oNeg, oLen, lenF, lenC, oIx, ixF, ixC, oIn, inB, oSl, slF, slC, Option.bind_some, Option.map_some, true_and, L2.dq, L2.dr, L2.dl, L2.dd, both_some, opt_some, insAt_some, keyD, aFldC, aDPut, oDIn, aDGet, aDPop, aDGet1, aSetF, aDNew, aRaise, aMeth, oCat, oCatM, startA, List.map_cons, List.map_nil, List.length_cons, List.length_nil, List.replicate, List.cons_append, List.nil_append, List.getElem?_cons_zero, List.getElem?_cons_succ, List.set_cons_zero, List.set_cons_succ, Nat.reduceAdd, Nat.reduceSub, if_true, Bool.false_eq_true, if_false, aVals, tr.self, look_join, tr.join]
  intro l hl
  have e : (dJ S.js).map (fun kv => kv.2) = S.js.map eJ := by
    unfold dJ; rw [List.map_map]; rfl
  rw [e]
  exact .now (q l hl)


theorem seqV {i : Nat} {te : AE} {rest : AS} {E : AEnds} {Γ : G} {M : Mem} (d : D) (M1 : Mem) (hte : ∀ R : AK, R d M1 → te Γ M R) (h : rest E (Γ.set i (some d)) M1) : aSeq (aSet i te) rest E Γ M := hte _ h
theorem setV {i : Nat} {te : AE} {E : AEnds} {Γ : G} {M : Mem} (d : D) (M1 : Mem) (hte : ∀ R : AK, R d M1 → te Γ M R) (h : E.nx (Γ.set i (some d)) M1) : aSet i te E Γ M := hte _ h
theorem dropV {te : AE} {rest : AS} {E : AEnds} {Γ : G} {M : Mem} (d : D) (M1 : Mem) (hte : ∀ R : AK, R d M1 → te Γ M R) (h : rest E Γ M1) : aSeq (aDrop te) rest E Γ M := hte _ h
theorem dropE {te : AE} {E : AEnds} {Γ : G} {M : Mem} (d : D) (M1 : Mem) (hte : ∀ R : AK, R d M1 → te Γ M R) (h : E.nx Γ M1) : aDrop te E Γ M := hte _ h
theorem retV {te : AE} {E : AEnds} {Γ : G} {M : Mem} (d : D) (M1 : Mem) (hte : ∀ R : AK, R d M1 → te Γ M R) (h : E.rt d M1) : aRet te E Γ M := hte _ h
theorem ifV {c : AT} {t u : AS} {E : AEnds} {Γ : G} {M : Mem} (b : Bool) (hc : ∀ R : Bool → Mem → Prop, R b M → c Γ M R) (h : if b = true then t E Γ M else u E Γ M) : aIf c t u E Γ M := hc _ h
theorem cut1 {t rest : AS} {E : AEnds} {Γ : G} {M : Mem} (R : G → Mem → Prop) (hr : ∀ Γ M, R Γ M → rest E Γ M) (h : ∀ rest' : AS, (∀ Γ M, R Γ M → rest' E Γ M) → aSeq t rest' E Γ M) : aSeq t rest E Γ M := h rest hr
theorem cut2 {t1 t2 rest : AS} {E : AEnds} {Γ : G} {M : Mem} (R : G → Mem → Prop) (hr : ∀ Γ M, R Γ M → rest E Γ M) (h : ∀ rest' : AS, (∀ Γ M, R Γ M → rest' E Γ M) → aSeq t1 (aSeq t2 rest') E Γ M) : aSeq t1 (aSeq t2 rest) E Γ M := h rest hr
theorem LoopP.by2 {S : Src} {gt : AGt} {tb : AS} {E : AEnds} {Γ : G} {M : Mem} (W : Nat → G → Mem → Prop) (h0 : W 0 Γ M) (hl : ∀ i Γ M, W i Γ M → S.held M)
    (step : ∀ (E' : AEnds) i Γ M, E'.rt = E.rt → i < S.n → (∀ Γ' M', W (i + 1) Γ' M' → E'.nx Γ' M') → W i Γ M → gt (S.item i) Γ M fun Γ2 M2 => tb E' Γ2 M2) (done : ∀ Γ M, W S.n Γ M → E.nx Γ M) : LoopP S gt tb E Γ M :=
  LoopP.by W h0 hl (fun i Γ M hi w => step _ i Γ M rfl hi (fun _ _ h => ⟨hi, h⟩) w) done
theorem cT {c : AT} {Γ : G} {M : Mem} {A B : Mem → Prop} (hc : ∀ R : Bool → Mem → Prop, R true M → c Γ M R) (h : A M) : c Γ M fun b M1 => if b = true then A M1 else B M1 := hc _ (by rw [if_pos rfl]; exact h)
theorem cF {c : AT} {Γ : G} {M : Mem} {A B : Mem → Prop} (hc : ∀ R : Bool → Mem → Prop, R false M → c Γ M R) (h : B M) : c Γ M fun b M1 => if b = true then A M1 else B M1 := hc _ (by rw [if_neg Bool.false_ne_true]; exact h)
theorem forIs {td : AE} {gt : AGt} {tb rest : AS} {E : AEnds} {Γ : G} {M : Mem} {p : Addr} {kvs : List (Key × D)} (htd : ∀ R : AK, R (.obj p) M → td Γ M R) (hp : M p = some (.dic kvs)) (h : LoopP ⟨kvs.length, itemAt kvs, fun _ => True⟩ gt tb { E with nx := rest E } Γ (del M p)) : aSeq (aFor (iaI td) gt tb) rest E Γ M :=
  htd _ (by dsimp only; rw [hp]; exact h)
theorem seqIfB {c : AT} {t u rest : AS} {E : AEnds} {Γ : G} {M : Mem} (b : Bool) (hc : ∀ R : Bool → Mem → Prop, R b M → c Γ M R) (h : if b = true then t { E with nx := rest E } Γ M else u { E with nx := rest E } Γ M) : aSeq (aIf c t u) rest E Γ M := hc _ h
theorem forLs {tl : AE} {gt : AGt} {tb rest : AS} {E : AEnds} {Γ : G} {M : Mem} {d : D} {ds : List D} (htl : ∀ R : AK, R d M → tl Γ M R) (hd : dr M d = some ds) (h : LoopP ⟨ds.length, fun i => ds.getD i .non, fun M => dr M d = some ds⟩ gt tb { E with nx := rest E } Γ M) : aSeq (aFor (iaL tl) gt tb) rest E Γ M :=
  htl _ (by dsimp only; rw [hd]; exact h)

theorem comp1 {X : Cx} {scope : Scope} {Nc : List Str} {n j : Nat} {x : Str} {c : Addr} (clos : closureFor scope X.env = pure [(x, c)] := by rfl) (hc : X.env.cells.lookup x = some c := by rfl) (cell : ∀ y ∈ scope.names, y.2 ≠ .cell := by decide +kernel) (kind : scope.kind = .function := by rfl)
    (names : ∀ x ∈ scope.names, x.2 = .local → scope.names.lookup x.1 = some .local := by decide +kernel) (nof : ∀ y ∈ scope.names, y.2 = .free → y.1 = x := by decide +kernel)
    (hx : (relabel scope X.env).names.lookup x = some .cell := by rfl) (hd : X.env.scope.names.lookup x = some .cell := by rfl) (hN : X.N[j]? = some x := by rfl) (hNc : Nc[n]? = some x := by rfl) (len : n + 1 = Nc.length := by rfl) : CompOk X scope [(x, c)] Nc (jsOf n [j]) := by
  have look : ∀ {l : List (Str × NameKind)} {z : Str} {k : NameKind}, l.lookup z = some k → (z, k) ∈ l := by
    intro l z k h
    induction l with
    | nil => cases h
    | cons a l ih =>
      rw [List.lookup_cons] at h
      split at h
      · rename_i e
        cases h
        have e : z = a.1 := by simpa using e
        rw [e]; exact List.mem_cons_self
      · exact List.mem_cons_of_mem _ (ih h)
  have one : ∀ {z : Str} {d : Addr}, ([(x, c)] : List (Str × Addr)).lookup z = some d → z = x ∧ d = c := by
    intro z d h
    rw [List.lookup_cons] at h
    split at h
    · rename_i e
      cases h
      exact ⟨by simpa using e, rfl⟩
    · cases h
  have self : ([(x, c)] : List (Str × Addr)).lookup x = some c := by simp [List.lookup_cons]
  refine ⟨clos, fun z d h => ?_, cell, kind, names, fun z h => ?_, by simp [jsOf, len], fun k j' h => ?_⟩
  · obtain ⟨rfl, rfl⟩ := one h; exact hc
  · have key : ∀ k', (z, k') ∈ (relabel scope X.env).names → (k' = .cell ∨ k' = .free) → z = x := fun k' hm hk => by
      obtain ⟨⟨n', k⟩, h1, h2⟩ := List.mem_map.mp (show (z, k') ∈ scope.names.map _ from hm)
      dsimp only at h2
      split at h2
      · rename_i hf
        simp only [Bool.and_eq_true, beq_iff_eq] at hf
        cases h2
        exact nof _ h1 hf.1.1
      · cases h2
        rcases hk with rfl | rfl
        · exact absurd rfl (cell _ h1)
        · exact nof _ h1 rfl
    have : z = x := by
      rcases h with h | h
      · exact key _ (look h) (.inl rfl)
      · exact key _ (look h) (.inr rfl)
    subst this
    exact ⟨c, self⟩
  · unfold jsOf at h
    by_cases hk : k < n
    · rw [List.getElem?_append_left (by simpa using hk), List.getElem?_replicate, if_pos hk] at h
      cases h
    · rw [List.getElem?_append_right (by simp; omega)] at h
      simp only [List.length_replicate, List.map_cons, List.map_nil] at h
      have hk0 : k - n = 0 := by
        cases hh : k - n with
        | zero => rfl
        | succ m => rw [hh] at h; simp at h
      rw [hk0] at h
      have h : j = j' := by simpa using h
      subst h
      have : k = n := by omega
      subst this
      exact ⟨x, c, hNc, hN, hd, self, hx⟩


noncomputable def spGcd : SpA := fun ds M Q _ => ∃ a b : Int, ds = [.int a, .int b] ∧ Q (.int ((Int.gcd a b : Nat) : Int)) M
theorem ok_gcd {f : Addr} {fd : FuncData} (Fn : Fun K "greatest_divisor" "greatest_divisor" s_greatest_divisor f fd) (T : Txt K mg) : FnOk P w K mg base (CXE P w) 1 f fd ["one", "other"] (liftS K spGcd) := by
  refine Fn.okA sc_greatest_divisor (fun ds M Q E h => ?_) ?_
  · obtain ⟨a, b, rfl, _⟩ := h; rfl
  intro cdv A outer s H E F0 ds M Q Ea hr ct hsp
  obtain ⟨a, b, rfl, q⟩ := hsp
  refine ⟨_, (ssCons (sSet (i := 2) sc_greatest_divisor.nd rfl (Or.inl rfl) (paCallB call_abs lAbs (by rfl) T.abs boot_abs (aaCons (paV (pv 0)) aaNil)))
      (ssCons (sSet (i := 3) sc_greatest_divisor.nd rfl (Or.inl rfl) (paCallB call_abs lAbs (by rfl) T.abs boot_abs (aaCons (paV (pv 1)) aaNil)))
      (ssCons (sWhile ct (ptCmp (op_nes (un64 ct)) lNe (paV (pv 3)) paI (nomark _))
        (ssCons (sSet (i := 4) sc_greatest_divisor.nd rfl (Or.inl rfl) (paOp op_mod lMod (paV (pv 2)) (paV (pv 3))))
        (ssCons (sSet (i := 2) sc_greatest_divisor.nd rfl (Or.inl rfl) (paV (pv 3)))
        (ssOne (sSet (i := 3) sc_greatest_divisor.nd rfl (Or.inl rfl) (paV (pv 4)))))))
      (ssOne (sRet (paV (pv 2))))))), ?_⟩
  simp only [aYes, Bool.and_self, at0, at1, at2, at3, aSeq, aNext, aIf, aFor, iaR1, iaR2, iaR3, iaS, iaL, gaN, aSl, aPart, aNoPart, aT, aOp, aV, aC, aRet, aRetN, aTup, aLst, aLstM, aCons, aNil, aAnd, aOr, aNot, aAndV, aOrV, aNotV, aSet, aAsg, aDrop, aCall, aFun, aUn, oAdd, addF, addC, oI, oIc, eqq_int, eqq_str, eqq_bl, neq_int, neq_str, neq_bl, oIsN, isNon, oNeg, oLen, lenF, lenC, oIx, ixF, ixC, oIn, inB, oSl, slF, slC, Option.bind_some, Option.map_some, true_and, L2.dq, L2.dr, L2.dl, L2.dd, both_some, opt_some, insAt_some, keyD, aFldC, aDPut, oDIn, aDGet, aDPop, aDGet1, aSetF, aDNew, aRaise, aMeth, oCat, oCatM, startA, List.map_cons, List.map_nil, List.length_cons, List.length_nil, List.replicate, List.cons_append, List.nil_append, List.getElem?_cons_zero, List.getElem?_cons_succ, List.set_cons_zero, List.set_cons_succ, Nat.reduceAdd, Nat.reduceSub, if_true, Bool.false_eq_true, if_false, oAbs, absE]
  refine ⟨fun m Γ M' => M' = M ∧ ∃ (d r : Nat) (lo : Option D), r = m ∧ Γ = [some (.int a), some (.int b), some (.int d), some (.int r), lo] ∧ Nat.gcd d r = Int.gcd a b, ⟨b.natAbs, rfl, a.natAbs, b.natAbs, none, rfl, rfl, rfl⟩, ?_⟩
  rintro m Γ M' ⟨rfl, d, r, lo, rfl, rfl, hg⟩
  by_cases hr0 : r = 0
  · subst hr0
    refine cF (fun R h => ?_) ?_
    · simp only [aYes, Bool.and_self, at0, at1, at2, at3, aSeq, aNext, aIf, aFor, iaR1, iaR2, iaR3, iaS, iaL, gaN, aSl, aPart, aNoPart, aT, aOp, aV, aC, aRet, aRetN, aTup, aLst, aLstM, aCons, aNil, aAnd, aOr, aNot, aAndV, aOrV, aNotV, aSet, aAsg, aDrop, aCall, aFun, aUn, oAdd, addF, addC, oI, oIc, eqq_int, eqq_str, eqq_bl, neq_int, neq_str, neq_bl, oIsN, isNon, oNeg, oLen, lenF, lenC, oIx, ixF, ixC, oIn, inB, oSl, slF, slC, Option.bind_some, Option.map_some, true_and, L2.dq, L2.dr, L2.dl, L2.dd, both_some, opt_some, insAt_some, keyD, aFldC, aDPut, oDIn, aDGet, aDPop, aDGet1, aSetF, aDNew, aRaise, aMeth, oCat, oCatM, startA, List.map_cons, List.map_nil, List.length_cons, List.length_nil, List.replicate, List.cons_append, List.nil_append, List.getElem?_cons_zero, List.getElem?_cons_succ, List.set_cons_zero, List.set_cons_succ, Nat.reduceAdd, Nat.reduceSub, if_true, Bool.false_eq_true, if_false, Int.natCast_zero, decide_true, Bool.not_true]; exact h
    · rw [← hg, Nat.gcd_zero_right] at q
      exact .now q
  · refine cT (fun R h => ?_) ?_
    · simp only [aYes, Bool.and_self, at0, at1, at2, at3, aSeq, aNext, aIf, aFor, iaR1, iaR2, iaR3, iaS, iaL, gaN, aSl, aPart, aNoPart, aT, aOp, aV, aC, aRet, aRetN, aTup, aLst, aLstM, aCons, aNil, aAnd, aOr, aNot, aAndV, aOrV, aNotV, aSet, aAsg, aDrop, aCall, aFun, aUn, oAdd, addF, addC, oI, oIc, eqq_int, eqq_str, eqq_bl, neq_int, neq_str, neq_bl, oIsN, isNon, oNeg, oLen, lenF, lenC, oIx, ixF, ixC, oIn, inB, oSl, slF, slC, Option.bind_some, Option.map_some, true_and, L2.dq, L2.dr, L2.dl, L2.dd, both_some, opt_some, insAt_some, keyD, aFldC, aDPut, oDIn, aDGet, aDPop, aDGet1, aSetF, aDNew, aRaise, aMeth, oCat, oCatM, startA, List.map_cons, List.map_nil, List.length_cons, List.length_nil, List.replicate, List.cons_append, List.nil_append, List.getElem?_cons_zero, List.getElem?_cons_succ, List.set_cons_zero, List.set_cons_succ, Nat.reduceAdd, Nat.reduceSub, if_true, Bool.false_eq_true, if_false, decide_eq_false (show ¬ (r : Int) = 0 by omega), Bool.not_false]; exact h
    · simp only [aYes, Bool.and_self, at0, at1, at2, at3, aSeq, aNext, aIf, aFor, iaR1, iaR2, iaR3, iaS, iaL, gaN, aSl, aPart, aNoPart, aT, aOp, aV, aC, aRet, aRetN, aTup, aLst, aLstM, aCons, aNil, aAnd, aOr, aNot, aAndV, aOrV, aNotV, aSet, aAsg, aDrop, aCall, aFun, aUn, oAdd, addF, addC, oI, oIc, eqq_int, eqq_str, eqq_bl, neq_int, neq_str, neq_bl, oIsN, isNon, oNeg, oLen, lenF, lenC, oIx, ixF, ixC, oIn, inB, oSl, slF, slC, Option.bind_some, Option.map_some, true_and, L2.dq, L2.dr, L2.dl, L2.dd, both_some, opt_some, insAt_some, keyD, aFldC, aDPut, oDIn, aDGet, aDPop, aDGet1, aSetF, aDNew, aRaise, aMeth, oCat, oCatM, startA, List.map_cons, List.map_nil, List.length_cons, List.length_nil, List.replicate, List.cons_append, List.nil_append, List.getElem?_cons_zero, List.getElem?_cons_succ, List.set_cons_zero, List.set_cons_succ, Nat.reduceAdd, Nat.reduceSub, if_true, Bool.false_eq_true, if_false]
      exact ⟨by omega, d % r, Nat.mod_lt _ (by omega), r, d % r, some (.int ((d : Int) % (r : Int))), rfl, by rw [Int.natCast_emod], gcd_step.trans hg⟩
noncomputable def eF (x : Fr) : D := .tup [.int x.1, .int x.2]
noncomputable def spLow : SpA := fun ds M Q _ => ∃ a b : Int, ds = [.int a, .int b] ∧ b ≠ 0 ∧ Q (eF (lowT a b, lowB a b)) M
theorem ok_low {f : Addr} {fd : FuncData} (Fn : Fun K "lowest" "lowest" s_lowest f fd) (hs : base.NoSeer) (ht : P.given.tree = none) (h_greatest_divisor : Has P w K mg base (CXE P w) 1 "greatest_divisor" ["one", "other"] (liftS K spGcd)) :
    FnOk P w K mg base (CXE P w) 41 f fd ["top", "bottom"] (liftS K spLow) := by
  refine Fn.okA sc_lowest (fun ds M Q E h => ?_) ?_
  · obtain ⟨a, b, rfl, _⟩ := h; rfl
  intro cdv A outer s H E F0 ds M Q Ea hr ct hsp
  obtain ⟨a, b, rfl, hb, q⟩ := hsp
  have bd : BigDiv ((cxOf (CXE P w) P w K mg base ["top", "bottom", "divisor"] "lowest" (defScope s_lowest) f cdv A outer s H E).by (rE E)) := ⟨hs, ht, rfl, rfl, rfl, by have := hr.dp; show A.depth + 1 + 100 < _; have e : (A.deeper (envOfC "lowest" (defScope s_lowest) s.heap.objs.size f cdv)).depth = A.depth + 1 := rfl; rw [e] at this; omega⟩
  refine ⟨_, (ssCons (sSet (i := 2) sc_lowest.nd rfl (Or.inl rfl) (paFun h_greatest_divisor (hr.mono (by decide)) (by rfl) ct (aaCons (paV (pv 0)) (aaCons (paV (pv 1)) aaNil))))
      (ssCons (sIf (ptCmp op_lt lLt (paV (pv 1)) paI (nomark _))
        (ssOne (sSet (i := 2) sc_lowest.nd rfl (Or.inl rfl) (paUn un_neg lNeg (paV (pv 2)))))
        ssNil)
      (ssOne (sRet (paTup (aaCons (paOp (op_fdivB bd) lDivB (paV (pv 0)) (paV (pv 2))) (aaCons (paOp (op_fdivB bd) lDivB (paV (pv 1)) (paV (pv 2))) aaNil))))))), ?_⟩
  simp only [aYes, Bool.and_self, at0, at1, at2, at3, aSeq, aNext, aIf, aFor, iaR1, iaR2, iaR3, iaS, iaL, gaN, aSl, aPart, aNoPart, aT, aOp, aV, aC, aRet, aRetN, aTup, aLst, aLstM, aCons, aNil, aAnd, aOr, aNot, aAndV, aOrV, aNotV, aSet, aAsg, aDrop, aCall, aFun, aUn, oAdd, addF, addC, oI, oIc, eqq_int, eqq_str, eqq_bl, neq_int, neq_str, neq_bl, oIsN, isNon, oNeg, oLen, lenF, lenC, oIx, ixF, ixC, oIn, inB, oSl, slF, slC, Option.bind_some, Option.map_some, true_and, L2.dq, L2.dr, L2.dl, L2.dd, both_some, opt_some, insAt_some, keyD, aFldC, aDPut, oDIn, aDGet, aDPop, aDGet1, aSetF, aDNew, aRaise, aMeth, oCat, oCatM, startA, List.map_cons, List.map_nil, List.length_cons, List.length_nil, List.replicate, List.cons_append, List.nil_append, List.getElem?_cons_zero, List.getElem?_cons_succ, List.set_cons_zero, List.set_cons_succ, Nat.reduceAdd, Nat.reduceSub, if_true, Bool.false_eq_true, if_false, spGcd]
  refine ⟨a, b, rfl, ?_⟩
  have hn := low_ne (t := a) hb
  by_cases h0 : b < 0
  · have e : low a b = -((Int.gcd a b : Nat) : Int) := if_pos h0
    simp only [decide_eq_true h0, if_true, ← e]
    exact ⟨hn, hn, by decide, .now q⟩
  · have e : low a b = ((Int.gcd a b : Nat) : Int) := if_neg h0
    simp only [decide_eq_false h0, Bool.false_eq_true, if_false, ← e]
    exact ⟨hn, hn, by decide, .now q⟩
noncomputable def spTimes : SpA := fun ds M Q _ => ∃ x y : Fr, ds = [eF x, eF y] ∧ 1 ≤ x.2 ∧ Small 1 y ∧ Q (eF (mulF x y)) M
theorem small_bits {y : Fr} (h : Small 1 y) : Builtin.Int.intBits y.1 ≤ 64 ∧ Builtin.Int.intBits y.2 ≤ 64 := by
  obtain ⟨h1, h2, h3⟩ := h
  have e : (2 : Nat) ^ (30 * 1) = 1073741824 := by decide
  have e' : (2 : Int) ^ (30 * 1) = 1073741824 := by decide
  have e64 : (2 : Nat) ^ 64 = 18446744073709551616 := by decide
  rw [e'] at h2
  rw [e] at h3
  refine ⟨intBits_le_iff.mpr ?_, intBits_le_iff.mpr ?_⟩
  · rw [e64]; omega
  · rw [e64]; omega
theorem ok_times {f : Addr} {fd : FuncData} (Fn : Fun K "times" "times" s_times f fd) (h_lowest : Has P w K mg base (CXE P w) 41 "lowest" ["top", "bottom"] (liftS K spLow)) : FnOk P w K mg base (CXE P w) 42 f fd ["one", "other"] (liftS K spTimes) := by
  refine Fn.okA sc_times (fun ds M Q E h => ?_) ?_
  · obtain ⟨a, b, rfl, _⟩ := h; rfl
  intro cdv A outer s H E F0 ds M Q Ea hr ct hsp
  obtain ⟨x, y, rfl, hx, hy, q⟩ := hsp
  refine ⟨_, (ssOne (sRet (paFun h_lowest (hr.mono (by decide)) (by rfl) ct (aaCons (paOp op_mulB lMul (paIx ix_seq lIx (paV (pv 0)) paI (fun _ _ => rfl)) (paIx ix_seq lIx (paV (pv 1)) paI (fun _ _ => rfl))) (aaCons (paOp op_mulB lMul (paIx ix_seq lIx (paV (pv 0)) paI (fun _ _ => rfl)) (paIx ix_seq lIx (paV (pv 1)) paI (fun _ _ => rfl))) aaNil))))), ?_⟩
  obtain ⟨b1, b2⟩ := small_bits hy
  have hb : x.2 * y.2 ≠ 0 := by
    have := Int.mul_pos (show 0 < x.2 by omega) (show 0 < y.2 by have := hy.1; omega)
    omega
  simp only [aYes, Bool.and_self, at0, at1, at2, at3, aSeq, aNext, aIf, aFor, iaR1, iaR2, iaR3, iaS, iaL, gaN, aSl, aPart, aNoPart, aT, aOp, aV, aC, aRet, aRetN, aTup, aLst, aLstM, aCons, aNil, aAnd, aOr, aNot, aAndV, aOrV, aNotV, aSet, aAsg, aDrop, aCall, aFun, aUn, oAdd, addF, addC, oI, oIc, eqq_int, eqq_str, eqq_bl, neq_int, neq_str, neq_bl, oIsN, isNon, oNeg, oLen, lenF, lenC, oIx, ixF, ixC, oIn, inB, oSl, slF, slC, Option.bind_some, Option.map_some, true_and, L2.dq, L2.dr, L2.dl, L2.dd, both_some, opt_some, insAt_some, keyD, aFldC, aDPut, oDIn, aDGet, aDPop, aDGet1, aSetF, aDNew, aRaise, aMeth, oCat, oCatM, startA, List.map_cons, List.map_nil, List.length_cons, List.length_nil, List.replicate, List.cons_append, List.nil_append, List.getElem?_cons_zero, List.getElem?_cons_succ, List.set_cons_zero, List.set_cons_succ, Nat.reduceAdd, Nat.reduceSub, if_true, Bool.false_eq_true, if_false, eF, spLow]
  exact ⟨.of_right b1, .of_right b2, _, _, rfl, hb, .now q⟩
noncomputable def spFactor : SpA := fun ds M Q _ => ∃ (k : Str) (a b : Int), ds = [.str k, .int a, .int b] ∧ 1 ≤ b ∧ Q (eF (fac k a b)) M
theorem ok_factor {f : Addr} {fd : FuncData} (Fn : Fun K "factor" "factor" s_factor f fd) (h_lowest : Has P w K mg base (CXE P w) 41 "lowest" ["top", "bottom"] (liftS K spLow)) : FnOk P w K mg base (CXE P w) 42 f fd ["kind", "one", "other"] (liftS K spFactor) := by
  refine Fn.okA sc_factor (fun ds M Q E h => ?_) ?_
  · obtain ⟨a, b, c, rfl, _⟩ := h; rfl
  intro cdv A outer s H E F0 ds M Q Ea hr ct hsp
  obtain ⟨k, a, b, rfl, hb, q⟩ := hsp
  refine ⟨_, (ssCons (sIf (ptCmp (op_eqs (un64 ct)) lEq (paV (pv 0)) paS (nomark _))
        (ssOne (sRet (paTup (aaCons paI (aaCons paI aaNil)))))
        ssNil)
      (ssCons (sIf (ptCmp (op_eqs (un64 ct)) lEq (paV (pv 0)) paS (nomark _))
        (ssOne (sRet (paFun h_lowest (hr.mono (by decide)) (by rfl) ct (aaCons (paV (pv 1)) (aaCons (paV (pv 2)) aaNil)))))
        ssNil)
      (ssOne (sRet (paFun h_lowest (hr.mono (by decide)) (by rfl) ct (aaCons (paUn un_neg lNeg (paV (pv 1))) (aaCons (paV (pv 2)) aaNil))))))), ?_⟩
  have hb0 : b ≠ 0 := by omega
  unfold fac at q
  by_cases h1 : k = "pin"
  · rw [if_pos h1] at q
    refine seqIfT (fun R h => by simp only [aYes, Bool.and_self, at0, at1, at2, at3, aSeq, aNext, aIf, aFor, iaR1, iaR2, iaR3, iaS, iaL, gaN, aSl, aPart, aNoPart, aT, aOp, aV, aC, aRet, aRetN, aTup, aLst, aLstM, aCons, aNil, aAnd, aOr, aNot, aAndV, aOrV, aNotV, aSet, aAsg, aDrop, aCall, aFun, aUn, oAdd, addF, addC, oI, oIc, eqq_int, eqq_str, eqq_bl, neq_int, neq_str, neq_bl, oIsN, isNon, oNeg, oLen, lenF, lenC, oIx, ixF, ixC, oIn, inB, oSl, slF, slC, Option.bind_some, Option.map_some, true_and, L2.dq, L2.dr, L2.dl, L2.dd, both_some, opt_some, insAt_some, keyD, aFldC, aDPut, oDIn, aDGet, aDPop, aDGet1, aSetF, aDNew, aRaise, aMeth, oCat, oCatM, startA, List.map_cons, List.map_nil, List.length_cons, List.length_nil, List.replicate, List.cons_append, List.nil_append, List.getElem?_cons_zero, List.getElem?_cons_succ, List.set_cons_zero, List.set_cons_succ, Nat.reduceAdd, Nat.reduceSub, if_true, Bool.false_eq_true, if_false, decide_eq_true h1]; exact h) ?_
    simp only [aYes, Bool.and_self, at0, at1, at2, at3, aSeq, aNext, aIf, aFor, iaR1, iaR2, iaR3, iaS, iaL, gaN, aSl, aPart, aNoPart, aT, aOp, aV, aC, aRet, aRetN, aTup, aLst, aLstM, aCons, aNil, aAnd, aOr, aNot, aAndV, aOrV, aNotV, aSet, aAsg, aDrop, aCall, aFun, aUn, oAdd, addF, addC, oI, oIc, eqq_int, eqq_str, eqq_bl, neq_int, neq_str, neq_bl, oIsN, isNon, oNeg, oLen, lenF, lenC, oIx, ixF, ixC, oIn, inB, oSl, slF, slC, Option.bind_some, Option.map_some, true_and, L2.dq, L2.dr, L2.dl, L2.dd, both_some, opt_some, insAt_some, keyD, aFldC, aDPut, oDIn, aDGet, aDPop, aDGet1, aSetF, aDNew, aRaise, aMeth, oCat, oCatM, startA, List.map_cons, List.map_nil, List.length_cons, List.length_nil, List.replicate, List.cons_append, List.nil_append, List.getElem?_cons_zero, List.getElem?_cons_succ, List.set_cons_zero, List.set_cons_succ, Nat.reduceAdd, Nat.reduceSub, if_true, Bool.false_eq_true, if_false]
    exact ⟨by decide, .now q⟩
  · rw [if_neg h1] at q
    refine seqIfF (fun R h => by simp only [aYes, Bool.and_self, at0, at1, at2, at3, aSeq, aNext, aIf, aFor, iaR1, iaR2, iaR3, iaS, iaL, gaN, aSl, aPart, aNoPart, aT, aOp, aV, aC, aRet, aRetN, aTup, aLst, aLstM, aCons, aNil, aAnd, aOr, aNot, aAndV, aOrV, aNotV, aSet, aAsg, aDrop, aCall, aFun, aUn, oAdd, addF, addC, oI, oIc, eqq_int, eqq_str, eqq_bl, neq_int, neq_str, neq_bl, oIsN, isNon, oNeg, oLen, lenF, lenC, oIx, ixF, ixC, oIn, inB, oSl, slF, slC, Option.bind_some, Option.map_some, true_and, L2.dq, L2.dr, L2.dl, L2.dd, both_some, opt_some, insAt_some, keyD, aFldC, aDPut, oDIn, aDGet, aDPop, aDGet1, aSetF, aDNew, aRaise, aMeth, oCat, oCatM, startA, List.map_cons, List.map_nil, List.length_cons, List.length_nil, List.replicate, List.cons_append, List.nil_append, List.getElem?_cons_zero, List.getElem?_cons_succ, List.set_cons_zero, List.set_cons_succ, Nat.reduceAdd, Nat.reduceSub, if_true, Bool.false_eq_true, if_false, decide_eq_false h1]; exact h) ?_
    by_cases h2 : k = "band"
    · rw [if_pos h2] at q
      refine seqIfT (fun R h => by simp only [aYes, Bool.and_self, at0, at1, at2, at3, aSeq, aNext, aIf, aFor, iaR1, iaR2, iaR3, iaS, iaL, gaN, aSl, aPart, aNoPart, aT, aOp, aV, aC, aRet, aRetN, aTup, aLst, aLstM, aCons, aNil, aAnd, aOr, aNot, aAndV, aOrV, aNotV, aSet, aAsg, aDrop, aCall, aFun, aUn, oAdd, addF, addC, oI, oIc, eqq_int, eqq_str, eqq_bl, neq_int, neq_str, neq_bl, oIsN, isNon, oNeg, oLen, lenF, lenC, oIx, ixF, ixC, oIn, inB, oSl, slF, slC, Option.bind_some, Option.map_some, true_and, L2.dq, L2.dr, L2.dl, L2.dd, both_some, opt_some, insAt_some, keyD, aFldC, aDPut, oDIn, aDGet, aDPop, aDGet1, aSetF, aDNew, aRaise, aMeth, oCat, oCatM, startA, List.map_cons, List.map_nil, List.length_cons, List.length_nil, List.replicate, List.cons_append, List.nil_append, List.getElem?_cons_zero, List.getElem?_cons_succ, List.set_cons_zero, List.set_cons_succ, Nat.reduceAdd, Nat.reduceSub, if_true, Bool.false_eq_true, if_false, decide_eq_true h2]; exact h) ?_
      simp only [aYes, Bool.and_self, at0, at1, at2, at3, aSeq, aNext, aIf, aFor, iaR1, iaR2, iaR3, iaS, iaL, gaN, aSl, aPart, aNoPart, aT, aOp, aV, aC, aRet, aRetN, aTup, aLst, aLstM, aCons, aNil, aAnd, aOr, aNot, aAndV, aOrV, aNotV, aSet, aAsg, aDrop, aCall, aFun, aUn, oAdd, addF, addC, oI, oIc, eqq_int, eqq_str, eqq_bl, neq_int, neq_str, neq_bl, oIsN, isNon, oNeg, oLen, lenF, lenC, oIx, ixF, ixC, oIn, inB, oSl, slF, slC, Option.bind_some, Option.map_some, true_and, L2.dq, L2.dr, L2.dl, L2.dd, both_some, opt_some, insAt_some, keyD, aFldC, aDPut, oDIn, aDGet, aDPop, aDGet1, aSetF, aDNew, aRaise, aMeth, oCat, oCatM, startA, List.map_cons, List.map_nil, List.length_cons, List.length_nil, List.replicate, List.cons_append, List.nil_append, List.getElem?_cons_zero, List.getElem?_cons_succ, List.set_cons_zero, List.set_cons_succ, Nat.reduceAdd, Nat.reduceSub, if_true, Bool.false_eq_true, if_false, spLow]
      exact ⟨a, b, rfl, hb0, .now q⟩
    · rw [if_neg h2] at q
      refine seqIfF (fun R h => by simp only [aYes, Bool.and_self, at0, at1, at2, at3, aSeq, aNext, aIf, aFor, iaR1, iaR2, iaR3, iaS, iaL, gaN, aSl, aPart, aNoPart, aT, aOp, aV, aC, aRet, aRetN, aTup, aLst, aLstM, aCons, aNil, aAnd, aOr, aNot, aAndV, aOrV, aNotV, aSet, aAsg, aDrop, aCall, aFun, aUn, oAdd, addF, addC, oI, oIc, eqq_int, eqq_str, eqq_bl, neq_int, neq_str, neq_bl, oIsN, isNon, oNeg, oLen, lenF, lenC, oIx, ixF, ixC, oIn, inB, oSl, slF, slC, Option.bind_some, Option.map_some, true_and, L2.dq, L2.dr, L2.dl, L2.dd, both_some, opt_some, insAt_some, keyD, aFldC, aDPut, oDIn, aDGet, aDPop, aDGet1, aSetF, aDNew, aRaise, aMeth, oCat, oCatM, startA, List.map_cons, List.map_nil, List.length_cons, List.length_nil, List.replicate, List.cons_append, List.nil_append, List.getElem?_cons_zero, List.getElem?_cons_succ, List.set_cons_zero, List.set_cons_succ, Nat.reduceAdd, Nat.reduceSub, if_true, Bool.false_eq_true, if_false, decide_eq_false h2]; exact h) ?_
      simp only [aYes, Bool.and_self, at0, at1, at2, at3, aSeq, aNext, aIf, aFor, iaR1, iaR2, iaR3, iaS, iaL, gaN, aSl, aPart, aNoPart, aT, aOp, aV, aC, aRet, aRetN, aTup, aLst, aLstM, aCons, aNil, aAnd, aOr, aNot, aAndV, aOrV, aNotV, aSet, aAsg, aDrop, aCall, aFun, aUn, oAdd, addF, addC, oI, oIc, eqq_int, eqq_str, eqq_bl, neq_int, neq_str, neq_bl, oIsN, isNon, oNeg, oLen, lenF, lenC, oIx, ixF, ixC, oIn, inB, oSl, slF, slC, Option.bind_some, Option.map_some, true_and, L2.dq, L2.dr, L2.dl, L2.dd, both_some, opt_some, insAt_some, keyD, aFldC, aDPut, oDIn, aDGet, aDPop, aDGet1, aSetF, aDNew, aRaise, aMeth, oCat, oCatM, startA, List.map_cons, List.map_nil, List.length_cons, List.length_nil, List.replicate, List.cons_append, List.nil_append, List.getElem?_cons_zero, List.getElem?_cons_succ, List.set_cons_zero, List.set_cons_succ, Nat.reduceAdd, Nat.reduceSub, if_true, Bool.false_eq_true, if_false, spLow]
      exact ⟨-a, b, rfl, hb0, .now q⟩


noncomputable def spRefuse (EC : Rk → Addr) : SpA := fun ds M Q E => ∃ (ns : List Str) (n : Str), ds = [.lst (ns.map D.str), .str n] ∧ if n ∈ ns then Q .non M else E (.ref (EC .noWheel)) M
theorem inD_strs (ns : List Str) (n : Str) : inD (.str n) (ns.map D.str) = decide (n ∈ ns) := by
  unfold inD
  induction ns with
  | nil => rfl
  | cons a ns ih =>
    simp only [List.map_cons, List.any_cons, List.mem_cons, Bool.decide_or]
    rw [ih]
    congr 1
    by_cases h : a = n
    · subst h; simp [eqF]
    · have h' : ¬ n = a := fun z => h z.symm
      simp [eqF, h, h']
theorem ok_refuse_unknown {f : Addr} {fd : FuncData} {EC : Rk → Addr} (Fn : Fun K "refuse_unknown" "refuse_unknown" s_refuse_unknown f fd) (XK : ExK K mg EC) : FnOk P w K mg base (CXE P w) 1 f fd ["names", "name"] (liftS K (spRefuse EC)) := by
  refine Fn.okA sc_refuse_unknown (fun ds M Q E h => ?_) ?_
  · obtain ⟨a, b, rfl, _⟩ := h; rfl
  intro cdv A outer s H E F0 ds M Q Ea hr ct hsp
  obtain ⟨ns, n, rfl, q⟩ := hsp
  have X_NoWheel := XK.noWheel
  refine ⟨_, (ssOne (sIf (ptCmp op_notIns lNotIn (paV (pv 1)) (paV (pv 0)) (by with_unfolding_all rfl))
        (ssOne (sRaise ct X_NoWheel (by rfl) (aaCons paS aaNil)))
        ssNil)), ?_⟩
  have e1 : (flD (D.str n) && (ns.map D.str).all flD) = true := by
    rw [Bool.and_eq_true]; exact ⟨rfl, List.all_eq_true.mpr fun d hd => by obtain ⟨x, _, rfl⟩ := List.mem_map.mp hd; rfl⟩
  simp only [aYes, Bool.and_self, at0, at1, at2, at3, aSeq, aNext, aIf, aFor, iaR1, iaR2, iaR3, iaS, iaL, gaN, aSl, aPart, aNoPart, aT, aOp, aV, aC, aRet, aRetN, aTup, aLst, aLstM, aCons, aNil, aAnd, aOr, aNot, aAndV, aOrV, aNotV, aSet, aAsg, aDrop, aCall, aFun, aUn, oAdd, addF, addC, oI, oIc, eqq_int, eqq_str, eqq_bl, neq_int, neq_str, neq_bl, oIsN, isNon, oNeg, oLen, lenF, lenC, oIx, ixF, ixC, oIn, inB, oSl, slF, slC, Option.bind_some, Option.map_some, true_and, L2.dq, L2.dr, L2.dl, L2.dd, both_some, opt_some, insAt_some, keyD, aFldC, aDPut, oDIn, aDGet, aDPop, aDGet1, aSetF, aDNew, aRaise, aMeth, oCat, oCatM, startA, List.map_cons, List.map_nil, List.length_cons, List.length_nil, List.replicate, List.cons_append, List.nil_append, List.getElem?_cons_zero, List.getElem?_cons_succ, List.set_cons_zero, List.set_cons_succ, Nat.reduceAdd, Nat.reduceSub, if_true, Bool.false_eq_true, if_false, e1, inD_strs]
  split at q
  · rename_i h
    rw [decide_eq_true h]
    exact .now q
  · rename_i h
    rw [decide_eq_false h]
    exact ⟨by decide, q⟩
theorem getD_map {α : Type} (l : List α) (f : α → D) (i : Nat) (h : i < l.length) : (l.map f).getD i .non = f l[i] := by simp [List.getD, List.getElem?_eq_getElem h]
noncomputable def spLead : SpA := fun ds M Q _ => ∃ (js : List Jn) (n : Str), ds = [.lst (js.map eJ), .str n] ∧ js.length ≤ 300 ∧ Q (.lst ((lead js n).map eL)) M
theorem ok_joins_from {f : Addr} {fd : FuncData} (Fn : Fun K "joins_from" "joins_from" s_joins_from f fd) : FnOk P w K mg base (CXE P w) 1 f fd ["joins", "here"] (liftS K spLead) := by
  refine Fn.okA sc_joins_from (fun ds M Q E h => ?_) ?_
  · obtain ⟨a, b, rfl, _⟩ := h; rfl
  intro cdv A outer s H E F0 ds M Q Ea hr ct hsp
  obtain ⟨js, n, rfl, hl, q⟩ := hsp
  refine ⟨_, (ssCons (sSet (i := 2) sc_joins_from.nd rfl (Or.inl rfl) (paLstM aaNil))
      (ssCons (sFor ct (iList' (paV (pv 0))) (tgTup rfl (tgsCons (tgName (i := 3) sc_joins_from.nd rfl (Or.inl rfl)) (tgsCons (tgName (i := 4) sc_joins_from.nd rfl (Or.inl rfl)) (tgsCons (tgName (i := 5) sc_joins_from.nd rfl (Or.inl rfl)) (tgsCons (tgName (i := 6) sc_joins_from.nd rfl (Or.inl rfl)) tgsNil)))))
        (ssCons (sIf (ptCmp (op_eqs (un64 ct)) lEq (paV (pv 5)) (paV (pv 1)) (nomark _))
          (ssOne (sExpr (paBM PySem.F.plainAttrs_list PySem.F.slot_list_append PySem.F.type_list_append mt_append lAppend (paV (pv 2)) (aaCons (paTup (aaCons (paV (pv 3)) (aaCons (paV (pv 4)) (aaCons (paV (pv 6)) aaNil)))) aaNil))))
          ssNil)
        (ssOne (sIf (ptCmp (op_eqs (un64 ct)) lEq (paV (pv 6)) (paV (pv 1)) (nomark _))
          (ssOne (sExpr (paBM PySem.F.plainAttrs_list PySem.F.slot_list_append PySem.F.type_list_append mt_append lAppend (paV (pv 2)) (aaCons (paTup (aaCons (paV (pv 3)) (aaCons (paV (pv 4)) (aaCons (paV (pv 5)) aaNil)))) aaNil))))
          ssNil))))
      (ssOne (sRet (paV (pv 2)))))), ?_⟩
  simp only [aYes, Bool.and_self, at0, at1, at2, at3, aSeq, aNext, aIf, aFor, iaR1, iaR2, iaR3, iaS, iaL, gaN, aSl, aPart, aNoPart, aT, aOp, aV, aC, aRet, aRetN, aTup, aLst, aLstM, aCons, aNil, aAnd, aOr, aNot, aAndV, aOrV, aNotV, aSet, aAsg, aDrop, aCall, aFun, aUn, oAdd, addF, addC, oI, oIc, eqq_int, eqq_str, eqq_bl, neq_int, neq_str, neq_bl, oIsN, isNon, oNeg, oLen, lenF, lenC, oIx, ixF, ixC, oIn, inB, oSl, slF, slC, Option.bind_some, Option.map_some, true_and, L2.dq, L2.dr, L2.dl, L2.dd, both_some, opt_some, insAt_some, keyD, aFldC, aDPut, oDIn, aDGet, aDPop, aDGet1, aSetF, aDNew, aRaise, aMeth, oCat, oCatM, startA, List.map_cons, List.map_nil, List.length_cons, List.length_nil, List.replicate, List.cons_append, List.nil_append, List.getElem?_cons_zero, List.getElem?_cons_succ, List.set_cons_zero, List.set_cons_succ, Nat.reduceAdd, Nat.reduceSub, if_true, Bool.false_eq_true, if_false]
  refine ⟨Nat.le_of_ble_eq_true rfl, fun p hp => ?_⟩
  refine LoopP.by (fun i Γ M' => M' = put M p (.lst ((lead (js.take i) n).map eL)) ∧ ∃ a b c d, Γ = [some (.lst (js.map eJ)), some (.str n), some (.obj p), a, b, c, d]) ⟨rfl, _, _, _, _, rfl⟩ (fun _ _ _ _ => trivial) ?_ ?_
  · rintro i Γ M' hi ⟨rfl, a, b, c, d, rfl⟩
    dsimp only at hi
    have hi' : i < js.length := by simpa using hi
    have hll := lead_len (js.take i) n
    rw [List.length_take] at hll
    have hl2 : ((lead (js.take i) n).map eL).length ≤ 600 := by rw [List.length_map]; omega
    have et : lead (js.take (i + 1)) n = lead (js.take i) n ++ lead1 n js[i] := by
      unfold lead
      rw [List.take_succ_eq_append_getElem hi', List.flatMap_append]; simp
    simp only [getD_map js eJ i hi', eJ, gaTup, gaCons, gaNil, aYes, Bool.and_self, at0, at1, at2, at3, aSeq, aNext, aIf, aFor, iaR1, iaR2, iaR3, iaS, iaL, gaN, aSl, aPart, aNoPart, aT, aOp, aV, aC, aRet, aRetN, aTup, aLst, aLstM, aCons, aNil, aAnd, aOr, aNot, aAndV, aOrV, aNotV, aSet, aAsg, aDrop, aCall, aFun, aUn, oAdd, addF, addC, oI, oIc, eqq_int, eqq_str, eqq_bl, neq_int, neq_str, neq_bl, oIsN, isNon, oNeg, oLen, lenF, lenC, oIx, ixF, ixC, oIn, inB, oSl, slF, slC, Option.bind_some, Option.map_some, true_and, L2.dq, L2.dr, L2.dl, L2.dd, both_some, opt_some, insAt_some, keyD, aFldC, aDPut, oDIn, aDGet, aDPop, aDGet1, aSetF, aDNew, aRaise, aMeth, oCat, oCatM, startA, List.map_cons, List.map_nil, List.length_cons, List.length_nil, List.replicate, List.cons_append, List.nil_append, List.getElem?_cons_zero, List.getElem?_cons_succ, List.set_cons_zero, List.set_cons_succ, Nat.reduceAdd, Nat.reduceSub, if_true, Bool.false_eq_true, if_false, aBM, kindD, put_same, oAppend, put_put]
    refine ⟨rfl, ?_⟩
    rw [et]
    generalize (lead (js.take i) n) = L at hl2 et ⊢
    unfold lead1
    have h3 : ∀ x : D, (L.map eL ++ [x]).length < 1000 := fun x => by rw [List.length_append]; simp only [List.length_cons, List.length_nil]; omega
    by_cases h1 : js[i].2.2.1 = n <;> by_cases h2 : js[i].2.2.2 = n <;> simp only [h1, h2, decide_true, decide_false, if_true, if_false, Bool.false_eq_true]
    · exact ⟨by decide, by omega, by decide, h3 _, hi, by simp [eL], _, _, _, _, rfl⟩
    · exact ⟨by decide, by omega, hi, by simp [eL], _, _, _, _, rfl⟩
    · exact ⟨by decide, by omega, hi, by simp [eL], _, _, _, _, rfl⟩
    · exact ⟨hi, by simp [eL], _, _, _, _, rfl⟩
  · rintro Γ M' ⟨rfl, a, b, c, d, rfl⟩
    refine .fz hp ?_
    have e : (js.map eJ).length = js.length := List.length_map ..
    dsimp only
    rw [e, List.take_length]
    exact q

theorem put_swap {M : Mem} {p r : Addr} {a b c : MO} (h : r ≠ p) : put (put (put M p a) r b) p c = put (put M p c) r b := by
  funext x
  by_cases hx : x = p
  · subst hx; rw [put_same, put_ne h.symm, put_same]
  · rw [put_ne hx]
    by_cases hr : x = r
    · subst hr; rw [put_same, put_same]
    · rw [put_ne hr, put_ne hr, put_ne hx, put_ne hx]
noncomputable abbrev MT (M : Mem) (p r : Addr) (t : TT) (ws : List Str) : Mem := put (put M p (.dic (encT t))) r (.lst (ws.map D.str))
noncomputable def spTree : SpA := fun ds M Q _ => ∃ (js : List Jn) (n : Str), ds = [.lst (js.map eJ), .str n] ∧ js.length ≤ 300 ∧ ∀ t, IsTree js n t → Grown js n t → Closed js t → t.length ≤ 2 * js.length + 1 → ∀ p, M p = none → Q (.obj p) (put M p (.dic (encT t)))
theorem ok_tree_from {f : Addr} {fd : FuncData} (Fn : Fun K "tree_from" "tree_from" s_tree_from f fd) (T : Txt K mg) (h_joins_from : Has P w K mg base (CXE P w) 1 "joins_from" ["joins", "here"] (liftS K spLead)) : FnOk P w K mg base (CXE P w) 2 f fd ["joins", "start"] (liftS K spTree) := by
  refine Fn.okA sc_tree_from (fun ds M Q E h => ?_) ?_
  · obtain ⟨a, b, rfl, _⟩ := h; rfl
  intro cdv A outer s H E F0 ds M Q Ea hr ct hsp
  obtain ⟨js, n, rfl, hl, q⟩ := hsp
  refine ⟨_, (ssCons (sSet (i := 2) sc_tree_from.nd rfl (Or.inl rfl) (paDict1 (paV (pv 1)) paN))
      (ssCons (sSet (i := 3) sc_tree_from.nd rfl (Or.inl rfl) (paLstM (aaCons (paV (pv 1)) aaNil)))
      (ssCons (sWhile ct (ptCmp op_gt lGt (paCallB call_lens lLen (by rfl) T.len PySem.boot_len (aaCons (paV (pv 3)) aaNil)) paI (nomark _))
        (ssCons (sSet (i := 4) sc_tree_from.nd rfl (Or.inl rfl) (paBM PySem.F.plainAttrs_list PySem.F.slot_list_pop PySem.F.type_list_pop mt_popAt lPop0 (paV (pv 3)) (aaCons paI aaNil)))
        (ssOne (sFor ct (iList' (paFun h_joins_from (hr.mono (by decide)) (by rfl) ct (aaCons (paV (pv 0)) (aaCons (paV (pv 4)) aaNil)))) (tgTup rfl (tgsCons (tgName (i := 5) sc_tree_from.nd rfl (Or.inl rfl)) (tgsCons (tgName (i := 6) sc_tree_from.nd rfl (Or.inl rfl)) (tgsCons (tgName (i := 7) sc_tree_from.nd rfl (Or.inl rfl)) tgsNil))))
          (ssOne (sIf (ptPC (pcDNotIn (un1 ct) (paV (pv 7)) (paV (pv 2))))
            (ssCons (sPutD (un1 ct) (paV (pv 2)) (paV (pv 7)) (paTup (aaCons (paV (pv 5)) (aaCons (paV (pv 6)) (aaCons (paV (pv 4)) aaNil)))) rfl)
            (ssOne (sExpr (paBM PySem.F.plainAttrs_list PySem.F.slot_list_append PySem.F.type_list_append mt_append lAppend (paV (pv 3)) (aaCons (paV (pv 7)) aaNil)))))
            ssNil))))))
      (ssOne (sRet (paV (pv 2))))))), ?_⟩
  simp only [aDict1, aYes, Bool.and_self, at0, at1, at2, at3, aSeq, aNext, aIf, aFor, iaR1, iaR2, iaR3, iaS, iaL, gaN, aSl, aPart, aNoPart, aT, aOp, aV, aC, aRet, aRetN, aTup, aLst, aLstM, aCons, aNil, aAnd, aOr, aNot, aAndV, aOrV, aNotV, aSet, aAsg, aDrop, aCall, aFun, aUn, oAdd, addF, addC, oI, oIc, eqq_int, eqq_str, eqq_bl, neq_int, neq_str, neq_bl, oIsN, isNon, oNeg, oLen, lenF, lenC, oIx, ixF, ixC, oIn, inB, oSl, slF, slC, Option.bind_some, Option.map_some, true_and, L2.dq, L2.dr, L2.dl, L2.dd, both_some, opt_some, insAt_some, keyD, aFldC, aDPut, oDIn, aDGet, aDPop, aDGet1, aSetF, aDNew, aRaise, aMeth, oCat, oCatM, startA, List.map_cons, List.map_nil, List.length_cons, List.length_nil, List.replicate, List.cons_append, List.nil_append, List.getElem?_cons_zero, List.getElem?_cons_succ, List.set_cons_zero, List.set_cons_succ, Nat.reduceAdd, Nat.reduceSub, if_true, Bool.false_eq_true, if_false]
  intro p hp
  refine ⟨put_same, ?_⟩
  rw [put_put]
  refine ⟨Nat.le_of_ble_eq_true rfl, fun r hr' => ?_⟩
  have nrp : r ≠ p := by rintro rfl; rw [put_same] at hr'; cases hr'
  rw [put_ne nrp] at hr'
  have hu : unseen js [(n, none)] ≤ 2 * js.length := by
    have := List.length_filter_le (fun m => decide (m ∉ names [(n, none)])) (ends js)
    rw [ends_len] at this
    exact this
  refine ⟨fun m Γ M' => ∃ t ws o4 o5 o6 o7, Γ = [some (.lst (js.map eJ)), some (.str n), some (.obj p), some (.obj r), o4, o5, o6, o7] ∧ M' = MT M p r t ws ∧ Grown js n t ∧ (∀ x ∈ ws, x ∈ names t) ∧ (∀ x ∈ names t, x ∈ ws ∨ ∀ l ∈ lead js x, l.2.2 ∈ names t) ∧ ws.length + unseen js t ≤ m ∧ m ≤ 2 * js.length + 1 ∧ t.length + unseen js t ≤ 2 * js.length + 1 ∧ ∃ k, iterT js k ([(n, none)], [n]) = (t, ws),
    ⟨1 + unseen js [(n, none)], [(n, none)], [n], none, none, none, none, rfl, rfl, .root, fun x hx => hx, fun x hx => .inl hx, Nat.le_refl _, by omega, by simp only [List.length_cons, List.length_nil]; omega, 0, rfl⟩, ?_⟩
  rintro m Γ M' ⟨t, ws, o4, o5, o6, o7, rfl, rfl, gr, hw, hc, hm, hm2, ht, kk, hkk⟩
  have e1 : ∀ ws : List Str, lenF (MT M p r t ws) (.obj r) = some ws.length := by
    intro ws
    simp only [lenF, MT, L2.dd, L2.dq, put_same, Option.map_some, List.length_map]
  simp only [aT, aOp, aCall, aCons, aNil, aV, aC, oLen, lenC, List.getElem?_cons_zero, List.getElem?_cons_succ, opt_some, e1, true_and, oGt, oI]
  cases ws with
  | nil =>
    simp only [List.length_nil, Int.natCast_zero, gt_iff_lt, Int.lt_irrefl, decide_false, Bool.false_eq_true, if_false, aRet, aV, List.getElem?_cons_zero, List.getElem?_cons_succ, opt_some]
    refine .sub (.put (by rw [put_ne nrp]; exact hr')) (q t ⟨kk, hkk⟩ gr (fun x hx l hl' => ?_) (by omega) p hp)
    rcases hc x hx with h | h
    · cases h
    · exact h l hl'
  | cons x ws =>
    have hpos : decide ((0 : Int) < ((x :: ws).length : Int)) = true := decide_eq_true (by simp only [List.length_cons]; omega)
    simp only [hpos, if_true]
    have hx : x ∈ names t := hw x List.mem_cons_self
    simp only [aSeq, aSet, aBM, aV, aC, aCons, aNil, kindD, MT, put_same, oPop0, List.map_cons, put_put, true_and, aFor, iaL, aFun, List.set_cons_zero, List.set_cons_succ, List.getElem?_cons_zero, List.getElem?_cons_succ, opt_some]
    refine ⟨js, x, rfl, hl, ?_⟩
    simp only [L2.dr]
    have hll := lead_len js x
    simp only [List.length_cons] at hm
    refine LoopP.by (fun i Γ M' => ∃ t' ws2 o5 o6 o7, Γ = [some (.lst (js.map eJ)), some (.str n), some (.obj p), some (.obj r), some (.str x), o5, o6, o7] ∧ M' = MT M p r t' ws2 ∧ Grown js n t' ∧ x ∈ names t' ∧ (∀ y ∈ ws2, y ∈ names t') ∧ (∀ y ∈ names t', y ∈ ws2 ∨ y = x ∨ ∀ l ∈ lead js y, l.2.2 ∈ names t') ∧ (∀ (k : Nat) (h : k < (lead js x).length), k < i → (lead js x)[k].2.2 ∈ names t') ∧ ws2.length + unseen js t' + 1 ≤ m ∧ t'.length + unseen js t' ≤ 2 * js.length + 1 ∧ (t', ws2) = ((lead js x).take i).foldl (addW x) (t, ws))
      ⟨t, ws, o5, o6, o7, rfl, rfl, gr, hx, fun y hy => hw y (List.mem_cons_of_mem _ hy), fun y hy => ?_, fun k _ hk => absurd hk (Nat.not_lt_zero _), by omega, ht, rfl⟩ (fun _ _ _ _ => trivial) ?_ ?_
    · rcases hc y hy with h | h
      · rcases List.mem_cons.mp h with h | h
        · exact .inr (.inl h)
        · exact .inl h
      · exact .inr (.inr h)
    · clear hc hw ht hx gr o4 o5 o6 o7 hpos
      rintro i Γ M' hi ⟨t', ws2, o5, o6, o7, rfl, rfl, gr, hx, hw, hc, hd, hm, ht, hfo⟩
      have hi' : i < (lead js x).length := by simpa using hi
      have hmem : (lead js x)[i] ∈ lead js x := List.getElem_mem hi'
      have hend := lead_ends hmem
      simp only [getD_map _ _ _ hi']
      have step : ∀ k (h : k < (lead js x).length), k < i + 1 → k < i ∨ (lead js x)[k] = (lead js x)[i] := fun k h hk => by
        by_cases e : k = i
        · subst e; exact .inr rfl
        · exact .inl (by omega)
      have hfo2 : ((lead js x).take (i + 1)).foldl (addW x) (t, ws) = addW x (t', ws2) (lead js x)[i] := by rw [List.take_succ_eq_append_getElem hi', List.foldl_append, ← hfo]; rfl
      generalize (lead js x)[i] = l at hmem hend step hfo2 ⊢
      simp only [eL, gaTup, gaCons, gaNil, gaN, aIf, aT, aOp, aV, oDIn, L2.dq, L2.dd, keyD, both_some, MT, put_same, put_ne nrp.symm, getK_names, List.set_cons_zero, List.set_cons_succ, List.getElem?_cons_zero, List.getElem?_cons_succ, opt_some, if_true]
      refine ⟨rfl, trivial, ?_⟩
      by_cases hin : l.2.2 ∈ names t'
      · simp only [hin, decide_true, Bool.not_true, Bool.false_eq_true, if_false, aNext]
        refine ⟨hi, t', ws2, _, _, _, rfl, rfl, gr, hx, hw, hc, fun k h hk => ?_, hm, ht, by rw [hfo2]; unfold addW; rw [if_pos hin]⟩
        rcases step k h hk with h' | h'
        · exact hd k h h'
        · rw [h']; exact hin
      · have hless := unseen_less (e := some (l.1, l.2.1, x)) hend hin
        simp only [hin, decide_false, Bool.not_false, if_true, aSeq, aDPut, aTup, aCons, aNil, aV, L2.dd, keyD, both_some, put_same, put_ne nrp.symm, List.getElem?_cons_zero, List.getElem?_cons_succ, opt_some]
        have e2 : putKD (encT t') (Sum.inr l.2.2) (.tup [.int l.1, .str l.2.1, .str x]) = encT (t' ++ [(l.2.2, some (l.1, l.2.1, x))]) := putK_encT (l := (l.1, l.2.1, x)) hin
        rw [e2, put_swap nrp]
        have hlen : (encT t').length = t'.length := List.length_map ..
        refine ⟨Nat.le_of_ble_eq_true rfl, by rw [hlen]; omega, ?_⟩
        simp only [aDrop, aBM, aV, aCons, aNil, kindD, put_same, oAppend, put_put, true_and, List.length_map, List.getElem?_cons_zero, List.getElem?_cons_succ, opt_some]
        have nm := names_app t' l.2.2 (some (l.1, l.2.1, x))
        refine ⟨by omega, hi', t' ++ [(l.2.2, some (l.1, l.2.1, x))], ws2 ++ [l.2.2], _, _, _, rfl, by simp [MT], .more t' l.2.2 (l.1, l.2.1, x) gr hin hx hmem, ?_, ?_, ?_, ?_, ?_, ?_, by rw [hfo2]; unfold addW; rw [if_neg hin]⟩
        · rw [nm]; exact List.mem_append_left _ hx
        · intro y hy
          rw [nm]
          rcases List.mem_append.mp hy with hy | hy
          · exact List.mem_append_left _ (hw y hy)
          · exact List.mem_append_right _ hy
        · intro y hy
          rw [nm] at hy ⊢
          rcases List.mem_append.mp hy with hy | hy
          · rcases hc y hy with h | h | h
            · exact .inl (List.mem_append_left _ h)
            · exact .inr (.inl h)
            · exact .inr (.inr fun l' hl' => List.mem_append_left _ (h l' hl'))
          · exact .inl (List.mem_append_right _ hy)
        · intro k h hk
          rw [nm]
          rcases step k h hk with h' | h'
          · exact List.mem_append_left _ (hd k h h')
          · rw [h']; exact List.mem_append_right _ (by simp)
        · rw [List.length_append]; simp only [List.length_cons, List.length_nil]; omega
        · rw [List.length_append]; simp only [List.length_cons, List.length_nil]; omega
    · rintro Γ M' ⟨t', ws2, o5, o6, o7, rfl, rfl, gr, hx, hw, hc, hd, hm', ht, hfo⟩
      refine ⟨m - 1, by omega, t', ws2, _, o5, o6, o7, rfl, rfl, gr, hw, fun y hy => ?_, by omega, by omega, ht, kk + 1, ?_⟩
      · rcases hc y hy with h | h | h
        · exact .inl h
        · subst h
          refine .inr fun l hl' => ?_
          obtain ⟨k, hk, e⟩ := List.getElem_of_mem hl'
          rw [← e]
          exact hd k hk (by simpa using hk)
        · exact .inr h
      · show stepT js (iterT js kk _) = _
        rw [hkk]
        have el : ((lead js x).map eL).length = (lead js x).length := List.length_map ..
        dsimp only at hfo
        rw [el, List.take_length] at hfo
        exact hfo.symm

theorem no_wheels {d1 d2 : Addr} {n : Int} : (fsT d1 d2 n).lookup ("wheels" : Str) = none := rfl
theorem no_joins {d1 d2 : Addr} {n : Int} : (fsT d1 d2 n).lookup ("joins" : Str) = none := rfl
theorem rd_wheels {C : Addr} {M : Mem} {p d1 d2 : Addr} {S : TS} {R : AX} {Γ : G} {Q : AK} {t_o : AE} (tr : Tr C M p d1 d2 S) (hto : ∀ R : AK, R (.obj p) M → t_o Γ M R) (q : Q (.lst (S.ws.map eW)) M) : aFz (aMeth C "wheels" (spWheels C) R t_o aNil) Γ M Q := by
  refine hto _ ?_
  dsimp only
  rw [tr.self, insAt_some]
  refine ⟨no_wheels, p, d1, d2, S, rfl, tr, fun l hl => ?_⟩
  dsimp only
  rw [put_same]
  dsimp only
  rw [del_put hl]; exact q
theorem rd_joins {C : Addr} {M : Mem} {p d1 d2 : Addr} {S : TS} {R : AX} {Γ : G} {Q : AK} {t_o : AE} (tr : Tr C M p d1 d2 S) (hto : ∀ R : AK, R (.obj p) M → t_o Γ M R) (q : Q (.lst (S.js.map eJ)) M) : aFz (aMeth C "joins" (spJoins C) R t_o aNil) Γ M Q := by
  refine hto _ ?_
  dsimp only
  rw [tr.self, insAt_some]
  refine ⟨no_joins, p, d1, d2, S, rfl, tr, fun l hl => ?_⟩
  dsimp only
  rw [put_same]
  dsimp only
  rw [del_put hl]; exact q
noncomputable def row0 : D → D
  | .tup (d :: _) => d
  | d => d
theorem names_of (S : TS) : (S.ws.map eW).map row0 = (S.ws.map Prod.fst).map D.str := by
  rw [List.map_map, List.map_map]; rfl

theorem ne_of {M : Mem} {a b : Addr} {o : MO} (h : M a = some o) (h' : M b = none) : b ≠ a := by rintro rfl; rw [h] at h'; cases h'
theorem none_of {M : Mem} {a b : Addr} {o : MO} (h : put M a o b = none) : b ≠ a ∧ M b = none := by
  have n : b ≠ a := by rintro rfl; rw [put_same] at h; cases h
  exact ⟨n, by rw [put_ne n] at h; exact h⟩
theorem Tr.sub {C : Addr} {M M' : Mem} {p d1 d2 : Addr} {S : TS} (tr : Tr C M p d1 d2 S) (h : L2.Sub M M') : Tr C M' p d1 d2 S :=
  ⟨h _ _ tr.self, h _ _ tr.teeth, h _ _ tr.join, tr.ne, tr.lt⟩

structure Fit (S : TS) : Prop where
  nd : (S.ws.map Prod.fst).Nodup
  teeth : Teeth S.ws
  ends : ∀ j ∈ S.js, j.2.2.1 ∈ S.ws.map Prod.fst ∧ j.2.2.2 ∈ S.ws.map Prod.fst
  w : S.ws.length ≤ 100
  j : S.js.length ≤ 200
noncomputable def encN : Option Str → D | none => .non | some x => .str x
noncomputable def meant (S : TS) : Option Str → Option Str | none => (S.ws.map Prod.fst).head? | some x => if x ∈ S.ws.map Prod.fst then some x else none
noncomputable def spMeant (C : Addr) (EC : Rk → Addr) : SpA := fun ds M Q E => ∃ (p d1 d2 : Addr) (S : TS) (o : Option Str), ds = [.obj p, encN o] ∧ Tr C M p d1 d2 S ∧ S.ws.length ≤ 100 ∧ match meant S o with | some n => Q (.str n) M | none => E (.ref (EC .noWheel)) M
theorem ok_wheel_meant {f C : Addr} {fd : FuncData} {EC : Rk → Addr} (Fn : Fun K "wheel_meant" "wheel_meant" s_wheel_meant f fd) (T : Txt K mg) (XK : ExK K mg EC) (h_wheels : HasM P w K mg base (CXE P w) 1 C "wheels" ["self"] (liftS K (spWheels C)))
    (h_refuse_unknown : Has P w K mg base (CXE P w) 1 "refuse_unknown" ["names", "name"] (liftS K (spRefuse EC))) : FnOk P w K mg base (CXE P w) 2 f fd ["train", "name"] (liftS K (spMeant C EC)) := by
  refine Fn.okA sc_wheel_meant (fun ds M Q E h => ?_) ?_
  · obtain ⟨_, _, _, _, _, rfl, _⟩ := h; rfl
  intro cdv A outer s H E F0 ds M Q Ea hr ct hsp
  obtain ⟨p, d1, d2, S, o, rfl, tr, hw, q⟩ := hsp
  have X_NoWheel := XK.noWheel
  refine ⟨_, (ssCons (sCompZ (i := 2) sc_wheel_meant.nd rfl rfl (Nc := ["wheel"]) (n := 1) (fs := []) comp0 rfl (iList' (paFz (paMeth0 h_wheels (hr.mono (by decide)) ct (paV (pv 0))))) (fun _ _ _ _ _ => (tgName (i := 0) (show List.Nodup (["wheel"] : List Str) by decide +kernel) rfl (Or.inl rfl))) (fun _ _ _ _ _ => fiNil) (fun _ _ _ _ _ => (paIx ix_seq lIx (paV (pv 0)) paI (fun _ _ => rfl))) (by rfl))
      (ssCons (sIf (ptCmp op_isN lIs (paV (pv 1)) paN (nomark _))
        (ssCons (sIf (ptCmp (op_eqs (un64 ct)) lEq (paCallB call_lens lLen (by rfl) T.len PySem.boot_len (aaCons (paV (pv 2)) aaNil)) paI (nomark _))
          (ssOne (sRaise ct X_NoWheel (by rfl) (aaCons paS aaNil)))
          ssNil)
        (ssOne (sRet (paIx ix_seq lIx (paV (pv 2)) paI (fun _ _ => rfl)))))
        ssNil)
      (ssCons (sExpr (paFun h_refuse_unknown (hr.mono (by decide)) (by rfl) ct (aaCons (paV (pv 2)) (aaCons (paV (pv 1)) aaNil))))
      (ssOne (sRet (paV (pv 1))))))), ?_⟩
  refine seqV (.lst ((S.ws.map Prod.fst).map D.str)) M (fun R h => compL (S.ws.map eW) row0 (fun R h => rd_wheels tr (fun R h => h) h) (by rw [List.length_map]; omega) (fun x hx M' R h => by
    obtain ⟨w', _, rfl⟩ := List.mem_map.mp hx
    exact ⟨trivial, h⟩) (by rw [names_of S]; exact h)) ?_
  cases o with
  | none =>
    refine seqIfT (fun R h => h) ?_
    unfold meant at q
    cases hws : S.ws with
    | nil =>
      rw [hws] at q
      refine seqIfT (fun R h => ?_) ?_
      · simp only [aYes, Bool.and_self, at0, at1, at2, at3, aSeq, aNext, aIf, aFor, iaR1, iaR2, iaR3, iaS, iaL, gaN, aSl, aPart, aNoPart, aT, aOp, aV, aC, aRet, aRetN, aTup, aLst, aLstM, aCons, aNil, aAnd, aOr, aNot, aAndV, aOrV, aNotV, aSet, aAsg, aDrop, aCall, aFun, aUn, oAdd, addF, addC, oI, oIc, eqq_int, eqq_str, eqq_bl, neq_int, neq_str, neq_bl, oIsN, isNon, oNeg, oLen, lenF, lenC, oIx, ixF, ixC, oIn, inB, oSl, slF, slC, Option.bind_some, Option.map_some, true_and, L2.dq, L2.dr, L2.dl, L2.dd, both_some, opt_some, insAt_some, keyD, aFldC, aDPut, oDIn, aDGet, aDPop, aDGet1, aSetF, aDNew, aRaise, aMeth, oCat, oCatM, startA, List.map_cons, List.map_nil, List.length_cons, List.length_nil, List.replicate, List.cons_append, List.nil_append, List.getElem?_cons_zero, List.getElem?_cons_succ, List.set_cons_zero, List.set_cons_succ, Nat.reduceAdd, Nat.reduceSub, if_true, Bool.false_eq_true, if_false]; exact h
      · exact ⟨Nat.le_of_ble_eq_true rfl, q⟩
    | cons w0 ws =>
      rw [hws] at q
      refine seqIfF (fun R h => ?_) ?_
      · have e : decide (((((w0 :: ws).map Prod.fst).map D.str).length : Int) = 0) = false := decide_eq_false (by simp only [List.length_map, List.length_cons]; omega)
        simp only [aYes, Bool.and_self, at0, at1, at2, at3, aSeq, aNext, aIf, aFor, iaR1, iaR2, iaR3, iaS, iaL, gaN, aSl, aPart, aNoPart, aT, aOp, aV, aC, aRet, aRetN, aTup, aLst, aLstM, aCons, aNil, aAnd, aOr, aNot, aAndV, aOrV, aNotV, aSet, aAsg, aDrop, aCall, aFun, aUn, oAdd, addF, addC, oI, oIc, eqq_int, eqq_str, eqq_bl, neq_int, neq_str, neq_bl, oIsN, isNon, oNeg, oLen, lenF, lenC, oIx, ixF, ixC, oIn, inB, oSl, slF, slC, Option.bind_some, Option.map_some, true_and, L2.dq, L2.dr, L2.dl, L2.dd, both_some, opt_some, insAt_some, keyD, aFldC, aDPut, oDIn, aDGet, aDPop, aDGet1, aSetF, aDNew, aRaise, aMeth, oCat, oCatM, startA, List.map_cons, List.map_nil, List.length_cons, List.length_nil, List.replicate, List.cons_append, List.nil_append, List.getElem?_cons_zero, List.getElem?_cons_succ, List.set_cons_zero, List.set_cons_succ, Nat.reduceAdd, Nat.reduceSub, if_true, Bool.false_eq_true, if_false] at e ⊢
        rw [e]; exact h
      · simp only [aYes, Bool.and_self, at0, at1, at2, at3, aSeq, aNext, aIf, aFor, iaR1, iaR2, iaR3, iaS, iaL, gaN, aSl, aPart, aNoPart, aT, aOp, aV, aC, aRet, aRetN, aTup, aLst, aLstM, aCons, aNil, aAnd, aOr, aNot, aAndV, aOrV, aNotV, aSet, aAsg, aDrop, aCall, aFun, aUn, oAdd, addF, addC, oI, oIc, eqq_int, eqq_str, eqq_bl, neq_int, neq_str, neq_bl, oIsN, isNon, oNeg, oLen, lenF, lenC, oIx, ixF, ixC, oIn, inB, oSl, slF, slC, Option.bind_some, Option.map_some, true_and, L2.dq, L2.dr, L2.dl, L2.dd, both_some, opt_some, insAt_some, keyD, aFldC, aDPut, oDIn, aDGet, aDPop, aDGet1, aSetF, aDNew, aRaise, aMeth, oCat, oCatM, startA, List.map_cons, List.map_nil, List.length_cons, List.length_nil, List.replicate, List.cons_append, List.nil_append, List.getElem?_cons_zero, List.getElem?_cons_succ, List.set_cons_zero, List.set_cons_succ, Nat.reduceAdd, Nat.reduceSub, if_true, Bool.false_eq_true, if_false]
        exact .now q
  | some x =>
    refine seqIfF (fun R h => h) ?_
    simp only [aYes, Bool.and_self, at0, at1, at2, at3, aSeq, aNext, aIf, aFor, iaR1, iaR2, iaR3, iaS, iaL, gaN, aSl, aPart, aNoPart, aT, aOp, aV, aC, aRet, aRetN, aTup, aLst, aLstM, aCons, aNil, aAnd, aOr, aNot, aAndV, aOrV, aNotV, aSet, aAsg, aDrop, aCall, aFun, aUn, oAdd, addF, addC, oI, oIc, eqq_int, eqq_str, eqq_bl, neq_int, neq_str, neq_bl, oIsN, isNon, oNeg, oLen, lenF, lenC, oIx, ixF, ixC, oIn, inB, oSl, slF, slC, Option.bind_some, Option.map_some, true_and, L2.dq, L2.dr, L2.dl, L2.dd, both_some, opt_some, insAt_some, keyD, aFldC, aDPut, oDIn, aDGet, aDPop, aDGet1, aSetF, aDNew, aRaise, aMeth, oCat, oCatM, startA, List.map_cons, List.map_nil, List.length_cons, List.length_nil, List.replicate, List.cons_append, List.nil_append, List.getElem?_cons_zero, List.getElem?_cons_succ, List.set_cons_zero, List.set_cons_succ, Nat.reduceAdd, Nat.reduceSub, if_true, Bool.false_eq_true, if_false, spRefuse, encN]
    refine ⟨_, x, rfl, ?_⟩
    unfold meant at q
    dsimp only at q
    by_cases hx : x ∈ S.ws.map Prod.fst
    · rw [if_pos hx] at q ⊢
      exact .now q
    · rw [if_neg hx] at q ⊢
      exact q

theorem pairs_dW (ws : List (Str × Int)) : pairsD (ws.map eW) = some (dW ws) := by
  induction ws with
  | nil => rfl
  | cons w ws ih =>
    show (match keyD (.str w.1), pairsD (ws.map eW) with | some k', some r' => some ((k', D.int w.2) :: r') | _, _ => none) = _
    rw [ih]; rfl
theorem dW_keys {ws : List (Str × Int)} (h : (ws.map Prod.fst).Nodup) : ((dW ws).map (·.1)).Nodup := by
  have e : (dW ws).map (·.1) = (ws.map Prod.fst).map Sum.inr := by unfold dW; rw [List.map_map, List.map_map]; rfl
  rw [e]
  exact List.pairwise_map.mpr (h.imp fun hne z => hne (Sum.inr.inj z))
theorem getK_teeth {ws : List (Str × Int)} {n : Str} (h : n ∈ ws.map Prod.fst) : getK (dW ws) (Sum.inr n) = some (.int (teethOf ws n)) := by
  induction ws with
  | nil => cases h
  | cons w ws ih =>
    unfold dW getK teethOf at ih ⊢
    simp only [List.map_cons, List.find?_cons, Sum.inr.injEq]
    by_cases e : w.1 = n
    · simp [e]
    · rw [decide_eq_false e]
      have hn : n ∈ ws.map Prod.fst := by
        rcases List.mem_cons.mp h with h | h
        · exact absurd h.symm e
        · exact h
      exact ih hn
noncomputable def encSh (sh : Sh) : List (Key × D) := sh.map fun e => (Sum.inr e.1, eF e.2)
theorem getK_sh {sh : Sh} {n : Str} (h : n ∈ sh.map Prod.fst) : getK (encSh sh) (Sum.inr n) = some (eF (lk sh n)) := by
  induction sh with
  | nil => cases h
  | cons w ws ih =>
    unfold encSh getK lk at ih ⊢
    simp only [List.map_cons, List.find?_cons, Sum.inr.injEq]
    by_cases e : w.1 = n
    · simp [e]
    · rw [decide_eq_false e]
      have hn : n ∈ ws.map Prod.fst := by
        rcases List.mem_cons.mp h with h | h
        · exact absurd h.symm e
        · exact h
      exact ih hn
theorem getK_sh_no {sh : Sh} {n : Str} (h : n ∉ sh.map Prod.fst) : getK (encSh sh) (Sum.inr n) = none := by
  induction sh with
  | nil => rfl
  | cons w ws ih =>
    rw [List.map_cons, List.mem_cons, not_or] at h
    unfold encSh getK at ih ⊢
    simp only [List.map_cons, List.find?_cons, Sum.inr.injEq]
    rw [decide_eq_false (fun e => h.1 e.symm)]
    exact ih h.2
theorem put_sh {sh : Sh} {n : Str} {x : Fr} (h : n ∉ sh.map Prod.fst) : putKD (encSh sh) (Sum.inr n) (eF x) = encSh (sh ++ [(n, x)]) := by
  rw [putKD_new (by rw [getK_sh_no h]; rfl)]
  simp [encSh]
theorem Grown.at {js : List Jn} {s : Str} {t : TT} (g : Grown js s t) : ∀ (i : Nat) (h : i < t.length), (t[i]).1 ∉ names (t.take i) ∧ ∀ l, (t[i]).2 = some l → l.2.2 ∈ names (t.take i) := by
  induction g with
  | root =>
    intro i h
    have : i = 0 := by simpa using h
    subst this
    exact ⟨fun z => by simp [names] at z, fun l z => by cases z⟩
  | more t n e g new old by_ ih =>
    intro i h
    rw [List.length_append] at h
    by_cases hi : i < t.length
    · rw [List.getElem_append_left hi, List.take_append_of_le_length (by omega)]
      exact ih i hi
    · have hi2 : i = t.length := by simp at h; omega
      subst hi2
      rw [List.getElem_append_right (by omega), List.take_left]
      simp only [Nat.sub_self, List.getElem_cons_zero]
      exact ⟨new, fun l z => by cases z; exact old⟩
theorem Grown.inn {js : List Jn} {s : Str} {t : TT} (g : Grown js s t) {ns : List Str} (hs : s ∈ ns) (he : ∀ j ∈ js, j.2.2.1 ∈ ns ∧ j.2.2.2 ∈ ns) : ∀ n ∈ names t, n ∈ ns := by
  induction g with
  | root => intro n hn; have : n = s := by simpa [names] using hn
            rw [this]; exact hs
  | more t n e g new old by_ ih =>
    intro m hm
    rw [names_app] at hm
    rcases List.mem_append.mp hm with hm | hm
    · exact ih m hm
    · rw [List.mem_singleton.mp hm]
      obtain ⟨j, hj, _, h2⟩ := mem_lead by_
      rcases h2 with ⟨_, h3⟩ | ⟨_, h3⟩
      · rw [← show j.2.2.2 = n from h3]; exact (he j hj).2
      · rw [← show j.2.2.1 = n from h3]; exact (he j hj).1
theorem nodup_len {α : Type} [DecidableEq α] : ∀ {l l' : List α}, l.Nodup → (∀ x ∈ l, x ∈ l') → l.length ≤ l'.length
  | [], _, _, _ => Nat.zero_le _
  | a :: l, l', nd, h => by
    obtain ⟨h1, h2⟩ := List.nodup_cons.mp nd
    have ha := h a List.mem_cons_self
    have ih := nodup_len (l := l) (l' := l'.erase a) h2 fun x hx => (List.mem_erase_of_ne (fun e => h1 (by rw [← e]; exact hx))).mpr (h x (List.mem_cons_of_mem _ hx))
    rw [List.length_erase_of_mem ha] at ih
    have : 0 < l'.length := List.length_pos_of_mem ha
    simp only [List.length_cons]; omega
theorem del_two {M : Mem} {q a b : Addr} {x y : MO} (h1 : a ≠ q) (h2 : b ≠ q) : del (put (put M a x) b y) q = put (put (del M q) a x) b y := by
  funext z
  by_cases hz : z = q
  · subst hz; rw [del_same, put_ne h2.symm, put_ne h1.symm, del_same]
  · rw [del_ne hz]
    by_cases hb : z = b
    · subst hb; rw [put_same, put_same]
    · rw [put_ne hb, put_ne hb]
      by_cases ha : z = a
      · subst ha; rw [put_same, put_same]
      · rw [put_ne ha, put_ne ha, del_ne hz]
theorem shares_pre (ws : List (Str × Int)) (a b : TT) : ∀ e ∈ shares ws a, e ∈ shares ws (a ++ b) := by
  intro e he
  unfold shares at he ⊢
  rw [List.foldl_append]
  generalize a.foldl (fun sh e => sh ++ [(e.1, share1 ws sh e)]) [] = sh at he ⊢
  induction b generalizing sh with
  | nil => exact he
  | cons x b ih => exact ih _ (List.mem_append_left _ he)
noncomputable def spShares (C : Addr) : SpA := fun ds M Q _ => ∃ (p d1 d2 q : Addr) (S : TS) (t : TT) (n : Str), ds = [.obj p, .obj q] ∧ Tr C M p d1 d2 S ∧ Fit S ∧ M q = some (.dic (encT t)) ∧ Grown S.js n t ∧ n ∈ S.ws.map Prod.fst ∧ t.length ≤ 500 ∧ ∀ r, M r = none → Q (.obj r) (put (del M q) r (.dic (encSh (shares S.ws t))))
theorem ok_shares_along {f C : Addr} {fd : FuncData} (Fn : Fun K "shares_along" "shares_along" s_shares_along f fd) (T : Txt K mg) (h_wheels : HasM P w K mg base (CXE P w) 1 C "wheels" ["self"] (liftS K (spWheels C)))
    (h_times : Has P w K mg base (CXE P w) 42 "times" ["one", "other"] (liftS K spTimes)) (h_factor : Has P w K mg base (CXE P w) 42 "factor" ["kind", "one", "other"] (liftS K spFactor)) : FnOk P w K mg base (CXE P w) 43 f fd ["train", "tree"] (liftS K (spShares C)) := by
  refine Fn.okA sc_shares_along (fun ds M Q E h => ?_) ?_
  · obtain ⟨_, _, _, _, _, _, _, rfl, _⟩ := h; rfl
  intro cdv A outer s H E F0 ds M Q Ea hr ct hsp
  obtain ⟨p, d1, d2, q', S, t, n, rfl, tr, fit, hq, gr, hn, hl, q⟩ := hsp
  refine ⟨_, (ssCons (sSet (i := 2) sc_shares_along.nd rfl (Or.inl rfl) (paCallTy (call_dict_of ct.calm) lDictOf (by rfl) T.dict boot_dict (aaCons (paFz (paMeth0 h_wheels (hr.mono (by decide)) ct (paV (pv 0)))) aaNil)))
      (ssCons (sSet (i := 3) sc_shares_along.nd rfl (Or.inl rfl) paDNew)
      (ssCons (sFor ct (iItems (paV (pv 1))) (tgTup rfl (tgsCons (tgName (i := 4) sc_shares_along.nd rfl (Or.inl rfl)) (tgsCons (tgName (i := 5) sc_shares_along.nd rfl (Or.inl rfl)) tgsNil)))
        (ssOne (sIf (ptCmp op_isN lIs (paV (pv 5)) paN (nomark _))
          (ssOne (sPutD (un1 ct) (paV (pv 3)) (paV (pv 4)) (paTup (aaCons paI (aaCons paI aaNil))) rfl))
          (ssCons (sSet (i := 6) sc_shares_along.nd rfl (Or.inl rfl) (paIx ix_seq lIx (paV (pv 5)) paI (fun _ _ => rfl)))
          (ssOne (sPutD (un1 ct) (paV (pv 3)) (paV (pv 4)) (paFun h_times (hr.mono (by decide)) (by rfl) ct (aaCons (paDGet (un1 ct) (paV (pv 3)) (paV (pv 6)) (fun _ _ => rfl)) (aaCons (paFun h_factor (hr.mono (by decide)) (by rfl) ct (aaCons (paIx ix_seq lIx (paV (pv 5)) paI (fun _ _ => rfl)) (aaCons (paDGet (un1 ct) (paV (pv 2)) (paV (pv 6)) (fun _ _ => rfl)) (aaCons (paDGet (un1 ct) (paV (pv 2)) (paV (pv 4)) (fun _ _ => rfl)) aaNil)))) aaNil))) rfl))))))
      (ssOne (sRet (paV (pv 3))))))), ?_⟩
  have hin := gr.inn hn fit.ends
  have hsm := shares_small fit.teeth gr
  refine cut2 (fun Γ' M2 => ∃ r1 r2, M r1 = none ∧ M r2 = none ∧ r1 ≠ r2 ∧ Γ' = [some (.obj p), some (.obj q'), some (.obj r1), some (.obj r2), none, none, none] ∧ M2 = put (put M r1 (.dic (dW S.ws))) r2 (.dic [])) ?_ ?_
  · rintro Γ' M2 ⟨r1, r2, h1, h2, n12, rfl, rfl⟩
    have n1 := ne_of hq h1
    have n2 := ne_of hq h2
    refine forIs (p := q') (kvs := encT t) (fun R h => h) (by rw [put_ne n2.symm, put_ne n1.symm]; exact hq) ?_
    rw [del_two n1 n2]
    have hr1 : del M q' r1 = none := by rw [del_ne n1]; exact h1
    refine LoopP.by2 (fun i Γ M' => ∃ o4 o5 o6, Γ = [some (.obj p), some (.obj q'), some (.obj r1), some (.obj r2), o4, o5, o6] ∧ M' = put (put (del M q') r1 (.dic (dW S.ws))) r2 (.dic (encSh (shares S.ws (t.take i))))) ⟨_, _, _, rfl, rfl⟩ (fun _ _ _ _ => trivial) ?_ ?_
    · rintro E' i Γ M' hrt hi hnx ⟨o4, o5, o6, rfl, rfl⟩
      dsimp only at hi
      have hi' : i < t.length := by simpa [encT] using hi
      obtain ⟨g1, g2⟩ := gr.at i hi'
      have eit : L2.itemAt (encT t) i = .tup [.str (t[i]).1, eE (t[i]).2] := by
        unfold L2.itemAt encT
        rw [List.getElem?_map, List.getElem?_eq_getElem hi']; rfl
      have hws : (t[i]).1 ∈ S.ws.map Prod.fst := hin _ (List.mem_map.mpr ⟨_, List.getElem_mem hi', rfl⟩)
      have hsn := shares_snoc S.ws (t.take i) t[i]
      rw [← List.take_succ_eq_append_getElem hi'] at hsn
      have hnm := shares_names S.ws (t.take i)
      have hle : (encSh (shares S.ws (t.take i))).length < 1000 := by unfold encSh; rw [List.length_map, shares_len, List.length_take]; omega
      have hsub : ∀ m ∈ names (t.take i), m ∈ S.ws.map Prod.fst := fun m hm => hin m (by
        unfold names at hm ⊢
        obtain ⟨x, hx, e⟩ := List.mem_map.mp hm
        exact List.mem_map.mpr ⟨x, List.mem_of_mem_take hx, e⟩)
      have hsm' : ∀ e ∈ shares S.ws (t.take i), 1 ≤ e.2.2 := fun e he => (hsm e (by
        have : t = t.take i ++ t.drop i := (List.take_append_drop ..).symm
        rw [this]
        exact shares_pre _ _ _ e he)).1
      show gaTup _ _ (L2.itemAt (encT t) i) _ _ _
      rw [eit]
      generalize t[i] = en at g1 g2 hws hsn
      obtain ⟨m, e⟩ := en
      dsimp only at g1 g2 hws hsn
      have hnew : m ∉ (shares S.ws (t.take i)).map Prod.fst := by rw [hnm]; exact g1
      cases e with
      | none =>
        refine ⟨rfl, rfl, ifV true (fun R h => h) ?_⟩
        rw [if_pos rfl]
        simp only [aYes, Bool.and_self, at0, at1, at2, at3, aSeq, aNext, aIf, aFor, iaR1, iaR2, iaR3, iaS, iaL, gaN, aSl, aPart, aNoPart, aT, aOp, aV, aC, aRet, aRetN, aTup, aLst, aLstM, aCons, aNil, aAnd, aOr, aNot, aAndV, aOrV, aNotV, aSet, aAsg, aDrop, aCall, aFun, aUn, oAdd, addF, addC, oI, oIc, eqq_int, eqq_str, eqq_bl, neq_int, neq_str, neq_bl, oIsN, isNon, oNeg, oLen, lenF, lenC, oIx, ixF, ixC, oIn, inB, oSl, slF, slC, Option.bind_some, Option.map_some, true_and, L2.dq, L2.dr, L2.dl, L2.dd, both_some, opt_some, insAt_some, keyD, aFldC, aDPut, oDIn, aDGet, aDPop, aDGet1, aSetF, aDNew, aRaise, aMeth, oCat, oCatM, startA, List.map_cons, List.map_nil, List.length_cons, List.length_nil, List.replicate, List.cons_append, List.nil_append, List.getElem?_cons_zero, List.getElem?_cons_succ, List.set_cons_zero, List.set_cons_succ, Nat.reduceAdd, Nat.reduceSub, if_true, Bool.false_eq_true, if_false, put_same, put_put]
        refine ⟨by decide, hle, ?_⟩
        rw [show D.tup [.int 1, .int 1] = eF (1, 1) from rfl, put_sh hnew]
        exact hnx _ _ ⟨_, _, _, rfl, by rw [hsn]; rfl⟩
      | some l =>
        have hpar := g2 l rfl
        have t1 := teethOf_ok fit.teeth l.2.2
        have t2 := teethOf_ok fit.teeth m
        obtain ⟨ex, hex, _, elk⟩ := lk_mem (sh := shares S.ws (t.take i)) (n := l.2.2) (by rw [hnm]; exact hpar)
        have hlk : 1 ≤ (lk (shares S.ws (t.take i)) l.2.2).2 := by rw [elk]; exact hsm' ex hex
        refine ⟨rfl, rfl, ifV false (fun R h => h) ?_⟩
        rw [if_neg Bool.false_ne_true]
        refine seqV (.str l.2.2) _ (fun R h => ⟨trivial, h⟩) ?_
        simp only [aYes, Bool.and_self, at0, at1, at2, at3, aSeq, aNext, aIf, aFor, iaR1, iaR2, iaR3, iaS, iaL, gaN, aSl, aPart, aNoPart, aT, aOp, aV, aC, aRet, aRetN, aTup, aLst, aLstM, aCons, aNil, aAnd, aOr, aNot, aAndV, aOrV, aNotV, aSet, aAsg, aDrop, aCall, aFun, aUn, oAdd, addF, addC, oI, oIc, eqq_int, eqq_str, eqq_bl, neq_int, neq_str, neq_bl, oIsN, isNon, oNeg, oLen, lenF, lenC, oIx, ixF, ixC, oIn, inB, oSl, slF, slC, Option.bind_some, Option.map_some, true_and, L2.dq, L2.dr, L2.dl, L2.dd, both_some, opt_some, insAt_some, keyD, aFldC, aDPut, oDIn, aDGet, aDPop, aDGet1, aSetF, aDNew, aRaise, aMeth, oCat, oCatM, startA, List.map_cons, List.map_nil, List.length_cons, List.length_nil, List.replicate, List.cons_append, List.nil_append, List.getElem?_cons_zero, List.getElem?_cons_succ, List.set_cons_zero, List.set_cons_succ, Nat.reduceAdd, Nat.reduceSub, if_true, Bool.false_eq_true, if_false, eE, eL, put_same, put_ne n12, getK_sh (show l.2.2 ∈ (shares S.ws (t.take i)).map Prod.fst by rw [hnm]; exact hpar), getK_teeth (hsub _ hpar), getK_teeth hws, spFactor, spTimes]
        refine ⟨l.2.1, _, _, rfl, t2.1, lk (shares S.ws (t.take i)) l.2.2, fac l.2.1 (teethOf S.ws l.2.2) (teethOf S.ws m), rfl, hlk, fac_small t1.1 t1.2 t2.1 t2.2, ?_⟩
        refine ⟨hle, ?_⟩
        rw [put_sh hnew, put_put]
        exact hnx _ _ ⟨_, _, _, rfl, by rw [hsn]; rfl⟩
    · rintro Γ M' ⟨o4, o5, o6, rfl, rfl⟩
      have el : (encT t).length = t.length := List.length_map ..
      dsimp only
      rw [el, List.take_length]
      refine .sub (fun x o h => ?_) (q r2 h2)
      by_cases hx : x = r2
      · subst hx; rw [put_same] at h ⊢; exact h
      · rw [put_ne hx] at h ⊢
        rw [put_ne (fun z => by rw [z, hr1] at h; cases h)]; exact h
  · intro rest hrest
    simp only [aYes, Bool.and_self, at0, at1, at2, at3, aSeq, aNext, aIf, aFor, iaR1, iaR2, iaR3, iaS, iaL, gaN, aSl, aPart, aNoPart, aT, aOp, aV, aC, aRet, aRetN, aTup, aLst, aLstM, aCons, aNil, aAnd, aOr, aNot, aAndV, aOrV, aNotV, aSet, aAsg, aDrop, aCall, aFun, aUn, oAdd, addF, addC, oI, oIc, eqq_int, eqq_str, eqq_bl, neq_int, neq_str, neq_bl, oIsN, isNon, oNeg, oLen, lenF, lenC, oIx, ixF, ixC, oIn, inB, oSl, slF, slC, Option.bind_some, Option.map_some, true_and, L2.dq, L2.dr, L2.dl, L2.dd, both_some, opt_some, insAt_some, keyD, aFldC, aDPut, oDIn, aDGet, aDPop, aDGet1, aSetF, aDNew, aRaise, aMeth, oCat, oCatM, startA, List.map_cons, List.map_nil, List.length_cons, List.length_nil, List.replicate, List.cons_append, List.nil_append, List.getElem?_cons_zero, List.getElem?_cons_succ, List.set_cons_zero, List.set_cons_succ, Nat.reduceAdd, Nat.reduceSub, if_true, Bool.false_eq_true, if_false]
    refine rd_wheels tr (fun R h => h) ?_
    refine ⟨by rw [List.length_map]; have := fit.w; omega, ?_⟩
    rw [pairs_dW]
    refine ⟨dW_keys fit.nd, fun r1 h1 r2 h2 => ?_⟩
    obtain ⟨n12, h2'⟩ := none_of h2
    exact hrest _ _ ⟨r1, r2, h1, h2', n12.symm, rfl, rfl⟩


noncomputable def jamsD (ws : List (Str × Int)) (sh : Sh) (j : Jn) : Bool := decide (j.2.2.1 ∈ sh.map Prod.fst) && !eqD (eF (mulF (lk sh j.2.2.1) (fac j.2.1 (teethOf ws j.2.2.1) (teethOf ws j.2.2.2)))) (eF (lk sh j.2.2.2))
noncomputable def jamAt (S : TS) (sh : Sh) : D := match S.js.find? (jamsD S.ws sh) with | some j => eJ j | none => .non
theorem gd_f (x : Fr) : Gd 1 (eF x) := .tup _ _ fun d hd => by
  simp only [List.mem_cons, List.not_mem_nil, or_false] at hd
  rcases hd with rfl | rfl
  · exact .int _ _
  · exact .int _ _
theorem nes_f {x y : Fr} {M : Mem} {Q : AK} (h : Q (.bl (!eqD (eF x) (eF y))) M) : oEq true (eF x) (eF y) M Q := ⟨.inr ⟨(gd_f x).sh, (gd_f y).sh⟩, h⟩
noncomputable def spJam (C : Addr) : SpA := fun ds M Q _ => ∃ (p d1 d2 r : Addr) (S : TS) (sh : Sh), ds = [.obj p, .obj r] ∧ Tr C M p d1 d2 S ∧ Fit S ∧ M r = some (.dic (encSh sh)) ∧ (∀ e ∈ sh, 1 ≤ e.2.2) ∧ (∀ j ∈ S.js, j.2.2.1 ∈ sh.map Prod.fst → j.2.2.2 ∈ sh.map Prod.fst) ∧ Q (jamAt S sh) M
theorem find_take {α : Type} {f : α → Bool} {l : List α} {i : Nat} (h : i < l.length) (hn : (l.take i).find? f = none) (hi : f l[i] = true) : l.find? f = some l[i] := by
  have e : l = l.take i ++ (l[i] :: l.drop (i + 1)) := by rw [← List.drop_eq_getElem_cons h, List.take_append_drop]
  conv => lhs; rw [e]
  rw [List.find?_append, hn, List.find?_cons, hi]; rfl
theorem ok_jamming_join {f C : Addr} {fd : FuncData} (Fn : Fun K "jamming_join" "jamming_join" s_jamming_join f fd) (T : Txt K mg) (h_wheels : HasM P w K mg base (CXE P w) 1 C "wheels" ["self"] (liftS K (spWheels C))) (h_joins : HasM P w K mg base (CXE P w) 1 C "joins" ["self"] (liftS K (spJoins C)))
    (h_times : Has P w K mg base (CXE P w) 42 "times" ["one", "other"] (liftS K spTimes)) (h_factor : Has P w K mg base (CXE P w) 42 "factor" ["kind", "one", "other"] (liftS K spFactor)) : FnOk P w K mg base (CXE P w) 43 f fd ["train", "shares"] (liftS K (spJam C)) := by
  refine Fn.okA sc_jamming_join (fun ds M Q E h => ?_) ?_
  · obtain ⟨_, _, _, _, _, _, rfl, _⟩ := h; rfl
  intro cdv A outer s H E F0 ds M Q Ea hr ct hsp
  obtain ⟨p, d1, d2, r, S, sh, rfl, tr, fit, hrr, h1, hcl, q⟩ := hsp
  refine ⟨_, (ssCons (sSet (i := 2) sc_jamming_join.nd rfl (Or.inl rfl) (paCallTy (call_dict_of ct.calm) lDictOf (by rfl) T.dict boot_dict (aaCons (paFz (paMeth0 h_wheels (hr.mono (by decide)) ct (paV (pv 0)))) aaNil)))
      (ssCons (sFor ct (iList' (paFz (paMeth0 h_joins (hr.mono (by decide)) ct (paV (pv 0))))) (tgName (i := 3) sc_jamming_join.nd rfl (Or.inl rfl))
        (ssCons (sSet (i := 4) sc_jamming_join.nd rfl (Or.inl rfl) (paIx ix_seq lIx (paV (pv 3)) paI (fun _ _ => rfl)))
        (ssCons (sSet (i := 5) sc_jamming_join.nd rfl (Or.inl rfl) (paIx ix_seq lIx (paV (pv 3)) paI (fun _ _ => rfl)))
        (ssOne (sIf (ptPC (pcDIn (un1 ct) (paV (pv 4)) (paV (pv 1))))
          (ssCons (sSet (i := 6) sc_jamming_join.nd rfl (Or.inl rfl) (paFun h_times (hr.mono (by decide)) (by rfl) ct (aaCons (paDGet (un1 ct) (paV (pv 1)) (paV (pv 4)) (fun _ _ => rfl)) (aaCons (paFun h_factor (hr.mono (by decide)) (by rfl) ct (aaCons (paIx ix_seq lIx (paV (pv 3)) paI (fun _ _ => rfl)) (aaCons (paDGet (un1 ct) (paV (pv 2)) (paV (pv 4)) (fun _ _ => rfl)) (aaCons (paDGet (un1 ct) (paV (pv 2)) (paV (pv 5)) (fun _ _ => rfl)) aaNil)))) aaNil))))
          (ssOne (sIf (ptCmp (op_nes (un64 ct)) lNe (paV (pv 6)) (paDGet (un1 ct) (paV (pv 1)) (paV (pv 5)) (fun _ _ => rfl)) (nomark _))
            (ssOne (sRet (paV (pv 3))))
            ssNil)))
          ssNil)))))
      (ssOne (sRet paN)))), ?_⟩
  refine cut1 (fun Γ' M2 => ∃ r1, M r1 = none ∧ Γ' = [some (.obj p), some (.obj r), some (.obj r1), none, none, none, none] ∧ M2 = put M r1 (.dic (dW S.ws))) ?_ ?_
  · rintro Γ' M2 ⟨r1, hr1, rfl, rfl⟩
    have nr := ne_of hrr hr1
    have hr2 : put M r1 (.dic (dW S.ws)) r = some (.dic (encSh sh)) := by rw [put_ne nr.symm]; exact hrr
    refine forLs (d := .lst (S.js.map eJ)) (fun R h => rd_joins (tr.sub (.put hr1)) (fun R h => h) h) rfl ?_
    refine LoopP.by2 (fun i Γ M' => M' = put M r1 (.dic (dW S.ws)) ∧ (S.js.take i).find? (jamsD S.ws sh) = none ∧ ∃ o3 o4 o5 o6, Γ = [some (.obj p), some (.obj r), some (.obj r1), o3, o4, o5, o6]) ⟨rfl, rfl, _, _, _, _, rfl⟩ (fun _ _ _ _ => rfl) ?_ ?_
    · rintro E' i Γ M' hrt hi hnx ⟨rfl, hno, o3, o4, o5, o6, rfl⟩
      dsimp only at hi
      have hi' : i < S.js.length := by simpa using hi
      have hft := find_take (f := jamsD S.ws sh) hi' hno
      have hmem := List.getElem_mem hi'
      obtain ⟨e1, e2⟩ := fit.ends _ hmem
      have hc2 := hcl _ hmem
      have hsn : (S.js.take (i + 1)).find? (jamsD S.ws sh) = if jamsD S.ws sh S.js[i] = true then some S.js[i] else none := by
        rw [List.take_succ_eq_append_getElem hi', List.find?_append, hno]
        simp [List.find?_cons]
        split <;> simp_all
      simp only [getD_map S.js eJ i hi', gaN, List.set_cons_zero, List.set_cons_succ]
      generalize S.js[i] = j at hft e1 e2 hc2 hsn
      have t1 := teethOf_ok fit.teeth j.2.2.1
      have t2 := teethOf_ok fit.teeth j.2.2.2
      refine seqV (.str j.2.2.1) _ (fun R h => ⟨trivial, h⟩) (seqV (.str j.2.2.2) _ (fun R h => ⟨trivial, h⟩) ?_)
      simp only [List.set_cons_zero, List.set_cons_succ]
      by_cases hin : j.2.2.1 ∈ sh.map Prod.fst
      · have hin2 := hc2 hin
        obtain ⟨ex, hex, _, elk⟩ := lk_mem hin
        have hlk : 1 ≤ (lk sh j.2.2.1).2 := by rw [elk]; exact h1 ex hex
        refine ifV true (fun R h => by
          simp only [aYes, Bool.and_self, at0, at1, at2, at3, aSeq, aNext, aIf, aFor, iaR1, iaR2, iaR3, iaS, iaL, gaN, aSl, aPart, aNoPart, aT, aOp, aV, aC, aRet, aRetN, aTup, aLst, aLstM, aCons, aNil, aAnd, aOr, aNot, aAndV, aOrV, aNotV, aSet, aAsg, aDrop, aCall, aFun, aUn, oAdd, addF, addC, oI, oIc, eqq_int, eqq_str, eqq_bl, neq_int, neq_str, neq_bl, oIsN, isNon, oNeg, oLen, lenF, lenC, oIx, ixF, ixC, oIn, inB, oSl, slF, slC, Option.bind_some, Option.map_some, true_and, L2.dq, L2.dr, L2.dl, L2.dd, both_some, opt_some, insAt_some, keyD, aFldC, aDPut, oDIn, aDGet, aDPop, aDGet1, aSetF, aDNew, aRaise, aMeth, oCat, oCatM, startA, List.map_cons, List.map_nil, List.length_cons, List.length_nil, List.replicate, List.cons_append, List.nil_append, List.getElem?_cons_zero, List.getElem?_cons_succ, List.set_cons_zero, List.set_cons_succ, Nat.reduceAdd, Nat.reduceSub, if_true, Bool.false_eq_true, if_false, hr2, getK_sh hin, Option.isSome_some]
          exact h) ?_
        rw [if_pos rfl]
        refine seqV (eF (mulF (lk sh j.2.2.1) (fac j.2.1 (teethOf S.ws j.2.2.1) (teethOf S.ws j.2.2.2)))) (put M r1 (.dic (dW S.ws))) (fun R h => by
          simp only [aYes, Bool.and_self, at0, at1, at2, at3, aSeq, aNext, aIf, aFor, iaR1, iaR2, iaR3, iaS, iaL, gaN, aSl, aPart, aNoPart, aT, aOp, aV, aC, aRet, aRetN, aTup, aLst, aLstM, aCons, aNil, aAnd, aOr, aNot, aAndV, aOrV, aNotV, aSet, aAsg, aDrop, aCall, aFun, aUn, oAdd, addF, addC, oI, oIc, eqq_int, eqq_str, eqq_bl, neq_int, neq_str, neq_bl, oIsN, isNon, oNeg, oLen, lenF, lenC, oIx, ixF, ixC, oIn, inB, oSl, slF, slC, Option.bind_some, Option.map_some, true_and, L2.dq, L2.dr, L2.dl, L2.dd, both_some, opt_some, insAt_some, keyD, aFldC, aDPut, oDIn, aDGet, aDPop, aDGet1, aSetF, aDNew, aRaise, aMeth, oCat, oCatM, startA, List.map_cons, List.map_nil, List.length_cons, List.length_nil, List.replicate, List.cons_append, List.nil_append, List.getElem?_cons_zero, List.getElem?_cons_succ, List.set_cons_zero, List.set_cons_succ, Nat.reduceAdd, Nat.reduceSub, if_true, Bool.false_eq_true, if_false, eJ, hr2, put_same, getK_sh hin, getK_teeth e1, getK_teeth e2, spFactor, spTimes]
          exact ⟨_, _, _, rfl, t2.1, _, _, rfl, hlk, fac_small t1.1 t1.2 t2.1 t2.2, h⟩) ?_
        simp only [List.set_cons_zero, List.set_cons_succ]
        cases hj : jamsD S.ws sh j with
        | true =>
          have ev : (!eqD (eF (mulF (lk sh j.2.2.1) (fac j.2.1 (teethOf S.ws j.2.2.1) (teethOf S.ws j.2.2.2)))) (eF (lk sh j.2.2.2))) = true := by
            unfold jamsD at hj; rw [Bool.and_eq_true] at hj; exact hj.2
          refine ifV true (fun R h => by
            simp only [aYes, Bool.and_self, at0, at1, at2, at3, aSeq, aNext, aIf, aFor, iaR1, iaR2, iaR3, iaS, iaL, gaN, aSl, aPart, aNoPart, aT, aOp, aV, aC, aRet, aRetN, aTup, aLst, aLstM, aCons, aNil, aAnd, aOr, aNot, aAndV, aOrV, aNotV, aSet, aAsg, aDrop, aCall, aFun, aUn, oAdd, addF, addC, oI, oIc, eqq_int, eqq_str, eqq_bl, neq_int, neq_str, neq_bl, oIsN, isNon, oNeg, oLen, lenF, lenC, oIx, ixF, ixC, oIn, inB, oSl, slF, slC, Option.bind_some, Option.map_some, true_and, L2.dq, L2.dr, L2.dl, L2.dd, both_some, opt_some, insAt_some, keyD, aFldC, aDPut, oDIn, aDGet, aDPop, aDGet1, aSetF, aDNew, aRaise, aMeth, oCat, oCatM, startA, List.map_cons, List.map_nil, List.length_cons, List.length_nil, List.replicate, List.cons_append, List.nil_append, List.getElem?_cons_zero, List.getElem?_cons_succ, List.set_cons_zero, List.set_cons_succ, Nat.reduceAdd, Nat.reduceSub, if_true, Bool.false_eq_true, if_false, hr2, getK_sh hin2]
            refine nes_f ?_
            rw [ev]; exact h) ?_
          rw [if_pos rfl]
          refine retV (eJ j) _ (fun R h => h) ?_
          rw [hrt]
          have e : jamAt S sh = eJ j := by unfold jamAt; rw [hft hj]
          rw [e] at q
          exact .sub (.put hr1) q
        | false =>
          have ev : (!eqD (eF (mulF (lk sh j.2.2.1) (fac j.2.1 (teethOf S.ws j.2.2.1) (teethOf S.ws j.2.2.2)))) (eF (lk sh j.2.2.2))) = false := by
            unfold jamsD at hj; rw [decide_eq_true hin, Bool.true_and] at hj; exact hj
          refine ifV false (fun R h => by
            simp only [aYes, Bool.and_self, at0, at1, at2, at3, aSeq, aNext, aIf, aFor, iaR1, iaR2, iaR3, iaS, iaL, gaN, aSl, aPart, aNoPart, aT, aOp, aV, aC, aRet, aRetN, aTup, aLst, aLstM, aCons, aNil, aAnd, aOr, aNot, aAndV, aOrV, aNotV, aSet, aAsg, aDrop, aCall, aFun, aUn, oAdd, addF, addC, oI, oIc, eqq_int, eqq_str, eqq_bl, neq_int, neq_str, neq_bl, oIsN, isNon, oNeg, oLen, lenF, lenC, oIx, ixF, ixC, oIn, inB, oSl, slF, slC, Option.bind_some, Option.map_some, true_and, L2.dq, L2.dr, L2.dl, L2.dd, both_some, opt_some, insAt_some, keyD, aFldC, aDPut, oDIn, aDGet, aDPop, aDGet1, aSetF, aDNew, aRaise, aMeth, oCat, oCatM, startA, List.map_cons, List.map_nil, List.length_cons, List.length_nil, List.replicate, List.cons_append, List.nil_append, List.getElem?_cons_zero, List.getElem?_cons_succ, List.set_cons_zero, List.set_cons_succ, Nat.reduceAdd, Nat.reduceSub, if_true, Bool.false_eq_true, if_false, hr2, getK_sh hin2]
            refine nes_f ?_
            rw [ev]; exact h) ?_
          rw [if_neg Bool.false_ne_true]
          exact hnx _ _ ⟨rfl, by rw [hsn, hj]; rfl, _, _, _, _, rfl⟩
      · have hj : jamsD S.ws sh j = false := by unfold jamsD; rw [decide_eq_false hin]; rfl
        refine ifV false (fun R h => by
          simp only [aYes, Bool.and_self, at0, at1, at2, at3, aSeq, aNext, aIf, aFor, iaR1, iaR2, iaR3, iaS, iaL, gaN, aSl, aPart, aNoPart, aT, aOp, aV, aC, aRet, aRetN, aTup, aLst, aLstM, aCons, aNil, aAnd, aOr, aNot, aAndV, aOrV, aNotV, aSet, aAsg, aDrop, aCall, aFun, aUn, oAdd, addF, addC, oI, oIc, eqq_int, eqq_str, eqq_bl, neq_int, neq_str, neq_bl, oIsN, isNon, oNeg, oLen, lenF, lenC, oIx, ixF, ixC, oIn, inB, oSl, slF, slC, Option.bind_some, Option.map_some, true_and, L2.dq, L2.dr, L2.dl, L2.dd, both_some, opt_some, insAt_some, keyD, aFldC, aDPut, oDIn, aDGet, aDPop, aDGet1, aSetF, aDNew, aRaise, aMeth, oCat, oCatM, startA, List.map_cons, List.map_nil, List.length_cons, List.length_nil, List.replicate, List.cons_append, List.nil_append, List.getElem?_cons_zero, List.getElem?_cons_succ, List.set_cons_zero, List.set_cons_succ, Nat.reduceAdd, Nat.reduceSub, if_true, Bool.false_eq_true, if_false, hr2, getK_sh_no hin, Option.isSome_none]
          exact h) ?_
        rw [if_neg Bool.false_ne_true]
        exact hnx _ _ ⟨rfl, by rw [hsn, hj]; rfl, _, _, _, _, rfl⟩
    · rintro Γ M' ⟨rfl, hno, o3, o4, o5, o6, rfl⟩
      have el : (S.js.map eJ).length = S.js.length := List.length_map ..
      dsimp only at hno
      rw [el, List.take_length] at hno
      have e : jamAt S sh = .non := by unfold jamAt; rw [hno]
      rw [e] at q
      exact .sub (.put hr1) q
  · intro rest hrest
    simp only [aYes, Bool.and_self, at0, at1, at2, at3, aSeq, aNext, aIf, aFor, iaR1, iaR2, iaR3, iaS, iaL, gaN, aSl, aPart, aNoPart, aT, aOp, aV, aC, aRet, aRetN, aTup, aLst, aLstM, aCons, aNil, aAnd, aOr, aNot, aAndV, aOrV, aNotV, aSet, aAsg, aDrop, aCall, aFun, aUn, oAdd, addF, addC, oI, oIc, eqq_int, eqq_str, eqq_bl, neq_int, neq_str, neq_bl, oIsN, isNon, oNeg, oLen, lenF, lenC, oIx, ixF, ixC, oIn, inB, oSl, slF, slC, Option.bind_some, Option.map_some, true_and, L2.dq, L2.dr, L2.dl, L2.dd, both_some, opt_some, insAt_some, keyD, aFldC, aDPut, oDIn, aDGet, aDPop, aDGet1, aSetF, aDNew, aRaise, aMeth, oCat, oCatM, startA, List.map_cons, List.map_nil, List.length_cons, List.length_nil, List.replicate, List.cons_append, List.nil_append, List.getElem?_cons_zero, List.getElem?_cons_succ, List.set_cons_zero, List.set_cons_succ, Nat.reduceAdd, Nat.reduceSub, if_true, Bool.false_eq_true, if_false]
    refine rd_wheels tr (fun R h => h) ?_
    refine ⟨by rw [List.length_map]; have := fit.w; omega, ?_⟩
    rw [pairs_dW]
    exact ⟨dW_keys fit.nd, fun r1 h1 => hrest _ _ ⟨r1, h1, rfl, rfl⟩⟩


noncomputable def spFree (C : Addr) (EC : Rk → Addr) (EJ : Addr) : SpA := fun ds M Q E => ∃ (p d1 d2 : Addr) (S : TS) (o : Option Str), ds = [.obj p, encN o] ∧ Tr C M p d1 d2 S ∧ Fit S ∧ match meant S o with
  | none => E (.ref (EC .noWheel)) M
  | some n => ∀ t, IsTree S.js n t → Grown S.js n t → Closed S.js t → t.length ≤ 100 → match S.js.find? (jamsD S.ws (shares S.ws t)) with
    | some _ => ∀ M', L2.Sub M M' → E (.ref EJ) M'
    | none => ∀ r, M r = none → Q (.obj r) (put M r (.dic (encSh (shares S.ws t))))
theorem meant_in {S : TS} {o : Option Str} {n : Str} (h : meant S o = some n) : n ∈ S.ws.map Prod.fst := by
  cases o with
  | none => exact List.mem_of_mem_head? h
  | some x =>
    unfold meant at h
    dsimp only at h
    split at h
    · cases h; assumption
    · cases h
theorem lead_mem {js : List Jn} {j : Jn} (h : j ∈ js) : (j.1, j.2.1, j.2.2.2) ∈ lead js j.2.2.1 := by
  unfold lead
  refine List.mem_flatMap.mpr ⟨j, h, ?_⟩
  unfold lead1
  rw [if_pos rfl]
  exact List.mem_append_left _ List.mem_cons_self
theorem Grown.short {S : TS} {n : Str} {t : TT} (g : Grown S.js n t) (fit : Fit S) (hn : n ∈ S.ws.map Prod.fst) : t.length ≤ 100 := by
  have h := nodup_len g.nodup (g.inn hn fit.ends)
  rw [List.length_map] at h
  have e : (names t).length = t.length := by simp [names]
  have := fit.w
  omega
theorem ok_free_shares {f C EJ : Addr} {fd : FuncData} {EC : Rk → Addr} (Fn : Fun K "free_shares" "free_shares" s_free_shares f fd) (X_Jams : ExCls K mg "Jams" EJ) (h_joins : HasM P w K mg base (CXE P w) 1 C "joins" ["self"] (liftS K (spJoins C)))
    (h_wheel_meant : Has P w K mg base (CXE P w) 2 "wheel_meant" ["train", "name"] (liftS K (spMeant C EC))) (h_tree_from : Has P w K mg base (CXE P w) 2 "tree_from" ["joins", "start"] (liftS K spTree))
    (h_shares_along : Has P w K mg base (CXE P w) 43 "shares_along" ["train", "tree"] (liftS K (spShares C))) (h_jamming_join : Has P w K mg base (CXE P w) 43 "jamming_join" ["train", "shares"] (liftS K (spJam C))) : FnOk P w K mg base (CXE P w) 44 f fd ["train", "name"] (liftS K (spFree C EC EJ)) := by
  refine Fn.okA sc_free_shares (fun ds M Q E h => ?_) ?_
  · obtain ⟨_, _, _, _, _, rfl, _⟩ := h; rfl
  intro cdv A outer s H E F0 ds M Q Ea hr ct hsp
  obtain ⟨p, d1, d2, S, o, rfl, tr, fit, q⟩ := hsp
  refine ⟨_, (ssCons (sSet (i := 2) sc_free_shares.nd rfl (Or.inl rfl) (paFun h_tree_from (hr.mono (by decide)) (by rfl) ct (aaCons (paFz (paMeth0 h_joins (hr.mono (by decide)) ct (paV (pv 0)))) (aaCons (paFun h_wheel_meant (hr.mono (by decide)) (by rfl) ct (aaCons (paV (pv 0)) (aaCons (paV (pv 1)) aaNil))) aaNil))))
      (ssCons (sSet (i := 3) sc_free_shares.nd rfl (Or.inl rfl) (paFun h_shares_along (hr.mono (by decide)) (by rfl) ct (aaCons (paV (pv 0)) (aaCons (paV (pv 2)) aaNil))))
      (ssCons (sIf (ptCmp op_notN lIsNot (paFun h_jamming_join (hr.mono (by decide)) (by rfl) ct (aaCons (paV (pv 0)) (aaCons (paV (pv 3)) aaNil))) paN (nomark _))
        (ssOne (sRaise ct X_Jams (by rfl) (aaCons paS aaNil)))
        ssNil)
      (ssOne (sRet (paV (pv 3))))))), ?_⟩
  have hjl : S.js.length ≤ 300 := by have := fit.j; omega
  refine cut1 (fun Γ' M2 => ∃ (n : Str) (t : TT) (r0 : Addr), meant S o = some n ∧ IsTree S.js n t ∧ Grown S.js n t ∧ Closed S.js t ∧ M r0 = none ∧ Γ' = [some (.obj p), some (encN o), some (.obj r0), none] ∧ M2 = put M r0 (.dic (encT t))) ?_ ?_
  · rintro Γ' M2 ⟨n, t, r0, hm, ist, gr, cl, h0, rfl, rfl⟩
    have hn := meant_in hm
    have hsh := gr.short fit hn
    have hsm := shares_small fit.teeth gr
    rw [hm] at q
    have q := q t ist gr cl hsh
    have hnm := shares_names S.ws t
    refine cut1 (fun Γ' M2 => ∃ (r : Addr), M r = none ∧ Γ' = [some (.obj p), some (encN o), some (.obj r0), some (.obj r)] ∧ M2 = put M r (.dic (encSh (shares S.ws t)))) ?_ ?_
    · rintro Γ' M2 ⟨r, hr0, rfl, rfl⟩
      refine seqIfB (S.js.find? (jamsD S.ws (shares S.ws t))).isSome (fun R h => ?_) ?_
      · simp only [aYes, Bool.and_self, at0, at1, at2, at3, aSeq, aNext, aIf, aFor, iaR1, iaR2, iaR3, iaS, iaL, gaN, aSl, aPart, aNoPart, aT, aOp, aV, aC, aRet, aRetN, aTup, aLst, aLstM, aCons, aNil, aAnd, aOr, aNot, aAndV, aOrV, aNotV, aSet, aAsg, aDrop, aCall, aFun, aUn, oAdd, addF, addC, oI, oIc, eqq_int, eqq_str, eqq_bl, neq_int, neq_str, neq_bl, oIsN, isNon, oNeg, oLen, lenF, lenC, oIx, ixF, ixC, oIn, inB, oSl, slF, slC, Option.bind_some, Option.map_some, true_and, L2.dq, L2.dr, L2.dl, L2.dd, both_some, opt_some, insAt_some, keyD, aFldC, aDPut, oDIn, aDGet, aDPop, aDGet1, aSetF, aDNew, aRaise, aMeth, oCat, oCatM, startA, List.map_cons, List.map_nil, List.length_cons, List.length_nil, List.replicate, List.cons_append, List.nil_append, List.getElem?_cons_zero, List.getElem?_cons_succ, List.set_cons_zero, List.set_cons_succ, Nat.reduceAdd, Nat.reduceSub, if_true, Bool.false_eq_true, if_false, spJam]
        refine ⟨p, d1, d2, r, S, shares S.ws t, rfl, tr.sub (.put hr0), fit, put_same, fun e he => (hsm e he).1, fun j hj => ?_, ?_⟩
        · rw [hnm]
          intro h1
          exact cl _ h1 (j.1, j.2.1, j.2.2.2) (lead_mem hj)
        · unfold jamAt
          cases hf : S.js.find? (jamsD S.ws (shares S.ws t)) with
          | none => rw [hf] at h; exact h
          | some j => rw [hf] at h; exact h
      · cases hf : S.js.find? (jamsD S.ws (shares S.ws t)) with
        | none =>
          rw [hf] at q
          rw [if_neg (by decide)]
          exact .now (q r hr0)
        | some j =>
          rw [hf] at q
          rw [if_pos (by rfl)]
          exact ⟨Nat.le_of_ble_eq_true rfl, q _ (.put hr0)⟩
    · intro rest hrest
      simp only [aYes, Bool.and_self, at0, at1, at2, at3, aSeq, aNext, aIf, aFor, iaR1, iaR2, iaR3, iaS, iaL, gaN, aSl, aPart, aNoPart, aT, aOp, aV, aC, aRet, aRetN, aTup, aLst, aLstM, aCons, aNil, aAnd, aOr, aNot, aAndV, aOrV, aNotV, aSet, aAsg, aDrop, aCall, aFun, aUn, oAdd, addF, addC, oI, oIc, eqq_int, eqq_str, eqq_bl, neq_int, neq_str, neq_bl, oIsN, isNon, oNeg, oLen, lenF, lenC, oIx, ixF, ixC, oIn, inB, oSl, slF, slC, Option.bind_some, Option.map_some, true_and, L2.dq, L2.dr, L2.dl, L2.dd, both_some, opt_some, insAt_some, keyD, aFldC, aDPut, oDIn, aDGet, aDPop, aDGet1, aSetF, aDNew, aRaise, aMeth, oCat, oCatM, startA, List.map_cons, List.map_nil, List.length_cons, List.length_nil, List.replicate, List.cons_append, List.nil_append, List.getElem?_cons_zero, List.getElem?_cons_succ, List.set_cons_zero, List.set_cons_succ, Nat.reduceAdd, Nat.reduceSub, if_true, Bool.false_eq_true, if_false, spShares]
      refine ⟨p, d1, d2, r0, S, t, n, rfl, tr.sub (.put h0), fit, put_same, gr, hn, by omega, fun r h => ?_⟩
      rw [del_put h0]
      obtain ⟨n1, h2⟩ := none_of h
      exact hrest _ _ ⟨r, h2, rfl, rfl⟩
  · intro rest hrest
    simp only [aYes, Bool.and_self, at0, at1, at2, at3, aSeq, aNext, aIf, aFor, iaR1, iaR2, iaR3, iaS, iaL, gaN, aSl, aPart, aNoPart, aT, aOp, aV, aC, aRet, aRetN, aTup, aLst, aLstM, aCons, aNil, aAnd, aOr, aNot, aAndV, aOrV, aNotV, aSet, aAsg, aDrop, aCall, aFun, aUn, oAdd, addF, addC, oI, oIc, eqq_int, eqq_str, eqq_bl, neq_int, neq_str, neq_bl, oIsN, isNon, oNeg, oLen, lenF, lenC, oIx, ixF, ixC, oIn, inB, oSl, slF, slC, Option.bind_some, Option.map_some, true_and, L2.dq, L2.dr, L2.dl, L2.dd, both_some, opt_some, insAt_some, keyD, aFldC, aDPut, oDIn, aDGet, aDPop, aDGet1, aSetF, aDNew, aRaise, aMeth, oCat, oCatM, startA, List.map_cons, List.map_nil, List.length_cons, List.length_nil, List.replicate, List.cons_append, List.nil_append, List.getElem?_cons_zero, List.getElem?_cons_succ, List.set_cons_zero, List.set_cons_succ, Nat.reduceAdd, Nat.reduceSub, if_true, Bool.false_eq_true, if_false]
    refine rd_joins tr (fun R h => h) ?_
    refine ⟨p, d1, d2, S, o, rfl, tr, fit.w, ?_⟩
    cases hm : meant S o with
    | none => rw [hm] at q; exact q
    | some n =>
      exact ⟨S.js, n, rfl, hjl, fun t ist gr cl _ r0 h0 => hrest _ _ ⟨n, t, r0, hm, ist, gr, cl, h0, rfl, rfl⟩⟩
theorem compLS {fs : List Nat} {tl te : AE} {Γ : G} {M : Mem} {Q : AK} (ds : List D) (f : D → D) (htl : ∀ R : AK, R (.lst ds) M → tl Γ M R) (hn : ds.length ≤ 1000) (he : ∀ x ∈ ds, ∀ (M' : Mem), L2.Sub M M' → ∀ (R : AK), R (f x) M' → te (some x :: frG fs Γ) M' R)
    (q : Q (.lst (ds.map f)) M) : aFz (aCompM 1 fs (iaL tl) (gaN 0) aYes te) Γ M Q := by
  refine htl _ ?_
  refine ⟨fun i => some (f (ds.getD i .non)), hn, fun M' hs => ⟨rfl, fun i hi own ho => ?_⟩, fun p hp => ?_⟩
  · obtain ⟨o, rfl⟩ : ∃ o, own = [o] := by
      cases own with
      | nil => cases ho
      | cons o l => cases l with
        | nil => exact ⟨o, rfl⟩
        | cons _ _ => simp at ho
    refine ⟨rfl, ⟨[some _], rfl, rfl⟩, rfl, ?_⟩
    rw [if_pos rfl]
    have hi' : i < ds.length := hi
    have e : ds.getD i .non = ds[i] := by simp [List.getD, List.getElem?_eq_getElem hi']
    show te (some (ds.getD i .non) :: frG fs Γ) M' _
    rw [e]
    exact he _ (List.getElem_mem hi') M' hs _ ⟨rfl, by dsimp only; rw [e]⟩
  · dsimp only
    rw [put_same]
    dsimp only
    rw [del_put hp]
    have e : outs (fun i => some (f (ds.getD i .non))) ds.length = ds.map f := by
      apply List.ext_getElem?
      intro i
      have : outs (fun i => some (f (ds.getD i .non))) ds.length = (List.range ds.length).map fun i => f (ds.getD i .non) := by
        unfold outs
        induction List.range ds.length with
        | nil => rfl
        | cons a l ih => simp only [List.filterMap_cons, List.map_cons, ih]
      rw [this]
      simp only [List.getElem?_map]
      by_cases hi : i < ds.length
      · simp [List.getElem?_range hi, List.getElem?_eq_getElem hi, List.getD]
      · simp [List.getElem?_eq_none (show (List.range ds.length).length ≤ i by simp; omega), List.getElem?_eq_none (show ds.length ≤ i by omega)]
    rw [e]
    exact q
noncomputable def told1 (sh : Sh) : D → D | .tup (.str n :: _) => (getK (encSh sh) (Sum.inr n)).getD .non | d => d
noncomputable def told (ws : List (Str × Int)) (sh : Sh) : List D := (ws.map eW).map (told1 sh)
noncomputable def spTurns (C : Addr) (EC : Rk → Addr) (EJ : Addr) : SpA := fun ds M Q E => ∃ (p d1 d2 : Addr) (S : TS) (o : Option Str), ds = [.obj p, encN o] ∧ Tr C M p d1 d2 S ∧ Fit S ∧ match meant S o with
  | none => E (.ref (EC .noWheel)) M
  | some n => ∀ t, IsTree S.js n t → Grown S.js n t → Closed S.js t → t.length ≤ 100 → match S.js.find? (jamsD S.ws (shares S.ws t)) with
    | some _ => ∀ M', L2.Sub M M' → E (.ref EJ) M'
    | none => Q (.lst (told S.ws (shares S.ws t))) M
theorem ok_turns {f C EJ : Addr} {fd : FuncData} {EC : Rk → Addr} (Fn : FunD K "turns" "turns" s_turns f fd) (T : Txt K mg) (h_wheels : HasM P w K mg base (CXE P w) 1 C "wheels" ["self"] (liftS K (spWheels C)))
    (h_free_shares : Has P w K mg base (CXE P w) 44 "free_shares" ["train", "name"] (liftS K (spFree C EC EJ))) : FnOk P w K mg base (CXE P w) 45 f fd ["train", "name"] (liftS K (spTurns C EC EJ)) := by
  refine Fn.okA sc_turns (fun ds M Q E h => ?_) ?_
  · obtain ⟨_, _, _, _, _, rfl, _⟩ := h; rfl
  intro cdv A outer s H E F0 ds M Q Ea hr ct hsp
  obtain ⟨p, d1, d2, S, o, rfl, tr, fit, q⟩ := hsp
  have hu1 := un1 ct
  refine ⟨_, (ssCons (sSet (i := 2) sc_turns.nd rfl (Or.inr rfl) (paFun h_free_shares (hr.mono (by decide)) (by rfl) ct (aaCons (paV (pv 0)) (aaCons (paV (pv 1)) aaNil))))
      (ssOne (sRet (paFz (paCompM (Nc := ["wheel", "shares"]) (n := 1) (fs := [2]) comp1 rfl (iList' (paFz (paMeth0 h_wheels (hr.mono (by decide)) ct (paV (pv 0))))) (fun _ _ _ _ _ => (tgName (i := 0) (show List.Nodup (["wheel", "shares"] : List Str) by decide +kernel) rfl (Or.inl rfl))) (fun _ _ _ _ _ => fiNil) (fun _ _ _ _ _ => (paDGet1 hu1 (paV (pv 1)) (paIx ix_seq lIx (paV (pv 0)) paI (fun _ _ => rfl)) ⟨by rfl, by rfl, by rfl, by rfl⟩))))))), ?_⟩
  refine ⟨p, d1, d2, S, o, rfl, tr, fit, ?_⟩
  cases hm : meant S o with
  | none => rw [hm] at q; exact q
  | some n =>
    rw [hm] at q
    intro t ist gr cl hl
    have q := q t ist gr cl hl
    cases hf : S.js.find? (jamsD S.ws (shares S.ws t)) with
    | some j => rw [hf] at q; exact q
    | none =>
      rw [hf] at q
      intro r hr0
      dsimp only
      refine retV (.lst (told S.ws (shares S.ws t))) (put M r (.dic (encSh (shares S.ws t)))) (fun R h => ?_) (Rt.sub (.put hr0) q)
      refine compLS (S.ws.map eW) (told1 (shares S.ws t)) (fun R h => rd_wheels (tr.sub (.put hr0)) (fun R h => h) h) (by rw [List.length_map]; have := fit.w; omega) (fun x hx M' hs R h => ?_) h
      obtain ⟨w', _, rfl⟩ := List.mem_map.mp hx
      have hr1 := hs _ _ (put_same (M := M) (p := r) (o := .dic (encSh (shares S.ws t))))
      simp only [aYes, Bool.and_self, at0, at1, at2, at3, aSeq, aNext, aIf, aFor, iaR1, iaR2, iaR3, iaS, iaL, gaN, aSl, aPart, aNoPart, aT, aOp, aV, aC, aRet, aRetN, aTup, aLst, aLstM, aCons, aNil, aAnd, aOr, aNot, aAndV, aOrV, aNotV, aSet, aAsg, aDrop, aCall, aFun, aUn, oAdd, addF, addC, oI, oIc, eqq_int, eqq_str, eqq_bl, neq_int, neq_str, neq_bl, oIsN, isNon, oNeg, oLen, lenF, lenC, oIx, ixF, ixC, oIn, inB, oSl, slF, slC, Option.bind_some, Option.map_some, true_and, L2.dq, L2.dr, L2.dl, L2.dd, both_some, opt_some, insAt_some, keyD, aFldC, aDPut, oDIn, aDGet, aDPop, aDGet1, aSetF, aDNew, aRaise, aMeth, oCat, oCatM, startA, List.map_cons, List.map_nil, List.length_cons, List.length_nil, List.replicate, List.cons_append, List.nil_append, List.getElem?_cons_zero, List.getElem?_cons_succ, List.set_cons_zero, List.set_cons_succ, Nat.reduceAdd, Nat.reduceSub, if_true, Bool.false_eq_true, if_false, frG, Option.join_some, hr1, eW]
      exact ⟨rfl, h⟩

noncomputable def bots (sh : Sh) : List Nat := sh.map fun e => e.2.2.toNat
noncomputable def spBack (C : Addr) (EC : Rk → Addr) (EJ : Addr) : SpA := fun ds M Q E => ∃ (p d1 d2 : Addr) (S : TS) (o : Option Str), ds = [.obj p, encN o] ∧ Tr C M p d1 d2 S ∧ Fit S ∧ match meant S o with
  | none => E (.ref (EC .noWheel)) M
  | some n => ∀ t, IsTree S.js n t → Grown S.js n t → Closed S.js t → t.length ≤ 100 → match S.js.find? (jamsD S.ws (shares S.ws t)) with
    | some _ => ∀ M', L2.Sub M M' → E (.ref EJ) M'
    | none => Q (.int (lcms (bots (shares S.ws t)) : Nat)) M
theorem lcm_step {c b : Nat} : ((c : Int).fdiv ((Int.gcd (c : Int) (b : Int) : Nat) : Int)) * (b : Int) = ((Nat.lcm c b : Nat) : Int) := by
  have e : Int.gcd (c : Int) (b : Int) = Nat.gcd c b := rfl
  rw [e, Int.fdiv_eq_ediv_of_nonneg _ (by omega), ← Int.natCast_ediv, ← Int.natCast_mul, Nat.div_mul_right_comm (Nat.gcd_dvd_left ..)]; rfl
theorem bots_ok {sh : Sh} (h : ∀ e ∈ sh, Small 100 e.2) : (∀ b ∈ bots sh, 0 < b) ∧ ∀ b ∈ bots sh, b ≤ 2 ^ (30 * 100) := by
  constructor
  · intro b hb
    obtain ⟨e, he, rfl⟩ := List.mem_map.mp hb
    have := (h e he).1
    omega
  · intro b hb
    obtain ⟨e, he, rfl⟩ := List.mem_map.mp hb
    have h2 := (h e he).2.1
    have e1 : ((2 ^ (30 * 100) : Nat) : Int) = (2 : Int) ^ (30 * 100) := by rw [Int.natCast_pow]; rfl
    generalize (2 : Nat) ^ (30 * 100) = z at e1 ⊢
    omega
theorem ok_back_after {f C EJ : Addr} {fd : FuncData} {EC : Rk → Addr} (Fn : FunD K "back_after" "back_after" s_back_after f fd) (hs : base.NoSeer) (ht : P.given.tree = none) (h_greatest_divisor : Has P w K mg base (CXE P w) 1 "greatest_divisor" ["one", "other"] (liftS K spGcd))
    (h_free_shares : Has P w K mg base (CXE P w) 44 "free_shares" ["train", "name"] (liftS K (spFree C EC EJ))) : FnOk P w K mg base (CXE P w) 45 f fd ["train", "name"] (liftS K (spBack C EC EJ)) := by
  refine Fn.okA sc_back_after (fun ds M Q E h => ?_) ?_
  · obtain ⟨_, _, _, _, _, rfl, _⟩ := h; rfl
  intro cdv A outer s H E F0 ds M Q Ea hr ct hsp
  obtain ⟨p, d1, d2, S, o, rfl, tr, fit, q⟩ := hsp
  have bd : BigDiv ((cxOf (CXE P w) P w K mg base ["train", "name", "count", "share", "bottom"] "back_after" (defScope s_back_after) f cdv A outer s H E).by (rE E)) := ⟨hs, ht, rfl, rfl, rfl, by have := hr.dp; show A.depth + 1 + 100 < _; have e : (A.deeper (envOfC "back_after" (defScope s_back_after) s.heap.objs.size f cdv)).depth = A.depth + 1 := rfl; rw [e] at this; omega⟩
  refine ⟨_, (ssCons (sSet (i := 2) sc_back_after.nd rfl (Or.inl rfl) paI)
      (ssCons (sFor ct (iValues (paFun h_free_shares (hr.mono (by decide)) (by rfl) ct (aaCons (paV (pv 0)) (aaCons (paV (pv 1)) aaNil)))) (tgName (i := 3) sc_back_after.nd rfl (Or.inl rfl))
        (ssCons (sSet (i := 4) sc_back_after.nd rfl (Or.inl rfl) (paIx ix_seq lIx (paV (pv 3)) paI (fun _ _ => rfl)))
        (ssOne (sSet (i := 2) sc_back_after.nd rfl (Or.inl rfl) (paOp op_mulB lMul (paOp (op_fdivB bd) lDivB (paV (pv 2)) (paFun h_greatest_divisor (hr.mono (by decide)) (by rfl) ct (aaCons (paV (pv 2)) (aaCons (paV (pv 4)) aaNil)))) (paV (pv 4)))))))
      (ssOne (sRet (paV (pv 2)))))), ?_⟩
  refine seqV (.int 1) M (fun R h => h) ?_
  refine ⟨p, d1, d2, S, o, rfl, tr, fit, ?_⟩
  cases hm : meant S o with
  | none => rw [hm] at q; exact q
  | some n =>
    rw [hm] at q
    intro t ist gr cl hl
    have q := q t ist gr cl hl
    cases hf : S.js.find? (jamsD S.ws (shares S.ws t)) with
    | some j => rw [hf] at q; exact q
    | none =>
      rw [hf] at q
      intro r hr0
      have hsm : ∀ e ∈ shares S.ws t, Small 100 e.2 := fun e he => (shares_small fit.teeth gr e he).up hl
      have hlen : (shares S.ws t).length ≤ 100 := by rw [shares_len]; exact hl
      clear hf
      generalize shares S.ws t = sh at q hsm hlen
      obtain ⟨b1, b2⟩ := bots_ok hsm
      dsimp only
      rw [put_same]
      dsimp only
      rw [del_put hr0]
      refine LoopP.by2 (fun i Γ M' => M' = M ∧ ∃ o3 o4, Γ = [some (.obj p), some (encN o), some (.int (lcms ((bots sh).take i) : Nat)), o3, o4]) ⟨rfl, _, _, rfl⟩ (fun _ _ _ _ => trivial) ?_ ?_
      · rintro E' i Γ M' hrt hi hnx ⟨rfl, o3, o4, rfl⟩
        dsimp only at hi
        have hi' : i < sh.length := by simpa [encSh] using hi
        have eit : L2.valAt (encSh sh) i = eF (sh[i]).2 := by
          unfold L2.valAt encSh
          rw [List.getElem?_map, List.getElem?_eq_getElem hi']; rfl
        have hbl : i < (bots sh).length := by unfold bots; rw [List.length_map]; exact hi'
        have hsn : lcms ((bots sh).take (i + 1)) = Nat.lcm (lcms ((bots sh).take i)) (bots sh)[i] := by
          rw [List.take_succ_eq_append_getElem hbl, lcms_snoc]
        have hb : (sh[i]).2.2 = (((bots sh)[i] : Nat) : Int) := by
          have := (hsm _ (List.getElem_mem hi')).1
          simp only [bots, List.getElem_map]
          omega
        have hc0 : 0 < lcms ((bots sh).take i) := lcms_pos fun b h => b1 b (List.mem_of_mem_take h)
        have hcl : lcms ((bots sh).take i) ≤ 2 ^ 300000 := by
          refine Nat.le_trans (lcms_le (m := 30 * 100) (fun b h => b2 b (List.mem_of_mem_take h)) fun b h => b1 b (List.mem_of_mem_take h)) (Nat.pow_le_pow_right (by decide) ?_)
          have : ((bots sh).take i).length ≤ 100 := by rw [List.length_take]; unfold bots; rw [List.length_map]; omega
          omega
        have hbl2 := b2 _ (List.getElem_mem hbl)
        have hb0 := b1 _ (List.getElem_mem hbl)
        show gaN _ (L2.valAt (encSh sh) i) _ _ _
        rw [eit]
        unfold eF
        rw [hb]
        generalize (bots sh)[i] = b at hsn hbl2 hb0
        generalize lcms ((bots sh).take i) = c at hsn hc0 hcl
        have hg : ((Int.gcd (c : Int) (b : Int) : Nat) : Int) ≠ 0 := by
          have : 0 < Nat.gcd c b := Nat.gcd_pos_of_pos_left _ hc0
          have e : Int.gcd (c : Int) (b : Int) = Nat.gcd c b := rfl
          omega
        simp only [aYes, Bool.and_self, at0, at1, at2, at3, aSeq, aNext, aIf, aFor, iaR1, iaR2, iaR3, iaS, iaL, gaN, aSl, aPart, aNoPart, aT, aOp, aV, aC, aRet, aRetN, aTup, aLst, aLstM, aCons, aNil, aAnd, aOr, aNot, aAndV, aOrV, aNotV, aSet, aAsg, aDrop, aCall, aFun, aUn, oAdd, addF, addC, oI, oIc, eqq_int, eqq_str, eqq_bl, neq_int, neq_str, neq_bl, oIsN, isNon, oNeg, oLen, lenF, lenC, oIx, ixF, ixC, oIn, inB, oSl, slF, slC, Option.bind_some, Option.map_some, true_and, L2.dq, L2.dr, L2.dl, L2.dd, both_some, opt_some, insAt_some, keyD, aFldC, aDPut, oDIn, aDGet, aDPop, aDGet1, aSetF, aDNew, aRaise, aMeth, oCat, oCatM, startA, List.map_cons, List.map_nil, List.length_cons, List.length_nil, List.replicate, List.cons_append, List.nil_append, List.getElem?_cons_zero, List.getElem?_cons_succ, List.set_cons_zero, List.set_cons_succ, Nat.reduceAdd, Nat.reduceSub, if_true, Bool.false_eq_true, if_false, spGcd]
        refine ⟨(c : Int), (b : Int), rfl, hg, ?_, ?_⟩
        · refine IntMulOk.of_bits (intBits_le_iff.mpr ?_) (intBits_le_iff.mpr ?_)
          · have e : ((c : Int).fdiv ((Int.gcd (c : Int) (b : Int) : Nat) : Int)) = ((c / Int.gcd (c : Int) (b : Int) : Nat) : Int) := by
              rw [Int.fdiv_eq_ediv_of_nonneg _ (by omega), ← Int.natCast_ediv]
            rw [e, Int.natAbs_natCast]
            exact Nat.lt_of_le_of_lt (Nat.le_trans (Nat.div_le_self ..) hcl) (Nat.pow_lt_pow_right (by decide) (by decide))
          · rw [Int.natAbs_natCast]
            exact Nat.lt_of_le_of_lt hbl2 (Nat.pow_lt_pow_right (by decide) (by decide))
        · rw [lcm_step, ← hsn]
          exact hnx _ _ ⟨rfl, _, _, rfl⟩
      · rintro Γ M' ⟨rfl, o3, o4, rfl⟩
        have el : (encSh sh).length = (bots sh).length := by unfold encSh bots; rw [List.length_map, List.length_map]
        dsimp only
        rw [el, List.take_length]
        exact .now q


theorem str_len (a b : Str) : (a ++ b).length = a.length + b.length := PySem.Str.length_append a b
theorem app_arr (l m : List Nat) : (⟨l.toArray⟩ : Str) ++ ⟨m.toArray⟩ = ⟨(l ++ m).toArray⟩ := by
  show Str.mk (l.toArray ++ m.toArray) = _
  simp
theorem one_len (c : Nat) : (⟨#[c]⟩ : Str).length = 1 := rfl
theorem letter_at (k : Nat) (h : k < 26) : atI ("abcdefghijklmnopqrstuvwxyz" : Str).cps.toList (k : Int) = some (97 + k) := by
  have e : ∀ k, k < 26 → ("abcdefghijklmnopqrstuvwxyz" : Str).cps.toList[k]? = some (97 + k) := by decide +kernel
  exact atI_nat (e k h)
theorem sl_a (j : Nat) (h : j < 7) : Txt.slice "aaaaaa" none (some (j : Int)) = ⟨(List.replicate j 97).toArray⟩ := by
  have : ∀ j : Nat, j < 7 → Txt.slice "aaaaaa" none (some (j : Int)) = ⟨(List.replicate j 97).toArray⟩ := by decide +kernel
  exact this j h
theorem sl_q (j : Nat) (h : j < 7) : Txt.slice "qqqqqq" none (some (j : Int)) = ⟨(List.replicate j 113).toArray⟩ := by
  have : ∀ j : Nat, j < 7 → Txt.slice "qqqqqq" none (some (j : Int)) = ⟨(List.replicate j 113).toArray⟩ := by decide +kernel
  exact this j h
noncomputable def spName : SpA := fun ds M Q _ => ∃ k s : Nat, ds = [.int k, .int s] ∧ Q (.str (wName s k)) M
theorem ok_law_name {f : Addr} {fd : FuncData} (Fn : Fun K "_law_name" "_law_name" s_law_name f fd) : FnOk P w K mg base (CXE P w) 1 f fd ["_law_k", "_law_spin"] (liftS K spName) := by
  refine Fn.okA sc_law_name (fun ds M Q E h => ?_) ?_
  · obtain ⟨a, b, rfl, _⟩ := h; rfl
  intro cdv A outer s H E F0 ds M Q Ea hr ct hsp
  obtain ⟨k, sp, rfl, q⟩ := hsp
  refine ⟨_, (ssCons (sSet (i := 2) sc_law_name.nd rfl (Or.inl rfl) paS)
      (ssCons (sSet (i := 3) sc_law_name.nd rfl (Or.inl rfl) (paIx ix_seq lIx (paV (pv 2)) (paOp op_mod lMod (paOp op_adds lAdd (paOp op_fdiv lDiv (paV (pv 0)) paI) (paV (pv 1))) paI) (fun _ _ => rfl)))
      (ssCons (sSet (i := 4) sc_law_name.nd rfl (Or.inl rfl) (paIx ix_seq lIx (paV (pv 2)) (paOp op_mod lMod (paOp op_adds lAdd (paV (pv 0)) (paV (pv 1))) paI) (fun _ _ => rfl)))
      (ssCons (sIf ((pwAnd (ptCmp (op_eqs (un64 ct)) lEq (paOp op_mod lMod (paV (pv 1)) paI) paI (nomark _)) (pwAnd1 (ptCmp op_lt lLt (paV (pv 0)) paI (nomark _))))).pt
        (ssOne (sRet (paV (pv 4))))
        ssNil)
      (ssCons (sIf (ptCmp (op_eqs (un64 ct)) lEq (paOp op_mod lMod (paV (pv 1)) paI) paI (nomark _))
        (ssOne (sRet (paOp op_adds lAdd (paV (pv 3)) (paV (pv 4)))))
        ssNil)
      (ssCons (sIf (ptCmp (op_eqs (un64 ct)) lEq (paOp op_mod lMod (paV (pv 1)) paI) paI (nomark _))
        (ssOne (sRet (paOp op_adds lAdd (paOp op_adds lAdd (paSl sl_all lSl paS poN (poS (paOp op_mod lMod (paV (pv 1)) paI))) (paV (pv 3))) (paV (pv 4)))))
        ssNil)
      (ssOne (sRet (paOp op_adds lAdd (paOp op_adds lAdd (paV (pv 3)) (paV (pv 4))) (paSl sl_all lSl paS poN (poS (paOp op_mod lMod (paOp op_adds lAdd (paV (pv 1)) (paV (pv 0))) paI)))))))))))), ?_⟩
  have e1 : ((k : Int) / 26 + (sp : Int)) % 26 = (((k / 26 + sp) % 26 : Nat) : Int) := by omega
  have e2 : ((k : Int) + (sp : Int)) % 26 = (((k + sp) % 26 : Nat) : Int) := by omega
  have e3 : (sp : Int) % 7 = ((sp % 7 : Nat) : Int) := by omega
  have e4 : ((sp : Int) + (k : Int)) % 7 = (((sp + k) % 7 : Nat) : Int) := by omega
  have hl : ∀ n, n ≤ 100 → n ≤ sizeLine := fun n h => k1000 (by omega)
  have h26 : ("abcdefghijklmnopqrstuvwxyz" : Str).length ≤ sizeLine := by decide +kernel
  have ha : ("aaaaaa" : Str).length ≤ sizeLine := by decide +kernel
  have hq : ("qqqqqq" : Str).length ≤ sizeLine := by decide +kernel
  by_cases h0 : sp % 3 = 0
  · have d0 : decide ((sp : Int) % 3 = 0) = true := decide_eq_true (by omega)
    by_cases hk : k < 26
    · have dk : decide ((k : Int) < 26) = true := decide_eq_true (by omega)
      simp only [aYes, Bool.and_self, at0, at1, at2, at3, aSeq, aNext, aIf, aFor, iaR1, iaR2, iaR3, iaS, iaL, gaN, aSl, aPart, aNoPart, aT, aOp, aV, aC, aRet, aRetN, aTup, aLst, aLstM, aCons, aNil, aAnd, aOr, aNot, aAndV, aOrV, aNotV, aSet, aAsg, aDrop, aCall, aFun, aUn, oAdd, addF, addC, oI, oIc, eqq_int, eqq_str, eqq_bl, neq_int, neq_str, neq_bl, oIsN, isNon, oNeg, oLen, lenF, lenC, oIx, ixF, ixC, oIn, inB, oSl, slF, slC, Option.bind_some, Option.map_some, true_and, L2.dq, L2.dr, L2.dl, L2.dd, both_some, opt_some, insAt_some, keyD, aFldC, aDPut, oDIn, aDGet, aDPop, aDGet1, aSetF, aDNew, aRaise, aMeth, oCat, oCatM, startA, List.map_cons, List.map_nil, List.length_cons, List.length_nil, List.replicate, List.cons_append, List.nil_append, List.getElem?_cons_zero, List.getElem?_cons_succ, List.set_cons_zero, List.set_cons_succ, Nat.reduceAdd, Nat.reduceSub, if_true, Bool.false_eq_true, if_false, e1, e2, letter_at _ (Nat.mod_lt _ (show 0 < 26 by decide)), d0, dk]
      have e : wName sp k = ⟨#[97 + (k + sp) % 26]⟩ := by unfold wName wNameL chL; rw [if_pos h0, if_pos hk]
      rw [e] at q
      exact ⟨⟨by decide, by decide⟩, by decide, h26, by decide, h26, by decide, .now q⟩
    · have dk : decide ((k : Int) < 26) = false := decide_eq_false (by omega)
      simp only [aYes, Bool.and_self, at0, at1, at2, at3, aSeq, aNext, aIf, aFor, iaR1, iaR2, iaR3, iaS, iaL, gaN, aSl, aPart, aNoPart, aT, aOp, aV, aC, aRet, aRetN, aTup, aLst, aLstM, aCons, aNil, aAnd, aOr, aNot, aAndV, aOrV, aNotV, aSet, aAsg, aDrop, aCall, aFun, aUn, oAdd, addF, addC, oI, oIc, eqq_int, eqq_str, eqq_bl, neq_int, neq_str, neq_bl, oIsN, isNon, oNeg, oLen, lenF, lenC, oIx, ixF, ixC, oIn, inB, oSl, slF, slC, Option.bind_some, Option.map_some, true_and, L2.dq, L2.dr, L2.dl, L2.dd, both_some, opt_some, insAt_some, keyD, aFldC, aDPut, oDIn, aDGet, aDPop, aDGet1, aSetF, aDNew, aRaise, aMeth, oCat, oCatM, startA, List.map_cons, List.map_nil, List.length_cons, List.length_nil, List.replicate, List.cons_append, List.nil_append, List.getElem?_cons_zero, List.getElem?_cons_succ, List.set_cons_zero, List.set_cons_succ, Nat.reduceAdd, Nat.reduceSub, if_true, Bool.false_eq_true, if_false, e1, e2, letter_at _ (Nat.mod_lt _ (show 0 < 26 by decide)), d0, dk]
      have e : wName sp k = ⟨#[97 + (k / 26 + sp) % 26]⟩ ++ ⟨#[97 + (k + sp) % 26]⟩ := by unfold wName wNameL chL chF; rw [if_pos h0, if_neg hk]; rfl
      rw [e] at q
      exact ⟨⟨by decide, by decide⟩, by decide, h26, by decide, h26, by decide, by decide, by rw [one_len, one_len]; exact hl _ (by decide), .now q⟩
  · have d0 : decide ((sp : Int) % 3 = 0) = false := decide_eq_false (by omega)
    by_cases h1 : sp % 3 = 1
    · have d1 : decide ((sp : Int) % 3 = 1) = true := decide_eq_true (by omega)
      simp only [aYes, Bool.and_self, at0, at1, at2, at3, aSeq, aNext, aIf, aFor, iaR1, iaR2, iaR3, iaS, iaL, gaN, aSl, aPart, aNoPart, aT, aOp, aV, aC, aRet, aRetN, aTup, aLst, aLstM, aCons, aNil, aAnd, aOr, aNot, aAndV, aOrV, aNotV, aSet, aAsg, aDrop, aCall, aFun, aUn, oAdd, addF, addC, oI, oIc, eqq_int, eqq_str, eqq_bl, neq_int, neq_str, neq_bl, oIsN, isNon, oNeg, oLen, lenF, lenC, oIx, ixF, ixC, oIn, inB, oSl, slF, slC, Option.bind_some, Option.map_some, true_and, L2.dq, L2.dr, L2.dl, L2.dd, both_some, opt_some, insAt_some, keyD, aFldC, aDPut, oDIn, aDGet, aDPop, aDGet1, aSetF, aDNew, aRaise, aMeth, oCat, oCatM, startA, List.map_cons, List.map_nil, List.length_cons, List.length_nil, List.replicate, List.cons_append, List.nil_append, List.getElem?_cons_zero, List.getElem?_cons_succ, List.set_cons_zero, List.set_cons_succ, Nat.reduceAdd, Nat.reduceSub, if_true, Bool.false_eq_true, if_false, e1, e2, e3, letter_at _ (Nat.mod_lt _ (show 0 < 26 by decide)), sl_a _ (Nat.mod_lt _ (show 0 < 7 by decide)), d0, d1]
      have e : wName sp k = ⟨(List.replicate (sp % 7) 97).toArray⟩ ++ ⟨#[97 + (k / 26 + sp) % 26]⟩ ++ ⟨#[97 + (k + sp) % 26]⟩ := by
        unfold wName wNameL chL chF; rw [if_neg h0, if_pos h1, app_arr, app_arr, List.append_assoc]; rfl
      rw [e] at q
      have hr1 : (⟨(List.replicate (sp % 7) 97).toArray⟩ : Str).length = sp % 7 := by simp [Str.length]
      exact ⟨⟨by decide, by decide⟩, by decide, h26, by decide, h26, by decide, by decide, by decide, by decide, ha, by rw [one_len, hr1]; exact hl _ (by omega), by rw [str_len, one_len, hr1, one_len]; exact hl _ (by omega), .now q⟩
    · have d1 : decide ((sp : Int) % 3 = 1) = false := decide_eq_false (by omega)
      simp only [aYes, Bool.and_self, at0, at1, at2, at3, aSeq, aNext, aIf, aFor, iaR1, iaR2, iaR3, iaS, iaL, gaN, aSl, aPart, aNoPart, aT, aOp, aV, aC, aRet, aRetN, aTup, aLst, aLstM, aCons, aNil, aAnd, aOr, aNot, aAndV, aOrV, aNotV, aSet, aAsg, aDrop, aCall, aFun, aUn, oAdd, addF, addC, oI, oIc, eqq_int, eqq_str, eqq_bl, neq_int, neq_str, neq_bl, oIsN, isNon, oNeg, oLen, lenF, lenC, oIx, ixF, ixC, oIn, inB, oSl, slF, slC, Option.bind_some, Option.map_some, true_and, L2.dq, L2.dr, L2.dl, L2.dd, both_some, opt_some, insAt_some, keyD, aFldC, aDPut, oDIn, aDGet, aDPop, aDGet1, aSetF, aDNew, aRaise, aMeth, oCat, oCatM, startA, List.map_cons, List.map_nil, List.length_cons, List.length_nil, List.replicate, List.cons_append, List.nil_append, List.getElem?_cons_zero, List.getElem?_cons_succ, List.set_cons_zero, List.set_cons_succ, Nat.reduceAdd, Nat.reduceSub, if_true, Bool.false_eq_true, if_false, e1, e2, e4, letter_at _ (Nat.mod_lt _ (show 0 < 26 by decide)), sl_q _ (Nat.mod_lt _ (show 0 < 7 by decide)), d0, d1]
      have e : wName sp k = ⟨#[97 + (k / 26 + sp) % 26]⟩ ++ ⟨#[97 + (k + sp) % 26]⟩ ++ ⟨(List.replicate ((sp + k) % 7) 113).toArray⟩ := by
        unfold wName wNameL chL chF; rw [if_neg h0, if_neg h1, app_arr, app_arr]; rfl
      rw [e] at q
      have hr1 : (⟨(List.replicate ((sp + k) % 7) 113).toArray⟩ : Str).length = (sp + k) % 7 := by simp [Str.length]
      exact ⟨⟨by decide, by decide⟩, by decide, h26, by decide, h26, by decide, by decide, by decide, by rw [one_len, one_len]; exact hl _ (by decide), by decide, hq, by rw [str_len, one_len, one_len, hr1]; exact hl _ (by omega), .now q⟩
noncomputable def spTeeth : SpA := fun ds M Q _ => ∃ a b : Int, ds = [.int a, .int b] ∧ ∀ t : Int, 1 ≤ t → t < 1000000000 → Q (.int t) M
theorem ok_law_teeth {f : Addr} {fd : FuncData} (Fn : Fun K "_law_teeth" "_law_teeth" s_law_teeth f fd) : FnOk P w K mg base (CXE P w) 1 f fd ["_law_number", "_law_way"] (liftS K spTeeth) := by
  refine Fn.okA sc_law_teeth (fun ds M Q E h => ?_) ?_
  · obtain ⟨a, b, rfl, _⟩ := h; rfl
  intro cdv A outer s H E F0 ds M Q Ea hr ct hsp
  obtain ⟨a, b, rfl, q⟩ := hsp
  refine ⟨_, (ssCons (sIf (ptCmp (op_eqs (un64 ct)) lEq (paV (pv 1)) paI (nomark _))
        (ssOne (sRet (paOp op_adds lAdd paI (paOp op_mod lMod (paOp op_mulB lMul (paV (pv 0)) paI) paI))))
        ssNil)
      (ssCons (sIf (ptCmp (op_eqs (un64 ct)) lEq (paV (pv 1)) paI (nomark _))
        (ssOne (sRet (paOp op_adds lAdd paI (paOp op_mod lMod (paOp op_mod lMod (paOp op_mulB lMul (paV (pv 0)) paI) paI) paI))))
        ssNil)
      (ssCons (sIf (ptCmp (op_eqs (un64 ct)) lEq (paV (pv 1)) paI (nomark _))
        (ssOne (sRet (paOp op_adds lAdd paI (paOp op_mod lMod (paV (pv 0)) (paOp op_sub lSub (paOp op_pow lPow paI paI) paI)))))
        ssNil)
      (ssOne (sRet (paOp op_adds lAdd paI (paOp op_mod lMod (paV (pv 0)) paI))))))), ?_⟩
  have e9 : (10 : Int) ^ Int.toNat 9 - 1 = 999999999 := by decide
  simp only [aYes, Bool.and_self, at0, at1, at2, at3, aSeq, aNext, aIf, aFor, iaR1, iaR2, iaR3, iaS, iaL, gaN, aSl, aPart, aNoPart, aT, aOp, aV, aC, aRet, aRetN, aTup, aLst, aLstM, aCons, aNil, aAnd, aOr, aNot, aAndV, aOrV, aNotV, aSet, aAsg, aDrop, aCall, aFun, aUn, oAdd, addF, addC, oI, oIc, eqq_int, eqq_str, eqq_bl, neq_int, neq_str, neq_bl, oIsN, isNon, oNeg, oLen, lenF, lenC, oIx, ixF, ixC, oIn, inB, oSl, slF, slC, Option.bind_some, Option.map_some, true_and, L2.dq, L2.dr, L2.dl, L2.dd, both_some, opt_some, insAt_some, keyD, aFldC, aDPut, oDIn, aDGet, aDPop, aDGet1, aSetF, aDNew, aRaise, aMeth, oCat, oCatM, startA, List.map_cons, List.map_nil, List.length_cons, List.length_nil, List.replicate, List.cons_append, List.nil_append, List.getElem?_cons_zero, List.getElem?_cons_succ, List.set_cons_zero, List.set_cons_succ, Nat.reduceAdd, Nat.reduceSub, if_true, Bool.false_eq_true, if_false, e9]
  exact ite2 (fun _ => ⟨CMul.ok (.inr ⟨by decide, by decide⟩), by decide, .now (q _ (by omega) (by omega))⟩) fun _ => ite2 (fun _ => ⟨CMul.ok (.inr ⟨by decide, by decide⟩), by decide, by decide, .now (q _ (by omega) (by omega))⟩) fun _ =>
    ite2 (fun _ => ⟨⟨by decide, by decide, by decide⟩, by decide, .now (q _ (by omega) (by omega))⟩) fun _ => ⟨by decide, .now (q _ (by omega) (by omega))⟩

theorem kind_at (x : Int) : ∃ kd : Str, atI [D.str "mesh", .str "pin", .str "band", .str "cross"] (x % 4) = some (.str kd) ∧ isKind kd = true := by
  have h1 := Int.emod_nonneg x (show (4 : Int) ≠ 0 by decide)
  have h2 := Int.emod_lt_of_pos x (show (0 : Int) < 4 by decide)
  obtain ⟨t, ht, hm⟩ := at_map D.str ["mesh", "pin", "band", "cross"] (x % 4) h1 (by simpa using h2)
  refine ⟨t, ht, ?_⟩
  simp only [List.mem_cons, List.not_mem_nil, or_false] at hm
  rcases hm with rfl | rfl | rfl | rfl <;> decide +kernel
theorem at_nat (l : List D) (i : Nat) (h : i < l.length) : atI l (i : Int) = some l[i] := atI_nat (List.getElem?_eq_getElem h)
noncomputable def eK (j : Str × Nat × Nat) : D := .tup [.str j.1, .int j.2.1, .int j.2.2]
theorem map_snoc (l : List (Str × Nat × Nat)) (x : Str × Nat × Nat) : (l ++ [x]).map eK = l.map eK ++ [eK x] := by rw [List.map_append]; rfl
noncomputable def spRows : SpA := fun ds M Q _ => ∃ ns : List Int, ds = [.scr (ns.map D.int)] ∧ ns.length ≤ 100 ∧ ∀ s ws js, Rw s ws js → ws.length ≤ 60 → js.length ≤ 60 → Q (.lst [.lst (ws.map eW), .lst (js.map eK)]) M
theorem cut61_len (ds : List D) : (cut ds none (some 61)).length = min 61 ds.length := by
  unfold cut
  have e1 : HT.sIx ds.length 0 none = 0 := rfl
  have e2 : HT.sIx ds.length ds.length (some 61) = min 61 ds.length := by
    unfold HT.sIx
    simp
    try omega
  rw [e1, e2]
  simp
theorem ok_law_rows {f : Addr} {fd : FuncData} (Fn : Fun K "_law_rows" "_law_rows" s_law_rows f fd) (T : Txt K mg) (h_law_cell_at : Has P w K mg base (CXE P w) 1 "_law_cell_at" ["_law_script", "_law_k"] (liftS K spCell))
    (h_law_name : Has P w K mg base (CXE P w) 1 "_law_name" ["_law_k", "_law_spin"] (liftS K spName)) (h_law_teeth : Has P w K mg base (CXE P w) 1 "_law_teeth" ["_law_number", "_law_way"] (liftS K spTeeth)) :
    FnOk P w K mg base (CXE P w) 2 f fd ["_law_script"] (liftS K spRows) := by
  refine Fn.okA sc_law_rows (fun ds M Q E h => ?_) ?_
  · obtain ⟨a, rfl, _⟩ := h; rfl
  intro cdv A outer s H E F0 ds M Q Ea hr ct hsp
  obtain ⟨ns, rfl, hns, q⟩ := hsp
  refine ⟨_, (ssCons (sSet (i := 1) sc_law_rows.nd rfl (Or.inl rfl) (paLstM aaNil))
      (ssCons (sSet (i := 2) sc_law_rows.nd rfl (Or.inl rfl) (paLstM aaNil))
      (ssCons (sSet (i := 3) sc_law_rows.nd rfl (Or.inl rfl) (paFun h_law_cell_at (hr.mono (by decide)) (by rfl) ct (aaCons (paV (pv 0)) (aaCons paI aaNil))))
      (ssCons (sSet (i := 4) sc_law_rows.nd rfl (Or.inl rfl) (paLst (aaCons paS (aaCons paS (aaCons paS (aaCons paS aaNil))))))
      (ssCons (sFor ct (iRange2 rfl T.range (aaCons paI (aaCons (paCallB call_lens lLen (by rfl) T.len PySem.boot_len (aaCons (paSl sl_all lSl (paV (pv 0)) poN (poS paI)) aaNil)) aaNil))) (tgName (i := 5) sc_law_rows.nd rfl (Or.inl rfl))
        (ssCons (sSet (i := 6) sc_law_rows.nd rfl (Or.inl rfl) (paOp op_mod lMod (paIx ix_seq lIx (paV (pv 0)) (paV (pv 5)) (fun _ _ => rfl)) paI))
        (ssCons (sSet (i := 7) sc_law_rows.nd rfl (Or.inl rfl) (paOp op_fdiv lDiv (paIx ix_seq lIx (paV (pv 0)) (paV (pv 5)) (fun _ _ => rfl)) paI))
        (ssCons (sSet (i := 8) sc_law_rows.nd rfl (Or.inl rfl) (paIx ix_seq lIx (paV (pv 4)) (paOp op_mod lMod (paOp op_adds lAdd (paIx ix_seq lIx (paV (pv 0)) (paV (pv 5)) (fun _ _ => rfl)) (paV (pv 5))) paI) (fun _ _ => rfl)))
        (ssCons (sSet (i := 9) sc_law_rows.nd rfl (Or.inl rfl) (paCallB call_lens lLen (by rfl) T.len PySem.boot_len (aaCons (paV (pv 1)) aaNil)))
        (ssOne (sIf ((pwOr (ptCmp op_lt lLt (paV (pv 9)) paI (nomark _)) (pwOr1 (ptCmp op_lt lLt (paV (pv 6)) paI (nomark _))))).pt
          (ssCons (sExpr (paBM PySem.F.plainAttrs_list PySem.F.slot_list_append PySem.F.type_list_append mt_append lAppend (paV (pv 1)) (aaCons (paTup (aaCons (paFun h_law_name (hr.mono (by decide)) (by rfl) ct (aaCons (paV (pv 9)) (aaCons (paOp op_mod lMod (paOp op_fdiv lDiv (paV (pv 3)) paI) paI) aaNil))) (aaCons (paFun h_law_teeth (hr.mono (by decide)) (by rfl) ct (aaCons (paV (pv 7)) (aaCons (paOp op_mod lMod (paOp op_fdiv lDiv (paV (pv 3)) paI) paI) aaNil))) aaNil))) aaNil)))
          (ssCons (sSet (i := 10) sc_law_rows.nd rfl (Or.inl rfl) (paOp op_mod lMod (paOp op_adds lAdd (paV (pv 7)) (paOp op_mulB lMul (paV (pv 5)) (paV (pv 5)))) (paCallB (call_max2 rfl) lMax (by rfl) T.max boot_max (aaCons paI (aaCons (paV (pv 9)) aaNil)))))
          (ssOne (sIf ((pwAnd (ptCmp op_gt lGt (paV (pv 9)) paI (nomark _)) (pwAnd1 (ptCmp op_lt lLt (paV (pv 6)) paI (nomark _))))).pt
            (ssOne (sExpr (paBM PySem.F.plainAttrs_list PySem.F.slot_list_append PySem.F.type_list_append mt_append lAppend (paV (pv 2)) (aaCons (paIx ix_seq lIx (paLst (aaCons (paTup (aaCons (paV (pv 8)) (aaCons (paV (pv 10)) (aaCons (paV (pv 9)) aaNil)))) (aaCons (paTup (aaCons (paV (pv 8)) (aaCons (paV (pv 9)) (aaCons (paV (pv 10)) aaNil)))) aaNil))) (paOp op_mod lMod (paV (pv 7)) paI) (fun _ _ => rfl)) aaNil))))
            ssNil))))
          (ssCons (sSet (i := 10) sc_law_rows.nd rfl (Or.inl rfl) (paOp op_mod lMod (paV (pv 7)) (paV (pv 9))))
          (ssCons (sSet (i := 11) sc_law_rows.nd rfl (Or.inl rfl) (paOp op_mod lMod (paOp op_adds lAdd (paOp op_adds lAdd (paV (pv 10)) paI) (paOp op_mod lMod (paOp op_adds lAdd (paOp op_fdiv lDiv (paV (pv 7)) (paV (pv 9))) (paV (pv 5))) (paOp op_sub lSub (paV (pv 9)) paI))) (paV (pv 9))))
          (ssCons (sIf (ptCmp (op_eqs (un64 ct)) lEq (paOp op_mod lMod (paV (pv 3)) paI) paI (nomark _))
            (ssOne (sSet (i := 8) sc_law_rows.nd rfl (Or.inl rfl) paS))
            ssNil)
          (ssOne (sExpr (paBM PySem.F.plainAttrs_list PySem.F.slot_list_append PySem.F.type_list_append mt_append lAppend (paV (pv 2)) (aaCons (paTup (aaCons (paV (pv 8)) (aaCons (paV (pv 10)) (aaCons (paV (pv 11)) aaNil)))) aaNil))))))))))))))
      (ssOne (sRet (paLst (aaCons (paFz (paV (pv 1))) (aaCons (paFz (paV (pv 2))) aaNil)))))))))), ?_⟩
  simp only [aYes, Bool.and_self, at0, at1, at2, at3, aSeq, aNext, aIf, aFor, iaR1, iaR2, iaR3, iaS, iaL, gaN, aSl, aPart, aNoPart, aT, aOp, aV, aC, aRet, aRetN, aTup, aLst, aLstM, aCons, aNil, aAnd, aOr, aNot, aAndV, aOrV, aNotV, aSet, aAsg, aDrop, aCall, aFun, aUn, oAdd, addF, addC, oI, oIc, eqq_int, eqq_str, eqq_bl, neq_int, neq_str, neq_bl, oIsN, isNon, oNeg, oLen, lenF, lenC, oIx, ixF, ixC, oIn, inB, oSl, slF, slC, Option.bind_some, Option.map_some, true_and, L2.dq, L2.dr, L2.dl, L2.dd, both_some, opt_some, insAt_some, keyD, aFldC, aDPut, oDIn, aDGet, aDPop, aDGet1, aSetF, aDNew, aRaise, aMeth, oCat, oCatM, startA, List.map_cons, List.map_nil, List.length_cons, List.length_nil, List.replicate, List.cons_append, List.nil_append, List.getElem?_cons_zero, List.getElem?_cons_succ, List.set_cons_zero, List.set_cons_succ, Nat.reduceAdd, Nat.reduceSub, if_true, Bool.false_eq_true, if_false]
  refine ⟨Nat.zero_le _, fun p hp => ⟨Nat.zero_le _, fun r hr' => ?_⟩⟩
  have nrp : r ≠ p := by rintro rfl; rw [put_same] at hr'; cases hr'
  rw [put_ne nrp] at hr'
  simp only [spCell]
  refine ⟨ns, 0, rfl, by decide, ?_⟩
  generalize cell ns 0 = st
  obtain ⟨sp, hsp⟩ := Int.eq_ofNat_of_zero_le (Int.emod_nonneg (st / 2) (show (78 : Int) ≠ 0 by decide))
  simp only [cut61_len, List.length_map]
  refine ⟨by decide, ⟨by decide, by decide, by omega, by omega⟩, ?_⟩
  refine LoopP.by2 (fun i Γ M' => ∃ (ws : List (Str × Int)) (js : List (Str × Nat × Nat)) (o5 o6 o7 o8 o9 o10 o11 : Option D), Γ = [some (.scr (ns.map D.int)), some (.obj p), some (.obj r), some (.int st), some (.lst [.str "mesh", .str "pin", .str "band", .str "cross"]), o5, o6, o7, o8, o9, o10, o11] ∧ M' = put (put M p (.lst (ws.map eW))) r (.lst (js.map eK)) ∧ Rw sp ws js ∧ ws.length ≤ i ∧ js.length ≤ i)
    ⟨[], [], _, _, _, _, _, _, _, rfl, rfl, Rw.nil sp, Nat.zero_le _, Nat.zero_le _⟩ (fun _ _ _ _ => trivial) ?_ ?_
  · rintro E' i Γ M' hrt hi hnx ⟨ws, js, o5, o6, o7, o8, o9, o10, o11, rfl, rfl, rw', hw, hj⟩
    dsimp only at hi
    have hi2 : 1 + i < ns.length := by omega
    have ex : ∃ x, atI (ns.map D.int) (1 + (i : Int)) = some (.int x) := by
      have ek : (1 : Int) + (i : Int) = ((1 + i : Nat) : Int) := by omega
      rw [ek, at_nat _ _ (by simpa using hi2)]
      exact ⟨_, by rw [List.getElem_map]⟩
    obtain ⟨x, ex⟩ := ex
    have np : p ≠ r := nrp.symm
    obtain ⟨kd, hkd, hkd2⟩ := kind_at (x + (1 + (i : Int)))
    refine seqV (.int (x % 12)) _ (fun R h => by simp only [aYes, Bool.and_self, at0, at1, at2, at3, aSeq, aNext, aIf, aFor, iaR1, iaR2, iaR3, iaS, iaL, gaN, aSl, aPart, aNoPart, aT, aOp, aV, aC, aRet, aRetN, aTup, aLst, aLstM, aCons, aNil, aAnd, aOr, aNot, aAndV, aOrV, aNotV, aSet, aAsg, aDrop, aCall, aFun, aUn, oAdd, addF, addC, oI, oIc, eqq_int, eqq_str, eqq_bl, neq_int, neq_str, neq_bl, oIsN, isNon, oNeg, oLen, lenF, lenC, oIx, ixF, ixC, oIn, inB, oSl, slF, slC, Option.bind_some, Option.map_some, true_and, L2.dq, L2.dr, L2.dl, L2.dd, both_some, opt_some, insAt_some, keyD, aFldC, aDPut, oDIn, aDGet, aDPop, aDGet1, aSetF, aDNew, aRaise, aMeth, oCat, oCatM, startA, List.map_cons, List.map_nil, List.length_cons, List.length_nil, List.replicate, List.cons_append, List.nil_append, List.getElem?_cons_zero, List.getElem?_cons_succ, List.set_cons_zero, List.set_cons_succ, Nat.reduceAdd, Nat.reduceSub, if_true, Bool.false_eq_true, if_false, ex]; exact ⟨by decide, h⟩) (seqV (.int (x / 12)) _ (fun R h => by simp only [aYes, Bool.and_self, at0, at1, at2, at3, aSeq, aNext, aIf, aFor, iaR1, iaR2, iaR3, iaS, iaL, gaN, aSl, aPart, aNoPart, aT, aOp, aV, aC, aRet, aRetN, aTup, aLst, aLstM, aCons, aNil, aAnd, aOr, aNot, aAndV, aOrV, aNotV, aSet, aAsg, aDrop, aCall, aFun, aUn, oAdd, addF, addC, oI, oIc, eqq_int, eqq_str, eqq_bl, neq_int, neq_str, neq_bl, oIsN, isNon, oNeg, oLen, lenF, lenC, oIx, ixF, ixC, oIn, inB, oSl, slF, slC, Option.bind_some, Option.map_some, true_and, L2.dq, L2.dr, L2.dl, L2.dd, both_some, opt_some, insAt_some, keyD, aFldC, aDPut, oDIn, aDGet, aDPop, aDGet1, aSetF, aDNew, aRaise, aMeth, oCat, oCatM, startA, List.map_cons, List.map_nil, List.length_cons, List.length_nil, List.replicate, List.cons_append, List.nil_append, List.getElem?_cons_zero, List.getElem?_cons_succ, List.set_cons_zero, List.set_cons_succ, Nat.reduceAdd, Nat.reduceSub, if_true, Bool.false_eq_true, if_false, ex]; exact ⟨⟨by decide, by decide⟩, h⟩) (seqV (.str kd) _ (fun R h => by simp only [aYes, Bool.and_self, at0, at1, at2, at3, aSeq, aNext, aIf, aFor, iaR1, iaR2, iaR3, iaS, iaL, gaN, aSl, aPart, aNoPart, aT, aOp, aV, aC, aRet, aRetN, aTup, aLst, aLstM, aCons, aNil, aAnd, aOr, aNot, aAndV, aOrV, aNotV, aSet, aAsg, aDrop, aCall, aFun, aUn, oAdd, addF, addC, oI, oIc, eqq_int, eqq_str, eqq_bl, neq_int, neq_str, neq_bl, oIsN, isNon, oNeg, oLen, lenF, lenC, oIx, ixF, ixC, oIn, inB, oSl, slF, slC, Option.bind_some, Option.map_some, true_and, L2.dq, L2.dr, L2.dl, L2.dd, both_some, opt_some, insAt_some, keyD, aFldC, aDPut, oDIn, aDGet, aDPop, aDGet1, aSetF, aDNew, aRaise, aMeth, oCat, oCatM, startA, List.map_cons, List.map_nil, List.length_cons, List.length_nil, List.replicate, List.cons_append, List.nil_append, List.getElem?_cons_zero, List.getElem?_cons_succ, List.set_cons_zero, List.set_cons_succ, Nat.reduceAdd, Nat.reduceSub, if_true, Bool.false_eq_true, if_false, ex, hkd]; exact ⟨by decide, h⟩) (seqV (.int ws.length) _ (fun R h => by simp only [aYes, Bool.and_self, at0, at1, at2, at3, aSeq, aNext, aIf, aFor, iaR1, iaR2, iaR3, iaS, iaL, gaN, aSl, aPart, aNoPart, aT, aOp, aV, aC, aRet, aRetN, aTup, aLst, aLstM, aCons, aNil, aAnd, aOr, aNot, aAndV, aOrV, aNotV, aSet, aAsg, aDrop, aCall, aFun, aUn, oAdd, addF, addC, oI, oIc, eqq_int, eqq_str, eqq_bl, neq_int, neq_str, neq_bl, oIsN, isNon, oNeg, oLen, lenF, lenC, oIx, ixF, ixC, oIn, inB, oSl, slF, slC, Option.bind_some, Option.map_some, true_and, L2.dq, L2.dr, L2.dl, L2.dd, both_some, opt_some, insAt_some, keyD, aFldC, aDPut, oDIn, aDGet, aDPop, aDGet1, aSetF, aDNew, aRaise, aMeth, oCat, oCatM, startA, List.map_cons, List.map_nil, List.length_cons, List.length_nil, List.replicate, List.cons_append, List.nil_append, List.getElem?_cons_zero, List.getElem?_cons_succ, List.set_cons_zero, List.set_cons_succ, Nat.reduceAdd, Nat.reduceSub, if_true, Bool.false_eq_true, if_false, put_ne np, put_same, List.length_map]; exact h) ?_)))
    simp only [List.set_cons_zero, List.set_cons_succ]
    by_cases hc : ws.length < 2 ∨ x % 12 < 11
    · refine ifV true (fun R h => ?_) ?_
      · simp only [aYes, Bool.and_self, at0, at1, at2, at3, aSeq, aNext, aIf, aFor, iaR1, iaR2, iaR3, iaS, iaL, gaN, aSl, aPart, aNoPart, aT, aOp, aV, aC, aRet, aRetN, aTup, aLst, aLstM, aCons, aNil, aAnd, aOr, aNot, aAndV, aOrV, aNotV, aSet, aAsg, aDrop, aCall, aFun, aUn, oAdd, addF, addC, oI, oIc, eqq_int, eqq_str, eqq_bl, neq_int, neq_str, neq_bl, oIsN, isNon, oNeg, oLen, lenF, lenC, oIx, ixF, ixC, oIn, inB, oSl, slF, slC, Option.bind_some, Option.map_some, true_and, L2.dq, L2.dr, L2.dl, L2.dd, both_some, opt_some, insAt_some, keyD, aFldC, aDPut, oDIn, aDGet, aDPop, aDGet1, aSetF, aDNew, aRaise, aMeth, oCat, oCatM, startA, List.map_cons, List.map_nil, List.length_cons, List.length_nil, List.replicate, List.cons_append, List.nil_append, List.getElem?_cons_zero, List.getElem?_cons_succ, List.set_cons_zero, List.set_cons_succ, Nat.reduceAdd, Nat.reduceSub, if_true, Bool.false_eq_true, if_false]
        refine ite2 (fun _ => h) fun h1 => ?_
        rw [decide_eq_true (hc.resolve_left fun z => h1 (decide_eq_true (by omega)))]; exact h
      rw [if_pos rfl]
      refine cut1 (fun Γ' M1 => Γ' = [some (.scr (ns.map D.int)), some (.obj p), some (.obj r), some (.int st), some (.lst [.str "mesh", .str "pin", .str "band", .str "cross"]), some (.int (1 + (i : Int))), some (.int (x % 12)), some (.int (x / 12)), some (.str kd), some (.int ws.length), o10, o11] ∧ ∃ t, M1 = put (put M p (.lst ((ws ++ [(wName sp ws.length, t)]).map eW))) r (.lst (js.map eK)) ∧ Rw sp (ws ++ [(wName sp ws.length, t)]) js) ?_ ?_
      · rintro Γ M1 ⟨rfl, t, rfl, rw2⟩
        have hlen : (ws ++ [(wName sp ws.length, t)]).length = ws.length + 1 := by simp
        have hmx : ∃ m : Nat, (if (ws.length : Int) > 1 then (ws.length : Int) else 1) = (m : Int) ∧ 0 < m ∧ (0 < ws.length → m = ws.length) := by
          by_cases h : ws.length ≤ 1
          · exact ⟨1, by rw [if_neg (by omega)]; rfl, by decide, fun _ => by omega⟩
          · exact ⟨ws.length, by rw [if_pos (by omega)], by omega, fun _ => rfl⟩
        obtain ⟨mx, emx, mx0, mx1⟩ := hmx
        obtain ⟨at', hat⟩ := Int.eq_ofNat_of_zero_le (Int.emod_nonneg (x / 12 + (1 + (i : Int)) * (1 + (i : Int))) (show (mx : Int) ≠ 0 by omega))
        have hat2 := Int.emod_lt_of_pos (x / 12 + (1 + (i : Int)) * (1 + (i : Int))) (show (0 : Int) < (mx : Int) by omega)
        rw [hat] at hat2
        refine seqV (.int (at' : Int)) _ (fun R h => by
          simp only [aYes, Bool.and_self, at0, at1, at2, at3, aSeq, aNext, aIf, aFor, iaR1, iaR2, iaR3, iaS, iaL, gaN, aSl, aPart, aNoPart, aT, aOp, aV, aC, aRet, aRetN, aTup, aLst, aLstM, aCons, aNil, aAnd, aOr, aNot, aAndV, aOrV, aNotV, aSet, aAsg, aDrop, aCall, aFun, aUn, oAdd, addF, addC, oI, oIc, eqq_int, eqq_str, eqq_bl, neq_int, neq_str, neq_bl, oIsN, isNon, oNeg, oLen, lenF, lenC, oIx, ixF, ixC, oIn, inB, oSl, slF, slC, Option.bind_some, Option.map_some, true_and, L2.dq, L2.dr, L2.dl, L2.dd, both_some, opt_some, insAt_some, keyD, aFldC, aDPut, oDIn, aDGet, aDPop, aDGet1, aSetF, aDNew, aRaise, aMeth, oCat, oCatM, startA, List.map_cons, List.map_nil, List.length_cons, List.length_nil, List.replicate, List.cons_append, List.nil_append, List.getElem?_cons_zero, List.getElem?_cons_succ, List.set_cons_zero, List.set_cons_succ, Nat.reduceAdd, Nat.reduceSub, if_true, Bool.false_eq_true, if_false, oMax, emx, hat]
          exact ⟨CMul.ok (.inr ⟨by omega, by omega⟩), by omega, h⟩) ?_
        simp only [List.set_cons_zero, List.set_cons_succ]
        by_cases hj2 : 0 < ws.length ∧ x % 12 < 10
        · refine ifV true (fun R h => ?_) ?_
          · simp only [aYes, Bool.and_self, at0, at1, at2, at3, aSeq, aNext, aIf, aFor, iaR1, iaR2, iaR3, iaS, iaL, gaN, aSl, aPart, aNoPart, aT, aOp, aV, aC, aRet, aRetN, aTup, aLst, aLstM, aCons, aNil, aAnd, aOr, aNot, aAndV, aOrV, aNotV, aSet, aAsg, aDrop, aCall, aFun, aUn, oAdd, addF, addC, oI, oIc, eqq_int, eqq_str, eqq_bl, neq_int, neq_str, neq_bl, oIsN, isNon, oNeg, oLen, lenF, lenC, oIx, ixF, ixC, oIn, inB, oSl, slF, slC, Option.bind_some, Option.map_some, true_and, L2.dq, L2.dr, L2.dl, L2.dd, both_some, opt_some, insAt_some, keyD, aFldC, aDPut, oDIn, aDGet, aDPop, aDGet1, aSetF, aDNew, aRaise, aMeth, oCat, oCatM, startA, List.map_cons, List.map_nil, List.length_cons, List.length_nil, List.replicate, List.cons_append, List.nil_append, List.getElem?_cons_zero, List.getElem?_cons_succ, List.set_cons_zero, List.set_cons_succ, Nat.reduceAdd, Nat.reduceSub, if_true, Bool.false_eq_true, if_false, decide_eq_true (show (0 : Int) < (ws.length : Int) by omega), decide_eq_true hj2.2]
            exact h
          rw [if_pos rfl]
          have hk : ∃ j : Str × Nat × Nat, atI [D.tup [.str kd, .int (at' : Int), .int (ws.length : Int)], .tup [.str kd, .int (ws.length : Int), .int (at' : Int)]] (x / 12 % 2) = some (eK j) ∧ Rw sp (ws ++ [(wName sp ws.length, t)]) (js ++ [j]) := by
            rcases Int.emod_two_eq (x / 12) with h0 | h0
            · exact ⟨(kd, at', ws.length), by rw [h0]; exact at0, rw2.join hkd2 (by omega) (by omega) (by omega)⟩
            · exact ⟨(kd, ws.length, at'), by rw [h0]; exact at1, rw2.join hkd2 (by omega) (by omega) (by omega)⟩
          obtain ⟨j, ej, rj⟩ := hk
          refine dropE .non (put (put M p (.lst ((ws ++ [(wName sp ws.length, t)]).map eW))) r (.lst ((js ++ [j]).map eK))) (fun R h => ?_) (hnx _ _ ⟨_, _, _, _, _, _, _, _, _, rfl, rfl, rj, by omega, by rw [List.length_append]; simp; omega⟩)
          simp only [aYes, Bool.and_self, at0, at1, at2, at3, aSeq, aNext, aIf, aFor, iaR1, iaR2, iaR3, iaS, iaL, gaN, aSl, aPart, aNoPart, aT, aOp, aV, aC, aRet, aRetN, aTup, aLst, aLstM, aCons, aNil, aAnd, aOr, aNot, aAndV, aOrV, aNotV, aSet, aAsg, aDrop, aCall, aFun, aUn, oAdd, addF, addC, oI, oIc, eqq_int, eqq_str, eqq_bl, neq_int, neq_str, neq_bl, oIsN, isNon, oNeg, oLen, lenF, lenC, oIx, ixF, ixC, oIn, inB, oSl, slF, slC, Option.bind_some, Option.map_some, true_and, L2.dq, L2.dr, L2.dl, L2.dd, both_some, opt_some, insAt_some, keyD, aFldC, aDPut, oDIn, aDGet, aDPop, aDGet1, aSetF, aDNew, aRaise, aMeth, oCat, oCatM, startA, List.map_cons, List.map_nil, List.length_cons, List.length_nil, List.replicate, List.cons_append, List.nil_append, List.getElem?_cons_zero, List.getElem?_cons_succ, List.set_cons_zero, List.set_cons_succ, Nat.reduceAdd, Nat.reduceSub, if_true, Bool.false_eq_true, if_false, aBM, kindD, put_same, oAppend, ej, put_put, List.length_map]
          refine ⟨by decide, by decide, by decide, by decide, by omega, ?_⟩
          rw [map_snoc] at h; exact h
        · refine ifV false (fun R h => ?_) ?_
          · simp only [aYes, Bool.and_self, at0, at1, at2, at3, aSeq, aNext, aIf, aFor, iaR1, iaR2, iaR3, iaS, iaL, gaN, aSl, aPart, aNoPart, aT, aOp, aV, aC, aRet, aRetN, aTup, aLst, aLstM, aCons, aNil, aAnd, aOr, aNot, aAndV, aOrV, aNotV, aSet, aAsg, aDrop, aCall, aFun, aUn, oAdd, addF, addC, oI, oIc, eqq_int, eqq_str, eqq_bl, neq_int, neq_str, neq_bl, oIsN, isNon, oNeg, oLen, lenF, lenC, oIx, ixF, ixC, oIn, inB, oSl, slF, slC, Option.bind_some, Option.map_some, true_and, L2.dq, L2.dr, L2.dl, L2.dd, both_some, opt_some, insAt_some, keyD, aFldC, aDPut, oDIn, aDGet, aDPop, aDGet1, aSetF, aDNew, aRaise, aMeth, oCat, oCatM, startA, List.map_cons, List.map_nil, List.length_cons, List.length_nil, List.replicate, List.cons_append, List.nil_append, List.getElem?_cons_zero, List.getElem?_cons_succ, List.set_cons_zero, List.set_cons_succ, Nat.reduceAdd, Nat.reduceSub, if_true, Bool.false_eq_true, if_false]
            refine ite2 (fun h1 => ?_) fun _ => h
            have h1 := of_decide_eq_true h1
            rw [decide_eq_false fun z => hj2 ⟨by omega, z⟩]; exact h
          rw [if_neg Bool.false_ne_true]
          exact hnx _ _ ⟨_, _, _, _, _, _, _, _, _, rfl, rfl, rw2, by omega, by omega⟩
      · intro rest hrest
        simp only [aYes, Bool.and_self, at0, at1, at2, at3, aSeq, aNext, aIf, aFor, iaR1, iaR2, iaR3, iaS, iaL, gaN, aSl, aPart, aNoPart, aT, aOp, aV, aC, aRet, aRetN, aTup, aLst, aLstM, aCons, aNil, aAnd, aOr, aNot, aAndV, aOrV, aNotV, aSet, aAsg, aDrop, aCall, aFun, aUn, oAdd, addF, addC, oI, oIc, eqq_int, eqq_str, eqq_bl, neq_int, neq_str, neq_bl, oIsN, isNon, oNeg, oLen, lenF, lenC, oIx, ixF, ixC, oIn, inB, oSl, slF, slC, Option.bind_some, Option.map_some, true_and, L2.dq, L2.dr, L2.dl, L2.dd, both_some, opt_some, insAt_some, keyD, aFldC, aDPut, oDIn, aDGet, aDPop, aDGet1, aSetF, aDNew, aRaise, aMeth, oCat, oCatM, startA, List.map_cons, List.map_nil, List.length_cons, List.length_nil, List.replicate, List.cons_append, List.nil_append, List.getElem?_cons_zero, List.getElem?_cons_succ, List.set_cons_zero, List.set_cons_succ, Nat.reduceAdd, Nat.reduceSub, if_true, Bool.false_eq_true, if_false, aBM, kindD, put_ne np, put_same, oAppend, spName, spTeeth]
        refine ⟨⟨by decide, by decide⟩, by decide, ws.length, sp, by rw [hsp], ⟨by decide, by decide⟩, by decide, _, _, rfl, fun t h1 h2 => ⟨by decide, by rw [List.length_map]; omega, hrest _ _ ⟨rfl, t, ?_, rw'.wheel h1 h2⟩⟩⟩
        rw [put_swap nrp, List.map_append]; rfl
    · have hc1 : 2 ≤ ws.length := Nat.le_of_not_lt fun z => hc (.inl z)
      refine ifV false (fun R h => ?_) ?_
      · simp only [aYes, Bool.and_self, at0, at1, at2, at3, aSeq, aNext, aIf, aFor, iaR1, iaR2, iaR3, iaS, iaL, gaN, aSl, aPart, aNoPart, aT, aOp, aV, aC, aRet, aRetN, aTup, aLst, aLstM, aCons, aNil, aAnd, aOr, aNot, aAndV, aOrV, aNotV, aSet, aAsg, aDrop, aCall, aFun, aUn, oAdd, addF, addC, oI, oIc, eqq_int, eqq_str, eqq_bl, neq_int, neq_str, neq_bl, oIsN, isNon, oNeg, oLen, lenF, lenC, oIx, ixF, ixC, oIn, inB, oSl, slF, slC, Option.bind_some, Option.map_some, true_and, L2.dq, L2.dr, L2.dl, L2.dd, both_some, opt_some, insAt_some, keyD, aFldC, aDPut, oDIn, aDGet, aDPop, aDGet1, aSetF, aDNew, aRaise, aMeth, oCat, oCatM, startA, List.map_cons, List.map_nil, List.length_cons, List.length_nil, List.replicate, List.cons_append, List.nil_append, List.getElem?_cons_zero, List.getElem?_cons_succ, List.set_cons_zero, List.set_cons_succ, Nat.reduceAdd, Nat.reduceSub, if_true, Bool.false_eq_true, if_false, decide_eq_false (show ¬ (ws.length : Int) < 2 by omega), decide_eq_false fun z => hc (.inr z)]
        exact h
      rw [if_neg Bool.false_ne_true]
      obtain ⟨at', hat⟩ := Int.eq_ofNat_of_zero_le (Int.emod_nonneg (x / 12) (show (ws.length : Int) ≠ 0 by omega))
      have hat2 := Int.emod_lt_of_pos (x / 12) (show (0 : Int) < (ws.length : Int) by omega)
      rw [hat] at hat2
      obtain ⟨u, hu⟩ := Int.eq_ofNat_of_zero_le (Int.emod_nonneg (x / 12 / (ws.length : Int) + (1 + (i : Int))) (show (ws.length : Int) - 1 ≠ 0 by omega))
      have hu2 := Int.emod_lt_of_pos (x / 12 / (ws.length : Int) + (1 + (i : Int))) (show (0 : Int) < (ws.length : Int) - 1 by omega)
      rw [hu] at hu2
      have hto : ((at' : Int) + 1 + (u : Int)) % (ws.length : Int) = (((at' + 1 + u) % ws.length : Nat) : Int) := by rw [Int.natCast_emod]; rfl
      have hne : at' ≠ (at' + 1 + u) % ws.length := by
        intro z
        by_cases hlt : at' + 1 + u < ws.length
        · rw [Nat.mod_eq_of_lt hlt] at z; omega
        · rw [Nat.mod_eq_sub_mod (by omega), Nat.mod_eq_of_lt (by omega)] at z; omega
      have hlt := Nat.mod_lt (at' + 1 + u) (show 0 < ws.length by omega)
      refine seqV (.int (at' : Int)) _ (fun R h => by
        simp only [aYes, Bool.and_self, at0, at1, at2, at3, aSeq, aNext, aIf, aFor, iaR1, iaR2, iaR3, iaS, iaL, gaN, aSl, aPart, aNoPart, aT, aOp, aV, aC, aRet, aRetN, aTup, aLst, aLstM, aCons, aNil, aAnd, aOr, aNot, aAndV, aOrV, aNotV, aSet, aAsg, aDrop, aCall, aFun, aUn, oAdd, addF, addC, oI, oIc, eqq_int, eqq_str, eqq_bl, neq_int, neq_str, neq_bl, oIsN, isNon, oNeg, oLen, lenF, lenC, oIx, ixF, ixC, oIn, inB, oSl, slF, slC, Option.bind_some, Option.map_some, true_and, L2.dq, L2.dr, L2.dl, L2.dd, both_some, opt_some, insAt_some, keyD, aFldC, aDPut, oDIn, aDGet, aDPop, aDGet1, aSetF, aDNew, aRaise, aMeth, oCat, oCatM, startA, List.map_cons, List.map_nil, List.length_cons, List.length_nil, List.replicate, List.cons_append, List.nil_append, List.getElem?_cons_zero, List.getElem?_cons_succ, List.set_cons_zero, List.set_cons_succ, Nat.reduceAdd, Nat.reduceSub, if_true, Bool.false_eq_true, if_false, hat]
        exact ⟨by omega, h⟩) (seqV (.int (((at' + 1 + u) % ws.length : Nat) : Int)) _ (fun R h => by
        simp only [aYes, Bool.and_self, at0, at1, at2, at3, aSeq, aNext, aIf, aFor, iaR1, iaR2, iaR3, iaS, iaL, gaN, aSl, aPart, aNoPart, aT, aOp, aV, aC, aRet, aRetN, aTup, aLst, aLstM, aCons, aNil, aAnd, aOr, aNot, aAndV, aOrV, aNotV, aSet, aAsg, aDrop, aCall, aFun, aUn, oAdd, addF, addC, oI, oIc, eqq_int, eqq_str, eqq_bl, neq_int, neq_str, neq_bl, oIsN, isNon, oNeg, oLen, lenF, lenC, oIx, ixF, ixC, oIn, inB, oSl, slF, slC, Option.bind_some, Option.map_some, true_and, L2.dq, L2.dr, L2.dl, L2.dd, both_some, opt_some, insAt_some, keyD, aFldC, aDPut, oDIn, aDGet, aDPop, aDGet1, aSetF, aDNew, aRaise, aMeth, oCat, oCatM, startA, List.map_cons, List.map_nil, List.length_cons, List.length_nil, List.replicate, List.cons_append, List.nil_append, List.getElem?_cons_zero, List.getElem?_cons_succ, List.set_cons_zero, List.set_cons_succ, Nat.reduceAdd, Nat.reduceSub, if_true, Bool.false_eq_true, if_false, hu, hto]
        exact ⟨⟨by omega, by omega⟩, by omega, by omega, h⟩) ?_)
      simp only [List.set_cons_zero, List.set_cons_succ]
      refine cut1 (fun Γ' M1 => M1 = put (put M p (.lst (ws.map eW))) r (.lst (js.map eK)) ∧ ∃ k' : Str, isKind k' = true ∧ Γ' = [some (.scr (ns.map D.int)), some (.obj p), some (.obj r), some (.int st), some (.lst [.str "mesh", .str "pin", .str "band", .str "cross"]), some (.int (1 + (i : Int))), some (.int (x % 12)), some (.int (x / 12)), some (.str k'), some (.int ws.length), some (.int (at' : Int)), some (.int (((at' + 1 + u) % ws.length : Nat) : Int))]) ?_ ?_
      · rintro Γ M1 ⟨rfl, k', hk', rfl⟩
        refine dropE .non (put (put M p (.lst (ws.map eW))) r (.lst ((js ++ [(k', at', (at' + 1 + u) % ws.length)]).map eK))) (fun R h => ?_) (hnx _ _ ⟨_, _, _, _, _, _, _, _, _, rfl, rfl, rw'.join hk' (by omega) hlt hne, by omega, by rw [List.length_append]; simp; omega⟩)
        simp only [aYes, Bool.and_self, at0, at1, at2, at3, aSeq, aNext, aIf, aFor, iaR1, iaR2, iaR3, iaS, iaL, gaN, aSl, aPart, aNoPart, aT, aOp, aV, aC, aRet, aRetN, aTup, aLst, aLstM, aCons, aNil, aAnd, aOr, aNot, aAndV, aOrV, aNotV, aSet, aAsg, aDrop, aCall, aFun, aUn, oAdd, addF, addC, oI, oIc, eqq_int, eqq_str, eqq_bl, neq_int, neq_str, neq_bl, oIsN, isNon, oNeg, oLen, lenF, lenC, oIx, ixF, ixC, oIn, inB, oSl, slF, slC, Option.bind_some, Option.map_some, true_and, L2.dq, L2.dr, L2.dl, L2.dd, both_some, opt_some, insAt_some, keyD, aFldC, aDPut, oDIn, aDGet, aDPop, aDGet1, aSetF, aDNew, aRaise, aMeth, oCat, oCatM, startA, List.map_cons, List.map_nil, List.length_cons, List.length_nil, List.replicate, List.cons_append, List.nil_append, List.getElem?_cons_zero, List.getElem?_cons_succ, List.set_cons_zero, List.set_cons_succ, Nat.reduceAdd, Nat.reduceSub, if_true, Bool.false_eq_true, if_false, aBM, kindD, put_same, oAppend, put_put, List.length_map]
        refine ⟨by decide, by omega, ?_⟩
        rw [map_snoc] at h; exact h
      · intro rest hrest
        simp only [aYes, Bool.and_self, at0, at1, at2, at3, aSeq, aNext, aIf, aFor, iaR1, iaR2, iaR3, iaS, iaL, gaN, aSl, aPart, aNoPart, aT, aOp, aV, aC, aRet, aRetN, aTup, aLst, aLstM, aCons, aNil, aAnd, aOr, aNot, aAndV, aOrV, aNotV, aSet, aAsg, aDrop, aCall, aFun, aUn, oAdd, addF, addC, oI, oIc, eqq_int, eqq_str, eqq_bl, neq_int, neq_str, neq_bl, oIsN, isNon, oNeg, oLen, lenF, lenC, oIx, ixF, ixC, oIn, inB, oSl, slF, slC, Option.bind_some, Option.map_some, true_and, L2.dq, L2.dr, L2.dl, L2.dd, both_some, opt_some, insAt_some, keyD, aFldC, aDPut, oDIn, aDGet, aDPop, aDGet1, aSetF, aDNew, aRaise, aMeth, oCat, oCatM, startA, List.map_cons, List.map_nil, List.length_cons, List.length_nil, List.replicate, List.cons_append, List.nil_append, List.getElem?_cons_zero, List.getElem?_cons_succ, List.set_cons_zero, List.set_cons_succ, Nat.reduceAdd, Nat.reduceSub, if_true, Bool.false_eq_true, if_false]
        refine ⟨by decide, ite2 (fun _ => hrest _ _ ⟨rfl, "band", by decide +kernel, rfl⟩) fun _ => hrest _ _ ⟨rfl, kd, hkd2, rfl⟩⟩
  · rintro Γ M' ⟨ws, js, o5, o6, o7, o8, o9, o10, o11, rfl, rfl, rw', hw, hj⟩
    have e1 : put (put M p (.lst (ws.map eW))) r (.lst (js.map eK)) p = some (.lst (ws.map eW)) := by rw [put_ne nrp.symm, put_same]
    have e2 : del (put (put M p (.lst (ws.map eW))) r (.lst (js.map eK))) p r = some (.lst (js.map eK)) := by rw [del_ne nrp, put_same]
    have e3 : del (del (put (put M p (.lst (ws.map eW))) r (.lst (js.map eK))) p) r = M := by
      funext y
      by_cases hy : y = r
      · subst hy; rw [del_same, hr']
      · rw [del_ne hy]
        by_cases hy2 : y = p
        · subst hy2; rw [del_same, hp]
        · rw [del_ne hy2, put_ne hy, put_ne hy2]
    simp only [aYes, Bool.and_self, at0, at1, at2, at3, aSeq, aNext, aIf, aFor, iaR1, iaR2, iaR3, iaS, iaL, gaN, aSl, aPart, aNoPart, aT, aOp, aV, aC, aRet, aRetN, aTup, aLst, aLstM, aCons, aNil, aAnd, aOr, aNot, aAndV, aOrV, aNotV, aSet, aAsg, aDrop, aCall, aFun, aUn, oAdd, addF, addC, oI, oIc, eqq_int, eqq_str, eqq_bl, neq_int, neq_str, neq_bl, oIsN, isNon, oNeg, oLen, lenF, lenC, oIx, ixF, ixC, oIn, inB, oSl, slF, slC, Option.bind_some, Option.map_some, true_and, L2.dq, L2.dr, L2.dl, L2.dd, both_some, opt_some, insAt_some, keyD, aFldC, aDPut, oDIn, aDGet, aDPop, aDGet1, aSetF, aDNew, aRaise, aMeth, oCat, oCatM, startA, List.map_cons, List.map_nil, List.length_cons, List.length_nil, List.replicate, List.cons_append, List.nil_append, List.getElem?_cons_zero, List.getElem?_cons_succ, List.set_cons_zero, List.set_cons_succ, Nat.reduceAdd, Nat.reduceSub, if_true, Bool.false_eq_true, if_false, aFz, e1, e2, e3]
    dsimp only at hw hj
    exact ⟨by decide, .now (q sp ws js rw' (by omega) (by omega))⟩


theorem Tr.n1 {C : Addr} {M : Mem} {p d1 d2 : Addr} {S : TS} (tr : Tr C M p d1 d2 S) : p ≠ d1 := by rintro rfl; have := tr.self; rw [tr.teeth] at this; cases this
theorem Tr.n2 {C : Addr} {M : Mem} {p d1 d2 : Addr} {S : TS} (tr : Tr C M p d1 d2 S) : p ≠ d2 := by rintro rfl; have := tr.self; rw [tr.join] at this; cases this
theorem Tr.wheel {C : Addr} {M : Mem} {p d1 d2 : Addr} {ws : List (Str × Int)} {js : List Jn} {nx : Int} (tr : Tr C M p d1 d2 ⟨ws, js, nx⟩) (w' : Str × Int) : Tr C (put M d1 (.dic (dW (ws ++ [w'])))) p d1 d2 ⟨ws ++ [w'], js, nx⟩ :=
  ⟨by rw [put_ne tr.n1]; exact tr.self, put_same, by rw [put_ne tr.ne.symm]; exact tr.join, tr.ne, tr.lt⟩
theorem Tr.pin {C : Addr} {M : Mem} {p d1 d2 : Addr} {S : TS} (tr : Tr C M p d1 d2 S) (k a b : Str) : Tr C (put (put M d2 (.dic (dJ (S.js ++ [(S.nx, k, a, b)])))) p (.ins C (fsT d1 d2 (S.nx + 1)))) p d1 d2 ⟨S.ws, S.js ++ [(S.nx, k, a, b)], S.nx + 1⟩ :=
  ⟨put_same, by rw [put_ne tr.n1.symm, put_ne tr.ne]; exact tr.teeth, by rw [put_ne tr.n2.symm, put_same], tr.ne, fun j hj => by
    rcases List.mem_append.mp hj with hj | hj
    · have := tr.lt j hj
      show j.1 < S.nx + 1
      omega
    · rw [List.mem_singleton.mp hj]
      show S.nx < S.nx + 1
      omega⟩
theorem no_put_wheel {d1 d2 : Addr} {n : Int} : (fsT d1 d2 n).lookup ("put_wheel" : Str) = none := rfl
theorem no_put_join {d1 d2 : Addr} {n : Int} : (fsT d1 d2 n).lookup ("put_join" : Str) = none := rfl
theorem has_iff (S : TS) (n : Str) : S.has n = decide (n ∈ S.ws.map Prod.fst) := by
  unfold TS.has
  rw [Bool.eq_iff_iff, List.any_eq_true, decide_eq_true_eq, List.mem_map]
  constructor
  · rintro ⟨x, hx, e⟩; exact ⟨x, hx, of_decide_eq_true e⟩
  · rintro ⟨x, hx, e⟩; exact ⟨x, hx, decide_eq_true e⟩
theorem refW_ok {S : TS} {n : Str} {t : Int} (h1 : isName n = true) (h2 : n ∉ S.ws.map Prod.fst) (h3 : 1 ≤ t) (h4 : t < 1000000000) (h5 : S.ws.length < 100) : refW S n t = none := by
  unfold refW
  rw [has_iff, decide_eq_false h2, h1, if_neg (by decide), if_neg (by decide), if_neg (by omega), if_neg (by omega)]
theorem refJ_ok {S : TS} {k a b : Str} (h1 : isKind k = true) (h2 : a ∈ S.ws.map Prod.fst) (h3 : b ∈ S.ws.map Prod.fst) (h4 : a ≠ b) (h5 : S.js.length < 200) : refJ S k a b = none := by
  unfold refJ
  rw [has_iff, has_iff, decide_eq_true h2, decide_eq_true h3, h1, if_neg (by decide), if_neg (by decide), if_neg h4, if_neg (by omega)]
theorem at_mem {ns : List Str} {i : Nat} (h : i < ns.length) : at_ ns i ∈ ns := by
  unfold at_; rw [List.getD_eq_getElem?_getD, List.getElem?_eq_getElem h]; exact List.getElem_mem h
noncomputable def tsOf (ws : List (Str × Int)) (js : List (Str × Nat × Nat)) : TS := ⟨ws, jsOf' (ws.map Prod.fst) js, js.length⟩
theorem row_at {ws : List (Str × Int)} {i : Nat} (h : i < ws.length) : atI (ws.map eW) (i : Int) = some (.tup [.str (at_ (ws.map Prod.fst) i), .int (ws[i]).2]) := by
  rw [at_nat _ _ (by simpa using h), List.getElem_map]
  unfold at_ eW
  rw [List.getD_eq_getElem?_getD, List.getElem?_map, List.getElem?_eq_getElem h]; rfl
noncomputable def spTrain (C : Addr) : SpA := fun ds M Q _ => ∃ (s : Nat) (ws : List (Str × Int)) (js : List (Str × Nat × Nat)), ds = [.lst (ws.map eW), .lst (js.map eK)] ∧ Rw s ws js ∧ ws.length ≤ 60 ∧ js.length ≤ 60 ∧ ∀ p d1 d2 M', L2.Sub M M' → Tr C M' p d1 d2 (tsOf ws js) → Q (.obj p) M'
theorem ok_law_train {f C : Addr} {fd : FuncData} {EC : Rk → Addr} (Fn : Fun K "_law_train" "_law_train" s_law_train f fd) (h_Train : HasC P w K mg base 1 "Train" C (spInit C))
    (h_put_wheel : HasM P w K mg base (CXE P w) 2 C "put_wheel" ["self", "name", "teeth"] (liftS K (spPutW C EC))) (h_put_join : HasM P w K mg base (CXE P w) 2 C "put_join" ["self", "kind", "one", "other"] (liftS K (spPutJ C EC))) :
    FnOk P w K mg base (CXE P w) 3 f fd ["_law_wheels", "_law_joins"] (liftS K (spTrain C)) := by
  refine Fn.okA sc_law_train (fun ds M Q E h => ?_) ?_
  · obtain ⟨_, _, _, rfl, _⟩ := h; rfl
  intro cdv A outer s H E F0 ds M Q Ea hr ct hsp
  obtain ⟨sp, ws, js, rfl, rw', hw, hj, q⟩ := hsp
  refine ⟨_, (ssCons (sSet (i := 2) sc_law_train.nd rfl (Or.inl rfl) (paMake h_Train (hr.mono (by decide)) (by rfl)))
      (ssCons (sFor ct (iList' (paV (pv 0))) (tgTup rfl (tgsCons (tgName (i := 3) sc_law_train.nd rfl (Or.inl rfl)) (tgsCons (tgName (i := 4) sc_law_train.nd rfl (Or.inl rfl)) tgsNil)))
        (ssOne (sExpr (paMeth h_put_wheel (hr.mono (by decide)) ct (paV (pv 2)) (aaCons (paV (pv 3)) (aaCons (paV (pv 4)) aaNil))))))
      (ssCons (sFor ct (iList' (paV (pv 1))) (tgTup rfl (tgsCons (tgName (i := 5) sc_law_train.nd rfl (Or.inl rfl)) (tgsCons (tgName (i := 6) sc_law_train.nd rfl (Or.inl rfl)) (tgsCons (tgName (i := 7) sc_law_train.nd rfl (Or.inl rfl)) tgsNil))))
        (ssOne (sExpr (paMeth h_put_join (hr.mono (by decide)) ct (paV (pv 2)) (aaCons (paV (pv 5)) (aaCons (paIx ix_seq lIx (paIx ix_seq lIx (paV (pv 0)) (paV (pv 6)) (fun _ _ => rfl)) paI (fun _ _ => rfl)) (aaCons (paIx ix_seq lIx (paIx ix_seq lIx (paV (pv 0)) (paV (pv 7)) (fun _ _ => rfl)) paI (fun _ _ => rfl)) aaNil)))))))
      (ssOne (sRet (paV (pv 2))))))), ?_⟩
  have nd := rw'.nodup (by omega)
  simp only [aYes, Bool.and_self, at0, at1, at2, at3, aSeq, aNext, aIf, aFor, iaR1, iaR2, iaR3, iaS, iaL, gaN, aSl, aPart, aNoPart, aT, aOp, aV, aC, aRet, aRetN, aTup, aLst, aLstM, aCons, aNil, aAnd, aOr, aNot, aAndV, aOrV, aNotV, aSet, aAsg, aDrop, aCall, aFun, aUn, oAdd, addF, addC, oI, oIc, eqq_int, eqq_str, eqq_bl, neq_int, neq_str, neq_bl, oIsN, isNon, oNeg, oLen, lenF, lenC, oIx, ixF, ixC, oIn, inB, oSl, slF, slC, Option.bind_some, Option.map_some, true_and, L2.dq, L2.dr, L2.dl, L2.dd, both_some, opt_some, insAt_some, keyD, aFldC, aDPut, oDIn, aDGet, aDPop, aDGet1, aSetF, aDNew, aRaise, aMeth, oCat, oCatM, startA, List.map_cons, List.map_nil, List.length_cons, List.length_nil, List.replicate, List.cons_append, List.nil_append, List.getElem?_cons_zero, List.getElem?_cons_succ, List.set_cons_zero, List.set_cons_succ, Nat.reduceAdd, Nat.reduceSub, if_true, Bool.false_eq_true, if_false, aMake, spInit]
  intro p hp
  refine ⟨p, rfl, put_same, fun d1 d2 h1 h2 n12 n1 n2 => ?_⟩
  rw [put_ne n1] at h1
  rw [put_ne n2] at h2
  have em : put (put (put (put M p (.ins C [])) d1 (.dic [])) d2 (.dic [])) p (.ins C (fsT d1 d2 0)) = put (put (put M d1 (.dic [])) d2 (.dic [])) p (.ins C (fsT d1 d2 0)) := by
    funext x
    by_cases hx : x = p
    · subst hx; rw [put_same, put_same]
    · rw [put_ne hx, put_ne hx]
      by_cases hx2 : x = d2
      · subst hx2; rw [put_same, put_same]
      · rw [put_ne hx2, put_ne hx2]
        by_cases hx1 : x = d1
        · subst hx1; rw [put_same, put_same]
        · rw [put_ne hx1, put_ne hx1, put_ne hx]
  rw [em]
  generalize hM0 : put (put (put M d1 (.dic [])) d2 (.dic [])) p (.ins C (fsT d1 d2 0)) = M0
  have tr0 : Tr C M0 p d1 d2 ⟨[], [], 0⟩ := by
    subst hM0
    exact ⟨put_same, by rw [put_ne n1, put_ne n12, put_same]; rfl, by rw [put_ne n2, put_same]; rfl, n12, fun _ h => (List.not_mem_nil h).elim⟩
  have far : ∀ x o, M x = some o → x ≠ p ∧ x ≠ d1 ∧ x ≠ d2 := by
    intro x o h
    refine ⟨fun z => ?_, fun z => ?_, fun z => ?_⟩
    · rw [z, hp] at h; cases h
    · rw [z, h1] at h; cases h
    · rw [z, h2] at h; cases h
  have sb0 : L2.Sub M M0 := by
    subst hM0
    intro x o h
    obtain ⟨a, b, c⟩ := far x o h
    rw [put_ne a, put_ne c, put_ne b]; exact h
  have sbW : ∀ {M1 : Mem} {o : MO}, L2.Sub M M1 → L2.Sub M (put M1 d1 o) := fun sb x o h => by rw [put_ne (far x o h).2.1]; exact sb x o h
  have sbJ : ∀ {M1 : Mem} {o o' : MO}, L2.Sub M M1 → L2.Sub M (put (put M1 d2 o) p o') := fun sb x o h => by rw [put_ne (far x o h).1, put_ne (far x o h).2.2]; exact sb x o h
  refine LoopP.by (fun i Γ M' => ∃ a b c d e, Γ = [some (.lst (ws.map eW)), some (.lst (js.map eK)), some (.obj p), a, b, c, d, e] ∧ L2.Sub M M' ∧ Tr C M' p d1 d2 ⟨ws.take i, [], 0⟩) ⟨_, _, _, _, _, rfl, sb0, tr0⟩ (fun _ _ _ _ => trivial) ?_ ?_
  · rintro i Γ M' hi ⟨a, b, c, d, e, rfl, sb, tr⟩
    dsimp only at hi
    have hi' : i < ws.length := by simpa using hi
    simp only [getD_map ws eW i hi', eW, gaTup, gaCons, gaNil, aYes, Bool.and_self, at0, at1, at2, at3, aSeq, aNext, aIf, aFor, iaR1, iaR2, iaR3, iaS, iaL, gaN, aSl, aPart, aNoPart, aT, aOp, aV, aC, aRet, aRetN, aTup, aLst, aLstM, aCons, aNil, aAnd, aOr, aNot, aAndV, aOrV, aNotV, aSet, aAsg, aDrop, aCall, aFun, aUn, oAdd, addF, addC, oI, oIc, eqq_int, eqq_str, eqq_bl, neq_int, neq_str, neq_bl, oIsN, isNon, oNeg, oLen, lenF, lenC, oIx, ixF, ixC, oIn, inB, oSl, slF, slC, Option.bind_some, Option.map_some, true_and, L2.dq, L2.dr, L2.dl, L2.dd, both_some, opt_some, insAt_some, keyD, aFldC, aDPut, oDIn, aDGet, aDPop, aDGet1, aSetF, aDNew, aRaise, aMeth, oCat, oCatM, startA, List.map_cons, List.map_nil, List.length_cons, List.length_nil, List.replicate, List.cons_append, List.nil_append, List.getElem?_cons_zero, List.getElem?_cons_succ, List.set_cons_zero, List.set_cons_succ, Nat.reduceAdd, Nat.reduceSub, if_true, Bool.false_eq_true, if_false, tr.self, no_put_wheel, spPutW]
    refine ⟨rfl, p, d1, d2, _, (ws[i]).1, (ws[i]).2, rfl, tr, ?_, ?_⟩
    · have := rw'.name (List.mem_map.mpr ⟨_, List.getElem_mem hi', rfl⟩)
      obtain ⟨k, _, e⟩ := this
      rw [e]
      have := (wNameL_len sp k).2
      show (wNameL sp k).length ≤ 1000
      omega
    · obtain ⟨k, hk, ek⟩ := rw'.name (List.mem_map.mpr ⟨_, List.getElem_mem hi', rfl⟩)
      have hn : (ws[i]).1 ∉ (ws.take i).map Prod.fst := by
        intro z
        obtain ⟨x, hx, ex⟩ := List.mem_map.mp z
        obtain ⟨j, hj', ej⟩ := List.getElem_of_mem hx
        rw [List.length_take] at hj'
        rw [List.getElem_take] at ej
        have P1 := List.pairwise_iff_getElem.mp nd j i (by simp; omega) (by simpa using hi') (by omega)
        rw [List.getElem_map, List.getElem_map] at P1
        exact P1 (by rw [ej, ex])
      have ht := rw'.teeth _ (List.getElem_mem hi')
      rw [refW_ok (by rw [ek]; exact isName_wName sp k) hn ht.1 ht.2 (by show (ws.take i).length < 100; rw [List.length_take]; omega)]
      refine ⟨hi, _, _, _, _, _, rfl, sbW sb, ?_⟩
      rw [List.take_succ_eq_append_getElem hi']
      exact tr.wheel _
  · rintro Γ M' ⟨a, b, c, d, e, rfl, sb, tr⟩
    have el : (ws.map eW).length = ws.length := List.length_map ..
    dsimp only at tr
    rw [el, List.take_length] at tr
    simp only [aYes, Bool.and_self, at0, at1, at2, at3, aSeq, aNext, aIf, aFor, iaR1, iaR2, iaR3, iaS, iaL, gaN, aSl, aPart, aNoPart, aT, aOp, aV, aC, aRet, aRetN, aTup, aLst, aLstM, aCons, aNil, aAnd, aOr, aNot, aAndV, aOrV, aNotV, aSet, aAsg, aDrop, aCall, aFun, aUn, oAdd, addF, addC, oI, oIc, eqq_int, eqq_str, eqq_bl, neq_int, neq_str, neq_bl, oIsN, isNon, oNeg, oLen, lenF, lenC, oIx, ixF, ixC, oIn, inB, oSl, slF, slC, Option.bind_some, Option.map_some, true_and, L2.dq, L2.dr, L2.dl, L2.dd, both_some, opt_some, insAt_some, keyD, aFldC, aDPut, oDIn, aDGet, aDPop, aDGet1, aSetF, aDNew, aRaise, aMeth, oCat, oCatM, startA, List.map_cons, List.map_nil, List.length_cons, List.length_nil, List.replicate, List.cons_append, List.nil_append, List.getElem?_cons_zero, List.getElem?_cons_succ, List.set_cons_zero, List.set_cons_succ, Nat.reduceAdd, Nat.reduceSub, if_true, Bool.false_eq_true, if_false]
    refine LoopP.by (fun i Γ M' => ∃ a b c d e, Γ = [some (.lst (ws.map eW)), some (.lst (js.map eK)), some (.obj p), a, b, c, d, e] ∧ L2.Sub M M' ∧ Tr C M' p d1 d2 (tsOf ws (js.take i))) ⟨_, _, _, _, _, rfl, sb, tr⟩ (fun _ _ _ _ => trivial) ?_ ?_
    · rintro i Γ M' hi ⟨a, b, c, d, e, rfl, sb, tr⟩
      dsimp only at hi
      have hi' : i < js.length := by simpa using hi
      obtain ⟨k1, k2, k3, k4⟩ := rw'.kinds _ (List.getElem_mem hi')
      simp only [getD_map js eK i hi', eK, gaTup, gaCons, gaNil, aYes, Bool.and_self, at0, at1, at2, at3, aSeq, aNext, aIf, aFor, iaR1, iaR2, iaR3, iaS, iaL, gaN, aSl, aPart, aNoPart, aT, aOp, aV, aC, aRet, aRetN, aTup, aLst, aLstM, aCons, aNil, aAnd, aOr, aNot, aAndV, aOrV, aNotV, aSet, aAsg, aDrop, aCall, aFun, aUn, oAdd, addF, addC, oI, oIc, eqq_int, eqq_str, eqq_bl, neq_int, neq_str, neq_bl, oIsN, isNon, oNeg, oLen, lenF, lenC, oIx, ixF, ixC, oIn, inB, oSl, slF, slC, Option.bind_some, Option.map_some, true_and, L2.dq, L2.dr, L2.dl, L2.dd, both_some, opt_some, insAt_some, keyD, aFldC, aDPut, oDIn, aDGet, aDPop, aDGet1, aSetF, aDNew, aRaise, aMeth, oCat, oCatM, startA, List.map_cons, List.map_nil, List.length_cons, List.length_nil, List.replicate, List.cons_append, List.nil_append, List.getElem?_cons_zero, List.getElem?_cons_succ, List.set_cons_zero, List.set_cons_succ, Nat.reduceAdd, Nat.reduceSub, if_true, Bool.false_eq_true, if_false, tr.self, no_put_join, spPutJ, row_at k2, row_at k3]
      refine ⟨rfl, p, d1, d2, _, _, _, _, rfl, tr, ?_⟩
      have hl : (ws.map Prod.fst).length = ws.length := List.length_map ..
      have m1 : at_ (ws.map Prod.fst) (js[i]).2.1 ∈ (tsOf ws (js.take i)).ws.map Prod.fst := by show _ ∈ ws.map Prod.fst; exact at_mem (by rw [hl]; exact k2)
      have m2 : at_ (ws.map Prod.fst) (js[i]).2.2 ∈ (tsOf ws (js.take i)).ws.map Prod.fst := by show _ ∈ ws.map Prod.fst; exact at_mem (by rw [hl]; exact k3)
      rw [refJ_ok k1 m1 m2 (fun z => k4 (at_inj nd (by rw [hl]; exact k2) (by rw [hl]; exact k3) z)) (by show (jsOf' _ (js.take i)).length < 200; unfold jsOf'; rw [List.length_mapIdx, List.length_take]; omega)]
      refine ⟨hi, _, _, _, _, _, rfl, sbJ sb, ?_⟩
      have e1 : tsOf ws (js.take (i + 1)) = ⟨(tsOf ws (js.take i)).ws, (tsOf ws (js.take i)).js ++ [((tsOf ws (js.take i)).nx, (js[i]).1, at_ (ws.map Prod.fst) (js[i]).2.1, at_ (ws.map Prod.fst) (js[i]).2.2)], (tsOf ws (js.take i)).nx + 1⟩ := by
        unfold tsOf
        rw [List.take_succ_eq_append_getElem hi', jsOf_snoc]
        simp [jsRow]
        omega
      rw [e1]
      exact tr.pin _ _ _
    · rintro Γ M' ⟨a, b, c, d, e, rfl, sb, tr⟩
      have el : (js.map eK).length = js.length := List.length_map ..
      dsimp only at tr
      rw [el, List.take_length] at tr
      exact .now (q p d1 d2 M' sb tr)


theorem ok_law_common {f : Addr} {fd : FuncData} (Fn : Fun K "_law_common" "_law_common" s_law_common f fd) (T : Txt K mg) : FnOk P w K mg base (CXE P w) 1 f fd ["_law_one", "_law_other"] (liftS K spGcd) := by
  refine Fn.okA sc_law_common (fun ds M Q E h => ?_) ?_
  · obtain ⟨a, b, rfl, _⟩ := h; rfl
  intro cdv A outer s H E F0 ds M Q Ea hr ct hsp
  obtain ⟨a, b, rfl, q⟩ := hsp
  refine ⟨_, (ssCons (sSet (i := 0) sc_law_common.nd rfl (Or.inl rfl) (paCallB call_abs lAbs (by rfl) T.abs boot_abs (aaCons (paV (pv 0)) aaNil)))
      (ssCons (sSet (i := 1) sc_law_common.nd rfl (Or.inl rfl) (paCallB call_abs lAbs (by rfl) T.abs boot_abs (aaCons (paV (pv 1)) aaNil)))
      (ssCons (sWhile ct (ptCmp op_gt lGt (paV (pv 1)) paI (nomark _))
        (ssOne (sPar (i := 0) (j := 1) rfl sc_law_common.nd rfl rfl (by decide) rfl rfl (aaCons (paV (pv 1)) (aaCons (paOp op_mod lMod (paV (pv 0)) (paV (pv 1))) aaNil)) rfl)))
      (ssOne (sRet (paV (pv 0))))))), ?_⟩
  simp only [aYes, Bool.and_self, at0, at1, at2, at3, aSeq, aNext, aIf, aFor, iaR1, iaR2, iaR3, iaS, iaL, gaN, aSl, aPart, aNoPart, aT, aOp, aV, aC, aRet, aRetN, aTup, aLst, aLstM, aCons, aNil, aAnd, aOr, aNot, aAndV, aOrV, aNotV, aSet, aAsg, aDrop, aCall, aFun, aUn, oAdd, addF, addC, oI, oIc, eqq_int, eqq_str, eqq_bl, neq_int, neq_str, neq_bl, oIsN, isNon, oNeg, oLen, lenF, lenC, oIx, ixF, ixC, oIn, inB, oSl, slF, slC, Option.bind_some, Option.map_some, true_and, L2.dq, L2.dr, L2.dl, L2.dd, both_some, opt_some, insAt_some, keyD, aFldC, aDPut, oDIn, aDGet, aDPop, aDGet1, aSetF, aDNew, aRaise, aMeth, oCat, oCatM, startA, List.map_cons, List.map_nil, List.length_cons, List.length_nil, List.replicate, List.cons_append, List.nil_append, List.getElem?_cons_zero, List.getElem?_cons_succ, List.set_cons_zero, List.set_cons_succ, Nat.reduceAdd, Nat.reduceSub, if_true, Bool.false_eq_true, if_false, oAbs, absE]
  refine ⟨fun m Γ M' => M' = M ∧ ∃ (d r : Nat), r = m ∧ Γ = [some (.int d), some (.int r)] ∧ Nat.gcd d r = Int.gcd a b, ⟨b.natAbs, rfl, a.natAbs, b.natAbs, rfl, rfl, rfl⟩, ?_⟩
  rintro m Γ M' ⟨rfl, d, r, rfl, rfl, hg⟩
  by_cases hr0 : r = 0
  · subst hr0
    refine cF (fun R h => ?_) ?_
    · simp only [aYes, Bool.and_self, at0, at1, at2, at3, aSeq, aNext, aIf, aFor, iaR1, iaR2, iaR3, iaS, iaL, gaN, aSl, aPart, aNoPart, aT, aOp, aV, aC, aRet, aRetN, aTup, aLst, aLstM, aCons, aNil, aAnd, aOr, aNot, aAndV, aOrV, aNotV, aSet, aAsg, aDrop, aCall, aFun, aUn, oAdd, addF, addC, oI, oIc, eqq_int, eqq_str, eqq_bl, neq_int, neq_str, neq_bl, oIsN, isNon, oNeg, oLen, lenF, lenC, oIx, ixF, ixC, oIn, inB, oSl, slF, slC, Option.bind_some, Option.map_some, true_and, L2.dq, L2.dr, L2.dl, L2.dd, both_some, opt_some, insAt_some, keyD, aFldC, aDPut, oDIn, aDGet, aDPop, aDGet1, aSetF, aDNew, aRaise, aMeth, oCat, oCatM, startA, List.map_cons, List.map_nil, List.length_cons, List.length_nil, List.replicate, List.cons_append, List.nil_append, List.getElem?_cons_zero, List.getElem?_cons_succ, List.set_cons_zero, List.set_cons_succ, Nat.reduceAdd, Nat.reduceSub, if_true, Bool.false_eq_true, if_false]; exact h
    · rw [← hg, Nat.gcd_zero_right] at q
      exact .now q
  · refine cT (fun R h => ?_) ?_
    · simp only [aYes, Bool.and_self, at0, at1, at2, at3, aSeq, aNext, aIf, aFor, iaR1, iaR2, iaR3, iaS, iaL, gaN, aSl, aPart, aNoPart, aT, aOp, aV, aC, aRet, aRetN, aTup, aLst, aLstM, aCons, aNil, aAnd, aOr, aNot, aAndV, aOrV, aNotV, aSet, aAsg, aDrop, aCall, aFun, aUn, oAdd, addF, addC, oI, oIc, eqq_int, eqq_str, eqq_bl, neq_int, neq_str, neq_bl, oIsN, isNon, oNeg, oLen, lenF, lenC, oIx, ixF, ixC, oIn, inB, oSl, slF, slC, Option.bind_some, Option.map_some, true_and, L2.dq, L2.dr, L2.dl, L2.dd, both_some, opt_some, insAt_some, keyD, aFldC, aDPut, oDIn, aDGet, aDPop, aDGet1, aSetF, aDNew, aRaise, aMeth, oCat, oCatM, startA, List.map_cons, List.map_nil, List.length_cons, List.length_nil, List.replicate, List.cons_append, List.nil_append, List.getElem?_cons_zero, List.getElem?_cons_succ, List.set_cons_zero, List.set_cons_succ, Nat.reduceAdd, Nat.reduceSub, if_true, Bool.false_eq_true, if_false, decide_eq_true (show (r : Int) > 0 by omega)]; exact h
    · simp only [aYes, Bool.and_self, at0, at1, at2, at3, aSeq, aNext, aIf, aFor, iaR1, iaR2, iaR3, iaS, iaL, gaN, aSl, aPart, aNoPart, aT, aOp, aV, aC, aRet, aRetN, aTup, aLst, aLstM, aCons, aNil, aAnd, aOr, aNot, aAndV, aOrV, aNotV, aSet, aAsg, aDrop, aCall, aFun, aUn, oAdd, addF, addC, oI, oIc, eqq_int, eqq_str, eqq_bl, neq_int, neq_str, neq_bl, oIsN, isNon, oNeg, oLen, lenF, lenC, oIx, ixF, ixC, oIn, inB, oSl, slF, slC, Option.bind_some, Option.map_some, true_and, L2.dq, L2.dr, L2.dl, L2.dd, both_some, opt_some, insAt_some, keyD, aFldC, aDPut, oDIn, aDGet, aDPop, aDGet1, aSetF, aDNew, aRaise, aMeth, oCat, oCatM, startA, List.map_cons, List.map_nil, List.length_cons, List.length_nil, List.replicate, List.cons_append, List.nil_append, List.getElem?_cons_zero, List.getElem?_cons_succ, List.set_cons_zero, List.set_cons_succ, Nat.reduceAdd, Nat.reduceSub, if_true, Bool.false_eq_true, if_false, aPar]
      exact ⟨by omega, d % r, Nat.mod_lt _ (by omega), r, d % r, rfl, by rw [Int.natCast_emod], gcd_step.trans hg⟩
noncomputable def eO : Option Fr → D | none => .non | some x => eF x
noncomputable def botO (ts : List (Option Fr)) : List Nat := ts.filterMap fun o => o.map fun x => x.2.toNat
theorem botO_snoc (ts : List (Option Fr)) (o : Option Fr) : botO (ts ++ [o]) = botO ts ++ (o.map fun x : Fr => x.2.toNat).toList := by
  unfold botO
  rw [List.filterMap_append]
  cases o <;> rfl
theorem gcds_snoc (l : List Nat) (a : Nat) : gcds (l ++ [a]) = Nat.gcd (gcds l) a := by unfold gcds; rw [List.foldl_append]; rfl
noncomputable def spLeast : SpA := fun ds M Q _ => ∃ (c : Nat) (ts : List (Option Fr)), ds = [.int c, .lst (ts.map eO)] ∧ 1 ≤ c ∧ (∀ x, some x ∈ ts → 1 ≤ x.2 ∧ x.2 ∣ (c : Int)) ∧ gcds ((botO ts).map fun b => c / b) = 1 ∧ Q (.bl true) M
theorem ok_law_least {f : Addr} {fd : FuncData} (Fn : Fun K "_law_least" "_law_least" s_law_least f fd) (hs : base.NoSeer) (ht : P.given.tree = none) (h_law_whole : Has P w K mg base (CXE P w) 1 "_law_whole" ["_law_found"] (liftS K spWhole)) (h_law_common : Has P w K mg base (CXE P w) 1 "_law_common" ["_law_one", "_law_other"] (liftS K spGcd)) :
    FnOk P w K mg base (CXE P w) 41 f fd ["_law_found", "_law_told"] (liftS K spLeast) := by
  refine Fn.okA sc_law_least (fun ds M Q E h => ?_) ?_
  · obtain ⟨a, b, rfl, _⟩ := h; rfl
  intro cdv A outer s H E F0 ds M Q Ea hr ct hsp
  obtain ⟨c, ts, rfl, hc, hx, hg, q⟩ := hsp
  have bd : BigDiv ((cxOf (CXE P w) P w K mg base ["_law_found", "_law_told", "_law_common_here", "_law_turned"] "_law_least" (defScope s_law_least) f cdv A outer s H E).by (rE E)) := ⟨hs, ht, rfl, rfl, rfl, by have := hr.dp; show A.depth + 1 + 100 < _; have e : (A.deeper (envOfC "_law_least" (defScope s_law_least) s.heap.objs.size f cdv)).depth = A.depth + 1 := rfl; rw [e] at this; omega⟩
  refine ⟨_, (ssCons (sIf ((pwOr (ptNot (ptV (paFun h_law_whole (hr.mono (by decide)) (by rfl) ct (aaCons (paV (pv 0)) aaNil)))) (pwOr1 (ptCmp op_lt lLt (paV (pv 0)) paI (nomark _))))).pt
        (ssOne (sRet paB))
        ssNil)
      (ssCons (sSet (i := 2) sc_law_least.nd rfl (Or.inl rfl) paI)
      (ssCons (sFor ct (iList' (paV (pv 1))) (tgName (i := 3) sc_law_least.nd rfl (Or.inl rfl))
        (ssOne (sIf (ptCmp op_notN lIsNot (paV (pv 3)) paN (nomark _))
          (ssCons (sIf (ptCmp (op_nes (un64 ct)) lNe (paOp op_mod lMod (paV (pv 0)) (paIx ix_seq lIx (paV (pv 3)) paI (fun _ _ => rfl))) paI (nomark _))
            (ssOne (sRet paB))
            ssNil)
          (ssOne (sSet (i := 2) sc_law_least.nd rfl (Or.inl rfl) (paFun h_law_common (hr.mono (by decide)) (by rfl) ct (aaCons (paV (pv 2)) (aaCons (paOp (op_fdivB bd) lDivB (paV (pv 0)) (paIx ix_seq lIx (paV (pv 3)) paI (fun _ _ => rfl))) aaNil))))))
          ssNil)))
      (ssOne (sRet (paCmp (op_eqs (un64 ct)) lEq (paV (pv 2)) paI (nomark _))))))), ?_⟩
  refine seqIfF (fun R h => ?_) ?_
  · simp only [aYes, Bool.and_self, at0, at1, at2, at3, aSeq, aNext, aIf, aFor, iaR1, iaR2, iaR3, iaS, iaL, gaN, aSl, aPart, aNoPart, aT, aOp, aV, aC, aRet, aRetN, aTup, aLst, aLstM, aCons, aNil, aAnd, aOr, aNot, aAndV, aOrV, aNotV, aSet, aAsg, aDrop, aCall, aFun, aUn, oAdd, addF, addC, oI, oIc, eqq_int, eqq_str, eqq_bl, neq_int, neq_str, neq_bl, oIsN, isNon, oNeg, oLen, lenF, lenC, oIx, ixF, ixC, oIn, inB, oSl, slF, slC, Option.bind_some, Option.map_some, true_and, L2.dq, L2.dr, L2.dl, L2.dd, both_some, opt_some, insAt_some, keyD, aFldC, aDPut, oDIn, aDGet, aDPop, aDGet1, aSetF, aDNew, aRaise, aMeth, oCat, oCatM, startA, List.map_cons, List.map_nil, List.length_cons, List.length_nil, List.replicate, List.cons_append, List.nil_append, List.getElem?_cons_zero, List.getElem?_cons_succ, List.set_cons_zero, List.set_cons_succ, Nat.reduceAdd, Nat.reduceSub, if_true, Bool.false_eq_true, if_false, spWhole]
    refine ⟨.int c, rfl, rfl, ?_⟩
    simp only [isInt, Bool.not_true, Bool.false_eq_true, if_false, decide_eq_false (show ¬ (c : Int) < 1 by omega)]
    exact h
  refine seqV (.int 0) M (fun R h => h) ?_
  refine forLs (d := .lst (ts.map eO)) (fun R h => h) rfl ?_
  refine LoopP.by2 (fun i Γ M' => M' = M ∧ ∃ o3, Γ = [some (.int c), some (.lst (ts.map eO)), some (.int (gcds ((botO (ts.take i)).map fun b => c / b) : Nat)), o3]) ⟨rfl, _, rfl⟩ (fun _ _ _ _ => rfl) ?_ ?_
  · rintro E' i Γ M' hrt hi hnx ⟨rfl, o3, rfl⟩
    dsimp only at hi
    have hi' : i < ts.length := by simpa using hi
    have hm := List.getElem_mem hi'
    have hsn := botO_snoc (ts.take i) ts[i]
    rw [← List.take_succ_eq_append_getElem hi'] at hsn
    have eit : (ts.map eO).getD i .non = eO ts[i] := getD_map ts eO i hi'
    show gaN _ ((ts.map eO).getD i .non) _ _ _
    rw [eit]
    generalize ts[i] = o at hm hsn
    cases o with
    | none =>
      refine ifV false (fun R h => h) ?_
      rw [if_neg Bool.false_ne_true]
      refine hnx _ _ ⟨rfl, some .non, ?_⟩
      rw [hsn]
      simp only [Option.map_none, Option.toList_none, List.append_nil]
      rfl
    | some x =>
      obtain ⟨x1, x2⟩ := hx x hm
      have hx0 : x.2 ≠ 0 := by omega
      refine ifV true (fun R h => h) ?_
      rw [if_pos rfl]
      have hd : decide ((c : Int) % x.2 = 0) = true := decide_eq_true (Int.emod_eq_zero_of_dvd x2)
      refine seqIfF (fun R h => ?_) ?_
      · simp only [aYes, Bool.and_self, at0, at1, at2, at3, aSeq, aNext, aIf, aFor, iaR1, iaR2, iaR3, iaS, iaL, gaN, aSl, aPart, aNoPart, aT, aOp, aV, aC, aRet, aRetN, aTup, aLst, aLstM, aCons, aNil, aAnd, aOr, aNot, aAndV, aOrV, aNotV, aSet, aAsg, aDrop, aCall, aFun, aUn, oAdd, addF, addC, oI, oIc, eqq_int, eqq_str, eqq_bl, neq_int, neq_str, neq_bl, oIsN, isNon, oNeg, oLen, lenF, lenC, oIx, ixF, ixC, oIn, inB, oSl, slF, slC, Option.bind_some, Option.map_some, true_and, L2.dq, L2.dr, L2.dl, L2.dd, both_some, opt_some, insAt_some, keyD, aFldC, aDPut, oDIn, aDGet, aDPop, aDGet1, aSetF, aDNew, aRaise, aMeth, oCat, oCatM, startA, List.map_cons, List.map_nil, List.length_cons, List.length_nil, List.replicate, List.cons_append, List.nil_append, List.getElem?_cons_zero, List.getElem?_cons_succ, List.set_cons_zero, List.set_cons_succ, Nat.reduceAdd, Nat.reduceSub, if_true, Bool.false_eq_true, if_false, eO, eF, hd, Bool.not_true]
        exact ⟨by omega, h⟩
      have ev : ((Int.gcd ((gcds ((botO (ts.take i)).map fun b => c / b) : Nat) : Int) ((c : Int).fdiv x.2) : Nat) : Int) = ((gcds ((botO (ts.take (i + 1))).map fun b => c / b) : Nat) : Int) := by
        rw [hsn]
        simp only [Option.map_some, Option.toList_some, List.map_append, List.map_cons, List.map_nil, gcds_snoc]
        obtain ⟨n, hn⟩ := Int.eq_ofNat_of_zero_le (show 0 ≤ x.2 by omega)
        rw [hn, Int.fdiv_eq_ediv_of_nonneg _ (by omega)]
        rfl
      refine setV (.int ((gcds ((botO (ts.take (i + 1))).map fun b => c / b) : Nat) : Int)) M' (fun R h => ?_) (hnx _ _ ⟨rfl, _, rfl⟩)
      simp only [aYes, Bool.and_self, at0, at1, at2, at3, aSeq, aNext, aIf, aFor, iaR1, iaR2, iaR3, iaS, iaL, gaN, aSl, aPart, aNoPart, aT, aOp, aV, aC, aRet, aRetN, aTup, aLst, aLstM, aCons, aNil, aAnd, aOr, aNot, aAndV, aOrV, aNotV, aSet, aAsg, aDrop, aCall, aFun, aUn, oAdd, addF, addC, oI, oIc, eqq_int, eqq_str, eqq_bl, neq_int, neq_str, neq_bl, oIsN, isNon, oNeg, oLen, lenF, lenC, oIx, ixF, ixC, oIn, inB, oSl, slF, slC, Option.bind_some, Option.map_some, true_and, L2.dq, L2.dr, L2.dl, L2.dd, both_some, opt_some, insAt_some, keyD, aFldC, aDPut, oDIn, aDGet, aDPop, aDGet1, aSetF, aDNew, aRaise, aMeth, oCat, oCatM, startA, List.map_cons, List.map_nil, List.length_cons, List.length_nil, List.replicate, List.cons_append, List.nil_append, List.getElem?_cons_zero, List.getElem?_cons_succ, List.set_cons_zero, List.set_cons_succ, Nat.reduceAdd, Nat.reduceSub, if_true, Bool.false_eq_true, if_false, eO, eF, spGcd]
      refine ⟨hx0, _, _, rfl, ?_⟩
      rw [ev]; exact h
  · rintro Γ M' ⟨rfl, o3, rfl⟩
    have el : (ts.map eO).length = ts.length := List.length_map ..
    dsimp only
    rw [el, List.take_length, hg]
    exact retV (.bl true) M' (fun R h => by simp only [aYes, Bool.and_self, at0, at1, at2, at3, aSeq, aNext, aIf, aFor, iaR1, iaR2, iaR3, iaS, iaL, gaN, aSl, aPart, aNoPart, aT, aOp, aV, aC, aRet, aRetN, aTup, aLst, aLstM, aCons, aNil, aAnd, aOr, aNot, aAndV, aOrV, aNotV, aSet, aAsg, aDrop, aCall, aFun, aUn, oAdd, addF, addC, oI, oIc, eqq_int, eqq_str, eqq_bl, neq_int, neq_str, neq_bl, oIsN, isNon, oNeg, oLen, lenF, lenC, oIx, ixF, ixC, oIn, inB, oSl, slF, slC, Option.bind_some, Option.map_some, true_and, L2.dq, L2.dr, L2.dl, L2.dd, both_some, opt_some, insAt_some, keyD, aFldC, aDPut, oDIn, aDGet, aDPop, aDGet1, aSetF, aDNew, aRaise, aMeth, oCat, oCatM, startA, List.map_cons, List.map_nil, List.length_cons, List.length_nil, List.replicate, List.cons_append, List.nil_append, List.getElem?_cons_zero, List.getElem?_cons_succ, List.set_cons_zero, List.set_cons_succ, Nat.reduceAdd, Nat.reduceSub, if_true, Bool.false_eq_true, if_false, Int.natCast_one, decide_true]; exact h) (.now q)
noncomputable def asks (S : TS) (x : Str) (wy : Int) : Prop := x ∈ S.ws.map Prod.fst ∧ (wy = 0 ∨ wy = 1 → (S.ws.map Prod.fst).head? = some x)
theorem asks.no {S : TS} {x : Str} {wy : Int} (h : asks S x wy) (h0 : wy = 0 ∨ wy = 1) : meant S none = some x := h.2 h0
theorem asks.yes {S : TS} {x : Str} {wy : Int} (h : asks S x wy) : meant S (some x) = some x := if_pos h.1
noncomputable def spAfter (C EJ : Addr) : SpA := fun ds M Q E => ∃ (p d1 d2 : Addr) (S : TS) (x : Str) (wy : Int), ds = [.obj p, .str x, .int wy] ∧ Tr C M p d1 d2 S ∧ Fit S ∧ asks S x wy ∧ ∀ t, IsTree S.js x t → Grown S.js x t → Closed S.js t → t.length ≤ 100 → match S.js.find? (jamsD S.ws (shares S.ws t)) with
    | some _ => ∀ M', L2.Sub M M' → E (.ref EJ) M'
    | none => Q (.int (lcms (bots (shares S.ws t)) : Nat)) M
noncomputable def spTurnsL (C EJ : Addr) : SpA := fun ds M Q E => ∃ (p d1 d2 : Addr) (S : TS) (x : Str) (wy : Int), ds = [.obj p, .str x, .int wy] ∧ Tr C M p d1 d2 S ∧ Fit S ∧ asks S x wy ∧ ∀ t, IsTree S.js x t → Grown S.js x t → Closed S.js t → t.length ≤ 100 → match S.js.find? (jamsD S.ws (shares S.ws t)) with
    | some _ => ∀ M', L2.Sub M M' → E (.ref EJ) M'
    | none => Q (.lst (told S.ws (shares S.ws t))) M
theorem ok_law_after {f C EJ : Addr} {fd : FuncData} {EC : Rk → Addr} (Fn : Fun K "_law_after" "_law_after" s_law_after f fd) (h_back_after : HasD P w K mg base 45 "back_after" ["train", "name"] (liftS K (spBack C EC EJ))) :
    FnOk P w K mg base (CXE P w) 46 f fd ["_law_train_here", "_law_name_here", "_law_way"] (liftS K (spAfter C EJ)) := by
  refine Fn.okA sc_law_after (fun ds M Q E h => ?_) ?_
  · obtain ⟨_, _, _, _, _, _, rfl, _⟩ := h; rfl
  intro cdv A outer s H E F0 ds M Q Ea hr ct hsp
  obtain ⟨p, d1, d2, S, x, wy, rfl, tr, fit, as, q⟩ := hsp
  refine ⟨_, (ssCons (sIf (ptCmp (op_eqs (un64 ct)) lEq (paV (pv 2)) paI (nomark _))
        (ssOne (sRet (paFunD h_back_after (hr.mono (by decide)) (by rfl) ct (aaCons (paV (pv 0)) aaNil))))
        ssNil)
      (ssCons (sIf (ptCmp (op_eqs (un64 ct)) lEq (paV (pv 2)) paI (nomark _))
        (ssOne (sRet (paFun h_back_after.all (hr.mono (by decide)) (by rfl) ct (aaCons (paV (pv 0)) (aaCons paN aaNil)))))
        ssNil)
      (ssOne (sRet (paFun h_back_after.all (hr.mono (by decide)) (by rfl) ct (aaCons (paV (pv 0)) (aaCons (paV (pv 1)) aaNil))))))), ?_⟩
  have key : ∀ o, meant S o = some x → spBack C EC EJ [.obj p, encN o] M (Rt Q) fun cls M' => Ea cls M' := by
    intro o ho
    refine ⟨p, d1, d2, S, o, rfl, tr, fit, ?_⟩
    rw [ho]
    intro t ist gr cl hl
    have q := q t ist gr cl hl
    revert q
    cases S.js.find? (jamsD S.ws (shares S.ws t)) with
    | none => exact fun q => .now q
    | some _ => exact fun q => q
  by_cases h0 : wy = 0
  · refine seqIfT (fun R h => by simp only [aYes, Bool.and_self, at0, at1, at2, at3, aSeq, aNext, aIf, aFor, iaR1, iaR2, iaR3, iaS, iaL, gaN, aSl, aPart, aNoPart, aT, aOp, aV, aC, aRet, aRetN, aTup, aLst, aLstM, aCons, aNil, aAnd, aOr, aNot, aAndV, aOrV, aNotV, aSet, aAsg, aDrop, aCall, aFun, aUn, oAdd, addF, addC, oI, oIc, eqq_int, eqq_str, eqq_bl, neq_int, neq_str, neq_bl, oIsN, isNon, oNeg, oLen, lenF, lenC, oIx, ixF, ixC, oIn, inB, oSl, slF, slC, Option.bind_some, Option.map_some, true_and, L2.dq, L2.dr, L2.dl, L2.dd, both_some, opt_some, insAt_some, keyD, aFldC, aDPut, oDIn, aDGet, aDPop, aDGet1, aSetF, aDNew, aRaise, aMeth, oCat, oCatM, startA, List.map_cons, List.map_nil, List.length_cons, List.length_nil, List.replicate, List.cons_append, List.nil_append, List.getElem?_cons_zero, List.getElem?_cons_succ, List.set_cons_zero, List.set_cons_succ, Nat.reduceAdd, Nat.reduceSub, if_true, Bool.false_eq_true, if_false, decide_eq_true h0]; exact h) ?_
    exact key none (as.no (.inl h0))
  refine seqIfF (fun R h => by simp only [aYes, Bool.and_self, at0, at1, at2, at3, aSeq, aNext, aIf, aFor, iaR1, iaR2, iaR3, iaS, iaL, gaN, aSl, aPart, aNoPart, aT, aOp, aV, aC, aRet, aRetN, aTup, aLst, aLstM, aCons, aNil, aAnd, aOr, aNot, aAndV, aOrV, aNotV, aSet, aAsg, aDrop, aCall, aFun, aUn, oAdd, addF, addC, oI, oIc, eqq_int, eqq_str, eqq_bl, neq_int, neq_str, neq_bl, oIsN, isNon, oNeg, oLen, lenF, lenC, oIx, ixF, ixC, oIn, inB, oSl, slF, slC, Option.bind_some, Option.map_some, true_and, L2.dq, L2.dr, L2.dl, L2.dd, both_some, opt_some, insAt_some, keyD, aFldC, aDPut, oDIn, aDGet, aDPop, aDGet1, aSetF, aDNew, aRaise, aMeth, oCat, oCatM, startA, List.map_cons, List.map_nil, List.length_cons, List.length_nil, List.replicate, List.cons_append, List.nil_append, List.getElem?_cons_zero, List.getElem?_cons_succ, List.set_cons_zero, List.set_cons_succ, Nat.reduceAdd, Nat.reduceSub, if_true, Bool.false_eq_true, if_false, decide_eq_false h0]; exact h) ?_
  by_cases h1 : wy = 1
  · refine seqIfT (fun R h => by simp only [aYes, Bool.and_self, at0, at1, at2, at3, aSeq, aNext, aIf, aFor, iaR1, iaR2, iaR3, iaS, iaL, gaN, aSl, aPart, aNoPart, aT, aOp, aV, aC, aRet, aRetN, aTup, aLst, aLstM, aCons, aNil, aAnd, aOr, aNot, aAndV, aOrV, aNotV, aSet, aAsg, aDrop, aCall, aFun, aUn, oAdd, addF, addC, oI, oIc, eqq_int, eqq_str, eqq_bl, neq_int, neq_str, neq_bl, oIsN, isNon, oNeg, oLen, lenF, lenC, oIx, ixF, ixC, oIn, inB, oSl, slF, slC, Option.bind_some, Option.map_some, true_and, L2.dq, L2.dr, L2.dl, L2.dd, both_some, opt_some, insAt_some, keyD, aFldC, aDPut, oDIn, aDGet, aDPop, aDGet1, aSetF, aDNew, aRaise, aMeth, oCat, oCatM, startA, List.map_cons, List.map_nil, List.length_cons, List.length_nil, List.replicate, List.cons_append, List.nil_append, List.getElem?_cons_zero, List.getElem?_cons_succ, List.set_cons_zero, List.set_cons_succ, Nat.reduceAdd, Nat.reduceSub, if_true, Bool.false_eq_true, if_false, decide_eq_true h1]; exact h) ?_
    exact key none (as.no (.inr h1))
  refine seqIfF (fun R h => by simp only [aYes, Bool.and_self, at0, at1, at2, at3, aSeq, aNext, aIf, aFor, iaR1, iaR2, iaR3, iaS, iaL, gaN, aSl, aPart, aNoPart, aT, aOp, aV, aC, aRet, aRetN, aTup, aLst, aLstM, aCons, aNil, aAnd, aOr, aNot, aAndV, aOrV, aNotV, aSet, aAsg, aDrop, aCall, aFun, aUn, oAdd, addF, addC, oI, oIc, eqq_int, eqq_str, eqq_bl, neq_int, neq_str, neq_bl, oIsN, isNon, oNeg, oLen, lenF, lenC, oIx, ixF, ixC, oIn, inB, oSl, slF, slC, Option.bind_some, Option.map_some, true_and, L2.dq, L2.dr, L2.dl, L2.dd, both_some, opt_some, insAt_some, keyD, aFldC, aDPut, oDIn, aDGet, aDPop, aDGet1, aSetF, aDNew, aRaise, aMeth, oCat, oCatM, startA, List.map_cons, List.map_nil, List.length_cons, List.length_nil, List.replicate, List.cons_append, List.nil_append, List.getElem?_cons_zero, List.getElem?_cons_succ, List.set_cons_zero, List.set_cons_succ, Nat.reduceAdd, Nat.reduceSub, if_true, Bool.false_eq_true, if_false, decide_eq_false h1]; exact h) ?_
  exact key (some x) as.yes
theorem ok_law_turns {f C EJ : Addr} {fd : FuncData} {EC : Rk → Addr} (Fn : Fun K "_law_turns" "_law_turns" s_law_turns f fd) (h_turns : HasD P w K mg base 45 "turns" ["train", "name"] (liftS K (spTurns C EC EJ))) :
    FnOk P w K mg base (CXE P w) 46 f fd ["_law_train_here", "_law_name_here", "_law_way"] (liftS K (spTurnsL C EJ)) := by
  refine Fn.okA sc_law_turns (fun ds M Q E h => ?_) ?_
  · obtain ⟨_, _, _, _, _, _, rfl, _⟩ := h; rfl
  intro cdv A outer s H E F0 ds M Q Ea hr ct hsp
  obtain ⟨p, d1, d2, S, x, wy, rfl, tr, fit, as, q⟩ := hsp
  refine ⟨_, (ssCons (sIf (ptCmp (op_eqs (un64 ct)) lEq (paV (pv 2)) paI (nomark _))
        (ssOne (sRet (paFun h_turns.all (hr.mono (by decide)) (by rfl) ct (aaCons (paV (pv 0)) (aaCons paN aaNil)))))
        ssNil)
      (ssOne (sRet (paFun h_turns.all (hr.mono (by decide)) (by rfl) ct (aaCons (paV (pv 0)) (aaCons (paV (pv 1)) aaNil)))))), ?_⟩
  have key : ∀ o, meant S o = some x → spTurns C EC EJ [.obj p, encN o] M (Rt Q) fun cls M' => Ea cls M' := by
    intro o ho
    refine ⟨p, d1, d2, S, o, rfl, tr, fit, ?_⟩
    rw [ho]
    intro t ist gr cl hl
    have q := q t ist gr cl hl
    revert q
    cases S.js.find? (jamsD S.ws (shares S.ws t)) with
    | none => exact fun q => .now q
    | some _ => exact fun q => q
  by_cases h1 : wy = 1
  · refine seqIfT (fun R h => by simp only [aYes, Bool.and_self, at0, at1, at2, at3, aSeq, aNext, aIf, aFor, iaR1, iaR2, iaR3, iaS, iaL, gaN, aSl, aPart, aNoPart, aT, aOp, aV, aC, aRet, aRetN, aTup, aLst, aLstM, aCons, aNil, aAnd, aOr, aNot, aAndV, aOrV, aNotV, aSet, aAsg, aDrop, aCall, aFun, aUn, oAdd, addF, addC, oI, oIc, eqq_int, eqq_str, eqq_bl, neq_int, neq_str, neq_bl, oIsN, isNon, oNeg, oLen, lenF, lenC, oIx, ixF, ixC, oIn, inB, oSl, slF, slC, Option.bind_some, Option.map_some, true_and, L2.dq, L2.dr, L2.dl, L2.dd, both_some, opt_some, insAt_some, keyD, aFldC, aDPut, oDIn, aDGet, aDPop, aDGet1, aSetF, aDNew, aRaise, aMeth, oCat, oCatM, startA, List.map_cons, List.map_nil, List.length_cons, List.length_nil, List.replicate, List.cons_append, List.nil_append, List.getElem?_cons_zero, List.getElem?_cons_succ, List.set_cons_zero, List.set_cons_succ, Nat.reduceAdd, Nat.reduceSub, if_true, Bool.false_eq_true, if_false, decide_eq_true h1]; exact h) ?_
    exact key none (as.no (.inr h1))
  refine seqIfF (fun R h => by simp only [aYes, Bool.and_self, at0, at1, at2, at3, aSeq, aNext, aIf, aFor, iaR1, iaR2, iaR3, iaS, iaL, gaN, aSl, aPart, aNoPart, aT, aOp, aV, aC, aRet, aRetN, aTup, aLst, aLstM, aCons, aNil, aAnd, aOr, aNot, aAndV, aOrV, aNotV, aSet, aAsg, aDrop, aCall, aFun, aUn, oAdd, addF, addC, oI, oIc, eqq_int, eqq_str, eqq_bl, neq_int, neq_str, neq_bl, oIsN, isNon, oNeg, oLen, lenF, lenC, oIx, ixF, ixC, oIn, inB, oSl, slF, slC, Option.bind_some, Option.map_some, true_and, L2.dq, L2.dr, L2.dl, L2.dd, both_some, opt_some, insAt_some, keyD, aFldC, aDPut, oDIn, aDGet, aDPop, aDGet1, aSetF, aDNew, aRaise, aMeth, oCat, oCatM, startA, List.map_cons, List.map_nil, List.length_cons, List.length_nil, List.replicate, List.cons_append, List.nil_append, List.getElem?_cons_zero, List.getElem?_cons_succ, List.set_cons_zero, List.set_cons_succ, Nat.reduceAdd, Nat.reduceSub, if_true, Bool.false_eq_true, if_false, decide_eq_false h1]; exact h) ?_
  exact key (some x) as.yes
noncomputable def spRefused (C : Addr) : SpA := fun ds M Q _ => ∃ (p d1 d2 : Addr) (S : TS) (o : Option Str), ds = [.obj p, encN o] ∧ Tr C M p d1 d2 S ∧ Fit S ∧ meant S o = none ∧ Q (.bl true) M
theorem ok_law_refused {f C EJ : Addr} {fd : FuncData} {EC : Rk → Addr} (Fn : Fun K "_law_refused" "_law_refused" s_law_refused f fd) (XK : ExK K mg EC) (xm : PySem.W.exmOne K (.ref (EC .noWheel)) (.ref (EC .noWheel)) = some true)
    (h_back_after : HasD P w K mg base 45 "back_after" ["train", "name"] (liftS K (spBack C EC EJ))) : FnOk P w K mg base (CXE P w) 46 f fd ["_law_train_here", "_law_name_here"] (liftS K (spRefused C)) := by
  refine Fn.okA sc_law_refused (fun ds M Q E h => ?_) ?_
  · obtain ⟨_, _, _, _, _, rfl, _⟩ := h; rfl
  intro cdv A outer s H E F0 ds M Q Ea hr ct hsp
  obtain ⟨p, d1, d2, S, o, rfl, tr, fit, hm, q⟩ := hsp
  have X_NoWheel := XK.noWheel
  refine ⟨_, (ssCons (sTry ct (fun _ _ _ ct => (ssOne (sExpr (paFun h_back_after.all (hr.mono (by decide)) (by rfl) ct (aaCons (paV (pv 0)) (aaCons (paV (pv 1)) aaNil))))))
        (fun pn => (haCons (K' := K) rfl (ct.pl.pin pn) X_NoWheel.bound (by rfl) (fun _ => (ssOne (sRet paB))) (haNil ct rfl pn))) ssNil)
      (ssOne (sRet paB))), ?_⟩
  refine ⟨p, d1, d2, S, o, rfl, tr, fit, ?_⟩
  rw [hm]
  refine ⟨true, xm, ?_⟩
  rw [if_pos rfl]
  intro _
  exact .now q


noncomputable def tsO (ws : List (Str × Int)) (sh : Sh) : List (Option Fr) := ws.map fun w => if w.1 ∈ sh.map Prod.fst then some (lk sh w.1) else none
theorem told_eq (ws : List (Str × Int)) (sh : Sh) : told ws sh = (tsO ws sh).map eO := by
  unfold told tsO
  rw [List.map_map, List.map_map]
  refine List.map_congr_left fun w _ => ?_
  show (getK (encSh sh) (Sum.inr w.1)).getD .non = eO (if w.1 ∈ sh.map Prod.fst then some (lk sh w.1) else none)
  by_cases h : w.1 ∈ sh.map Prod.fst
  · rw [getK_sh h, if_pos h]; rfl
  · rw [getK_sh_no h, if_neg h]; rfl
theorem lk_of {sh : Sh} (nd : (sh.map Prod.fst).Nodup) {e : Str × Fr} (h : e ∈ sh) : lk sh e.1 = e.2 := by
  induction sh with
  | nil => cases h
  | cons x sh ih =>
    rw [List.map_cons, List.nodup_cons] at nd
    unfold lk
    rw [List.find?_cons]
    rcases List.mem_cons.mp h with h | h
    · subst h
      rw [decide_eq_true rfl]; rfl
    · have hn : x.1 ≠ e.1 := fun z => nd.1 (by rw [z]; exact List.mem_map.mpr ⟨e, h, rfl⟩)
      rw [decide_eq_false hn]
      exact ih nd.2 h
theorem botO_mem {ts : List (Option Fr)} {b : Nat} : b ∈ botO ts ↔ ∃ x, some x ∈ ts ∧ x.2.toNat = b := by
  unfold botO
  rw [List.mem_filterMap]
  constructor
  · rintro ⟨o, ho, e⟩
    cases o with
    | none => cases e
    | some x => exact ⟨x, ho, Option.some.inj e⟩
  · rintro ⟨x, hx, rfl⟩
    exact ⟨some x, hx, rfl⟩
theorem least_ok {S : TS} {x : Str} {t : TT} (fit : Fit S) (gr : Grown S.js x t) (hx : x ∈ S.ws.map Prod.fst) : 1 ≤ lcms (bots (shares S.ws t)) ∧ (∀ y, some y ∈ tsO S.ws (shares S.ws t) → 1 ≤ y.2 ∧ y.2 ∣ ((lcms (bots (shares S.ws t)) : Nat) : Int)) ∧ gcds ((botO (tsO S.ws (shares S.ws t))).map fun b => lcms (bots (shares S.ws t)) / b) = 1 := by
  have hsm : ∀ e ∈ shares S.ws t, Small 100 e.2 := fun e he => (shares_small fit.teeth gr e he).up (gr.short fit hx)
  have hnm := shares_names S.ws t
  have nd := gr.nodup
  have hst := gr.start
  have hin := gr.inn hx fit.ends
  rw [← hnm] at nd hst hin
  clear hnm
  generalize shares S.ws t = sh at *
  obtain ⟨b1, _⟩ := bots_ok hsm
  have out : ∀ y, some y ∈ tsO S.ws sh → 1 ≤ y.2 ∧ y.2.toNat ∈ bots sh := by
    intro y hy
    obtain ⟨w', _, e⟩ := List.mem_map.mp hy
    split at e
    · rename_i h
      obtain ⟨z, hz, _, ez⟩ := lk_mem h
      have e := Option.some.inj e
      rw [← e, ez]
      exact ⟨(hsm z hz).1, List.mem_map.mpr ⟨z, hz, rfl⟩⟩
    · cases e
  have inn : ∀ b ∈ bots sh, b ∈ botO (tsO S.ws sh) := by
    intro b hb
    obtain ⟨e, he, rfl⟩ := List.mem_map.mp hb
    have h1 : e.1 ∈ sh.map Prod.fst := List.mem_map.mpr ⟨e, he, rfl⟩
    obtain ⟨w', hw, ew⟩ := List.mem_map.mp (hin _ h1)
    refine botO_mem.mpr ⟨e.2, List.mem_map.mpr ⟨w', hw, ?_⟩, rfl⟩
    rw [ew, if_pos h1, lk_of nd he]
  refine ⟨lcms_pos b1, fun y hy => ?_, ?_⟩
  · obtain ⟨h1, h2⟩ := out y hy
    refine ⟨h1, ?_⟩
    have h3 := Int.natCast_dvd_natCast.mpr (dvd_lcms h2)
    rwa [Int.toNat_of_nonneg (by omega)] at h3
  · refine gcds_one b1 inn (fun c hc => ?_) ?_
    · obtain ⟨y, hy, rfl⟩ := botO_mem.mp hc
      exact (out y hy).2
    · obtain ⟨e, he, _⟩ := List.mem_map.mp hst
      have := inn _ (List.mem_map.mpr ⟨e, he, rfl⟩)
      intro z
      rw [z] at this
      cases this
noncomputable def spAsked (C : Addr) : SpA := fun ds M Q _ => ∃ (p d1 d2 : Addr) (S : TS) (x : Str) (wy : Int), ds = [.obj p, .str x, .int wy] ∧ Tr C M p d1 d2 S ∧ Fit S ∧ asks S x wy ∧ ∀ M', L2.Sub M M' → Q (.bl true) M'
theorem ok_law_asked {f C EJ : Addr} {fd : FuncData} (Fn : Fun K "_law_asked" "_law_asked" s_law_asked f fd) (X_Jams : ExCls K mg "Jams" EJ) (xm : PySem.W.exmOne K (.ref EJ) (.ref EJ) = some true)
    (h_law_turns : Has P w K mg base (CXE P w) 46 "_law_turns" ["_law_train_here", "_law_name_here", "_law_way"] (liftS K (spTurnsL C EJ))) (h_law_after : Has P w K mg base (CXE P w) 46 "_law_after" ["_law_train_here", "_law_name_here", "_law_way"] (liftS K (spAfter C EJ)))
    (h_law_least : Has P w K mg base (CXE P w) 41 "_law_least" ["_law_found", "_law_told"] (liftS K spLeast)) : FnOk P w K mg base (CXE P w) 47 f fd ["_law_train_here", "_law_name_here", "_law_way"] (liftS K (spAsked C)) := by
  refine Fn.okA sc_law_asked (fun ds M Q E h => ?_) ?_
  · obtain ⟨_, _, _, _, _, _, rfl, _⟩ := h; rfl
  intro cdv A outer s H E F0 ds M Q Ea hr ct hsp
  obtain ⟨p, d1, d2, S, x, wy, rfl, tr, fit, as, q⟩ := hsp
  refine ⟨_, (ssCons (sSet (i := 3) sc_law_asked.nd rfl (Or.inl rfl) (paLst aaNil))
      (ssCons (sSet (i := 4) sc_law_asked.nd rfl (Or.inl rfl) paB)
      (ssCons (sTry ct (fun _ _ _ ct => (ssOne (sSet (i := 3) sc_law_asked.nd rfl (Or.inl rfl) (paFun h_law_turns (hr.mono (by decide)) (by rfl) ct (aaCons (paV (pv 0)) (aaCons (paV (pv 1)) (aaCons (paV (pv 2)) aaNil)))))))
        (fun pn => (haCons (K' := K) rfl (ct.pl.pin pn) X_Jams.bound (by rfl) (fun _ => (ssOne (sSet (i := 4) sc_law_asked.nd rfl (Or.inl rfl) paB))) (haNil ct rfl pn))) ssNil)
      (ssCons (sSet (i := 5) sc_law_asked.nd rfl (Or.inl rfl) paN)
      (ssCons (sSet (i := 6) sc_law_asked.nd rfl (Or.inl rfl) paB)
      (ssCons (sTry ct (fun _ _ _ ct => (ssOne (sSet (i := 5) sc_law_asked.nd rfl (Or.inl rfl) (paFun h_law_after (hr.mono (by decide)) (by rfl) ct (aaCons (paV (pv 0)) (aaCons (paV (pv 1)) (aaCons (paV (pv 2)) aaNil)))))))
        (fun pn => (haCons (K' := K) rfl (ct.pl.pin pn) X_Jams.bound (by rfl) (fun _ => (ssOne (sSet (i := 6) sc_law_asked.nd rfl (Or.inl rfl) paB))) (haNil ct rfl pn))) ssNil)
      (ssCons (sIf ((pwOr (ptV (paV (pv 4))) (pwOr1 (ptV (paV (pv 6)))))).pt
        (ssOne (sRet (paAnd (paV (pv 4)) (paOne (paV (pv 6))))))
        ssNil)
      (ssOne (sRet (paFun h_law_least (hr.mono (by decide)) (by rfl) ct (aaCons (paV (pv 5)) (aaCons (paV (pv 3)) aaNil)))))))))))), ?_⟩
  refine seqV (.lst []) M (fun R h => ⟨by decide, h⟩) (seqV (.bl false) M (fun R h => h) ?_)
  refine cut1 (fun Γ' M2 => L2.Sub M M2 ∧ ∃ t, IsTree S.js x t ∧ Grown S.js x t ∧ ∃ l b, Γ' = [some (.obj p), some (.str x), some (.int wy), some l, some (.bl b), none, none] ∧ b = (S.js.find? (jamsD S.ws (shares S.ws t))).isSome ∧ (b = false → l = .lst (told S.ws (shares S.ws t)))) ?_ ?_
  · rintro Γ' M2 ⟨sb, t, ist, gr, l, b, rfl, hb, hl⟩
    refine seqV .non M2 (fun R h => h) (seqV (.bl false) M2 (fun R h => h) ?_)
    refine cut1 (fun Γ' M3 => L2.Sub M M3 ∧ ∃ v, Γ' = [some (.obj p), some (.str x), some (.int wy), some l, some (.bl b), some v, some (.bl b)] ∧ (b = false → v = .int (lcms (bots (shares S.ws t)) : Nat))) ?_ ?_
    · rintro Γ' M3 ⟨sb3, v, rfl, hv⟩
      cases b with
      | true =>
        refine seqIfT (fun R h => h) ?_
        exact retV (.bl true) M3 (fun R h => h) (.now (q _ sb3))
      | false =>
        rw [hl rfl, hv rfl]
        obtain ⟨l1, l2, l3⟩ := least_ok fit gr as.1
        refine seqIfF (fun R h => h) ?_
        refine retV (.bl true) M3 (fun R h => ?_) (.now (q _ sb3))
        rw [told_eq]
        exact ⟨_, _, rfl, l1, l2, l3, h⟩
    · intro rest hrest
      refine ⟨p, d1, d2, S, x, wy, rfl, tr.sub sb, fit, as, fun t' ist' gr' cl' hl' => ?_⟩
      have et := ist'.one ist
      subst et
      cases hf : S.js.find? (jamsD S.ws (shares S.ws t')) with
      | some j =>
        rw [hf] at hb
        intro M' sb'
        refine ⟨true, xm, ?_⟩
        rw [if_pos rfl]
        intro _
        subst hb
        exact hrest _ _ ⟨fun a o h => sb' a o (sb a o h), .non, rfl, fun z => by cases z⟩
      | none =>
        rw [hf] at hb
        subst hb
        exact hrest _ _ ⟨sb, _, rfl, fun _ => rfl⟩
  · intro rest hrest
    refine ⟨p, d1, d2, S, x, wy, rfl, tr, fit, as, fun t ist gr cl hl => ?_⟩
    cases hf : S.js.find? (jamsD S.ws (shares S.ws t)) with
    | some j =>
      intro M' sb'
      refine ⟨true, xm, ?_⟩
      rw [if_pos rfl]
      intro _
      exact hrest _ _ ⟨sb', t, ist, gr, _, true, rfl, by rw [hf]; rfl, fun z => by cases z⟩
    | none => exact hrest _ _ ⟨fun _ _ h => h, t, ist, gr, _, false, rfl, by rw [hf]; rfl, fun _ => rfl⟩


theorem wName_ok (s k : Nat) : PySem.PyData.strOk (wName s k) = true := by
  unfold PySem.PyData.strOk
  rw [← Array.all_toList]
  refine List.all_eq_true.mpr fun c hc => ?_
  have h3 := wNameL_mem (s := s) (k := k) hc
  exact decide_eq_true (by omega)
theorem Rw.ok {s : Nat} {ws : List (Str × Int)} {js : List (Str × Nat × Nat)} (r : Rw s ws js) : ∀ x ∈ ws.map Prod.fst, PySem.PyData.strOk x = true := by
  intro x hx
  obtain ⟨k, _, rfl⟩ := r.name hx
  exact wName_ok s k
theorem Rw.no {s : Nat} {ws : List (Str × Int)} {js : List (Str × Nat × Nat)} (r : Rw s ws js) {x : Str} (h : x ∈ noNames) : x ∉ ws.map Prod.fst := by
  intro z
  obtain ⟨k, _, rfl⟩ := r.name z
  exact wName_no s k h
theorem Rw.gw {s : Nat} {ws : List (Str × Int)} {js : List (Str × Nat × Nat)} (r : Rw s ws js) : Gd 2 (.lst (ws.map eW)) := .lst _ _ fun d hd => by
  obtain ⟨x, hx, rfl⟩ := List.mem_map.mp hd
  refine .tup _ _ fun e he => ?_
  simp only [List.mem_cons, List.not_mem_nil, or_false] at he
  rcases he with rfl | rfl
  · exact .str _ _ (r.ok _ (List.mem_map.mpr ⟨x, hx, rfl⟩))
  · exact .int _ _
theorem Rw.fit {s : Nat} {ws : List (Str × Int)} {js : List (Str × Nat × Nat)} (r : Rw s ws js) (hw : ws.length ≤ 60) (hj : js.length ≤ 60) : Fit (tsOf ws js) := by
  refine ⟨r.nodup (by omega), r.teeth, fun j hj' => ?_, Nat.le_trans hw (by decide), ?_⟩
  · obtain ⟨i, hi, e⟩ := List.mem_mapIdx.mp (show j ∈ js.mapIdx (jsRow (ws.map Prod.fst)) from hj')
    obtain ⟨_, k2, k3, _⟩ := r.kinds _ (List.getElem_mem hi)
    rw [← e]
    exact ⟨at_mem (by rw [List.length_map]; exact k2), at_mem (by rw [List.length_map]; exact k3)⟩
  · show (js.mapIdx _).length ≤ 200
    rw [List.length_mapIdx]; omega
theorem Fit.wheel {S : TS} (f : Fit S) {n : Str} {t nx : Int} (h : n ∉ S.ws.map Prod.fst) (h1 : 1 ≤ t) (h2 : t < 1000000000) (h3 : S.ws.length < 100) : Fit ⟨S.ws ++ [(n, t)], S.js, nx⟩ := by
  refine ⟨?_, fun x hx => ?_, fun j hj => ?_, by show (S.ws ++ [(n, t)]).length ≤ 100; rw [List.length_append]; simp; omega, f.j⟩
  · show ((S.ws ++ [(n, t)]).map Prod.fst).Nodup
    rw [List.map_append, List.nodup_append]
    refine ⟨f.nd, by simp, fun a ha b hb => ?_⟩
    rw [List.mem_singleton.mp hb]
    rintro rfl
    exact h ha
  · rcases List.mem_append.mp hx with hx | hx
    · exact f.teeth x hx
    · rw [List.mem_singleton.mp hx]; exact ⟨h1, h2⟩
  · obtain ⟨a, b⟩ := f.ends j hj
    show _ ∈ (S.ws ++ [(n, t)]).map Prod.fst ∧ _ ∈ (S.ws ++ [(n, t)]).map Prod.fst
    rw [List.map_append]
    exact ⟨List.mem_append_left _ a, List.mem_append_left _ b⟩
theorem Fit.pin {S : TS} (f : Fit S) {k a b : Str} {n nx : Int} (ha : a ∈ S.ws.map Prod.fst) (hb : b ∈ S.ws.map Prod.fst) (h : S.js.length < 200) : Fit ⟨S.ws, S.js ++ [(n, k, a, b)], nx⟩ := by
  refine ⟨f.nd, f.teeth, fun j hj => ?_, f.w, by show (S.js ++ _).length ≤ 200; rw [List.length_append]; simp; omega⟩
  rcases List.mem_append.mp hj with hj | hj
  · exact f.ends j hj
  · rw [List.mem_singleton.mp hj]; exact ⟨ha, hb⟩
theorem asks.more {S S' : TS} {x : Str} {wy : Int} {l : List (Str × Int)} (h : asks S x wy) (e : S'.ws = S.ws ++ l) : asks S' x wy := by
  unfold asks at *
  rw [e, List.map_append]
  refine ⟨List.mem_append_left _ h.1, fun h0 => ?_⟩
  rw [List.head?_append, h.2 h0]; rfl
theorem ok_law {f C : Addr} {fd : FuncData} {EC : Rk → Addr} (Fn : Fun K "law" "law" s_law f fd) (T : Txt K mg) (h_law_cell_at : Has P w K mg base (CXE P w) 1 "_law_cell_at" ["_law_script", "_law_k"] (liftS K spCell))
    (h_law_rows : Has P w K mg base (CXE P w) 2 "_law_rows" ["_law_script"] (liftS K spRows)) (h_law_train : Has P w K mg base (CXE P w) 3 "_law_train" ["_law_wheels", "_law_joins"] (liftS K (spTrain C)))
    (h_law_refused : Has P w K mg base (CXE P w) 46 "_law_refused" ["_law_train_here", "_law_name_here"] (liftS K (spRefused C))) (h_law_asked : Has P w K mg base (CXE P w) 47 "_law_asked" ["_law_train_here", "_law_name_here", "_law_way"] (liftS K (spAsked C)))
    (h_put_wheel : HasM P w K mg base (CXE P w) 2 C "put_wheel" ["self", "name", "teeth"] (liftS K (spPutW C EC))) (h_put_join : HasM P w K mg base (CXE P w) 2 C "put_join" ["self", "kind", "one", "other"] (liftS K (spPutJ C EC))) : FnOk P w K mg base (CXE P w) 48 f fd ["_law_script"] (liftS K spTrue) := by
  refine Fn.okA sc_law (fun ds M Q E h => ?_) ?_
  · obtain ⟨a, rfl, _⟩ := h; rfl
  intro cdv A outer s H E F0 ds M Q Ea hr ct hsp
  obtain ⟨sc, rfl, hsc, q⟩ := hsp
  refine ⟨_, (ssCons (sAsg (paFun h_law_rows (hr.mono (by decide)) (by rfl) ct (aaCons (paV (pv 0)) aaNil)) (tgLst rfl (tgsCons (tgName (i := 1) sc_law.nd rfl (Or.inl rfl)) (tgsCons (tgName (i := 2) sc_law.nd rfl (Or.inl rfl)) tgsNil))))
      (ssCons (sSet (i := 3) sc_law.nd rfl (Or.inl rfl) (paFun h_law_train (hr.mono (by decide)) (by rfl) ct (aaCons (paV (pv 1)) (aaCons (paV (pv 2)) aaNil))))
      (ssCons (sIf (ptCmp (op_eqs (un64 ct)) lEq (paV (pv 1)) (paLst aaNil) (nomark _))
        (ssOne (sRet (paAnd (paFun h_law_refused (hr.mono (by decide)) (by rfl) ct (aaCons (paV (pv 3)) (aaCons paN aaNil))) (paOne (paFun h_law_refused (hr.mono (by decide)) (by rfl) ct (aaCons (paV (pv 3)) (aaCons paS aaNil)))))))
        ssNil)
      (ssCons (sSet (i := 4) sc_law.nd rfl (Or.inl rfl) (paFun h_law_cell_at (hr.mono (by decide)) (by rfl) ct (aaCons (paV (pv 0)) (aaCons paI aaNil))))
      (ssCons (sSet (i := 5) sc_law.nd rfl (Or.inl rfl) (paOp op_mod lMod (paOp op_fdiv lDiv (paV (pv 4)) paI) (paCallB call_lens lLen (by rfl) T.len PySem.boot_len (aaCons (paV (pv 1)) aaNil))))
      (ssCons (sSet (i := 6) sc_law.nd rfl (Or.inl rfl) paI)
      (ssCons (sIf (ptCmp (op_eqs (un64 ct)) lEq (paV (pv 5)) paI (nomark _))
        (ssOne (sSet (i := 6) sc_law.nd rfl (Or.inl rfl) (paOp op_mod lMod (paV (pv 4)) paI)))
        ssNil)
      (ssCons (sSet (i := 7) sc_law.nd rfl (Or.inl rfl) (paIx ix_seq lIx (paIx ix_seq lIx (paV (pv 1)) (paV (pv 5)) (fun _ _ => rfl)) paI (fun _ _ => rfl)))
      (ssCons (sIf ((pwOr (ptNot (ptV (paFun h_law_refused (hr.mono (by decide)) (by rfl) ct (aaCons (paV (pv 3)) (aaCons paS aaNil))))) (pwOr1 (ptNot (ptV (paFun h_law_asked (hr.mono (by decide)) (by rfl) ct (aaCons (paV (pv 3)) (aaCons (paV (pv 7)) (aaCons (paV (pv 6)) aaNil))))))))).pt
        (ssOne (sRet paB))
        ssNil)
      (ssCons (sExpr (paMeth h_put_wheel (hr.mono (by decide)) ct (paV (pv 3)) (aaCons paS (aaCons (paOp op_sub lSub (paOp op_pow lPow paI paI) paI) aaNil))))
      (ssCons (sIf ((pwOr (ptNot (ptV (paFun h_law_asked (hr.mono (by decide)) (by rfl) ct (aaCons (paV (pv 3)) (aaCons (paV (pv 7)) (aaCons (paV (pv 6)) aaNil)))))) (pwOr1 (ptNot (ptV (paFun h_law_asked (hr.mono (by decide)) (by rfl) ct (aaCons (paV (pv 3)) (aaCons paS (aaCons paI aaNil))))))))).pt
        (ssOne (sRet paB))
        ssNil)
      (ssCons (sExpr (paMeth h_put_join (hr.mono (by decide)) ct (paV (pv 3)) (aaCons paS (aaCons (paIx ix_seq lIx (paIx ix_seq lIx (paV (pv 1)) (paOp op_mod lMod (paOp op_fdiv lDiv (paV (pv 4)) paI) (paCallB call_lens lLen (by rfl) T.len PySem.boot_len (aaCons (paV (pv 1)) aaNil))) (fun _ _ => rfl)) paI (fun _ _ => rfl)) (aaCons paS aaNil)))))
      (ssCons (sIf (ptCmp (op_eqs (un64 ct)) lEq (paV (pv 5)) paI (nomark _))
        (ssOne (sSet (i := 6) sc_law.nd rfl (Or.inl rfl) (paOp op_mod lMod (paOp op_adds lAdd (paV (pv 6)) paI) paI)))
        ssNil)
      (ssOne (sRet (paFun h_law_asked (hr.mono (by decide)) (by rfl) ct (aaCons (paV (pv 3)) (aaCons (paV (pv 7)) (aaCons (paV (pv 6)) aaNil))))))))))))))))))), ?_⟩
  refine cut2 (fun Γ' M1 => ∃ s ws js p d1 d2, Rw s ws js ∧ ws.length ≤ 60 ∧ js.length ≤ 60 ∧ Γ' = [some (.scr (sc.map D.int)), some (.lst (ws.map eW)), some (.lst (js.map eK)), some (.obj p), none, none, none, none] ∧ Tr C M1 p d1 d2 (tsOf ws js)) ?_ ?_
  · rintro Γ' M1 ⟨s', ws, js, p, d1, d2, rw', hw, hj, rfl, tr⟩
    have fit := rw'.fit hw hj
    have gw := rw'.gw.sh
    by_cases h0 : ws.length = 0
    · have : ws = [] := List.eq_nil_of_length_eq_zero h0
      subst this
      refine seqIfT (fun R h => ⟨by decide, eq_self' (d := .lst []) gw h⟩) ?_
      refine retV (.bl true) M1 (fun R h => ?_) (.now (q _))
      exact ⟨p, d1, d2, _, none, rfl, tr, fit, rfl, p, d1, d2, _, some "a", rfl, tr, fit, show (if ("a" : Str) ∈ ([] : List (Str × Int)).map Prod.fst then some ("a" : Str) else none) = none from if_neg List.not_mem_nil, h⟩
    · have h0 : 0 < ws.length := by omega
      refine seqIfF (fun R h => ?_) ?_
      · refine ⟨by decide, .inr ⟨gw, show shD (.lst []) = true by decide +kernel⟩, ?_⟩
        cases ws with
        | nil => cases h0
        | cons a l => exact h
      have hno : ("zzzzzzzz" : Str) ∉ ws.map Prod.fst := rw'.no (by unfold noNames; simp)
      have hl : (ws.map Prod.fst).length = ws.length := List.length_map ..
      have hjl : (tsOf ws js).js.length = js.length := by show (jsOf' _ js).length = _; unfold jsOf'; rw [List.length_mapIdx]
      generalize hcl : cell sc 0 = cl
      obtain ⟨at', hat⟩ := Int.eq_ofNat_of_zero_le (Int.emod_nonneg (cl / 3) (show (ws.length : Int) ≠ 0 by omega))
      have hat2 := Int.emod_lt_of_pos (cl / 3) (show (0 : Int) < (ws.length : Int) by omega)
      rw [hat] at hat2
      obtain ⟨bt, hbt⟩ := Int.eq_ofNat_of_zero_le (Int.emod_nonneg (cl / 7) (show (ws.length : Int) ≠ 0 by omega))
      have hbt2 := Int.emod_lt_of_pos (cl / 7) (show (0 : Int) < (ws.length : Int) by omega)
      rw [hbt] at hbt2
      refine seqV (.int cl) M1 (fun R h => by
        simp only [aYes, Bool.and_self, at0, at1, at2, at3, aSeq, aNext, aIf, aFor, iaR1, iaR2, iaR3, iaS, iaL, gaN, aSl, aPart, aNoPart, aT, aOp, aV, aC, aRet, aRetN, aTup, aLst, aLstM, aCons, aNil, aAnd, aOr, aNot, aAndV, aOrV, aNotV, aSet, aAsg, aDrop, aCall, aFun, aUn, oAdd, addF, addC, oI, oIc, eqq_int, eqq_str, eqq_bl, neq_int, neq_str, neq_bl, oIsN, isNon, oNeg, oLen, lenF, lenC, oIx, ixF, ixC, oIn, inB, oSl, slF, slC, Option.bind_some, Option.map_some, true_and, L2.dq, L2.dr, L2.dl, L2.dd, both_some, opt_some, insAt_some, keyD, aFldC, aDPut, oDIn, aDGet, aDPop, aDGet1, aSetF, aDNew, aRaise, aMeth, oCat, oCatM, startA, List.map_cons, List.map_nil, List.length_cons, List.length_nil, List.replicate, List.cons_append, List.nil_append, List.getElem?_cons_zero, List.getElem?_cons_succ, List.set_cons_zero, List.set_cons_succ, Nat.reduceAdd, Nat.reduceSub, if_true, Bool.false_eq_true, if_false, spCell]
        exact ⟨sc, 0, rfl, by decide, by rw [hcl]; exact h⟩) (seqV (.int (at' : Int)) M1 (fun R h => by
        simp only [aYes, Bool.and_self, at0, at1, at2, at3, aSeq, aNext, aIf, aFor, iaR1, iaR2, iaR3, iaS, iaL, gaN, aSl, aPart, aNoPart, aT, aOp, aV, aC, aRet, aRetN, aTup, aLst, aLstM, aCons, aNil, aAnd, aOr, aNot, aAndV, aOrV, aNotV, aSet, aAsg, aDrop, aCall, aFun, aUn, oAdd, addF, addC, oI, oIc, eqq_int, eqq_str, eqq_bl, neq_int, neq_str, neq_bl, oIsN, isNon, oNeg, oLen, lenF, lenC, oIx, ixF, ixC, oIn, inB, oSl, slF, slC, Option.bind_some, Option.map_some, true_and, L2.dq, L2.dr, L2.dl, L2.dd, both_some, opt_some, insAt_some, keyD, aFldC, aDPut, oDIn, aDGet, aDPop, aDGet1, aSetF, aDNew, aRaise, aMeth, oCat, oCatM, startA, List.map_cons, List.map_nil, List.length_cons, List.length_nil, List.replicate, List.cons_append, List.nil_append, List.getElem?_cons_zero, List.getElem?_cons_succ, List.set_cons_zero, List.set_cons_succ, Nat.reduceAdd, Nat.reduceSub, if_true, Bool.false_eq_true, if_false, List.length_map, hat]
        exact ⟨⟨by decide, by decide⟩, by omega, h⟩) (seqV (.int 2) M1 (fun R h => h) ?_))
      simp only [List.set_cons_zero, List.set_cons_succ]
      refine cut1 (fun Γ' M2 => M2 = M1 ∧ ∃ wy : Int, Γ' = [some (.scr (sc.map D.int)), some (.lst (ws.map eW)), some (.lst (js.map eK)), some (.obj p), some (.int cl), some (.int (at' : Int)), some (.int wy), none] ∧ (at' ≠ 0 → wy = 2)) ?_ ?_
      · rintro Γ' M2 ⟨rfl, wy, rfl, hwy⟩
        have nm : ∀ {v : Int}, (at' ≠ 0 → v = 2) → asks (tsOf ws js) (at_ (ws.map Prod.fst) at') v := by
          intro v hv
          refine ⟨at_mem (ns := ws.map Prod.fst) (by omega), fun hz => ?_⟩
          have h0' : at' = 0 := by
            rcases Nat.eq_zero_or_pos at' with h | h
            · exact h
            · have := hv (by omega); omega
          subst h0'
          show (ws.map Prod.fst).head? = some ((ws.map Prod.fst).getD 0 "")
          cases ws with
          | nil => cases h0
          | cons a l => rfl
        refine seqV (.str (at_ (ws.map Prod.fst) at')) M2 (fun R h => by
          simp only [aYes, Bool.and_self, at0, at1, at2, at3, aSeq, aNext, aIf, aFor, iaR1, iaR2, iaR3, iaS, iaL, gaN, aSl, aPart, aNoPart, aT, aOp, aV, aC, aRet, aRetN, aTup, aLst, aLstM, aCons, aNil, aAnd, aOr, aNot, aAndV, aOrV, aNotV, aSet, aAsg, aDrop, aCall, aFun, aUn, oAdd, addF, addC, oI, oIc, eqq_int, eqq_str, eqq_bl, neq_int, neq_str, neq_bl, oIsN, isNon, oNeg, oLen, lenF, lenC, oIx, ixF, ixC, oIn, inB, oSl, slF, slC, Option.bind_some, Option.map_some, true_and, L2.dq, L2.dr, L2.dl, L2.dd, both_some, opt_some, insAt_some, keyD, aFldC, aDPut, oDIn, aDGet, aDPop, aDGet1, aSetF, aDNew, aRaise, aMeth, oCat, oCatM, startA, List.map_cons, List.map_nil, List.length_cons, List.length_nil, List.replicate, List.cons_append, List.nil_append, List.getElem?_cons_zero, List.getElem?_cons_succ, List.set_cons_zero, List.set_cons_succ, Nat.reduceAdd, Nat.reduceSub, if_true, Bool.false_eq_true, if_false, row_at (show at' < ws.length by omega)]
          exact h) ?_
        simp only [List.set_cons_zero, List.set_cons_succ]
        have e9 : (10 : Int) ^ Int.toNat 9 - 1 = 999999999 := by decide
        refine cut1 (fun Γ' M3 => L2.Sub M2 M3 ∧ Γ' = [some (.scr (sc.map D.int)), some (.lst (ws.map eW)), some (.lst (js.map eK)), some (.obj p), some (.int cl), some (.int (at' : Int)), some (.int wy), some (.str (at_ (ws.map Prod.fst) at'))]) ?_ ?_
        · rintro Γ' M3 ⟨sb, rfl⟩
          have tr3 := tr.sub sb
          have fit2 : Fit ⟨ws ++ [(("zzzzzzzz" : Str), (999999999 : Int))], (tsOf ws js).js, (tsOf ws js).nx⟩ := fit.wheel (S := tsOf ws js) hno (by decide) (by decide) (by show ws.length < 100; omega)
          refine dropV .non (put M3 d1 (.dic (dW (ws ++ [(("zzzzzzzz" : Str), (999999999 : Int))])))) (fun R h => ?_) ?_
          · simp only [aYes, Bool.and_self, at0, at1, at2, at3, aSeq, aNext, aIf, aFor, iaR1, iaR2, iaR3, iaS, iaL, gaN, aSl, aPart, aNoPart, aT, aOp, aV, aC, aRet, aRetN, aTup, aLst, aLstM, aCons, aNil, aAnd, aOr, aNot, aAndV, aOrV, aNotV, aSet, aAsg, aDrop, aCall, aFun, aUn, oAdd, addF, addC, oI, oIc, eqq_int, eqq_str, eqq_bl, neq_int, neq_str, neq_bl, oIsN, isNon, oNeg, oLen, lenF, lenC, oIx, ixF, ixC, oIn, inB, oSl, slF, slC, Option.bind_some, Option.map_some, true_and, L2.dq, L2.dr, L2.dl, L2.dd, both_some, opt_some, insAt_some, keyD, aFldC, aDPut, oDIn, aDGet, aDPop, aDGet1, aSetF, aDNew, aRaise, aMeth, oCat, oCatM, startA, List.map_cons, List.map_nil, List.length_cons, List.length_nil, List.replicate, List.cons_append, List.nil_append, List.getElem?_cons_zero, List.getElem?_cons_succ, List.set_cons_zero, List.set_cons_succ, Nat.reduceAdd, Nat.reduceSub, if_true, Bool.false_eq_true, if_false, tr3.self, no_put_wheel, spPutW, e9]
            refine ⟨⟨by decide, by decide, by decide⟩, p, d1, d2, _, _, _, rfl, tr3, by decide +kernel, ?_⟩
            rw [refW_ok (S := tsOf ws js) (by decide +kernel) hno (by decide) (by decide) (by show ws.length < 100; omega)]
            exact h
          have tr4 := tr3.wheel ("zzzzzzzz", 999999999)
          generalize put M3 d1 (.dic (dW (ws ++ [(("zzzzzzzz" : Str), (999999999 : Int))]))) = M4 at tr4
          have hz : ("zzzzzzzz" : Str) ∈ (ws ++ [(("zzzzzzzz" : Str), (999999999 : Int))]).map Prod.fst := by rw [List.map_append]; exact List.mem_append_right _ List.mem_cons_self
          refine cut1 (fun Γ' M5 => L2.Sub M4 M5 ∧ Γ' = [some (.scr (sc.map D.int)), some (.lst (ws.map eW)), some (.lst (js.map eK)), some (.obj p), some (.int cl), some (.int (at' : Int)), some (.int wy), some (.str (at_ (ws.map Prod.fst) at'))]) ?_ ?_
          · rintro Γ' M5 ⟨sb5, rfl⟩
            have tr5 := tr4.sub sb5
            have hb : at_ (ws.map Prod.fst) bt ∈ (ws ++ [(("zzzzzzzz" : Str), (999999999 : Int))]).map Prod.fst := by rw [List.map_append]; exact List.mem_append_left _ (at_mem (by omega))
            have hne : at_ (ws.map Prod.fst) bt ≠ "zzzzzzzz" := fun z => hno (by rw [← z]; exact at_mem (by omega))
            refine cut1 (fun Γ' M6 => Γ' = [some (.scr (sc.map D.int)), some (.lst (ws.map eW)), some (.lst (js.map eK)), some (.obj p), some (.int cl), some (.int (at' : Int)), some (.int wy), some (.str (at_ (ws.map Prod.fst) at'))] ∧ ∃ S6, Tr C M6 p d1 d2 S6 ∧ Fit S6 ∧ S6.ws = ws ++ [(("zzzzzzzz" : Str), (999999999 : Int))]) ?_ ?_
            · rintro Γ' M6 ⟨rfl, S6, tr6, fit6, hws6⟩
              refine cut1 (fun Γ' M7 => M7 = M6 ∧ ∃ w7 : Int, (at' ≠ 0 → w7 = 2) ∧ Γ' = [some (.scr (sc.map D.int)), some (.lst (ws.map eW)), some (.lst (js.map eK)), some (.obj p), some (.int cl), some (.int (at' : Int)), some (.int w7), some (.str (at_ (ws.map Prod.fst) at'))]) ?_ ?_
              · rintro Γ' M7 ⟨rfl, w7, hw7, rfl⟩
                exact ⟨p, d1, d2, S6, _, _, rfl, tr6, fit6, (nm hw7).more hws6, fun M' sb' => .now (q _)⟩
              · intro rest hrest
                by_cases ha0 : at' = 0
                · simp only [aYes, Bool.and_self, at0, at1, at2, at3, aSeq, aNext, aIf, aFor, iaR1, iaR2, iaR3, iaS, iaL, gaN, aSl, aPart, aNoPart, aT, aOp, aV, aC, aRet, aRetN, aTup, aLst, aLstM, aCons, aNil, aAnd, aOr, aNot, aAndV, aOrV, aNotV, aSet, aAsg, aDrop, aCall, aFun, aUn, oAdd, addF, addC, oI, oIc, eqq_int, eqq_str, eqq_bl, neq_int, neq_str, neq_bl, oIsN, isNon, oNeg, oLen, lenF, lenC, oIx, ixF, ixC, oIn, inB, oSl, slF, slC, Option.bind_some, Option.map_some, true_and, L2.dq, L2.dr, L2.dl, L2.dd, both_some, opt_some, insAt_some, keyD, aFldC, aDPut, oDIn, aDGet, aDPop, aDGet1, aSetF, aDNew, aRaise, aMeth, oCat, oCatM, startA, List.map_cons, List.map_nil, List.length_cons, List.length_nil, List.replicate, List.cons_append, List.nil_append, List.getElem?_cons_zero, List.getElem?_cons_succ, List.set_cons_zero, List.set_cons_succ, Nat.reduceAdd, Nat.reduceSub, if_true, Bool.false_eq_true, if_false, decide_eq_true (show (at' : Int) = 0 by omega)]
                  exact ⟨by decide, hrest _ _ ⟨rfl, _, fun z => absurd ha0 z, rfl⟩⟩
                · simp only [aYes, Bool.and_self, at0, at1, at2, at3, aSeq, aNext, aIf, aFor, iaR1, iaR2, iaR3, iaS, iaL, gaN, aSl, aPart, aNoPart, aT, aOp, aV, aC, aRet, aRetN, aTup, aLst, aLstM, aCons, aNil, aAnd, aOr, aNot, aAndV, aOrV, aNotV, aSet, aAsg, aDrop, aCall, aFun, aUn, oAdd, addF, addC, oI, oIc, eqq_int, eqq_str, eqq_bl, neq_int, neq_str, neq_bl, oIsN, isNon, oNeg, oLen, lenF, lenC, oIx, ixF, ixC, oIn, inB, oSl, slF, slC, Option.bind_some, Option.map_some, true_and, L2.dq, L2.dr, L2.dl, L2.dd, both_some, opt_some, insAt_some, keyD, aFldC, aDPut, oDIn, aDGet, aDPop, aDGet1, aSetF, aDNew, aRaise, aMeth, oCat, oCatM, startA, List.map_cons, List.map_nil, List.length_cons, List.length_nil, List.replicate, List.cons_append, List.nil_append, List.getElem?_cons_zero, List.getElem?_cons_succ, List.set_cons_zero, List.set_cons_succ, Nat.reduceAdd, Nat.reduceSub, if_true, Bool.false_eq_true, if_false, decide_eq_false (show ¬ (at' : Int) = 0 by omega)]
                  exact hrest _ _ ⟨rfl, _, hwy, rfl⟩
            · intro rest hrest
              simp only [aYes, Bool.and_self, at0, at1, at2, at3, aSeq, aNext, aIf, aFor, iaR1, iaR2, iaR3, iaS, iaL, gaN, aSl, aPart, aNoPart, aT, aOp, aV, aC, aRet, aRetN, aTup, aLst, aLstM, aCons, aNil, aAnd, aOr, aNot, aAndV, aOrV, aNotV, aSet, aAsg, aDrop, aCall, aFun, aUn, oAdd, addF, addC, oI, oIc, eqq_int, eqq_str, eqq_bl, neq_int, neq_str, neq_bl, oIsN, isNon, oNeg, oLen, lenF, lenC, oIx, ixF, ixC, oIn, inB, oSl, slF, slC, Option.bind_some, Option.map_some, true_and, L2.dq, L2.dr, L2.dl, L2.dd, both_some, opt_some, insAt_some, keyD, aFldC, aDPut, oDIn, aDGet, aDPop, aDGet1, aSetF, aDNew, aRaise, aMeth, oCat, oCatM, startA, List.map_cons, List.map_nil, List.length_cons, List.length_nil, List.replicate, List.cons_append, List.nil_append, List.getElem?_cons_zero, List.getElem?_cons_succ, List.set_cons_zero, List.set_cons_succ, Nat.reduceAdd, Nat.reduceSub, if_true, Bool.false_eq_true, if_false, List.length_map, hbt, row_at (show bt < ws.length by omega), tr5.self, no_put_join, spPutJ]
              refine ⟨⟨by decide, by decide⟩, by omega, p, d1, d2, _, _, _, _, rfl, tr5, ?_⟩
              rw [refJ_ok (by decide +kernel) hb hz hne (by show (tsOf ws js).js.length < 200; omega)]
              exact hrest _ _ ⟨rfl, _, tr5.pin _ _ _, fit2.pin hb hz (by show (tsOf ws js).js.length < 200; omega), rfl⟩
          · intro rest hrest
            simp only [aYes, Bool.and_self, at0, at1, at2, at3, aSeq, aNext, aIf, aFor, iaR1, iaR2, iaR3, iaS, iaL, gaN, aSl, aPart, aNoPart, aT, aOp, aV, aC, aRet, aRetN, aTup, aLst, aLstM, aCons, aNil, aAnd, aOr, aNot, aAndV, aOrV, aNotV, aSet, aAsg, aDrop, aCall, aFun, aUn, oAdd, addF, addC, oI, oIc, eqq_int, eqq_str, eqq_bl, neq_int, neq_str, neq_bl, oIsN, isNon, oNeg, oLen, lenF, lenC, oIx, ixF, ixC, oIn, inB, oSl, slF, slC, Option.bind_some, Option.map_some, true_and, L2.dq, L2.dr, L2.dl, L2.dd, both_some, opt_some, insAt_some, keyD, aFldC, aDPut, oDIn, aDGet, aDPop, aDGet1, aSetF, aDNew, aRaise, aMeth, oCat, oCatM, startA, List.map_cons, List.map_nil, List.length_cons, List.length_nil, List.replicate, List.cons_append, List.nil_append, List.getElem?_cons_zero, List.getElem?_cons_succ, List.set_cons_zero, List.set_cons_succ, Nat.reduceAdd, Nat.reduceSub, if_true, Bool.false_eq_true, if_false, spAsked]
            refine ⟨p, d1, d2, _, _, _, rfl, tr4, fit2, (nm hwy).more rfl, fun M5 sb5 => ?_⟩
            simp only [Bool.not_true, Bool.false_eq_true, if_false]
            refine ⟨p, d1, d2, _, _, _, rfl, tr4.sub sb5, fit2, ⟨hz, fun z => by omega⟩, fun M6 sb6 => ?_⟩
            exact hrest _ _ ⟨fun a o h => sb6 a o (sb5 a o h), rfl⟩
        · intro rest hrest
          simp only [aYes, Bool.and_self, at0, at1, at2, at3, aSeq, aNext, aIf, aFor, iaR1, iaR2, iaR3, iaS, iaL, gaN, aSl, aPart, aNoPart, aT, aOp, aV, aC, aRet, aRetN, aTup, aLst, aLstM, aCons, aNil, aAnd, aOr, aNot, aAndV, aOrV, aNotV, aSet, aAsg, aDrop, aCall, aFun, aUn, oAdd, addF, addC, oI, oIc, eqq_int, eqq_str, eqq_bl, neq_int, neq_str, neq_bl, oIsN, isNon, oNeg, oLen, lenF, lenC, oIx, ixF, ixC, oIn, inB, oSl, slF, slC, Option.bind_some, Option.map_some, true_and, L2.dq, L2.dr, L2.dl, L2.dd, both_some, opt_some, insAt_some, keyD, aFldC, aDPut, oDIn, aDGet, aDPop, aDGet1, aSetF, aDNew, aRaise, aMeth, oCat, oCatM, startA, List.map_cons, List.map_nil, List.length_cons, List.length_nil, List.replicate, List.cons_append, List.nil_append, List.getElem?_cons_zero, List.getElem?_cons_succ, List.set_cons_zero, List.set_cons_succ, Nat.reduceAdd, Nat.reduceSub, if_true, Bool.false_eq_true, if_false, spRefused, spAsked]
          refine ⟨p, d1, d2, _, some "zzzzzzzz", rfl, tr, fit, if_neg hno, ?_⟩
          simp only [Bool.not_true, Bool.false_eq_true, if_false]
          refine ⟨p, d1, d2, _, _, _, rfl, tr, fit, nm hwy, fun M3 sb => ?_⟩
          exact hrest _ _ ⟨sb, rfl⟩
      · intro rest hrest
        by_cases ha0 : at' = 0
        · simp only [aYes, Bool.and_self, at0, at1, at2, at3, aSeq, aNext, aIf, aFor, iaR1, iaR2, iaR3, iaS, iaL, gaN, aSl, aPart, aNoPart, aT, aOp, aV, aC, aRet, aRetN, aTup, aLst, aLstM, aCons, aNil, aAnd, aOr, aNot, aAndV, aOrV, aNotV, aSet, aAsg, aDrop, aCall, aFun, aUn, oAdd, addF, addC, oI, oIc, eqq_int, eqq_str, eqq_bl, neq_int, neq_str, neq_bl, oIsN, isNon, oNeg, oLen, lenF, lenC, oIx, ixF, ixC, oIn, inB, oSl, slF, slC, Option.bind_some, Option.map_some, true_and, L2.dq, L2.dr, L2.dl, L2.dd, both_some, opt_some, insAt_some, keyD, aFldC, aDPut, oDIn, aDGet, aDPop, aDGet1, aSetF, aDNew, aRaise, aMeth, oCat, oCatM, startA, List.map_cons, List.map_nil, List.length_cons, List.length_nil, List.replicate, List.cons_append, List.nil_append, List.getElem?_cons_zero, List.getElem?_cons_succ, List.set_cons_zero, List.set_cons_succ, Nat.reduceAdd, Nat.reduceSub, if_true, Bool.false_eq_true, if_false, decide_eq_true (show (at' : Int) = 0 by omega)]
          exact ⟨by decide, hrest _ _ ⟨rfl, _, rfl, fun z => absurd ha0 z⟩⟩
        · simp only [aYes, Bool.and_self, at0, at1, at2, at3, aSeq, aNext, aIf, aFor, iaR1, iaR2, iaR3, iaS, iaL, gaN, aSl, aPart, aNoPart, aT, aOp, aV, aC, aRet, aRetN, aTup, aLst, aLstM, aCons, aNil, aAnd, aOr, aNot, aAndV, aOrV, aNotV, aSet, aAsg, aDrop, aCall, aFun, aUn, oAdd, addF, addC, oI, oIc, eqq_int, eqq_str, eqq_bl, neq_int, neq_str, neq_bl, oIsN, isNon, oNeg, oLen, lenF, lenC, oIx, ixF, ixC, oIn, inB, oSl, slF, slC, Option.bind_some, Option.map_some, true_and, L2.dq, L2.dr, L2.dl, L2.dd, both_some, opt_some, insAt_some, keyD, aFldC, aDPut, oDIn, aDGet, aDPop, aDGet1, aSetF, aDNew, aRaise, aMeth, oCat, oCatM, startA, List.map_cons, List.map_nil, List.length_cons, List.length_nil, List.replicate, List.cons_append, List.nil_append, List.getElem?_cons_zero, List.getElem?_cons_succ, List.set_cons_zero, List.set_cons_succ, Nat.reduceAdd, Nat.reduceSub, if_true, Bool.false_eq_true, if_false, decide_eq_false (show ¬ (at' : Int) = 0 by omega)]
          exact hrest _ _ ⟨rfl, _, rfl, fun _ => rfl⟩
  · intro rest hrest
    simp only [aYes, Bool.and_self, at0, at1, at2, at3, aSeq, aNext, aIf, aFor, iaR1, iaR2, iaR3, iaS, iaL, gaN, aSl, aPart, aNoPart, aT, aOp, aV, aC, aRet, aRetN, aTup, aLst, aLstM, aCons, aNil, aAnd, aOr, aNot, aAndV, aOrV, aNotV, aSet, aAsg, aDrop, aCall, aFun, aUn, oAdd, addF, addC, oI, oIc, eqq_int, eqq_str, eqq_bl, neq_int, neq_str, neq_bl, oIsN, isNon, oNeg, oLen, lenF, lenC, oIx, ixF, ixC, oIn, inB, oSl, slF, slC, Option.bind_some, Option.map_some, true_and, L2.dq, L2.dr, L2.dl, L2.dd, both_some, opt_some, insAt_some, keyD, aFldC, aDPut, oDIn, aDGet, aDPop, aDGet1, aSetF, aDNew, aRaise, aMeth, oCat, oCatM, startA, List.map_cons, List.map_nil, List.length_cons, List.length_nil, List.replicate, List.cons_append, List.nil_append, List.getElem?_cons_zero, List.getElem?_cons_succ, List.set_cons_zero, List.set_cons_succ, Nat.reduceAdd, Nat.reduceSub, if_true, Bool.false_eq_true, if_false, spRows, spTrain, gaLst, gaCons, gaNil]
    exact ⟨sc, rfl, Nat.le_trans hsc.1 (by decide), fun s' ws js rw' hw hj => ⟨rfl, s', ws, js, rfl, rw', hw, hj, fun p d1 d2 M' sb tr => hrest _ _ ⟨s', ws, js, p, d1, d2, rw', hw, hj, rfl, tr⟩⟩⟩

end
theorem len_1 {α : Type} (us : List α) (h : us.length = 1) : ∃ a, us = [a] := List.length_eq_one_iff.mp h
theorem len_2 {α : Type} (us : List α) (h : us.length = 2) : ∃ a b, us = [a, b] := by
  cases us with
  | nil => cases h
  | cons a us =>
    obtain ⟨b, rfl⟩ := len_1 us (by simpa using h)
    exact ⟨a, b, rfl⟩
theorem len_3 {α : Type} (us : List α) (h : us.length = 3) : ∃ a b c, us = [a, b, c] := by
  cases us with
  | nil => cases h
  | cons a us =>
    obtain ⟨b, c, rfl⟩ := len_2 us (by simpa using h)
    exact ⟨a, b, c, rfl⟩
theorem len_4 {α : Type} (us : List α) (h : us.length = 4) : ∃ a b c d, us = [a, b, c, d] := by
  cases us with
  | nil => cases h
  | cons a us =>
    obtain ⟨b, c, d, rfl⟩ := len_3 us (by simpa using h)
    exact ⟨a, b, c, d, rfl⟩
theorem all_mk {l : PySem.W.OpenLaw} {w : World} {K : PySem.W.Frag} {h : Heap} {mg : Str → Option Value} {fa : Addr} (X : K.In h) (G : h.Ns mainGlobals mg) (hfa : mg "law" = some (.ref fa)) (hp : l.prog.given.tree = none)
    {f0 f1 f2 f3 f4 f5 f6 f7 f8 f9 f10 f11 f12 f13 f14 f15 f16 f17 f18 f19 f20 f21 f22 f23 f24 f25 f26 f27 f28 f29 f30 f31 C_Train E_NoName E_Twice E_NoTeeth E_Full E_NoWheel E_NoJoin E_Jams dv11 dv12 q_KINDS : Addr} {od0 an0 od1 an1 od2 an2 od3 an3 od4 an4 od5 an5 od6 an6 od7 an7 od8 an8 od9 an9 od10 an10 od11 an11 od12 an12 od13 an13 od14 an14 od15 an15 od16 an16 od17 an17 od18 an18 od19 an19 od20 an20 od21 an21 od22 an22 od23 an23 od24 an24 od25 an25 od26 an26 od27 an27 od28 an28 od29 an29 od30 an30 od31 an31 odd11 odd12 qd_KINDS : Option Addr} {sl0 sl1 sl2 sl3 sl4 sl5 sl6 sl7 sl8 sl9 sl10 sl11 sl12 sl13 sl14 sl15 sl16 sl17 sl18 sl19 sl20 sl21 sl22 sl23 sl24 sl25 sl26 sl27 sl28 sl29 sl30 sl31 sll11 sll12 qs_KINDS : Array (Option Value)} {oc0 kV0 dc0 pm0 cd0 ct0 oc1 kV1 dc1 pm1 cd1 ct1 oc2 kV2 dc2 pm2 cd2 ct2 oc3 kV3 dc3 pm3 cd3 ct3 oc4 kV4 dc4 pm4 cd4 ct4 oc5 kV5 dc5 pm5 cd5 ct5 oc6 kV6 dc6 pm6 cd6 ct6 oc7 kV7 dc7 pm7 cd7 ct7 oc8 kV8 dc8 pm8 cd8 ct8 oc9 kV9 dc9 pm9 cd9 ct9 oc10 kV10 dc10 pm10 cd10 ct10 oc11 kV11 dc11 pm11 cd11 ct11 oc12 kV12 dc12 pm12 cd12 ct12 oc13 kV13 dc13 pm13 cd13 ct13 oc14 kV14 dc14 pm14 cd14 ct14 oc15 kV15 dc15 pm15 cd15 ct15 oc16 kV16 dc16 pm16 cd16 ct16 oc17 kV17 dc17 pm17 cd17 ct17 oc18 kV18 dc18 pm18 cd18 ct18 oc19 kV19 dc19 pm19 cd19 ct19 oc20 kV20 dc20 pm20 cd20 ct20 oc21 kV21 dc21 pm21 cd21 ct21 oc22 kV22 dc22 pm22 cd22 ct22 oc23 kV23 dc23 pm23 cd23 ct23 oc24 kV24 dc24 pm24 cd24 ct24 oc25 kV25 dc25 pm25 cd25 ct25 oc26 kV26 dc26 pm26 cd26 ct26 oc27 kV27 dc27 pm27 cd27 ct27 oc28 kV28 dc28 pm28 cd28 ct28 oc29 kV29 dc29 pm29 cd29 ct29 oc30 kV30 dc30 pm30 cd30 ct30 oc31 kV31 dc31 pm31 cd31 ct31 : Value}
    {t_LONGEST_NAME t_TEETH_BOUND t_MOST_WHEELS t_MOST_JOINS t_LETTERS t_KINDS0 t_KINDS1 t_KINDS2 t_KINDS3 : Tok}
    {nn11 nn12 qn_KINDS : Nat}
    (aC_Train : PySem.W.nsIn K mainGlobals "Train" = some (some (.ref C_Train)))
    (aE_NoName : PySem.W.nsIn K mainGlobals "NoName" = some (some (.ref E_NoName)))
    (aE_Twice : PySem.W.nsIn K mainGlobals "Twice" = some (some (.ref E_Twice)))
    (aE_NoTeeth : PySem.W.nsIn K mainGlobals "NoTeeth" = some (some (.ref E_NoTeeth)))
    (aE_Full : PySem.W.nsIn K mainGlobals "Full" = some (some (.ref E_Full)))
    (aE_NoWheel : PySem.W.nsIn K mainGlobals "NoWheel" = some (some (.ref E_NoWheel)))
    (aE_NoJoin : PySem.W.nsIn K mainGlobals "NoJoin" = some (some (.ref E_NoJoin)))
    (aE_Jams : PySem.W.nsIn K mainGlobals "Jams" = some (some (.ref E_Jams)))
    (a0 : PySem.W.nsIn K mainGlobals "greatest_divisor" = some (some (.ref f0)))
    (l0 : K.lookup f0 = some ⟨oc0, od0, .func (PySem.W.fnOf "greatest_divisor" "greatest_divisor" (defArgs s_greatest_divisor) (defBody s_greatest_divisor) (defScope s_greatest_divisor) .none kV0 dc0 pm0 an0 cd0 ct0), sl0⟩)
    (c0 : PySem.W.codeIn K cd0 "greatest_divisor" = true)
    (k0 : PySem.W.keepIn K (.ref f0) = true)
    (a1 : PySem.W.nsIn K mainGlobals "lowest" = some (some (.ref f1)))
    (l1 : K.lookup f1 = some ⟨oc1, od1, .func (PySem.W.fnOf "lowest" "lowest" (defArgs s_lowest) (defBody s_lowest) (defScope s_lowest) .none kV1 dc1 pm1 an1 cd1 ct1), sl1⟩)
    (c1 : PySem.W.codeIn K cd1 "lowest" = true)
    (k1 : PySem.W.keepIn K (.ref f1) = true)
    (a2 : PySem.W.nsIn K mainGlobals "times" = some (some (.ref f2)))
    (l2 : K.lookup f2 = some ⟨oc2, od2, .func (PySem.W.fnOf "times" "times" (defArgs s_times) (defBody s_times) (defScope s_times) .none kV2 dc2 pm2 an2 cd2 ct2), sl2⟩)
    (c2 : PySem.W.codeIn K cd2 "times" = true)
    (k2 : PySem.W.keepIn K (.ref f2) = true)
    (a3 : PySem.W.nsIn K mainGlobals "factor" = some (some (.ref f3)))
    (l3 : K.lookup f3 = some ⟨oc3, od3, .func (PySem.W.fnOf "factor" "factor" (defArgs s_factor) (defBody s_factor) (defScope s_factor) .none kV3 dc3 pm3 an3 cd3 ct3), sl3⟩)
    (c3 : PySem.W.codeIn K cd3 "factor" = true)
    (k3 : PySem.W.keepIn K (.ref f3) = true)
    (a4 : PySem.W.nsIn K mainGlobals "refuse_unknown" = some (some (.ref f4)))
    (l4 : K.lookup f4 = some ⟨oc4, od4, .func (PySem.W.fnOf "refuse_unknown" "refuse_unknown" (defArgs s_refuse_unknown) (defBody s_refuse_unknown) (defScope s_refuse_unknown) .none kV4 dc4 pm4 an4 cd4 ct4), sl4⟩)
    (c4 : PySem.W.codeIn K cd4 "refuse_unknown" = true)
    (k4 : PySem.W.keepIn K (.ref f4) = true)
    (a5 : PySem.W.nsIn K mainGlobals "wheel_meant" = some (some (.ref f5)))
    (l5 : K.lookup f5 = some ⟨oc5, od5, .func (PySem.W.fnOf "wheel_meant" "wheel_meant" (defArgs s_wheel_meant) (defBody s_wheel_meant) (defScope s_wheel_meant) .none kV5 dc5 pm5 an5 cd5 ct5), sl5⟩)
    (c5 : PySem.W.codeIn K cd5 "wheel_meant" = true)
    (k5 : PySem.W.keepIn K (.ref f5) = true)
    (a6 : PySem.W.nsIn K mainGlobals "joins_from" = some (some (.ref f6)))
    (l6 : K.lookup f6 = some ⟨oc6, od6, .func (PySem.W.fnOf "joins_from" "joins_from" (defArgs s_joins_from) (defBody s_joins_from) (defScope s_joins_from) .none kV6 dc6 pm6 an6 cd6 ct6), sl6⟩)
    (c6 : PySem.W.codeIn K cd6 "joins_from" = true)
    (k6 : PySem.W.keepIn K (.ref f6) = true)
    (a7 : PySem.W.nsIn K mainGlobals "tree_from" = some (some (.ref f7)))
    (l7 : K.lookup f7 = some ⟨oc7, od7, .func (PySem.W.fnOf "tree_from" "tree_from" (defArgs s_tree_from) (defBody s_tree_from) (defScope s_tree_from) .none kV7 dc7 pm7 an7 cd7 ct7), sl7⟩)
    (c7 : PySem.W.codeIn K cd7 "tree_from" = true)
    (k7 : PySem.W.keepIn K (.ref f7) = true)
    (a8 : PySem.W.nsIn K mainGlobals "shares_along" = some (some (.ref f8)))
    (l8 : K.lookup f8 = some ⟨oc8, od8, .func (PySem.W.fnOf "shares_along" "shares_along" (defArgs s_shares_along) (defBody s_shares_along) (defScope s_shares_along) .none kV8 dc8 pm8 an8 cd8 ct8), sl8⟩)
    (c8 : PySem.W.codeIn K cd8 "shares_along" = true)
    (k8 : PySem.W.keepIn K (.ref f8) = true)
    (a9 : PySem.W.nsIn K mainGlobals "jamming_join" = some (some (.ref f9)))
    (l9 : K.lookup f9 = some ⟨oc9, od9, .func (PySem.W.fnOf "jamming_join" "jamming_join" (defArgs s_jamming_join) (defBody s_jamming_join) (defScope s_jamming_join) .none kV9 dc9 pm9 an9 cd9 ct9), sl9⟩)
    (c9 : PySem.W.codeIn K cd9 "jamming_join" = true)
    (k9 : PySem.W.keepIn K (.ref f9) = true)
    (a10 : PySem.W.nsIn K mainGlobals "free_shares" = some (some (.ref f10)))
    (l10 : K.lookup f10 = some ⟨oc10, od10, .func (PySem.W.fnOf "free_shares" "free_shares" (defArgs s_free_shares) (defBody s_free_shares) (defScope s_free_shares) .none kV10 dc10 pm10 an10 cd10 ct10), sl10⟩)
    (c10 : PySem.W.codeIn K cd10 "free_shares" = true)
    (k10 : PySem.W.keepIn K (.ref f10) = true)
    (a11 : PySem.W.nsIn K mainGlobals "turns" = some (some (.ref f11)))
    (l11 : K.lookup f11 = some ⟨oc11, od11, .func (PySem.W.fnOf "turns" "turns" (defArgs s_turns) (defBody s_turns) (defScope s_turns) (.ref dv11) kV11 dc11 pm11 an11 cd11 ct11), sl11⟩)
    (d11 : K.lookup dv11 = some ⟨.type "tuple", odd11, .seq #[.none] nn11, sll11⟩)
    (c11 : PySem.W.codeIn K cd11 "turns" = true)
    (k11 : PySem.W.keepIn K (.ref f11) = true)
    (a12 : PySem.W.nsIn K mainGlobals "back_after" = some (some (.ref f12)))
    (l12 : K.lookup f12 = some ⟨oc12, od12, .func (PySem.W.fnOf "back_after" "back_after" (defArgs s_back_after) (defBody s_back_after) (defScope s_back_after) (.ref dv12) kV12 dc12 pm12 an12 cd12 ct12), sl12⟩)
    (d12 : K.lookup dv12 = some ⟨.type "tuple", odd12, .seq #[.none] nn12, sll12⟩)
    (c12 : PySem.W.codeIn K cd12 "back_after" = true)
    (k12 : PySem.W.keepIn K (.ref f12) = true)
    (a13 : PySem.W.nsIn K mainGlobals "is_name" = some (some (.ref f13)))
    (l13 : K.lookup f13 = some ⟨oc13, od13, .func (PySem.W.fnOf "is_name" "is_name" (defArgs s_is_name) (defBody s_is_name) (defScope s_is_name) .none kV13 dc13 pm13 an13 cd13 ct13), sl13⟩)
    (c13 : PySem.W.codeIn K cd13 "is_name" = true)
    (k13 : PySem.W.keepIn K (.ref f13) = true)
    (a14 : PySem.W.findIn K (.ref C_Train) "__init__" = some (some (.ref f14)))
    (i14 : PySem.W.isFn K (.ref f14) = true)
    (l14 : K.lookup f14 = some ⟨oc14, od14, .func (PySem.W.fnOf "__init__" "Train.__init__" (defArgs s_Train___init__) (defBody s_Train___init__) (defScope s_Train___init__) .none kV14 dc14 pm14 an14 cd14 ct14), sl14⟩)
    (c14 : PySem.W.codeIn K cd14 "Train.__init__" = true)
    (k14 : PySem.W.keepIn K (.ref f14) = true)
    (a15 : PySem.W.findIn K (.ref C_Train) "put_wheel" = some (some (.ref f15)))
    (i15 : PySem.W.isFn K (.ref f15) = true)
    (l15 : K.lookup f15 = some ⟨oc15, od15, .func (PySem.W.fnOf "put_wheel" "Train.put_wheel" (defArgs s_Train_put_wheel) (defBody s_Train_put_wheel) (defScope s_Train_put_wheel) .none kV15 dc15 pm15 an15 cd15 ct15), sl15⟩)
    (c15 : PySem.W.codeIn K cd15 "Train.put_wheel" = true)
    (k15 : PySem.W.keepIn K (.ref f15) = true)
    (a16 : PySem.W.findIn K (.ref C_Train) "put_join" = some (some (.ref f16)))
    (i16 : PySem.W.isFn K (.ref f16) = true)
    (l16 : K.lookup f16 = some ⟨oc16, od16, .func (PySem.W.fnOf "put_join" "Train.put_join" (defArgs s_Train_put_join) (defBody s_Train_put_join) (defScope s_Train_put_join) .none kV16 dc16 pm16 an16 cd16 ct16), sl16⟩)
    (c16 : PySem.W.codeIn K cd16 "Train.put_join" = true)
    (k16 : PySem.W.keepIn K (.ref f16) = true)
    (a17 : PySem.W.findIn K (.ref C_Train) "wheels" = some (some (.ref f17)))
    (i17 : PySem.W.isFn K (.ref f17) = true)
    (l17 : K.lookup f17 = some ⟨oc17, od17, .func (PySem.W.fnOf "wheels" "Train.wheels" (defArgs s_Train_wheels) (defBody s_Train_wheels) (defScope s_Train_wheels) .none kV17 dc17 pm17 an17 cd17 ct17), sl17⟩)
    (c17 : PySem.W.codeIn K cd17 "Train.wheels" = true)
    (k17 : PySem.W.keepIn K (.ref f17) = true)
    (a18 : PySem.W.findIn K (.ref C_Train) "joins" = some (some (.ref f18)))
    (i18 : PySem.W.isFn K (.ref f18) = true)
    (l18 : K.lookup f18 = some ⟨oc18, od18, .func (PySem.W.fnOf "joins" "Train.joins" (defArgs s_Train_joins) (defBody s_Train_joins) (defScope s_Train_joins) .none kV18 dc18 pm18 an18 cd18 ct18), sl18⟩)
    (c18 : PySem.W.codeIn K cd18 "Train.joins" = true)
    (k18 : PySem.W.keepIn K (.ref f18) = true)
    (a19 : PySem.W.nsIn K mainGlobals "_law_cell_at" = some (some (.ref f19)))
    (l19 : K.lookup f19 = some ⟨oc19, od19, .func (PySem.W.fnOf "_law_cell_at" "_law_cell_at" (defArgs s_law_cell_at) (defBody s_law_cell_at) (defScope s_law_cell_at) .none kV19 dc19 pm19 an19 cd19 ct19), sl19⟩)
    (c19 : PySem.W.codeIn K cd19 "_law_cell_at" = true)
    (k19 : PySem.W.keepIn K (.ref f19) = true)
    (a20 : PySem.W.nsIn K mainGlobals "_law_whole" = some (some (.ref f20)))
    (l20 : K.lookup f20 = some ⟨oc20, od20, .func (PySem.W.fnOf "_law_whole" "_law_whole" (defArgs s_law_whole) (defBody s_law_whole) (defScope s_law_whole) .none kV20 dc20 pm20 an20 cd20 ct20), sl20⟩)
    (c20 : PySem.W.codeIn K cd20 "_law_whole" = true)
    (k20 : PySem.W.keepIn K (.ref f20) = true)
    (a21 : PySem.W.nsIn K mainGlobals "_law_common" = some (some (.ref f21)))
    (l21 : K.lookup f21 = some ⟨oc21, od21, .func (PySem.W.fnOf "_law_common" "_law_common" (defArgs s_law_common) (defBody s_law_common) (defScope s_law_common) .none kV21 dc21 pm21 an21 cd21 ct21), sl21⟩)
    (c21 : PySem.W.codeIn K cd21 "_law_common" = true)
    (k21 : PySem.W.keepIn K (.ref f21) = true)
    (a22 : PySem.W.nsIn K mainGlobals "_law_name" = some (some (.ref f22)))
    (l22 : K.lookup f22 = some ⟨oc22, od22, .func (PySem.W.fnOf "_law_name" "_law_name" (defArgs s_law_name) (defBody s_law_name) (defScope s_law_name) .none kV22 dc22 pm22 an22 cd22 ct22), sl22⟩)
    (c22 : PySem.W.codeIn K cd22 "_law_name" = true)
    (k22 : PySem.W.keepIn K (.ref f22) = true)
    (a23 : PySem.W.nsIn K mainGlobals "_law_teeth" = some (some (.ref f23)))
    (l23 : K.lookup f23 = some ⟨oc23, od23, .func (PySem.W.fnOf "_law_teeth" "_law_teeth" (defArgs s_law_teeth) (defBody s_law_teeth) (defScope s_law_teeth) .none kV23 dc23 pm23 an23 cd23 ct23), sl23⟩)
    (c23 : PySem.W.codeIn K cd23 "_law_teeth" = true)
    (k23 : PySem.W.keepIn K (.ref f23) = true)
    (a24 : PySem.W.nsIn K mainGlobals "_law_rows" = some (some (.ref f24)))
    (l24 : K.lookup f24 = some ⟨oc24, od24, .func (PySem.W.fnOf "_law_rows" "_law_rows" (defArgs s_law_rows) (defBody s_law_rows) (defScope s_law_rows) .none kV24 dc24 pm24 an24 cd24 ct24), sl24⟩)
    (c24 : PySem.W.codeIn K cd24 "_law_rows" = true)
    (k24 : PySem.W.keepIn K (.ref f24) = true)
    (a25 : PySem.W.nsIn K mainGlobals "_law_train" = some (some (.ref f25)))
    (l25 : K.lookup f25 = some ⟨oc25, od25, .func (PySem.W.fnOf "_law_train" "_law_train" (defArgs s_law_train) (defBody s_law_train) (defScope s_law_train) .none kV25 dc25 pm25 an25 cd25 ct25), sl25⟩)
    (c25 : PySem.W.codeIn K cd25 "_law_train" = true)
    (k25 : PySem.W.keepIn K (.ref f25) = true)
    (a26 : PySem.W.nsIn K mainGlobals "_law_least" = some (some (.ref f26)))
    (l26 : K.lookup f26 = some ⟨oc26, od26, .func (PySem.W.fnOf "_law_least" "_law_least" (defArgs s_law_least) (defBody s_law_least) (defScope s_law_least) .none kV26 dc26 pm26 an26 cd26 ct26), sl26⟩)
    (c26 : PySem.W.codeIn K cd26 "_law_least" = true)
    (k26 : PySem.W.keepIn K (.ref f26) = true)
    (a27 : PySem.W.nsIn K mainGlobals "_law_after" = some (some (.ref f27)))
    (l27 : K.lookup f27 = some ⟨oc27, od27, .func (PySem.W.fnOf "_law_after" "_law_after" (defArgs s_law_after) (defBody s_law_after) (defScope s_law_after) .none kV27 dc27 pm27 an27 cd27 ct27), sl27⟩)
    (c27 : PySem.W.codeIn K cd27 "_law_after" = true)
    (k27 : PySem.W.keepIn K (.ref f27) = true)
    (a28 : PySem.W.nsIn K mainGlobals "_law_turns" = some (some (.ref f28)))
    (l28 : K.lookup f28 = some ⟨oc28, od28, .func (PySem.W.fnOf "_law_turns" "_law_turns" (defArgs s_law_turns) (defBody s_law_turns) (defScope s_law_turns) .none kV28 dc28 pm28 an28 cd28 ct28), sl28⟩)
    (c28 : PySem.W.codeIn K cd28 "_law_turns" = true)
    (k28 : PySem.W.keepIn K (.ref f28) = true)
    (a29 : PySem.W.nsIn K mainGlobals "_law_asked" = some (some (.ref f29)))
    (l29 : K.lookup f29 = some ⟨oc29, od29, .func (PySem.W.fnOf "_law_asked" "_law_asked" (defArgs s_law_asked) (defBody s_law_asked) (defScope s_law_asked) .none kV29 dc29 pm29 an29 cd29 ct29), sl29⟩)
    (c29 : PySem.W.codeIn K cd29 "_law_asked" = true)
    (k29 : PySem.W.keepIn K (.ref f29) = true)
    (a30 : PySem.W.nsIn K mainGlobals "_law_refused" = some (some (.ref f30)))
    (l30 : K.lookup f30 = some ⟨oc30, od30, .func (PySem.W.fnOf "_law_refused" "_law_refused" (defArgs s_law_refused) (defBody s_law_refused) (defScope s_law_refused) .none kV30 dc30 pm30 an30 cd30 ct30), sl30⟩)
    (c30 : PySem.W.codeIn K cd30 "_law_refused" = true)
    (k30 : PySem.W.keepIn K (.ref f30) = true)
    (a31 : PySem.W.nsIn K mainGlobals "law" = some (some (.ref f31)))
    (l31 : K.lookup f31 = some ⟨oc31, od31, .func (PySem.W.fnOf "law" "law" (defArgs s_law) (defBody s_law) (defScope s_law) .none kV31 dc31 pm31 an31 cd31 ct31), sl31⟩)
    (c31 : PySem.W.codeIn K cd31 "law" = true)
    (k31 : PySem.W.keepIn K (.ref f31) = true)
    (pg_Train : PySem.W.plainGet K C_Train Str.empty = true)
    (hd_Train : PySem.W.hasDictIn K C_Train = true)
    (po_Train : PySem.W.plainOver K C_Train = true)
    (sa_Train : PySem.W.findIn K (.ref C_Train) "__setattr__" = some (some (.builtin "object.__setattr__")))
    (mk_Train : PySem.W.makesIn K C_Train = true)
    (kc_Train : PySem.W.keepIn K (.ref C_Train) = true)
    (n_Train_teeth_of : PySem.W.findIn K (.ref C_Train) "teeth_of" = some none)
    (n_Train_join_of : PySem.W.findIn K (.ref C_Train) "join_of" = some none)
    (n_Train_next_number : PySem.W.findIn K (.ref C_Train) "next_number" = some none)
    (z0 : PySem.W.nsIn K mainGlobals "len" = some none)
    (z1 : PySem.W.nsIn K mainGlobals "all" = some none)
    (z2 : PySem.W.nsIn K mainGlobals "list" = some none)
    (z3 : PySem.W.nsIn K mainGlobals "range" = some none)
    (z4 : PySem.W.nsIn K mainGlobals "isinstance" = some none)
    (z5 : PySem.W.nsIn K mainGlobals "int" = some none)
    (z6 : PySem.W.nsIn K mainGlobals "bool" = some none)
    (z7 : PySem.W.nsIn K mainGlobals "str" = some none)
    (z8 : PySem.W.nsIn K mainGlobals "max" = some none)
    (z9 : PySem.W.nsIn K mainGlobals "abs" = some none)
    (z10 : PySem.W.nsIn K mainGlobals "dict" = some none)
    (g_LONGEST_NAME : PySem.W.nsIn K mainGlobals "LONGEST_NAME" = some (some (.int 8 t_LONGEST_NAME)))
    (g_TEETH_BOUND : PySem.W.nsIn K mainGlobals "TEETH_BOUND" = some (some (.int 1000000000 t_TEETH_BOUND)))
    (g_MOST_WHEELS : PySem.W.nsIn K mainGlobals "MOST_WHEELS" = some (some (.int 100 t_MOST_WHEELS)))
    (g_MOST_JOINS : PySem.W.nsIn K mainGlobals "MOST_JOINS" = some (some (.int 200 t_MOST_JOINS)))
    (g_LETTERS : PySem.W.nsIn K mainGlobals "LETTERS" = some (some (.str "abcdefghijklmnopqrstuvwxyz" t_LETTERS)))
    (g_KINDS : PySem.W.nsIn K mainGlobals "KINDS" = some (some (.ref q_KINDS)))
    (gl_KINDS : K.lookup q_KINDS = some ⟨.type "tuple", qd_KINDS, .seq #[.str "mesh" t_KINDS0, .str "pin" t_KINDS1, .str "band" t_KINDS2, .str "cross" t_KINDS3] qn_KINDS, qs_KINDS⟩)
    (ex_NoName : PySem.W.excIn K E_NoName bmV "ValueError.__new__" = true)
    (ex_Twice : PySem.W.excIn K E_Twice bmV "ValueError.__new__" = true)
    (ex_NoTeeth : PySem.W.excIn K E_NoTeeth bmV "ValueError.__new__" = true)
    (ex_Full : PySem.W.excIn K E_Full bmV "ValueError.__new__" = true)
    (ex_NoWheel : PySem.W.excIn K E_NoWheel bmV "ValueError.__new__" = true)
    (ex_NoJoin : PySem.W.excIn K E_NoJoin bmV "ValueError.__new__" = true)
    (ex_Jams : PySem.W.excIn K E_Jams bmV "ValueError.__new__" = true)
    (xm_NoWheel_NoWheel : PySem.W.exmOne K (.ref E_NoWheel) (.ref E_NoWheel) = some true)
    (xm_Jams_Jams : PySem.W.exmOne K (.ref E_Jams) (.ref E_Jams) = some true)
    : ∃ fd : FuncData, (∀ (s : Shared) (v : Value), BindsTo s fd ⟨[v], []⟩ [("_law_script", v)]) ∧ ∀ base : Heap, K.In base → base.Ns mainGlobals mg → base.NoSeer → FnOk l.prog w K mg base CX0 48 fa fd ["_law_script"] (spScript K) := by
  have e := hfa.symm.trans (PySem.W.mg_of X G a31)
  cases e
  have T : Txt K mg := ⟨PySem.W.mg_none_of X G z0, PySem.W.mg_none_of X G z1, PySem.W.mg_none_of X G z2, PySem.W.mg_none_of X G z3, PySem.W.mg_none_of X G z4, PySem.W.mg_none_of X G z5, PySem.W.mg_none_of X G z6, PySem.W.mg_none_of X G z7, PySem.W.mg_none_of X G z8, PySem.W.mg_none_of X G z9, PySem.W.mg_none_of X G z10, ⟨_, PySem.W.mg_of X G g_LONGEST_NAME⟩, ⟨_, PySem.W.mg_of X G g_TEETH_BOUND⟩, ⟨_, PySem.W.mg_of X G g_MOST_WHEELS⟩, ⟨_, PySem.W.mg_of X G g_MOST_JOINS⟩, ⟨_, PySem.W.mg_of X G g_LETTERS⟩, ⟨_, PySem.W.mg_of X G g_KINDS, fun _ => .inr ⟨_, _, _, gl_KINDS, rfl, rfl, Nat.le_of_ble_eq_true rfl, (.cons ⟨_, rfl⟩ (.cons ⟨_, rfl⟩ (.cons ⟨_, rfl⟩ (.cons ⟨_, rfl⟩ .nil))))⟩⟩⟩
  have F_greatest_divisor := fun_mk (st := s_greatest_divisor) l0 c0 k0
  have b_greatest_divisor := F_greatest_divisor.binds (ps := ["one", "other"]) fun _ _ _ _ _ _ us hl => by obtain ⟨_, _, rfl⟩ := len_2 us hl; rfl
  have m_greatest_divisor := PySem.W.mg_of X G a0
  have k_greatest_divisor := k0
  have F_lowest := fun_mk (st := s_lowest) l1 c1 k1
  have b_lowest := F_lowest.binds (ps := ["top", "bottom"]) fun _ _ _ _ _ _ us hl => by obtain ⟨_, _, rfl⟩ := len_2 us hl; rfl
  have m_lowest := PySem.W.mg_of X G a1
  have k_lowest := k1
  have F_times := fun_mk (st := s_times) l2 c2 k2
  have b_times := F_times.binds (ps := ["one", "other"]) fun _ _ _ _ _ _ us hl => by obtain ⟨_, _, rfl⟩ := len_2 us hl; rfl
  have m_times := PySem.W.mg_of X G a2
  have k_times := k2
  have F_factor := fun_mk (st := s_factor) l3 c3 k3
  have b_factor := F_factor.binds (ps := ["kind", "one", "other"]) fun _ _ _ _ _ _ us hl => by obtain ⟨_, _, _, rfl⟩ := len_3 us hl; rfl
  have m_factor := PySem.W.mg_of X G a3
  have k_factor := k3
  have F_refuse_unknown := fun_mk (st := s_refuse_unknown) l4 c4 k4
  have b_refuse_unknown := F_refuse_unknown.binds (ps := ["names", "name"]) fun _ _ _ _ _ _ us hl => by obtain ⟨_, _, rfl⟩ := len_2 us hl; rfl
  have m_refuse_unknown := PySem.W.mg_of X G a4
  have k_refuse_unknown := k4
  have F_wheel_meant := fun_mk (st := s_wheel_meant) l5 c5 k5
  have b_wheel_meant := F_wheel_meant.binds (ps := ["train", "name"]) fun _ _ _ _ _ _ us hl => by obtain ⟨_, _, rfl⟩ := len_2 us hl; rfl
  have m_wheel_meant := PySem.W.mg_of X G a5
  have k_wheel_meant := k5
  have F_joins_from := fun_mk (st := s_joins_from) l6 c6 k6
  have b_joins_from := F_joins_from.binds (ps := ["joins", "here"]) fun _ _ _ _ _ _ us hl => by obtain ⟨_, _, rfl⟩ := len_2 us hl; rfl
  have m_joins_from := PySem.W.mg_of X G a6
  have k_joins_from := k6
  have F_tree_from := fun_mk (st := s_tree_from) l7 c7 k7
  have b_tree_from := F_tree_from.binds (ps := ["joins", "start"]) fun _ _ _ _ _ _ us hl => by obtain ⟨_, _, rfl⟩ := len_2 us hl; rfl
  have m_tree_from := PySem.W.mg_of X G a7
  have k_tree_from := k7
  have F_shares_along := fun_mk (st := s_shares_along) l8 c8 k8
  have b_shares_along := F_shares_along.binds (ps := ["train", "tree"]) fun _ _ _ _ _ _ us hl => by obtain ⟨_, _, rfl⟩ := len_2 us hl; rfl
  have m_shares_along := PySem.W.mg_of X G a8
  have k_shares_along := k8
  have F_jamming_join := fun_mk (st := s_jamming_join) l9 c9 k9
  have b_jamming_join := F_jamming_join.binds (ps := ["train", "shares"]) fun _ _ _ _ _ _ us hl => by obtain ⟨_, _, rfl⟩ := len_2 us hl; rfl
  have m_jamming_join := PySem.W.mg_of X G a9
  have k_jamming_join := k9
  have F_free_shares := fun_mk (st := s_free_shares) l10 c10 k10
  have b_free_shares := F_free_shares.binds (ps := ["train", "name"]) fun _ _ _ _ _ _ us hl => by obtain ⟨_, _, rfl⟩ := len_2 us hl; rfl
  have m_free_shares := PySem.W.mg_of X G a10
  have k_free_shares := k10
  have F_turns := funD_mk (st := s_turns) l11 c11 d11
  have b_turns : Binds K (PySem.W.fnOf "turns" "turns" (defArgs s_turns) (defBody s_turns) (defScope s_turns) (.ref dv11) kV11 dc11 pm11 an11 cd11 ct11) ["train", "name"] [] := fun s us hk hl => by rw [List.append_nil] at hl ⊢; obtain ⟨_, _, rfl⟩ := len_2 us hl; exact .of_defaults rfl (hk _ _ d11) rfl rfl rfl
  have bd_turns : Binds K (PySem.W.fnOf "turns" "turns" (defArgs s_turns) (defBody s_turns) (defScope s_turns) (.ref dv11) kV11 dc11 pm11 an11 cd11 ct11) ["train", "name"] [.none] := fun s us hk hl => by obtain ⟨_, rfl⟩ := len_1 us (by simpa using hl); exact .of_defaults rfl (hk _ _ d11) rfl rfl rfl
  have m_turns := PySem.W.mg_of X G a11
  have k_turns := k11
  have F_back_after := funD_mk (st := s_back_after) l12 c12 d12
  have b_back_after : Binds K (PySem.W.fnOf "back_after" "back_after" (defArgs s_back_after) (defBody s_back_after) (defScope s_back_after) (.ref dv12) kV12 dc12 pm12 an12 cd12 ct12) ["train", "name"] [] := fun s us hk hl => by rw [List.append_nil] at hl ⊢; obtain ⟨_, _, rfl⟩ := len_2 us hl; exact .of_defaults rfl (hk _ _ d12) rfl rfl rfl
  have bd_back_after : Binds K (PySem.W.fnOf "back_after" "back_after" (defArgs s_back_after) (defBody s_back_after) (defScope s_back_after) (.ref dv12) kV12 dc12 pm12 an12 cd12 ct12) ["train", "name"] [.none] := fun s us hk hl => by obtain ⟨_, rfl⟩ := len_1 us (by simpa using hl); exact .of_defaults rfl (hk _ _ d12) rfl rfl rfl
  have m_back_after := PySem.W.mg_of X G a12
  have k_back_after := k12
  have F_is_name := fun_mk (st := s_is_name) l13 c13 k13
  have b_is_name := F_is_name.binds (ps := ["text"]) fun _ _ _ _ _ _ us hl => by obtain ⟨_, rfl⟩ := len_1 us hl; rfl
  have m_is_name := PySem.W.mg_of X G a13
  have k_is_name := k13
  have F_Train___init__ := fun_mk (st := s_Train___init__) l14 c14 k14
  have b_Train___init__ := F_Train___init__.binds (ps := ["self"]) fun _ _ _ _ _ _ us hl => by obtain ⟨_, rfl⟩ := len_1 us hl; rfl
  have me_Train___init__ : Meth K C_Train "__init__" _ := ⟨a14, i14, k14⟩
  have F_Train_put_wheel := fun_mk (st := s_Train_put_wheel) l15 c15 k15
  have b_Train_put_wheel := F_Train_put_wheel.binds (ps := ["self", "name", "teeth"]) fun _ _ _ _ _ _ us hl => by obtain ⟨_, _, _, rfl⟩ := len_3 us hl; rfl
  have me_Train_put_wheel : Meth K C_Train "put_wheel" _ := ⟨a15, i15, k15⟩
  have F_Train_put_join := fun_mk (st := s_Train_put_join) l16 c16 k16
  have b_Train_put_join := F_Train_put_join.binds (ps := ["self", "kind", "one", "other"]) fun _ _ _ _ _ _ us hl => by obtain ⟨_, _, _, _, rfl⟩ := len_4 us hl; rfl
  have me_Train_put_join : Meth K C_Train "put_join" _ := ⟨a16, i16, k16⟩
  have F_Train_wheels := fun_mk (st := s_Train_wheels) l17 c17 k17
  have b_Train_wheels := F_Train_wheels.binds (ps := ["self"]) fun _ _ _ _ _ _ us hl => by obtain ⟨_, rfl⟩ := len_1 us hl; rfl
  have me_Train_wheels : Meth K C_Train "wheels" _ := ⟨a17, i17, k17⟩
  have F_Train_joins := fun_mk (st := s_Train_joins) l18 c18 k18
  have b_Train_joins := F_Train_joins.binds (ps := ["self"]) fun _ _ _ _ _ _ us hl => by obtain ⟨_, rfl⟩ := len_1 us hl; rfl
  have me_Train_joins : Meth K C_Train "joins" _ := ⟨a18, i18, k18⟩
  have F_law_cell_at := fun_mk (st := s_law_cell_at) l19 c19 k19
  have b_law_cell_at := F_law_cell_at.binds (ps := ["_law_script", "_law_k"]) fun _ _ _ _ _ _ us hl => by obtain ⟨_, _, rfl⟩ := len_2 us hl; rfl
  have m_law_cell_at := PySem.W.mg_of X G a19
  have k_law_cell_at := k19
  have F_law_whole := fun_mk (st := s_law_whole) l20 c20 k20
  have b_law_whole := F_law_whole.binds (ps := ["_law_found"]) fun _ _ _ _ _ _ us hl => by obtain ⟨_, rfl⟩ := len_1 us hl; rfl
  have m_law_whole := PySem.W.mg_of X G a20
  have k_law_whole := k20
  have F_law_common := fun_mk (st := s_law_common) l21 c21 k21
  have b_law_common := F_law_common.binds (ps := ["_law_one", "_law_other"]) fun _ _ _ _ _ _ us hl => by obtain ⟨_, _, rfl⟩ := len_2 us hl; rfl
  have m_law_common := PySem.W.mg_of X G a21
  have k_law_common := k21
  have F_law_name := fun_mk (st := s_law_name) l22 c22 k22
  have b_law_name := F_law_name.binds (ps := ["_law_k", "_law_spin"]) fun _ _ _ _ _ _ us hl => by obtain ⟨_, _, rfl⟩ := len_2 us hl; rfl
  have m_law_name := PySem.W.mg_of X G a22
  have k_law_name := k22
  have F_law_teeth := fun_mk (st := s_law_teeth) l23 c23 k23
  have b_law_teeth := F_law_teeth.binds (ps := ["_law_number", "_law_way"]) fun _ _ _ _ _ _ us hl => by obtain ⟨_, _, rfl⟩ := len_2 us hl; rfl
  have m_law_teeth := PySem.W.mg_of X G a23
  have k_law_teeth := k23
  have F_law_rows := fun_mk (st := s_law_rows) l24 c24 k24
  have b_law_rows := F_law_rows.binds (ps := ["_law_script"]) fun _ _ _ _ _ _ us hl => by obtain ⟨_, rfl⟩ := len_1 us hl; rfl
  have m_law_rows := PySem.W.mg_of X G a24
  have k_law_rows := k24
  have F_law_train := fun_mk (st := s_law_train) l25 c25 k25
  have b_law_train := F_law_train.binds (ps := ["_law_wheels", "_law_joins"]) fun _ _ _ _ _ _ us hl => by obtain ⟨_, _, rfl⟩ := len_2 us hl; rfl
  have m_law_train := PySem.W.mg_of X G a25
  have k_law_train := k25
  have F_law_least := fun_mk (st := s_law_least) l26 c26 k26
  have b_law_least := F_law_least.binds (ps := ["_law_found", "_law_told"]) fun _ _ _ _ _ _ us hl => by obtain ⟨_, _, rfl⟩ := len_2 us hl; rfl
  have m_law_least := PySem.W.mg_of X G a26
  have k_law_least := k26
  have F_law_after := fun_mk (st := s_law_after) l27 c27 k27
  have b_law_after := F_law_after.binds (ps := ["_law_train_here", "_law_name_here", "_law_way"]) fun _ _ _ _ _ _ us hl => by obtain ⟨_, _, _, rfl⟩ := len_3 us hl; rfl
  have m_law_after := PySem.W.mg_of X G a27
  have k_law_after := k27
  have F_law_turns := fun_mk (st := s_law_turns) l28 c28 k28
  have b_law_turns := F_law_turns.binds (ps := ["_law_train_here", "_law_name_here", "_law_way"]) fun _ _ _ _ _ _ us hl => by obtain ⟨_, _, _, rfl⟩ := len_3 us hl; rfl
  have m_law_turns := PySem.W.mg_of X G a28
  have k_law_turns := k28
  have F_law_asked := fun_mk (st := s_law_asked) l29 c29 k29
  have b_law_asked := F_law_asked.binds (ps := ["_law_train_here", "_law_name_here", "_law_way"]) fun _ _ _ _ _ _ us hl => by obtain ⟨_, _, _, rfl⟩ := len_3 us hl; rfl
  have m_law_asked := PySem.W.mg_of X G a29
  have k_law_asked := k29
  have F_law_refused := fun_mk (st := s_law_refused) l30 c30 k30
  have b_law_refused := F_law_refused.binds (ps := ["_law_train_here", "_law_name_here"]) fun _ _ _ _ _ _ us hl => by obtain ⟨_, _, rfl⟩ := len_2 us hl; rfl
  have m_law_refused := PySem.W.mg_of X G a30
  have k_law_refused := k30
  have F_law := fun_mk (st := s_law) l31 c31 k31
  have cl_Train : Cls K C_Train := ⟨pg_Train, hd_Train, po_Train, sa_Train⟩
  have pl_teeth_of : Pln K C_Train "teeth_of" := ⟨cl_Train, n_Train_teeth_of⟩
  have pl_join_of : Pln K C_Train "join_of" := ⟨cl_Train, n_Train_join_of⟩
  have pl_next_number : Pln K C_Train "next_number" := ⟨cl_Train, n_Train_next_number⟩
  have X_NoName : ExCls K mg "NoName" E_NoName := ⟨PySem.W.mg_of X G aE_NoName, ex_NoName⟩
  have X_Twice : ExCls K mg "Twice" E_Twice := ⟨PySem.W.mg_of X G aE_Twice, ex_Twice⟩
  have X_NoTeeth : ExCls K mg "NoTeeth" E_NoTeeth := ⟨PySem.W.mg_of X G aE_NoTeeth, ex_NoTeeth⟩
  have X_Full : ExCls K mg "Full" E_Full := ⟨PySem.W.mg_of X G aE_Full, ex_Full⟩
  have X_NoWheel : ExCls K mg "NoWheel" E_NoWheel := ⟨PySem.W.mg_of X G aE_NoWheel, ex_NoWheel⟩
  have X_NoJoin : ExCls K mg "NoJoin" E_NoJoin := ⟨PySem.W.mg_of X G aE_NoJoin, ex_NoJoin⟩
  have X_Jams : ExCls K mg "Jams" E_Jams := ⟨PySem.W.mg_of X G aE_Jams, ex_Jams⟩
  refine ⟨PySem.W.fnOf "law" "law" (defArgs s_law) (defBody s_law) (defScope s_law) .none kV31 dc31 pm31 an31 cd31 ct31, fun s v => .of_eq rfl, fun base kb nb sb => ?_⟩
  let EC : Rk → Addr := fun r => match r with | .noName => E_NoName | .twice => E_Twice | .noTeeth => E_NoTeeth | .full => E_Full | .noWheel => E_NoWheel | .noJoin => E_NoJoin
  have XK : ExK K mg EC := ⟨X_NoName, X_Twice, X_NoTeeth, X_Full, X_NoWheel, X_NoJoin⟩
  have h_law_cell_at : Has l.prog w K mg base (CXE l.prog w) 1 "_law_cell_at" ["_law_script", "_law_k"] (liftS K spCell) := ⟨_, _, ok_cell F_law_cell_at T, m_law_cell_at, k_law_cell_at, b_law_cell_at⟩
  have h_law_whole : Has l.prog w K mg base (CXE l.prog w) 1 "_law_whole" ["_law_found"] (liftS K spWhole) := ⟨_, _, ok_whole F_law_whole T, m_law_whole, k_law_whole, b_law_whole⟩
  have h_is_name : Has l.prog w K mg base (CXE l.prog w) 1 "is_name" ["text"] (liftS K spIsName) := ⟨_, _, ok_is_name F_is_name T, m_is_name, k_is_name, b_is_name⟩
  have h_Train : HasC l.prog w K mg base 1 "Train" C_Train (spInit C_Train) := ⟨PySem.W.mg_of X G aC_Train, _, _, ok_init F_Train___init__ pl_teeth_of pl_join_of pl_next_number, ⟨mk_Train, me_Train___init__.1, me_Train___init__.2, kc_Train⟩, b_Train___init__⟩
  have h_put_wheel : HasM l.prog w K mg base (CXE l.prog w) 2 C_Train "put_wheel" ["self", "name", "teeth"] (liftS K (spPutW C_Train EC)) := ⟨cl_Train, _, _, ok_put_wheel F_Train_put_wheel T XK pl_teeth_of h_is_name, me_Train_put_wheel, b_Train_put_wheel⟩
  have h_put_join : HasM l.prog w K mg base (CXE l.prog w) 2 C_Train "put_join" ["self", "kind", "one", "other"] (liftS K (spPutJ C_Train EC)) := ⟨cl_Train, _, _, ok_put_join F_Train_put_join T XK pl_teeth_of pl_join_of pl_next_number, me_Train_put_join, b_Train_put_join⟩
  have h_wheels : HasM l.prog w K mg base (CXE l.prog w) 1 C_Train "wheels" ["self"] (liftS K (spWheels C_Train)) := ⟨cl_Train, _, _, ok_wheels F_Train_wheels T pl_teeth_of, me_Train_wheels, b_Train_wheels⟩
  have h_joins : HasM l.prog w K mg base (CXE l.prog w) 1 C_Train "joins" ["self"] (liftS K (spJoins C_Train)) := ⟨cl_Train, _, _, ok_joins F_Train_joins T pl_join_of, me_Train_joins, b_Train_joins⟩
  have h_greatest_divisor : Has l.prog w K mg base (CXE l.prog w) 1 "greatest_divisor" ["one", "other"] (liftS K spGcd) := ⟨_, _, ok_gcd F_greatest_divisor T, m_greatest_divisor, k_greatest_divisor, b_greatest_divisor⟩
  have h_lowest : Has l.prog w K mg base (CXE l.prog w) 41 "lowest" ["top", "bottom"] (liftS K spLow) := ⟨_, _, ok_low F_lowest sb hp h_greatest_divisor, m_lowest, k_lowest, b_lowest⟩
  have h_times : Has l.prog w K mg base (CXE l.prog w) 42 "times" ["one", "other"] (liftS K spTimes) := ⟨_, _, ok_times F_times h_lowest, m_times, k_times, b_times⟩
  have h_factor : Has l.prog w K mg base (CXE l.prog w) 42 "factor" ["kind", "one", "other"] (liftS K spFactor) := ⟨_, _, ok_factor F_factor h_lowest, m_factor, k_factor, b_factor⟩
  have h_refuse_unknown : Has l.prog w K mg base (CXE l.prog w) 1 "refuse_unknown" ["names", "name"] (liftS K (spRefuse EC)) := ⟨_, _, ok_refuse_unknown F_refuse_unknown XK, m_refuse_unknown, k_refuse_unknown, b_refuse_unknown⟩
  have h_wheel_meant : Has l.prog w K mg base (CXE l.prog w) 2 "wheel_meant" ["train", "name"] (liftS K (spMeant C_Train EC)) := ⟨_, _, ok_wheel_meant F_wheel_meant T XK h_wheels h_refuse_unknown, m_wheel_meant, k_wheel_meant, b_wheel_meant⟩
  have h_joins_from : Has l.prog w K mg base (CXE l.prog w) 1 "joins_from" ["joins", "here"] (liftS K spLead) := ⟨_, _, ok_joins_from F_joins_from, m_joins_from, k_joins_from, b_joins_from⟩
  have h_tree_from : Has l.prog w K mg base (CXE l.prog w) 2 "tree_from" ["joins", "start"] (liftS K spTree) := ⟨_, _, ok_tree_from F_tree_from T h_joins_from, m_tree_from, k_tree_from, b_tree_from⟩
  have h_shares_along : Has l.prog w K mg base (CXE l.prog w) 43 "shares_along" ["train", "tree"] (liftS K (spShares C_Train)) := ⟨_, _, ok_shares_along F_shares_along T h_wheels h_times h_factor, m_shares_along, k_shares_along, b_shares_along⟩
  have h_jamming_join : Has l.prog w K mg base (CXE l.prog w) 43 "jamming_join" ["train", "shares"] (liftS K (spJam C_Train)) := ⟨_, _, ok_jamming_join F_jamming_join T h_wheels h_joins h_times h_factor, m_jamming_join, k_jamming_join, b_jamming_join⟩
  have h_free_shares : Has l.prog w K mg base (CXE l.prog w) 44 "free_shares" ["train", "name"] (liftS K (spFree C_Train EC E_Jams)) := ⟨_, _, ok_free_shares F_free_shares X_Jams h_joins h_wheel_meant h_tree_from h_shares_along h_jamming_join, m_free_shares, k_free_shares, b_free_shares⟩
  have h_turns : HasD l.prog w K mg base 45 "turns" ["train", "name"] (liftS K (spTurns C_Train EC E_Jams)) := ⟨_, _, ok_turns F_turns T h_wheels h_free_shares, m_turns, k_turns, b_turns, bd_turns⟩
  have h_back_after : HasD l.prog w K mg base 45 "back_after" ["train", "name"] (liftS K (spBack C_Train EC E_Jams)) := ⟨_, _, ok_back_after F_back_after sb hp h_greatest_divisor h_free_shares, m_back_after, k_back_after, b_back_after, bd_back_after⟩
  have h_law_name : Has l.prog w K mg base (CXE l.prog w) 1 "_law_name" ["_law_k", "_law_spin"] (liftS K spName) := ⟨_, _, ok_law_name F_law_name, m_law_name, k_law_name, b_law_name⟩
  have h_law_teeth : Has l.prog w K mg base (CXE l.prog w) 1 "_law_teeth" ["_law_number", "_law_way"] (liftS K spTeeth) := ⟨_, _, ok_law_teeth F_law_teeth, m_law_teeth, k_law_teeth, b_law_teeth⟩
  have h_law_rows : Has l.prog w K mg base (CXE l.prog w) 2 "_law_rows" ["_law_script"] (liftS K spRows) := ⟨_, _, ok_law_rows F_law_rows T h_law_cell_at h_law_name h_law_teeth, m_law_rows, k_law_rows, b_law_rows⟩
  have h_law_train : Has l.prog w K mg base (CXE l.prog w) 3 "_law_train" ["_law_wheels", "_law_joins"] (liftS K (spTrain C_Train)) := ⟨_, _, ok_law_train F_law_train h_Train h_put_wheel h_put_join, m_law_train, k_law_train, b_law_train⟩
  have h_law_common : Has l.prog w K mg base (CXE l.prog w) 1 "_law_common" ["_law_one", "_law_other"] (liftS K spGcd) := ⟨_, _, ok_law_common F_law_common T, m_law_common, k_law_common, b_law_common⟩
  have h_law_least : Has l.prog w K mg base (CXE l.prog w) 41 "_law_least" ["_law_found", "_law_told"] (liftS K spLeast) := ⟨_, _, ok_law_least F_law_least sb hp h_law_whole h_law_common, m_law_least, k_law_least, b_law_least⟩
  have h_law_after : Has l.prog w K mg base (CXE l.prog w) 46 "_law_after" ["_law_train_here", "_law_name_here", "_law_way"] (liftS K (spAfter C_Train E_Jams)) := ⟨_, _, ok_law_after F_law_after h_back_after, m_law_after, k_law_after, b_law_after⟩
  have h_law_turns : Has l.prog w K mg base (CXE l.prog w) 46 "_law_turns" ["_law_train_here", "_law_name_here", "_law_way"] (liftS K (spTurnsL C_Train E_Jams)) := ⟨_, _, ok_law_turns F_law_turns h_turns, m_law_turns, k_law_turns, b_law_turns⟩
  have h_law_asked : Has l.prog w K mg base (CXE l.prog w) 47 "_law_asked" ["_law_train_here", "_law_name_here", "_law_way"] (liftS K (spAsked C_Train)) := ⟨_, _, ok_law_asked F_law_asked X_Jams xm_Jams_Jams h_law_turns h_law_after h_law_least, m_law_asked, k_law_asked, b_law_asked⟩
  have h_law_refused : Has l.prog w K mg base (CXE l.prog w) 46 "_law_refused" ["_law_train_here", "_law_name_here"] (liftS K (spRefused C_Train)) := ⟨_, _, ok_law_refused F_law_refused XK xm_NoWheel_NoWheel h_back_after, m_law_refused, k_law_refused, b_law_refused⟩
  exact law_ok (ok_law (C := C_Train) F_law T h_law_cell_at h_law_rows h_law_train h_law_refused h_law_asked h_put_wheel h_put_join)
theorem walk {l : PySem.W.OpenLaw} {q : Program} {loose : List Str} {XP : (Str → Option Value) → Heap → Prop} {YP : World → Heap → Prop} {d : DefRec} {K : Params → PySem.W.Frag} (hn : l.most = some 63) (hdf : d.params.defaults = []) (him : importsNone q = true)
    (hY : ∀ (w : World) (h : Heap), YP w h → (K w.params).In h)
    (F : ∀ (w : World) (mg : Str → Option Value) (fa : Addr) (h : Heap), (K w.params).In h → h.Ns mainGlobals mg → mg d.name = some (.ref fa) →
      ∃ fd : FuncData, (∀ (s : Shared) (u : Value), BindsTo s fd ⟨[u], []⟩ [("_law_script", u)]) ∧ ∀ base : Heap, (K w.params).In base → base.Ns mainGlobals mg → base.NoSeer → FnOk l.prog w (K w.params) mg base CX0 48 fa fd ["_law_script"] (spScript (K w.params))) :
    PySem.W.WalkO q loose XP YP l.row.toRowW d [] (fun f vs => PySem.call f vs) :=
  L2.walk_ofB (n := 63) (k := 48) (x := "_law_script") (CX := CX0) (sp := spScript) hn (by decide) hdf ⟨rfl, by decide, by decide⟩ him hY F (fun _ _ a ns hl _ hS => ⟨a, ns, rfl, hS, hl, fun _ => rfl⟩) fun _ _ _ _ z => z
end K7
open PySem PySem.W PyProof.Rows
noncomputable def PySem.W.Fast.tw14567715293255321152 : Nat := 0
noncomputable def PySem.W.Fast.tw7572842222420207436 : Nat := 0
noncomputable def PySem.W.Fast.tw2734084163766315213 : Nat := 0
noncomputable def PySem.W.Fast.tw5846504424376355473 : Nat := 0
noncomputable def PySem.W.Fast.tw18032003842290852978 : Nat := 0
noncomputable def PySem.W.Fast.tw6751447478289555186 : Nat := 0
noncomputable def PySem.W.Fast.tw6806175553945292950 : Nat := 0
noncomputable def PySem.W.Fast.tw3112442618989001720 : Nat := 0
noncomputable def PySem.W.Fast.tw14121044347330204732 : Nat := 0
noncomputable def PySem.W.Fast.tw1937262793197794044 : Nat := 0
set_option maxRecDepth 100000 in
set_option maxHeartbeats 0 in
theorem PySem.Challenge.cw_cogtrain_k07_back_after_holds : PySem.Challenge.rw_cogtrain_k07_back_after.Holds := by
  w_on; o_law; k_head; (case hw => w_witness2)
  k_fill
  refine K7.walk (l := PySem.Challenge.rw_cogtrain_k07_back_after) rfl rfl (by decide +kernel) (fun w h Y => PySem.W.kIn_of Y) ?F
  case F =>
    intro w mg fa h KX G hmg
    refine' K7.all_mk KX G hmg rfl ?aC_Train ?aE_NoName ?aE_Twice ?aE_NoTeeth ?aE_Full ?aE_NoWheel ?aE_NoJoin ?aE_Jams ?a0 ?l0 ?c0 ?k0 ?a1 ?l1 ?c1 ?k1 ?a2 ?l2 ?c2 ?k2 ?a3 ?l3 ?c3 ?k3 ?a4 ?l4 ?c4 ?k4 ?a5 ?l5 ?c5 ?k5 ?a6 ?l6 ?c6 ?k6 ?a7 ?l7 ?c7 ?k7 ?a8 ?l8 ?c8 ?k8 ?a9 ?l9 ?c9 ?k9 ?a10 ?l10 ?c10 ?k10 ?a11 ?l11 ?d11 ?c11 ?k11 ?a12 ?l12 ?d12 ?c12 ?k12 ?a13 ?l13 ?c13 ?k13 ?a14 ?i14 ?l14 ?c14 ?k14 ?a15 ?i15 ?l15 ?c15 ?k15 ?a16 ?i16 ?l16 ?c16 ?k16 ?a17 ?i17 ?l17 ?c17 ?k17 ?a18 ?i18 ?l18 ?c18 ?k18 ?a19 ?l19 ?c19 ?k19 ?a20 ?l20 ?c20 ?k20 ?a21 ?l21 ?c21 ?k21 ?a22 ?l22 ?c22 ?k22 ?a23 ?l23 ?c23 ?k23 ?a24 ?l24 ?c24 ?k24 ?a25 ?l25 ?c25 ?k25 ?a26 ?l26 ?c26 ?k26 ?a27 ?l27 ?c27 ?k27 ?a28 ?l28 ?c28 ?k28 ?a29 ?l29 ?c29 ?k29 ?a30 ?l30 ?c30 ?k30 ?a31 ?l31 ?c31 ?k31 ?pg_Train ?hd_Train ?po_Train ?sa_Train ?mk_Train ?kc_Train ?n_Train_teeth_of ?n_Train_join_of ?n_Train_next_number ?z0 ?z1 ?z2 ?z3 ?z4 ?z5 ?z6 ?z7 ?z8 ?z9 ?z10 ?g_LONGEST_NAME ?g_TEETH_BOUND ?g_MOST_WHEELS ?g_MOST_JOINS ?g_LETTERS ?g_KINDS ?gl_KINDS ?ex_NoName ?ex_Twice ?ex_NoTeeth ?ex_Full ?ex_NoWheel ?ex_NoJoin ?ex_Jams ?xm_NoWheel_NoWheel ?xm_Jams_Jams
    (case aC_Train => k_is)
    (case aE_NoName => k_is)
    (case aE_Twice => k_is)
    (case aE_NoTeeth => k_is)
    (case aE_Full => k_is)
    (case aE_NoWheel => k_is)
    (case aE_NoJoin => k_is)
    (case aE_Jams => k_is)
    (case a0 => k_is)
    (case l0 => k_is)
    (case c0 => k_is)
    (case k0 => k_is)
    (case a1 => k_is)
    (case l1 => k_is)
    (case c1 => k_is)
    (case k1 => k_is)
    (case a2 => k_is)
    (case l2 => k_is)
    (case c2 => k_is)
    (case k2 => k_is)
    (case a3 => k_is)
    (case l3 => k_is)
    (case c3 => k_is)
    (case k3 => k_is)
    (case a4 => k_is)
    (case l4 => k_is)
    (case c4 => k_is)
    (case k4 => k_is)
    (case a5 => k_is)
    (case l5 => k_is)
    (case c5 => k_is)
    (case k5 => k_is)
    (case a6 => k_is)
    (case l6 => k_is)
    (case c6 => k_is)
    (case k6 => k_is)
    (case a7 => k_is)
    (case l7 => k_is)
    (case c7 => k_is)
    (case k7 => k_is)
    (case a8 => k_is)
    (case l8 => k_is)
    (case c8 => k_is)
    (case k8 => k_is)
    (case a9 => k_is)
    (case l9 => k_is)
    (case c9 => k_is)
    (case k9 => k_is)
    (case a10 => k_is)
    (case l10 => k_is)
    (case c10 => k_is)
    (case k10 => k_is)
    (case a11 => k_is)
    (case l11 => k_is)
    (case d11 => k_is)
    (case c11 => k_is)
    (case k11 => k_is)
    (case a12 => k_is)
    (case l12 => k_is)
    (case d12 => k_is)
    (case c12 => k_is)
    (case k12 => k_is)
    (case a13 => k_is)
    (case l13 => k_is)
    (case c13 => k_is)
    (case k13 => k_is)
    (case a14 => k_is)
    (case i14 => k_is)
    (case l14 => k_is)
    (case c14 => k_is)
    (case k14 => k_is)
    (case a15 => k_is)
    (case i15 => k_is)
    (case l15 => k_is)
    (case c15 => k_is)
    (case k15 => k_is)
    (case a16 => k_is)
    (case i16 => k_is)
    (case l16 => k_is)
    (case c16 => k_is)
    (case k16 => k_is)
    (case a17 => k_is)
    (case i17 => k_is)
    (case l17 => k_is)
    (case c17 => k_is)
    (case k17 => k_is)
    (case a18 => k_is)
    (case i18 => k_is)
    (case l18 => k_is)
    (case c18 => k_is)
    (case k18 => k_is)
    (case a19 => k_is)
    (case l19 => k_is)
    (case c19 => k_is)
    (case k19 => k_is)
    (case a20 => k_is)
    (case l20 => k_is)
    (case c20 => k_is)
    (case k20 => k_is)
    (case a21 => k_is)
    (case l21 => k_is)
    (case c21 => k_is)
    (case k21 => k_is)
    (case a22 => k_is)
    (case l22 => k_is)
    (case c22 => k_is)
    (case k22 => k_is)
    (case a23 => k_is)
    (case l23 => k_is)
    (case c23 => k_is)
    (case k23 => k_is)
    (case a24 => k_is)
    (case l24 => k_is)
    (case c24 => k_is)
    (case k24 => k_is)
    (case a25 => k_is)
    (case l25 => k_is)
    (case c25 => k_is)
    (case k25 => k_is)
    (case a26 => k_is)
    (case l26 => k_is)
    (case c26 => k_is)
    (case k26 => k_is)
    (case a27 => k_is)
    (case l27 => k_is)
    (case c27 => k_is)
    (case k27 => k_is)
    (case a28 => k_is)
    (case l28 => k_is)
    (case c28 => k_is)
    (case k28 => k_is)
    (case a29 => k_is)
    (case l29 => k_is)
    (case c29 => k_is)
    (case k29 => k_is)
    (case a30 => k_is)
    (case l30 => k_is)
    (case c30 => k_is)
    (case k30 => k_is)
    (case a31 => k_is)
    (case l31 => k_is)
    (case c31 => k_is)
    (case k31 => k_is)
    (case pg_Train => k_is)
    (case hd_Train => k_is)
    (case po_Train => k_is)
    (case sa_Train => k_is)
    (case mk_Train => k_is)
    (case kc_Train => k_is)
    (case n_Train_teeth_of => k_is)
    (case n_Train_join_of => k_is)
    (case n_Train_next_number => k_is)
    (case z0 => k_is)
    (case z1 => k_is)
    (case z2 => k_is)
    (case z3 => k_is)
    (case z4 => k_is)
    (case z5 => k_is)
    (case z6 => k_is)
    (case z7 => k_is)
    (case z8 => k_is)
    (case z9 => k_is)
    (case z10 => k_is)
    (case g_LONGEST_NAME => k_is)
    (case g_TEETH_BOUND => k_is)
    (case g_MOST_WHEELS => k_is)
    (case g_MOST_JOINS => k_is)
    (case g_LETTERS => k_is)
    (case g_KINDS => k_is)
    (case gl_KINDS => k_is)
    (case ex_NoName => k_exc)
    (case ex_Twice => k_exc)
    (case ex_NoTeeth => k_exc)
    (case ex_Full => k_exc)
    (case ex_NoWheel => k_exc)
    (case ex_NoJoin => k_exc)
    (case ex_Jams => k_exc)
    (case xm_NoWheel_NoWheel => kts_exm)
    (case xm_Jams_Jams => kts_exm)
#print axioms PySem.Challenge.cw_cogtrain_k07_back_after_holds

