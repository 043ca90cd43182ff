import PyProof.Rows.All
import Wide.All
import OpenK.AllK
import Wide.FinOn
import Lean
import PyProof.EqAt
import PyProof.EqKinds
import PyProof.TupleCall
import PySem.Challenge.RW_cogtrain_k05_roads
set_option Elab.async false
set_option linter.all false
set_option maxRecDepth 100000

namespace L2
open PySem PySem.Spec PyProof.Rows

noncomputable abbrev Key := Sum Int Str
noncomputable def keyIs : Key → Value → Bool
  | .inl k, v => Value.isInt k v
  | .inr x, v => Value.isStrOf x v
noncomputable def keyH (w : World) : Key → Int
  | .inl k => hashInt k
  | .inr x => hashStr w x
theorem keyIs_shape : ∀ {k : Key} {v : Value}, keyIs k v = true → (∃ i t, k = Sum.inl i ∧ v = Value.int i t) ∨ (∃ x t, k = Sum.inr x ∧ v = Value.str x t)
  | .inl i, v, h => by
    obtain ⟨t, e⟩ := Value.isInt_shape (k := i) (v := v) h
    exact .inl ⟨i, t, rfl, e⟩
  | .inr x, v, h => by
    obtain ⟨t, e⟩ := Value.isStrOf_shape (x := x) (v := v) h
    exact .inr ⟨x, t, rfl, e⟩
theorem keyIs_int (i : Int) (t : Tok) : keyIs (.inl i) (.int i t) = true := by simp [keyIs, Value.isInt]
theorem keyIs_str (x : Str) (t : Tok) : keyIs (.inr x) (.str x t) = true := by simp [keyIs, Value.isStrOf]
theorem key_ll (a b : Int) : decide ((Sum.inl a : Key) = Sum.inl b) = (a == b) := by
  by_cases e : a = b
  · subst e; simp
  · have h : ¬ (Sum.inl a : Key) = Sum.inl b := fun q => e (Sum.inl.inj q)
    rw [decide_eq_false h]
    exact (beq_eq_false_iff_ne.mpr e).symm
theorem key_rr (a b : Str) : decide ((Sum.inr a : Key) = Sum.inr b) = decide (a = b) := by
  by_cases e : a = b
  · subst e; simp
  · have h : ¬ (Sum.inr a : Key) = Sum.inr b := fun q => e (Sum.inr.inj q)
    rw [decide_eq_false h, decide_eq_false e]
theorem key_lr (a : Int) (b : Str) : decide ((Sum.inl a : Key) = Sum.inr b) = false := decide_eq_false (fun q => nomatch q)
theorem key_rl (a : Str) (b : Int) : decide ((Sum.inr a : Key) = Sum.inl b) = false := decide_eq_false (fun q => nomatch q)

noncomputable def mixKind (prog : Program) (w : World) : PySem.KeyKind prog w Key where
  is := keyIs
  hash := keyH w
  inj := fun v a b ha hb => by
    rcases keyIs_shape ha with ⟨i, t, rfl, rfl⟩ | ⟨x, t, rfl, rfl⟩
    · rcases keyIs_shape hb with ⟨j, u, rfl, e⟩ | ⟨y, u, rfl, e⟩
      · injection e with e1 _; rw [e1]
      · exact nomatch e
    · rcases keyIs_shape hb with ⟨j, u, rfl, e⟩ | ⟨y, u, rfl, e⟩
      · exact nomatch e
      · injection e with e1 _; rw [e1]
  byValue := fun k v h => by
    rcases keyIs_shape h with ⟨i, t, rfl, rfl⟩ | ⟨x, t, rfl, rfl⟩ <;> rfl
  pyHash := fun hv h => by
    rcases keyIs_shape hv with ⟨i, t, rfl, rfl⟩ | ⟨x, t, rfl, rfl⟩
    · exact wpAny_pyHash_int h
    · exact wpAny_pyHash_str h
  eqBool := fun hu hv h => by
    rcases keyIs_shape hu with ⟨i, t, rfl, rfl⟩ | ⟨x, t, rfl, rfl⟩
    · rcases keyIs_shape hv with ⟨j, u, rfl, rfl⟩ | ⟨y, u, rfl, rfl⟩
      · rw [key_ll] at h; exact wpAny_eqBool_int h
      · rw [key_lr] at h; exact SeqAt.EqAt.int_str i t y u _ _ _ _ h
    · rcases keyIs_shape hv with ⟨j, u, rfl, rfl⟩ | ⟨y, u, rfl, rfl⟩
      · rw [key_rl] at h; exact SeqAt.EqAt.str_int x t j u _ _ _ _ h
      · rw [key_rr] at h; exact wpAny_eqBool_str h
  «strs» := fun k x t v h => by
    rcases keyIs_shape h with ⟨i, u, rfl, e⟩ | ⟨y, u, rfl, e⟩
    · exact nomatch e
    · injection e with e1 _
      subst e1
      cases v <;> rfl

theorem mixKind_int (prog : Program) (w : World) (i : Int) (t : Tok) : (mixKind prog w).is (.inl i) (.int i t) = true := keyIs_int i t
theorem mixKind_str (prog : Program) (w : World) (x : Str) (t : Tok) : (mixKind prog w).is (.inr x) (.str x t) = true := keyIs_str x t
end L2

namespace L2
open PySem PySem.Spec PyProof.Rows


inductive V where
  | non | bl (b : Bool) | int (i : Int) | str (x : Str) | byt (b : Array UInt8) | flt (b : UInt64) | ref (a : Addr) | ty (n : String)
  deriving DecidableEq

noncomputable def RelV : V → Value → Prop
  | .non, u => u = Value.none
  | .bl b, u => u = Value.bool b
  | .int i, u => ∃ t, u = Value.int i t
  | .str x, u => ∃ t, u = Value.str x t
  | .byt b, u => ∃ t, u = Value.bytes b t
  | .flt b, u => ∃ t, u = Value.float b t
  | .ref a, u => u = Value.ref a
  | .ty n, u => u = Value.type n

noncomputable abbrev Vals : List V → List Value → Prop := Paired RelV
theorem Vals.length {xs : List V} {us : List Value} (r : Vals xs us) : xs.length = us.length := Paired.length r
theorem Vals.get : ∀ {xs : List V} {us : List Value} {i : Nat} {x : V}, Vals xs us → xs[i]? = some x → ∃ u, us[i]? = some u ∧ RelV x u
  | _, _, _, _, .nil, e => by simp at e
  | _, _, 0, _, .cons r _, e => by simp at e; subst e; exact ⟨_, rfl, r⟩
  | _, _, i + 1, x, .cons _ t, e => by
    obtain ⟨u, h1, h2⟩ := Vals.get (i := i) (x := x) t (by simpa using e)
    exact ⟨u, by simpa using h1, h2⟩
theorem Vals.set {x : V} {u : Value} (r : RelV x u) : ∀ {xs : List V} {us : List Value} (i : Nat), Vals xs us → Vals (xs.set i x) (us.set i u)
  | _, _, _, .nil => .nil
  | _, _, 0, .cons _ t => .cons r t
  | _, _, i + 1, .cons q t => .cons q (Vals.set r i t)
theorem Vals.append : ∀ {xs ys : List V} {us ws : List Value}, Vals xs us → Vals ys ws → Vals (xs ++ ys) (us ++ ws)
  | _, _, _, _, .nil, s => s
  | _, _, _, _, .cons r t, s => .cons r (Vals.append t s)
theorem Vals.take : ∀ {xs : List V} {us : List Value} (n : Nat), Vals xs us → Vals (xs.take n) (us.take n)
  | _, _, 0, _ => .nil
  | _, _, _ + 1, .nil => .nil
  | _, _, n + 1, .cons r t => .cons r (Vals.take n t)
theorem Vals.drop : ∀ {xs : List V} {us : List Value} (n : Nat), Vals xs us → Vals (xs.drop n) (us.drop n)
  | _, _, 0, r => r
  | _, _, _ + 1, .nil => .nil
  | _, _, n + 1, .cons _ t => Vals.drop n t
noncomputable def RelO : Option V → Option Value → Prop
  | some v, some u => RelV v u
  | none, none => True
  | _, _ => False
noncomputable def KV {κ : Type} : List (κ × V) → List (κ × Value) → Prop := Paired fun (p : κ × V) (q : κ × Value) => p.1 = q.1 ∧ RelV p.2 q.2

noncomputable def kV : Key → V
  | .inl i => .int i
  | .inr x => .str x


inductive HO where
  /-- a list -/
  | lst (xs : List V)
  /-- a tuple (never changes) -/
  | tup (xs : List V)
  /-- a dict whose keys are ints and texts; one whose keys are tuples of ints and texts (the empty one is both) -/
  | dK (kvs : List (Key × V)) | dT (kvs : List (List Key × V))
  /-- a set of ints: its members, its size -/
  | set (S : Int → Bool) (n : Nat)
  /-- an instance of the class at C, its dict at dx, its attributes -/
  | ins (C dx : Addr) (fs : List (Str × V))
  /-- the dict of the instance at x -/
  | own (x : Addr)
  /-- the dict of an exception -/
  | xd (fs : List (Str × V))
  /-- a bound method, f of x -/
  | met (f x : Addr)
  /-- a range object lo, lo + 1, .. below hi -/
  | rng (lo hi : Int)
  /-- a thing that is known to the object (the script; a dict while a loop walks it): read, never written while it is so -/
  | frz (o : Obj) (u : HO)
  /-- a code object's table -/
  | tbl (ps : Array Value)
  /-- any other thing, by what is true of its one object (a def of one's own: SetO a S n := HO.ext fun h => ..) -/
  | ext (φ : Heap → Prop)

noncomputable abbrev Hp := Addr → Option HO
noncomputable def upd (H : Hp) (a : Addr) (o : HO) : Hp := fun b => if b = a then some o else H b
theorem upd_same {H : Hp} {a : Addr} {o : HO} : upd H a o a = some o := by unfold upd; rw [if_pos rfl]
theorem upd_ne {H : Hp} {a b : Addr} {o : HO} (h : b ≠ a) : upd H a o b = H b := by unfold upd; rw [if_neg h]
theorem ne_of {H : Hp} {a b : Addr} {o u : HO} (h : H a = some o) (h' : H b = some u) (d : o ≠ u) : a ≠ b := by
  intro e; subst e; rw [h] at h'; exact d (Option.some.inj h')
theorem ne_of_none {H : Hp} {a b : Addr} {o : HO} (h : H a = some o) (h' : H b = none) : a ≠ b := by
  intro e; subst e; rw [h] at h'; cases h'

section
variable (P : Program) (w : World)
noncomputable def ObjOk (H : Hp) (h : Heap) (a : Addr) : HO → Prop
  | .lst xs => xs.length ≤ sizeLine ∧ ∃ (its : List Value) (n : Nat), Vals xs its ∧ h.get? a = some { cls := .type "list", data := .seq its.toArray n }
  | .tup xs => xs.length ≤ sizeLine ∧ ∃ its : List Value, Vals xs its ∧ IsTup h a its.toArray
  | .dK kvs => kvs.length ≤ sizeLine ∧ (a == sysModules) = false ∧ ∃ vs, KV kvs vs ∧ h.DictOf (mixKind P w) a vs
  | .dT kvs => kvs.length ≤ sizeLine ∧ (a == sysModules) = false ∧ ∃ xs : List (List Key × Addr × Value),
      Paired (fun (p : List Key × V) (q : List Key × Addr × Value) => p.1 = q.1 ∧ H q.2.1 = some (.tup (p.1.map kV)) ∧ RelV p.2 q.2.2) kvs xs ∧
      ∃ o es ep, h.get? a = some o ∧ o.ExactDict ∧ o.data = .dict es ep ∧ es.toList = xs.map (entryOfKey (tupleKind (mixKind P w))) ∧ (xs.map (·.1)).Nodup
  | .set S n => h.SetOf (intKind P w) a S n
  | .ins C dx fs => H dx = some (.own a) ∧ fs.length ≤ 1000 ∧ dx ≠ a ∧ h.get? a = some (PySem.W.instObj C dx) ∧
      ∃ mA, h.Ns1 dx mA ∧ (∀ f, RelO (fs.lookup f) (mA f)) ∧ PySem.Within mA (fs.map (·.1))
  | .own _ => ∃ o, h.get? a = some o
  | .xd fs => ∃ mA, h.Ns1 a mA ∧ ∀ f, RelO (fs.lookup f) (mA f)
  | .rng lo hi => ∃ t u v, h.get? a = some { cls := .type "range", data := .fields #[.int lo t, .int hi u, .int 1 v] }
  | .frz o u => h.get? a = some o ∧ ObjOk H h a u
  | .tbl ps => h.get? a = some { cls := .none, data := .fields ps }
  | .met f x => h.get? a = some (PySem.W.methodObj (.ref f) (.ref x))
  | .ext φ => φ h ∧ (∃ o, h.get? a = some o) ∧ ∀ h1 h2 : Heap, φ h1 → (∀ o, h1.get? a = some o → h2.get? a = some o) → φ h2
noncomputable def HOk (H : Hp) (h : Heap) : Prop := ∀ a o, H a = some o → ObjOk P w H h a o
end

section
variable {P : Program} {w : World} {H H' : Hp} {h h' : Heap} {a : Addr} {o : HO}
theorem ObjOk.lt (x : ObjOk P w H h a o) : a < h.objs.size := by
  cases o with
  | lst xs => obtain ⟨_, _, _, _, e⟩ := x; exact Heap.lt_size e
  | tup xs => obtain ⟨_, _, _, p⟩ := x; exact p.lt
  | dK kvs => obtain ⟨_, _, _, _, o, _, _, e, _⟩ := x; exact Heap.lt_size e
  | dT kvs => obtain ⟨_, _, _, _, o, _, _, e, _⟩ := x; exact Heap.lt_size e
  | set S n => obtain ⟨o, _, _, _, e, _⟩ := x; exact Heap.lt_size e
  | ins C dx fs => obtain ⟨_, _, _, e, _⟩ := x; exact Heap.lt_size e
  | own y => obtain ⟨_, e⟩ := x; exact Heap.lt_size e
  | xd fs => obtain ⟨_, ⟨_, _, _, e, _⟩, _⟩ := x; exact Heap.lt_size e
  | rng lo hi => obtain ⟨_, _, _, e⟩ := x; exact Heap.lt_size e
  | frz ob u => obtain ⟨e, _⟩ := x; exact Heap.lt_size e
  | tbl ps => exact Heap.lt_size (show h.get? a = some _ from x)
  | met f y => exact Heap.lt_size (show h.get? a = some _ from x)
  | ext φ => obtain ⟨_, ⟨_, e⟩, _⟩ := x; exact Heap.lt_size e
theorem Paired.mapP {α β : Type} {F G : α → β → Prop} : ∀ {l₁ : List α} {l₂ : List β}, Paired F l₁ l₂ → (∀ a b, F a b → G a b) → Paired G l₁ l₂
  | _, _, .nil, _ => .nil
  | _, _, .cons r t, f => .cons (f _ _ r) (Paired.mapP t f)
theorem ObjOk.stay (x : ObjOk P w H h a o) (k : ∀ b u, (b = a ∨ H b = some (.own a)) → h.get? b = some u → h'.get? b = some u)
    (ho : ∀ b, H b = some (.own a) → H' b = some (.own a)) (ht : ∀ b xs, H b = some (.tup xs) → H' b = some (.tup xs)) : ObjOk P w H' h' a o := by
  induction o with
  | lst xs => obtain ⟨z, its, n, r, e⟩ := x; exact ⟨z, its, n, r, k _ _ (.inl rfl) e⟩
  | tup xs => obtain ⟨z, its, r, ob, e, c⟩ := x; exact ⟨z, its, r, ob, k _ _ (.inl rfl) e, c⟩
  | dK kvs => obtain ⟨z, y, vs, r, ob, es, ep, e, c⟩ := x; exact ⟨z, y, vs, r, ob, es, ep, k _ _ (.inl rfl) e, c⟩
  | dT kvs =>
    obtain ⟨z, y, xs, r, ob, es, ep, e, c⟩ := x
    exact ⟨z, y, xs, Paired.mapP r fun p q z => ⟨z.1, ht _ _ z.2.1, z.2.2⟩, ob, es, ep, k _ _ (.inl rfl) e, c⟩
  | set S n => obtain ⟨ob, es, ep, t, e, c⟩ := x; exact ⟨ob, es, ep, t, k _ _ (.inl rfl) e, c⟩
  | ins C dx fs =>
    obtain ⟨d, z, ne, e, mA, ⟨od, es, ep, e2, c⟩, r⟩ := x
    exact ⟨ho _ d, z, ne, k _ _ (.inl rfl) e, mA, ⟨od, es, ep, k _ _ (.inr d) e2, c⟩, r⟩
  | own y => obtain ⟨ob, e⟩ := x; exact ⟨ob, k _ _ (.inl rfl) e⟩
  | xd fs => obtain ⟨mA, ⟨od, es, ep, e, c⟩, r⟩ := x; exact ⟨mA, ⟨od, es, ep, k _ _ (.inl rfl) e, c⟩, r⟩
  | rng lo hi => obtain ⟨t, u, v, e⟩ := x; exact ⟨t, u, v, k _ _ (.inl rfl) e⟩
  | frz ob u ih => obtain ⟨e, q⟩ := x; exact ⟨k _ _ (.inl rfl) e, ih q⟩
  | tbl ps =>
    have e : h.get? a = some { cls := .none, data := .fields ps } := x
    show h'.get? a = some { cls := .none, data := .fields ps }
    exact k a _ (.inl rfl) e
  | met f y =>
    have e : h.get? a = some (PySem.W.methodObj (.ref f) (.ref y)) := x
    show h'.get? a = some (PySem.W.methodObj (.ref f) (.ref y))
    exact k a _ (.inl rfl) e
  | ext φ => obtain ⟨p, ⟨o, e⟩, st⟩ := x; exact ⟨st _ _ p fun o q => k _ _ (.inl rfl) q, ⟨o, k _ _ (.inl rfl) e⟩, st⟩
theorem HOk.lt (x : HOk P w H h) (e : H a = some o) : a < h.objs.size := (x a o e).lt
theorem HOk.fresh (x : HOk P w H h) (e : h.objs.size ≤ a) : H a = none := by
  cases q : H a with
  | none => rfl
  | some u => exact absurd (Nat.lt_of_lt_of_le (x.lt q) e) (Nat.lt_irrefl _)
theorem HOk.kept (x : HOk P w H h) (k : ∀ b u, h.get? b = some u → h'.get? b = some u) : HOk P w H h' := fun a o e =>
  (x a o e).stay (fun b u _ q => k b u q) (fun _ q => q) fun _ _ q => q
theorem HOk.laid (x : HOk P w H h) (k : ∀ b u, h.get? b = some u → h'.get? b = some u) (hp : h.objs.size ≤ a) (new : ObjOk P w (upd H a o) h' a o) : HOk P w (upd H a o) h' := fun b u e => by
  have hn := x.fresh hp
  by_cases hb : b = a
  · subst hb; rw [upd_same] at e; cases e; exact new
  · rw [upd_ne hb] at e
    exact (x b u e).stay (fun c v _ q => k c v q) (fun c q => by rw [upd_ne (ne_of_none q hn)]; exact q) fun c xs q => by rw [upd_ne (ne_of_none q hn)]; exact q
end

noncomputable def Rd (H : Hp) (a : Addr) (u : HO) : Prop := H a = some u ∨ ∃ o, H a = some (.frz o u)
theorem Rd.of {H : Hp} {a : Addr} {u : HO} (h : H a = some u) : Rd H a u := .inl h
theorem Rd.ok {P : Program} {w : World} {H : Hp} {h : Heap} {a : Addr} {u : HO} (r : Rd H a u) (x : HOk P w H h) : ObjOk P w H h a u := by
  rcases r with r | ⟨o, r⟩
  · exact x a u r
  · obtain ⟨_, q⟩ := x a _ r
    exact q
noncomputable def Mut : Option HO → Prop
  | some (.lst _) => True
  | some (.dK _) => True
  | some (.dT _) => True
  | some (.set _ _) => True
  | some (.ins _ _ _) => True
  | some (.ext _) => True
  | _ => False
section
variable {P : Program} {w : World} {H : Hp} {h h' : Heap} {x e : Addr} {o' : HO}
theorem HOk.write (ok : HOk P w H h) (mu : Mut (H x)) (he : e = x ∨ H e = some (.own x)) (k : ∀ b u, b ≠ e → h.get? b = some u → h'.get? b = some u) (heo : ∃ u, h'.get? e = some u)
    (new : ObjOk P w (upd H x o') h' x o') : HOk P w (upd H x o') h' := fun b u q => by
  have nown : ∀ c y, H c = some (.own y) → c ≠ x := fun c y r z => by subst z; rw [r] at mu; exact mu
  have ntup : ∀ c xs, H c = some (.tup xs) → c ≠ x := fun c xs r z => by subst z; rw [r] at mu; exact mu
  by_cases hb : b = x
  · subst hb; rw [upd_same] at q; cases q; exact new
  · rw [upd_ne hb] at q
    by_cases hbe : b = e
    · have q' : H b = some (.own x) := by
        rcases he with z | z
        · exact absurd (hbe.trans z) hb
        · rw [hbe]; exact z
      rw [q] at q'; cases q'
      obtain ⟨v, hv⟩ := heo
      exact ⟨v, by rw [hbe]; exact hv⟩
    · refine (ok b u q).stay (fun c v hc r => k c v ?_ r) (fun c r => by rw [upd_ne (nown c b r)]; exact r) fun c xs r => by rw [upd_ne (ntup c xs r)]; exact r
      rcases hc with rfl | hc
      · exact hbe
      · rintro rfl
        rcases he with z | z
        · exact nown c b hc z
        · rw [hc] at z; cases z; exact hb rfl
end


structure Un (fs ex : List Addr) (H H' : Hp) (h h' : Heap) : Prop where
  keep : ∀ b o, h.get? b = some o → H b = none → b ∉ fs → b ∉ ex → h'.get? b = some o
  slot : ∀ b o, h.get? b = some o → H b = none → b ∈ fs → b ∉ ex → ∃ sl, h'.get? b = some { o with slots := sl }
  free : ∀ b o, h.get? b = some o → H b = none → b ∉ ex → H' b = none
  there : ∀ b o, h.get? b = some o → b ∉ ex → ∃ o', h'.get? b = some o'
  tups : ∀ b xs, H b = some (.tup xs) → H' b = some (.tup xs)
  frzs : ∀ b o u, H b = some (.frz o u) → H' b = some (.frz o u)
  tbls : ∀ b ps, H b = some (.tbl ps) → ∃ more, H' b = some (.tbl (ps ++ more))
section
variable {fs fs' ex ex' : List Addr} {H H1 H2 : Hp} {h h1 h2 h' : Heap} {a x e : Addr} {o : HO}
theorem Un.any (u : Un fs ex H H1 h h1) {b : Addr} {ob : Obj} (q : h.get? b = some ob) (n : H b = none) (hx : b ∉ ex) : ∃ sl, h1.get? b = some { ob with slots := sl } := by
  by_cases hb : b ∈ fs
  · exact u.slot b ob q n hb hx
  · exact ⟨ob.slots, u.keep b ob q n hb hx⟩
theorem Un.kept (k : ∀ b u, h.get? b = some u → h'.get? b = some u) : Un fs ex H H h h' :=
  ⟨fun b ob q _ _ _ => k b ob q, fun b ob q _ _ _ => ⟨ob.slots, k b ob q⟩, fun _ _ _ n _ => n, fun b ob q _ => ⟨ob, k b ob q⟩, fun _ _ q => q, fun _ _ _ q => q, fun _ ps q => ⟨#[], by rw [q]; simp⟩⟩
theorem Un.refl : Un fs ex H H h h := Un.kept fun _ _ q => q
theorem Un.laid (k : ∀ b u, h.get? b = some u → h'.get? b = some u) (hp : h.objs.size ≤ a) (hn : H a = none) : Un fs ex H (upd H a o) h h' where
  keep := fun b u q _ _ _ => k b u q
  slot := fun b u q _ _ _ => ⟨u.slots, k b u q⟩
  free := fun b u q n _ => by rw [upd_ne (Nat.ne_of_lt (Nat.lt_of_lt_of_le (Heap.lt_size q) hp))]; exact n
  there := fun b u q _ => ⟨u, k b u q⟩
  tups := fun b xs q => by rw [upd_ne (ne_of_none q hn)]; exact q
  frzs := fun b u xs q => by rw [upd_ne (ne_of_none q hn)]; exact q
  tbls := fun b ps q => ⟨#[], by rw [upd_ne (ne_of_none q hn), q]; simp⟩
theorem Un.write (mu : Mut (H x)) (he : e = x ∨ H e = some (.own x)) (k : ∀ b u, b ≠ e → h.get? b = some u → h'.get? b = some u) (heo : ∃ u, h'.get? e = some u) : Un fs ex H (upd H x o) h h' := by
  have hx : ∀ b, H b = none → b ≠ x := fun b n z => by subst z; rw [n] at mu; exact mu
  have hb : ∀ b, H b = none → b ≠ e := fun b n z => by
    subst z
    rcases he with r | r
    · exact hx b n r
    · rw [n] at r; cases r
  have hm : ∀ b u, H b = some u → ¬ Mut (some u) → b ≠ x := fun b u q nm z => by subst z; rw [q] at mu; exact nm mu
  refine ⟨fun b u q n _ _ => k b u (hb b n) q, fun b u q n _ _ => ⟨u.slots, k b u (hb b n) q⟩, fun b u q n _ => by rw [upd_ne (hx b n)]; exact n, fun b u q _ => ?_,
    fun b xs q => by rw [upd_ne (hm b _ q fun z => z)]; exact q, fun b u xs q => by rw [upd_ne (hm b _ q fun z => z)]; exact q, fun b ps q => ⟨#[], by rw [upd_ne (hm b _ q fun z => z), q]; simp⟩⟩
  by_cases hbe : b = e
  · subst hbe; exact heo
  · exact ⟨u, k b u hbe q⟩
end


noncomputable def trk (h : Heap) (H : Hp) : List Addr := (List.range h.objs.size).filter fun a => (H a).isSome
noncomputable def hidT (h : Heap) (H : Hp) : Heap := PySem.W.hideAll h (trk h H)
theorem hidT_size (h : Heap) (H : Hp) : (hidT h H).objs.size = h.objs.size := PySem.W.hideAll_size _ _
theorem hidT_get {h : Heap} {H : Hp} {b : Addr} {o : Obj} (e : h.get? b = some o) (n : H b = none) : (hidT h H).get? b = some o :=
  PySem.W.hideAll_get _ e fun hm => by
    have q : (H b).isSome = true := (List.mem_filter.mp hm).2
    rw [n] at q; simp at q
theorem of_hidT {h : Heap} {H : Hp} {b : Addr} {o : Obj} (e : (hidT h H).get? b = some o) : h.get? b = some o ∧ H b = none := by
  have e' : h.get? b = some o := PySem.W.of_hideAll (trk h H) e
  refine ⟨e', ?_⟩
  cases q : H b with
  | none => rfl
  | some x =>
    have hm : b ∈ trk h H := List.mem_filter.mpr ⟨List.mem_range.mpr (Heap.lt_size e'), by simp [q]⟩
    have z : (hidT h H).get? b = none := PySem.W.hideAll_none (trk h H) hm
    rw [z] at e; cases e


noncomputable def allNews (g h : Heap) (L : Addr) : List (Addr × Obj) := (List.range h.objs.size).filterMap fun a => if a = L ∨ (g.get? a).isSome = true then none else (h.get? a).map fun o => (a, o)
noncomputable def rest (g h : Heap) (L d : Addr) : List (Addr × Obj) := (allNews g h L).filter fun p => decide (p.1 ≠ d)
end L2

namespace L2
open PySem PySem.Spec PyProof.Rows


structure Mod (K : PySem.W.Frag) (mg : Str → Option Value) (base : Heap) : Prop where
  kin : K.In base
  glob : base.Ns mainGlobals mg
  blt : ∃ mb, base.Ns builtinsNs mb ∧ ∀ x : Str, x ≠ "__name__" → mb x = bootBuiltins x
  nolimit : base.NoLimit


structure Cx where
  prog : Program
  w : World
  K : PySem.W.Frag
  mg : Str → Option Value
  base : Heap
  A : Around
  N : List Str
  s₀ : Shared
  H₀ : Hp
  env : Env
  outer : List Env
  stack : List Env
  ex : List Addr
  fn : Str → Bool
  calm : Bool
  pn : List (Addr × Obj)
  xe : Value → Shared → Prop
noncomputable def frs (l : List Env) : List Addr := l.filterMap (·.frame)
noncomputable abbrev Cx.fs (X : Cx) : List Addr := frs X.outer

noncomputable def Vis (sc : Scope) (x : Str) : Prop := sc.names.lookup x = some .local ∨ sc.names.lookup x = some .cell ∨ sc.names.lookup x = some .free
noncomputable def Loc (sc : Scope) (x : Str) : Prop := sc.names.lookup x = some .local ∨ sc.names.lookup x = some .cell
noncomputable def Look (env : Env) (h : Heap) (m : Str → Option Value) (x : Str) (u : Value) : Prop :=
  (env.kindOf x = some .local ∧ m x = some u) ∨ ((env.kindOf x = some .cell ∨ env.kindOf x = some .free) ∧ ∃ c, env.cells.lookup x = some c ∧ h.IsCell c (some u))

structure Cx.Ok (X : Cx) : Prop where
  mod : Mod X.K X.mg X.base
  kind : X.env.scope.kind = .function
  glob : X.env.globals = mainGlobals
  blt : X.env.builtins = builtinsNs
  above : X.s₀.heap.objs.size ≤ X.env.locals
  inj : ∀ x y c, X.env.cells.lookup x = some c → X.env.cells.lookup y = some c → x = y
  has : ∀ x, (X.env.kindOf x = some .cell ∨ X.env.kindOf x = some .free) → ∃ c, X.env.cells.lookup x = some c
  cab : ∀ x c, X.fn x = true → X.env.cells.lookup x = some c → X.s₀.heap.objs.size ≤ c
  hd : X.calm = true → X.A.handled = none
  frames : X.A.frames = some X.stack
  stk : X.stack = X.outer ∨ (X.stack = X.env :: X.outer ∧ X.env.frame = some X.env.locals)
  exf : ∀ b ∈ X.ex, b ≠ X.env.locals ∧ ∀ x c, X.env.cells.lookup x = some c → c ≠ b
  bs : ∀ b o, X.base.get? b = some o → X.s₀.heap.get? b = some o ∧ X.H₀ b = none
  bsz : X.base.objs.size ≤ X.s₀.heap.objs.size
  noex : ∀ b o, X.base.get? b = some o → b ∉ X.ex
  exfs : ∀ b ∈ X.ex, b ∉ X.fs
  funs : X.s₀.heap.FunFrames X.base X.outer
  frf : ∀ b ∈ X.fs, X.H₀ b = none

structure Inv (X : Cx) (pins : List (Addr × Obj)) (σ : List (Option V)) (H : Hp) (s : Shared) : Prop where
  ok : X.Ok
  os : s.os = X.s₀.os
  bare : AllBare s.gens
  base : Un X.fs X.ex X.H₀ H X.s₀.heap s.heap
  loc : ∃ m, s.heap.Ns X.env.locals m ∧ ∀ (i : Nat) (x : Str) (v : V), X.N[i]? = some x → σ[i]? = some (some v) → Vis X.env.scope x → ∃ u, RelV v u ∧ Look X.env s.heap m x u
  cell : ∀ x c, X.env.cells.lookup x = some c → ∃ v, s.heap.IsCell c v
  free : H X.env.locals = none
  freeC : ∀ x c, X.env.cells.lookup x = some c → H c = none
  pin : ∀ p ∈ X.pn ++ pins, s.heap.get? p.1 = some p.2 ∧ H p.1 = none ∧ p.1 ≠ X.env.locals ∧ p.1 ∉ X.fs ∧ ∀ v, p.2.data ≠ .cell v
  hok : HOk X.prog X.w H s.heap
  len : σ.length = X.N.length

section
variable {X : Cx} {pins : List (Addr × Obj)} {σ : List (Option V)} {H H' : Hp} {s : Shared} {h' : Heap}

theorem Cx.Ok.nofr (ok : X.Ok) {b : Addr} {o : Obj} (e : X.base.get? b = some o) : b ∉ X.fs := fun hb => by
  have := (ok.funs.mem hb).1
  rw [e] at this; cases this
theorem Inv.bs (I : Inv X pins σ H s) : ∀ b o, X.base.get? b = some o → s.heap.get? b = some o ∧ H b = none := fun b o e =>
  ⟨I.base.keep b o (I.ok.bs b o e).1 (I.ok.bs b o e).2 (I.ok.nofr e) (I.ok.noex b o e), I.base.free b o (I.ok.bs b o e).1 (I.ok.bs b o e).2 (I.ok.noex b o e)⟩
theorem Inv.bk (I : Inv X pins σ H s) : ∀ b o, X.base.get? b = some o → s.heap.get? b = some o := fun b o e => (I.bs b o e).1
theorem Inv.mod (I : Inv X pins σ H s) : Mod X.K X.mg X.base := I.ok.mod
theorem Inv.kIn (I : Inv X pins σ H s) : X.K.In s.heap := I.ok.mod.kin.keeps I.bk
theorem Inv.lt (I : Inv X pins σ H s) : X.env.locals < s.heap.objs.size := let ⟨_, hn, _⟩ := I.loc; hn.lt
theorem Inv.sz (I : Inv X pins σ H s) : X.s₀.heap.objs.size ≤ s.heap.objs.size := Nat.le_trans I.ok.above (Nat.le_of_lt I.lt)
theorem Inv.nofs (I : Inv X pins σ H s) {a : Addr} (h : s.heap.objs.size ≤ a) : a ∉ X.fs := fun hb => by
  obtain ⟨_, o, ho, _⟩ := I.ok.funs.mem hb
  exact absurd (Nat.lt_of_lt_of_le (Heap.lt_size ho) (Nat.le_trans I.sz h)) (Nat.lt_irrefl _)
theorem Inv.cne (I : Inv X pins σ H s) : ∀ x c, X.env.cells.lookup x = some c → c ≠ X.env.locals := fun x c e z => by
  obtain ⟨v, o, ho, hd⟩ := I.cell x c e
  obtain ⟨m, ⟨o', es, ep, ho', hd', _⟩, _⟩ := I.loc
  rw [z, ho'] at ho; cases ho; rw [hd'] at hd; cases hd
theorem Inv.funs (I : Inv X pins σ H s) : s.heap.FunFrames X.base X.outer := by
  have all : ∀ (l : List Env), (∀ b ∈ frs l, b ∈ X.fs) → X.s₀.heap.FunFrames X.base l → s.heap.FunFrames X.base l := by
    intro l
    induction l with
    | nil => intro _ _; trivial
    | cons env r ih =>
      intro hs hl
      obtain ⟨hk, ⟨L, o, hf, hn, ho, hd⟩, hr⟩ := hl
      have hL : L ∈ X.fs := hs L (by unfold frs; rw [List.filterMap_cons, hf]; exact List.mem_cons_self)
      obtain ⟨sl, e⟩ := I.base.slot L o ho (I.ok.frf L hL) hL fun z => I.ok.exfs L z hL
      exact ⟨hk, ⟨L, _, hf, hn, e, hd⟩, ih (fun b hb => hs b (by unfold frs; rw [List.filterMap_cons, hf]; exact List.mem_cons_of_mem _ hb)) hr⟩
  exact all X.outer (fun _ hb => hb) I.ok.funs

theorem Inv.stack (I : Inv X pins σ H s) : s.heap.FunFrames X.base X.stack := by
  rcases I.ok.stk with e | ⟨e, hf⟩
  · rw [e]; exact I.funs
  · rw [e]
    obtain ⟨m, hn, _⟩ := I.loc
    refine .cons (by rw [I.ok.kind]; decide) hf hn ?_ I.funs
    exact Heap.get?_none_of_le (Nat.le_trans I.ok.bsz I.ok.above)
theorem Inv.stkSub (I : Inv X pins σ H s) : ∀ b ∈ frs X.stack, b ∈ X.env.locals :: X.fs := fun b hb => by
  rcases I.ok.stk with e | ⟨e, hf⟩
  · rw [e] at hb; exact List.mem_cons_of_mem _ hb
  · rw [e] at hb
    unfold frs at hb
    rw [List.filterMap_cons, hf] at hb
    exact hb
theorem Inv.stkFree (I : Inv X pins σ H s) : ∀ b ∈ frs X.stack, H b = none := fun b hb => by
  rcases List.mem_cons.mp (I.stkSub b hb) with e | hb
  · rw [e]; exact I.free
  · obtain ⟨_, o, ho, _⟩ := I.ok.funs.mem hb
    exact I.base.free b o ho (I.ok.frf b hb) fun z => I.ok.exfs b z hb

theorem Inv.step {g' : Array GenState} {t' : Nat} {d' : Drawn} {ch : List Addr} (I : Inv X pins σ H s)
    (hch : ∀ b ∈ ch, (b ∈ X.ex ∨ X.s₀.heap.objs.size ≤ b) ∧ b ≠ X.env.locals ∧ (∀ x c, X.env.cells.lookup x = some c → c ≠ b) ∧ ∀ p ∈ X.pn ++ pins, p.1 ≠ b)
    (keep : ∀ b o, b ≠ X.env.locals → b ∉ X.fs → b ∉ ch → s.heap.get? b = some o → H b = none → h'.get? b = some o)
    (slot : ∀ b o, b ≠ X.env.locals → b ∈ X.fs → b ∉ ch → s.heap.get? b = some o → H b = none → ∃ sl, h'.get? b = some { o with slots := sl }) (free : ∀ b o, b ∉ ch → s.heap.get? b = some o → H b = none → H' b = none)
    (there : ∀ b o, b ∉ ch → s.heap.get? b = some o → ∃ o', h'.get? b = some o')
    (tups : ∀ b xs, H b = some (.tup xs) → H' b = some (.tup xs)) (frzs : ∀ b o u, H b = some (.frz o u) → H' b = some (.frz o u)) (tbls : ∀ b ps, H b = some (.tbl ps) → ∃ more, H' b = some (.tbl (ps ++ more)))
    (ns : ∀ m, s.heap.Ns X.env.locals m → h'.Ns X.env.locals m) (hok : HOk X.prog X.w H' h') (hg : AllBare g') :
    Inv X pins σ H' { s with heap := h', gens := g', drawn := d', toks := t' } := by
  have neL : ∀ b o, X.s₀.heap.get? b = some o → b ≠ X.env.locals := fun b o e => Nat.ne_of_lt (Nat.lt_of_lt_of_le (Heap.lt_size e) I.ok.above)
  have neC : ∀ b o, X.s₀.heap.get? b = some o → b ∉ X.ex → b ∉ ch := fun b o e hx hb => by
    rcases (hch b hb).1 with z | z
    · exact hx z
    · exact absurd (Nat.lt_of_lt_of_le (Heap.lt_size e) z) (Nat.lt_irrefl _)
  have cellK : ∀ x c, X.env.cells.lookup x = some c → ∀ v, s.heap.IsCell c v → h'.IsCell c v := fun x c e v ⟨o, ho, hd⟩ => by
    have nch : c ∉ ch := fun z => (hch c z).2.2.1 x c e rfl
    by_cases hc : c ∈ X.fs
    · obtain ⟨sl, q⟩ := slot c o (I.cne x c e) hc nch ho (I.freeC x c e)
      exact ⟨_, q, hd⟩
    · exact ⟨o, keep c o (I.cne x c e) hc nch ho (I.freeC x c e), hd⟩
  refine ⟨I.ok, I.os, hg, ⟨fun b o e n hb hx => ?_, fun b o e n hb hx => ?_, fun b o e n hx => ?_, fun b o e hx => ?_, fun b xs e => tups b xs (I.base.tups b xs e), fun b o xs e => frzs b o xs (I.base.frzs b o xs e), fun b ps e => ?_⟩, ?_, fun x c e => ?_, ?_, fun x c e => ?_, fun p hp => ?_, hok, I.len⟩
  · exact keep b o (neL b o e) hb (neC b o e hx) (I.base.keep b o e n hb hx) (I.base.free b o e n hx)
  · obtain ⟨sl, e1⟩ := I.base.slot b o e n hb hx
    obtain ⟨sl', e2⟩ := slot b _ (neL b o e) hb (neC b o e hx) e1 (I.base.free b o e n hx)
    exact ⟨sl', e2⟩
  · obtain ⟨o', e1⟩ := I.base.there b o e hx
    exact free b o' (neC b o e hx) e1 (I.base.free b o e n hx)
  · obtain ⟨o', e1⟩ := I.base.there b o e hx
    exact there b o' (neC b o e hx) e1
  · obtain ⟨m1, e1⟩ := I.base.tbls b ps e
    obtain ⟨m2, e2⟩ := tbls b _ e1
    exact ⟨m1 ++ m2, by rw [e2, Array.append_assoc]⟩
  · obtain ⟨m, hn, hl⟩ := I.loc
    refine ⟨m, ns m hn, fun i x v e1 e2 e3 => ?_⟩
    obtain ⟨u, r, l⟩ := hl i x v e1 e2 e3
    refine ⟨u, r, ?_⟩
    rcases l with l | ⟨k, c, e, z⟩
    · exact .inl l
    · exact .inr ⟨k, c, e, cellK x c e _ z⟩
  · obtain ⟨v, z⟩ := I.cell x c e
    exact ⟨v, cellK x c e v z⟩
  · obtain ⟨m, ⟨o, _, _, ho, _⟩, _⟩ := I.loc
    exact free _ o (fun z => (hch _ z).2.1 rfl) ho I.free
  · obtain ⟨v, o, ho, hd⟩ := I.cell x c e
    exact free c o (fun z => (hch c z).2.2.1 x c e rfl) ho (I.freeC x c e)
  · obtain ⟨e, n, ne, nf, d⟩ := I.pin p hp
    have nch : p.1 ∉ ch := fun z => (hch p.1 z).2.2.2 p hp rfl
    exact ⟨keep p.1 p.2 ne nf nch e n, free p.1 p.2 nch e n, ne, nf, d⟩
theorem Inv.un {t' : Nat} (I : Inv X pins σ H s) (u : Un X.fs [] H H' s.heap h') (hok : HOk X.prog X.w H' h') : Inv X pins σ H' { s with heap := h', toks := t' } := by
  obtain ⟨m, ⟨o, es, ep, ho, r⟩, _⟩ := id I.loc
  obtain ⟨sl, hL⟩ := u.any ho I.free (by simp)
  exact I.step (g' := s.gens) (d' := s.drawn) (ch := []) (fun _ z => nomatch z) (fun b o _ hb _ e n => u.keep b o e n hb (by simp)) (fun b o _ hb _ e n => u.slot b o e n hb (by simp)) (fun b o _ e n => u.free b o e n (by simp)) (fun b o _ e => u.there b o e (by simp)) u.tups u.frzs u.tbls (fun m' hm => by
    obtain ⟨o', es', ep', ho', r'⟩ := hm
    rw [ho] at ho'; cases ho'
    exact ⟨_, es', ep', hL, r'⟩) hok I.bare
theorem Inv.call {g' : Array GenState} {t' : Nat} {d' : Drawn} {ch : List Addr} (I : Inv X pins σ H s) (u : Un (frs X.stack) ch H H' s.heap h') (hok : HOk X.prog X.w H' h') (hg : AllBare g')
    (hch : ∀ b ∈ ch, (b ∈ X.ex ∨ X.s₀.heap.objs.size ≤ b) ∧ b ≠ X.env.locals ∧ (∀ x c, X.env.cells.lookup x = some c → c ≠ b) ∧ ∀ p ∈ X.pn ++ pins, p.1 ≠ b) :
    Inv X pins σ H' { s with heap := h', gens := g', drawn := d', toks := t' } := by
  obtain ⟨m, ⟨o, es, ep, ho, r⟩, _⟩ := id I.loc
  obtain ⟨sl, hL⟩ := u.any ho I.free fun z => (hch _ z).2.1 rfl
  exact I.step (ch := ch) hch (fun b o hL hb hc e n => u.keep b o e n (fun z => (List.mem_cons.mp (I.stkSub b z)).elim hL hb) hc) (fun b o _ _ hc e n => u.any e n hc) (fun b o hc e n => u.free b o e n hc) (fun b o hc e => u.there b o e hc) u.tups u.frzs u.tbls (fun m' hm => by
    obtain ⟨o', es', ep', ho', r'⟩ := hm
    rw [ho] at ho'; cases ho'
    exact ⟨_, es', ep', hL, r'⟩) hok hg
theorem Inv.turned {t' : Nat} {it : Addr} (I : Inv X pins σ H s) (k : ∀ b o, b ≠ it → s.heap.get? b = some o → h'.get? b = some o) (hn : H it = none) (hL : it ≠ X.env.locals)
    (h1 : it ∈ X.ex ∨ X.s₀.heap.objs.size ≤ it) (h2 : ∀ x c, X.env.cells.lookup x = some c → c ≠ it) (h3 : ∀ p ∈ X.pn ++ pins, p.1 ≠ it) : Inv X pins σ H { s with heap := h', toks := t' } := by
  have nit : ∀ b u, H b = some u → b ≠ it := fun b u e z => by rw [z, hn] at e; cases e
  refine I.step (g' := s.gens) (d' := s.drawn) (ch := [it]) (fun b hb => ?_) (fun b o _ _ hc e _ => k b o (fun z => hc (by simp [z])) e) (fun b o _ _ hc e _ => ⟨o.slots, k b o (fun z => hc (by simp [z])) e⟩) (fun _ _ _ _ n => n)
    (fun b o hc e => ⟨o, k b o (fun z => hc (by simp [z])) e⟩) (fun _ _ e => e) (fun _ _ _ e => e) (fun b ps e => ⟨#[], by rw [e]; simp⟩) (fun m hm => ?_) (fun b u e => ?_) I.bare
  · have e : b = it := by simpa using hb
    subst e
    exact ⟨h1, hL, h2, h3⟩
  · obtain ⟨o, es, ep, ho, r⟩ := hm
    exact ⟨o, es, ep, k _ o (Ne.symm hL) ho, r⟩
  · refine (I.hok b u e).stay (fun c v hc q => k c v ?_ q) (fun _ q => q) fun _ _ q => q
    rcases hc with z | z
    · rw [z]; exact nit b u e
    · exact nit c _ z
theorem Inv.tok (I : Inv X pins σ H s) (t : Nat) : Inv X pins σ H { s with toks := t } := I.un (h' := s.heap) (t' := t) Un.refl I.hok
theorem Inv.kept {t' : Nat} (I : Inv X pins σ H s) (k : ∀ b u, s.heap.get? b = some u → h'.get? b = some u) : Inv X pins σ H { s with heap := h', toks := t' } := I.un (Un.kept k) (I.hok.kept k)
theorem Inv.laid {a : Addr} {o : HO} {t' : Nat} (I : Inv X pins σ H s) (k : ∀ b u, s.heap.get? b = some u → h'.get? b = some u) (hp : s.heap.objs.size ≤ a) (new : ObjOk X.prog X.w (upd H a o) h' a o) :
    Inv X pins σ (upd H a o) { s with heap := h', toks := t' } := I.un (Un.laid k hp (I.hok.fresh hp)) (I.hok.laid k hp new)
theorem Inv.write {x e : Addr} {o : HO} {t' : Nat} (I : Inv X pins σ H s) (mu : Mut (H x)) (he : e = x ∨ H e = some (.own x)) (k : ∀ b u, b ≠ e → s.heap.get? b = some u → h'.get? b = some u) (heo : ∃ u, h'.get? e = some u)
    (new : ObjOk X.prog X.w (upd H x o) h' x o) : Inv X pins σ (upd H x o) { s with heap := h', toks := t' } := I.un (Un.write mu he k heo) (I.hok.write mu he k heo new)
theorem Inv.pins_of {pins' : List (Addr × Obj)} (I : Inv X pins σ H s) (h : ∀ p ∈ pins', s.heap.get? p.1 = some p.2 ∧ H p.1 = none ∧ p.1 ≠ X.env.locals ∧ p.1 ∉ X.fs ∧ ∀ v, p.2.data ≠ .cell v) : Inv X pins' σ H s :=
  ⟨I.ok, I.os, I.bare, I.base, I.loc, I.cell, I.free, I.freeC, fun p hp => (List.mem_append.mp hp).elim (fun z => I.pin p (List.mem_append_left _ z)) (h p), I.hok, I.len⟩

theorem nodup_ix {N : List Str} (hN : N.Nodup) {i j : Nat} {x : Str} (a : N[i]? = some x) (b : N[j]? = some x) : i = j := by
  obtain ⟨h1, e1⟩ := List.getElem?_eq_some_iff.mp a
  obtain ⟨h2, e2⟩ := List.getElem?_eq_some_iff.mp b
  exact (List.getElem_inj hN).mp (e1.trans e2.symm)

theorem store_ok2 {M : Model} {A : Around} {E : Value → Shared → Prop} {i : Nat} {x : Str} {v : V} {u : Value} {Q : Unit → Shared → Prop} (I : Inv X pins σ H s) (hN : X.N.Nodup) (hi : X.N[i]? = some x) (hx : Loc X.env.scope x) (r : RelV v u)
    (h : ∀ s', Inv X pins (σ.set i (some v)) H s' → (∃ a, Heap.SameBut a s.heap s'.heap ∧ (a = X.env.locals ∨ X.env.cells.lookup x = some a)) → Q () s') (hf : X.fn x = true ∨ X.env.scope.names.lookup x = some .local := by first | exact .inl rfl | exact .inr rfl | assumption) : wpAny M A (storeName X.env x u) Q E s := by
  obtain ⟨m, hn, hl⟩ := id I.loc
  have hcls : (X.env.scope.kind == .class || (X.env.scope.kind == .module && X.env.locals != X.env.globals)) = false := by rw [I.ok.kind]; rfl
  have hiσ : i < σ.length := by rw [I.len]; exact (List.getElem?_eq_some_iff.mp hi).1
  have cne := I.cne
  have tracked : ∀ {a : Addr} {h' : Heap}, (∃ o, s.heap.get? a = some o ∧ H a = none) → Heap.SameBut a s.heap h' → HOk X.prog X.w H h' := fun {a h'} ha hs b ob e => by
    obtain ⟨_, _, hfree⟩ := ha
    refine (I.hok b ob e).stay (fun c w' hc q => (hs.2 c ?_).trans q) (fun _ q => q) fun _ _ q => q
    rintro rfl
    rcases hc with rfl | hc
    · rw [hfree] at e; cases e
    · rw [hfree] at hc; cases hc
  rcases hx with hk | hk
  · refine wpAny_storeName_local hk hn (fun h' hn' hs => ?_) hcls
    obtain ⟨oL, _, _, hoL, _⟩ := id hn
    refine h _ ⟨I.ok, I.os, I.bare, ⟨fun b o e n hb hx => ?_, fun b o e n hb hx => ?_, I.base.free, fun b o e hx => ?_, I.base.tups, I.base.frzs, I.base.tbls⟩, ⟨_, hn', fun j y v' e1 e2 e3 => ?_⟩, fun y c e => ?_, I.free, I.freeC, fun p hp => ?_, tracked ⟨oL, hoL, I.free⟩ hs, by simpa using I.len⟩ ⟨_, hs, .inl rfl⟩
    · exact (hs.2 b (Nat.ne_of_lt (Nat.lt_of_lt_of_le (Heap.lt_size e) I.ok.above))).trans (I.base.keep b o e n hb hx)
    · obtain ⟨sl, e1⟩ := I.base.slot b o e n hb hx
      exact ⟨sl, (hs.2 b (Nat.ne_of_lt (Nat.lt_of_lt_of_le (Heap.lt_size e) I.ok.above))).trans e1⟩
    · obtain ⟨o', e1⟩ := I.base.there b o e hx
      exact ⟨o', (hs.2 b (Nat.ne_of_lt (Nat.lt_of_lt_of_le (Heap.lt_size e) I.ok.above))).trans e1⟩
    · by_cases hj : j = i
      · subst hj
        rw [hi] at e1; cases e1
        rw [List.getElem?_set_self hiσ] at e2
        cases e2
        exact ⟨u, r, .inl ⟨hk, by simp⟩⟩
      · rw [List.getElem?_set_ne (Ne.symm hj)] at e2
        obtain ⟨u', r', q⟩ := hl j y v' e1 e2 e3
        refine ⟨u', r', ?_⟩
        rcases q with ⟨k, e⟩ | ⟨k, c, e, z⟩
        · refine .inl ⟨k, ?_⟩
          have : y ≠ x := fun e => hj (nodup_ix hN e1 (e ▸ hi))
          simp [this, e]
        · exact .inr ⟨k, c, e, z.sameBut hs (cne y c e)⟩
    · obtain ⟨w', z⟩ := I.cell y c e
      exact ⟨w', z.sameBut hs (cne y c e)⟩
    · obtain ⟨e, n, ne, nf, d⟩ := I.pin p hp
      exact ⟨(hs.2 p.1 ne).trans e, n, ne, nf, d⟩
  · have hfn : X.fn x = true := by
      rcases hf with z | z
      · exact z
      · rw [z] at hk; cases hk
    obtain ⟨c, hc⟩ := I.ok.has x (.inl hk)
    obtain ⟨w', z⟩ := I.cell x c hc
    refine wpAny_storeName_cell I.ok.kind hk hc z (fun h' hc' hs => ?_)
    obtain ⟨oc, hoc, hocd⟩ := id z
    refine h { s with heap := h' } ⟨I.ok, I.os, I.bare, ⟨fun b o e n hb hx => ?_, fun b o e n hb hx => ?_, I.base.free, fun b o e hx => ?_, I.base.tups, I.base.frzs, I.base.tbls⟩, ⟨m, hn.sameBut hs (Ne.symm (cne x c hc)), fun j y v' e1 e2 e3 => ?_⟩, fun y c' e => ?_, I.free, I.freeC, fun p hp => ?_, tracked ⟨oc, hoc, I.freeC x c hc⟩ hs, by simpa using I.len⟩ ⟨c, hs, .inr hc⟩
    · exact (hs.2 b (Nat.ne_of_lt (Nat.lt_of_lt_of_le (Heap.lt_size e) (I.ok.cab x c hfn hc)))).trans (I.base.keep b o e n hb hx)
    · obtain ⟨sl, e1⟩ := I.base.slot b o e n hb hx
      exact ⟨sl, (hs.2 b (Nat.ne_of_lt (Nat.lt_of_lt_of_le (Heap.lt_size e) (I.ok.cab x c hfn hc)))).trans e1⟩
    · obtain ⟨o', e1⟩ := I.base.there b o e hx
      exact ⟨o', (hs.2 b (Nat.ne_of_lt (Nat.lt_of_lt_of_le (Heap.lt_size e) (I.ok.cab x c hfn hc)))).trans e1⟩
    · by_cases hj : j = i
      · subst hj
        rw [hi] at e1; cases e1
        rw [List.getElem?_set_self hiσ] at e2
        cases e2
        exact ⟨u, r, .inr ⟨.inl hk, c, hc, hc'⟩⟩
      · rw [List.getElem?_set_ne (Ne.symm hj)] at e2
        obtain ⟨u', r', q⟩ := hl j y v' e1 e2 e3
        refine ⟨u', r', ?_⟩
        rcases q with q | ⟨k, c', e, z'⟩
        · exact .inl q
        · refine .inr ⟨k, c', e, z'.sameBut hs ?_⟩
          rintro rfl
          exact hj (nodup_ix hN e1 (I.ok.inj _ _ _ e hc ▸ hi))
    · by_cases hcc : c' = c
      · subst hcc; exact ⟨_, hc'⟩
      · obtain ⟨w2, z2⟩ := I.cell y c' e
        exact ⟨w2, z2.sameBut hs hcc⟩
    · obtain ⟨e, n, ne, nf, d⟩ := I.pin p hp
      refine ⟨(hs.2 p.1 ?_).trans e, n, ne, nf, d⟩
      intro q
      rw [q, hoc] at e
      have q' : oc = p.2 := Option.some.inj e
      exact d w' (by rw [← q']; exact hocd)
theorem store_ok {M : Model} {A : Around} {E : Value → Shared → Prop} {i : Nat} {x : Str} {v : V} {u : Value} {Q : Unit → Shared → Prop} (I : Inv X pins σ H s) (hN : X.N.Nodup) (hi : X.N[i]? = some x) (hx : Loc X.env.scope x) (r : RelV v u)
    (h : ∀ s', Inv X pins (σ.set i (some v)) H s' → Q () s') (hf : X.fn x = true ∨ X.env.scope.names.lookup x = some .local := by first | exact .inl rfl | exact .inr rfl | assumption) : wpAny M A (storeName X.env x u) Q E s :=
  store_ok2 I hN hi hx r (fun s' I' _ => h s' I') hf
theorem Inv.call' {s' : Shared} {ch : List Addr} (I : Inv X pins σ H s) (ho : s'.os = s.os) (u : Un (frs X.stack) ch H H' s.heap s'.heap) (hok : HOk X.prog X.w H' s'.heap) (hg : AllBare s'.gens)
    (hch : ∀ b ∈ ch, (b ∈ X.ex ∨ X.s₀.heap.objs.size ≤ b) ∧ b ≠ X.env.locals ∧ (∀ x c, X.env.cells.lookup x = some c → c ≠ b) ∧ ∀ p ∈ X.pn ++ pins, p.1 ≠ b) : Inv X pins σ H' s' := by
  obtain ⟨h', g', d', t', o'⟩ := s'
  have e : o' = s.os := ho
  subst e
  exact I.call (g' := g') (t' := t') (d' := d') u hok hg hch
end


noncomputable abbrev XK := Value → Option Addr → Hp → Prop
noncomputable abbrev St := List (Option V)
noncomputable abbrev VK := V → Hp → Prop
noncomputable abbrev TE := St → Hp → VK → Prop
noncomputable abbrev TT := St → Hp → (Bool → Hp → Prop) → Prop
noncomputable abbrev TA := St → Hp → (List V → Hp → Prop) → Prop

structure Ends where
  nx : St → Hp → Prop
  rt : VK
  bk : St → Hp → Prop := fun _ _ => False
  ct : St → Hp → Prop := fun _ _ => False
noncomputable abbrev TS := Ends → St → Hp → Prop

noncomputable def EP (X : Cx) (pins : List (Addr × Obj)) (σ : St) (Q : VK) (u : Value) (s' : Shared) : Prop := ∃ v H', Inv X pins σ H' s' ∧ RelV v u ∧ Q v H'
noncomputable def TP (X : Cx) (pins : List (Addr × Obj)) (σ : St) (Q : Bool → Hp → Prop) (b : Bool) (s' : Shared) : Prop := ∃ H', Inv X pins σ H' s' ∧ Q b H'
noncomputable def AP (X : Cx) (pins : List (Addr × Obj)) (σ : St) (Q : List V → Hp → Prop) (us : List Value) (s' : Shared) : Prop := ∃ vs H', Inv X pins σ H' s' ∧ Vals vs us ∧ Q vs H'
noncomputable def SP (X : Cx) (pins : List (Addr × Obj)) (D : Ends) (f : Flow) (s' : Shared) : Prop :=
  match f with
  | .next => ∃ σ' H', Inv X pins σ' H' s' ∧ D.nx σ' H'
  | .brk => ∃ σ' H', Inv X pins σ' H' s' ∧ D.bk σ' H'
  | .cont => ∃ σ' H', Inv X pins σ' H' s' ∧ D.ct σ' H'
  | .ret u => ∃ v σ' H', Inv X pins σ' H' s' ∧ RelV v u ∧ D.rt v H'

noncomputable def PE (X : Cx) (e : Expr) (t : TE) : Prop :=
  ∀ (pins : List (Addr × Obj)) (s : Shared) (σ : St) (H : Hp) (Q : VK), Inv X pins σ H s → t σ H Q → wpAny (model X.prog X.w) X.A (eval e X.env) (EP X pins σ Q) X.xe s
noncomputable def PT (X : Cx) (e : Expr) (t : TT) : Prop :=
  ∀ (pins : List (Addr × Obj)) (s : Shared) (σ : St) (H : Hp) (Q : Bool → Hp → Prop), Inv X pins σ H s → t σ H Q → wpAny (model X.prog X.w) X.A (isTrue e X.env (eval e X.env)) (TP X pins σ Q) X.xe s
noncomputable def PW (X : Cx) (e : Expr) (t : TT) : Prop :=
  ∀ (whole : Sem Value) (pins : List (Addr × Obj)) (s : Shared) (σ : St) (H : Hp) (Q : Bool → Hp → Prop), Inv X pins σ H s → t σ H Q → wpAny (model X.prog X.w) X.A (isTrue e X.env whole) (TP X pins σ Q) X.xe s
theorem PW.pt {X : Cx} {e : Expr} {t : TT} (h : PW X e t) : PT X e t := h _
noncomputable def PA (X : Cx) (es : List Expr) (t : TA) : Prop :=
  ∀ (pos : Pos) (pins : List (Addr × Obj)) (s : Shared) (σ : St) (H : Hp) (Q : List V → Hp → Prop), Inv X pins σ H s → t σ H Q → wpAny (model X.prog X.w) X.A (spliced (backTo pos (starEach es X.env))) (AP X pins σ Q) X.xe s
noncomputable def PS (X : Cx) (st : Stmt) (t : TS) : Prop :=
  ∀ (pins : List (Addr × Obj)) (s : Shared) (σ : St) (H : Hp) (D : Ends), Inv X pins σ H s → t D σ H → wpAny (model X.prog X.w) X.A (exec st X.env) (SP X pins D) X.xe s
noncomputable def PSs (X : Cx) (st : List Stmt) (t : TS) : Prop :=
  ∀ (pins : List (Addr × Obj)) (s : Shared) (σ : St) (H : Hp) (D : Ends), Inv X pins σ H s → t D σ H → wpAny (model X.prog X.w) X.A (execs st X.env) (SP X pins D) X.xe s
theorem thn {α : Type} {t : Sem α} {Q Q' : α → Shared → Prop} {M : Model} {A : Around} {E : Value → Shared → Prop} {s : Shared} (h : wpAny M A t Q E s) (hQ : ∀ a s, Q a s → Q' a s) : wpAny M A t Q' E s := wpAny_mono h hQ fun _ _ x => x
end L2

namespace L2
open PySem PySem.Spec PyProof.Rows
section
variable {X : Cx}


noncomputable def tVar (i : Nat) : TE := fun σ H Q => ∃ v, σ[i]? = some (some v) ∧ Q v H
noncomputable def tC (v : V) : TE := fun _ H Q => Q v H
theorem pe_var {i : Nat} {x : Str} {pos : Pos} (hN : X.N[i]? = some x) (hv : Vis X.env.scope x) (hd : (x == ("__debug__" : Str)) = false := by decide) (hcd : (x == ("__classdict__" : Str)) = false := by decide) : PE X (.Name x pos) (tVar i) := by
  intro pins s σ H Q I h
  obtain ⟨v, e, h⟩ := h
  obtain ⟨m, hn, hl⟩ := I.loc
  obtain ⟨u, r, l⟩ := hl i x v hN e hv
  have fin : EP X pins σ Q u s := ⟨v, H, I, r, h⟩
  rcases l with ⟨hk, hm⟩ | ⟨hk, c, hc, hcell⟩
  · exact wpAny_Name (wpAny_loadName_local I.ok.kind hk hn hm fin) hd
  · rcases hk with hk | hk
    · exact wpAny_Name (wpAny_loadName_cell I.ok.kind hk hc hcell fin) hd
    · exact wpAny_Name (wpAny_loadName_free I.ok.kind hk hc hcell fin hcd) hd
theorem pe_int {i j pos} : PE X (.Constant (.int i) j pos) (tC (.int i)) := fun _ _ _ H _ I h => wpAny_Constant_int ⟨.int i, H, I.tok _, ⟨_, rfl⟩, h⟩
theorem pe_bl {b j pos} : PE X (.Constant (.bool b) j pos) (tC (.bl b)) := fun _ _ _ H _ I h => Constant_bool ⟨.bl b, H, I, rfl, h⟩
theorem pe_non {j pos} : PE X (.Constant .none j pos) (tC .non) := fun _ _ _ H _ I h => Constant_none ⟨.non, H, I, rfl, h⟩
theorem pe_str {x j pos} : PE X (.Constant (.str x) j pos) (tC (.str x)) := fun _ _ _ H _ I h => Calls.Constant_str ⟨.str x, H, I.tok _, ⟨_, rfl⟩, h⟩

noncomputable def Gl (X : Cx) (x : Str) : Prop := X.env.kindOf x = some .globalImplicit
theorem ld_glob {E : Value → Shared → Prop} {pins : List (Addr × Obj)} {s : Shared} {σ : St} {H : Hp} {x : Str} {u : Value} {pos : Pos} {Q : Value → Shared → Prop} (I : Inv X pins σ H s) (hg : Gl X x) (hm : X.mg x = some u) (h : Q u s)
    (hd : (x == ("__debug__" : Str)) = false := by decide) : wpAny (model X.prog X.w) X.A (eval (.Name x pos) X.env) Q E s :=
  Calls.Name_function_global I.ok.kind hg (Calls.loadGlobal_global (by rw [I.ok.glob]; exact I.mod.glob.keeps I.bk) hm h) hd
theorem ld_blt {E : Value → Shared → Prop} {pins : List (Addr × Obj)} {s : Shared} {σ : St} {H : Hp} {x : Str} {u : Value} {pos : Pos} {Q : Value → Shared → Prop} (I : Inv X pins σ H s) (hg : Gl X x) (hm : X.mg x = none) (hv : bootBuiltins x = some u) (h : Q u s)
    (hn : x ≠ "__name__" := by decide) (hd : (x == ("__debug__" : Str)) = false := by decide) : wpAny (model X.prog X.w) X.A (eval (.Name x pos) X.env) Q E s := by
  obtain ⟨mb, h1, h2⟩ := I.mod.blt
  exact Calls.Name_function_global I.ok.kind hg (Calls.loadGlobal_builtin (by rw [I.ok.glob]; exact I.mod.glob.keeps I.bk) hm (by rw [I.ok.blt]; exact h1.keeps I.bk) ((h2 x hn).trans hv) h) hd
theorem pe_glob {x : Str} {v : V} {u : Value} {pos : Pos} (hg : Gl X x) (hm : X.mg x = some u) (r : RelV v u) (hd : (x == ("__debug__" : Str)) = false := by decide) : PE X (.Name x pos) (tC v) :=
  fun _ _ _ H _ I h => ld_glob I hg hm ⟨v, H, I, r, h⟩ hd
theorem pe_bltn {x : Str} {v : V} {u : Value} {pos : Pos} (hg : Gl X x) (hm : X.mg x = none) (hv : bootBuiltins x = some u) (r : RelV v u) (hn : x ≠ "__name__" := by decide) (hd : (x == ("__debug__" : Str)) = false := by decide) : PE X (.Name x pos) (tC v) :=
  fun _ _ _ H _ I h => ld_blt I hg hm hv ⟨v, H, I, r, h⟩ hn hd


variable {a b : Expr} {ta tb : TE} {pos : Pos}

noncomputable def PC (X : Cx) (op : CmpOp) (a b : Expr) (t : TE) : Prop :=
  ∀ (pins : List (Addr × Obj)) (s : Shared) (σ : St) (H : Hp) (Q : VK), Inv X pins σ H s → t σ H Q →
    wpAny (model X.prog X.w) X.A (eval a X.env) (fun v s₁ => wpAny (model X.prog X.w) X.A (eval b X.env) (fun u s₂ => wpAny (model X.prog X.w) X.A (compareOp op v u) (EP X pins σ Q) X.xe s₂) X.xe s₁) X.xe s
noncomputable def tB (t : TE) : TT := fun σ H Q => t σ H fun x H1 => ∃ c, x = .bl c ∧ Q c H1
theorem pt_cmp {op : CmpOp} {t : TE} (h : PC X op a b t) (h1 : behindInMarks op b = false := by first | exact nobehind _ (by decide) (by decide) | rfl) : PT X (.Compare a [op] [b] pos) (tB t) := by
  intro pins s σ H Q I hw
  refine wpAny_isTrue_Compare1 (thn (h pins s σ H _ I hw) fun v s1 h1 => thn h1 fun u s2 h2 => thn h2 fun c s3 ⟨x, H1, I1, r1, q1⟩ => ?_) h1
  obtain ⟨d, rfl, q⟩ := q1
  cases r1
  exact wpAny_truthy_bool ⟨H1, I1, q⟩
theorem pt_val {e : Expr} {t : TE} (h : PE X e t) (he : ∀ whole, isTrue e X.env whole = (do let v ← whole; standAt e.pos; holding [v] (truthy v)) := by intro _; rfl) : PT X e (tB t) := by
  intro pins s σ H Q I hw
  refine isTrue_plain (thn (h pins s σ H _ I hw) fun v s1 ⟨x, H1, I1, r1, q1⟩ => ?_) (he _)
  obtain ⟨d, rfl, q⟩ := q1
  cases r1
  exact wpAny_truthy_bool ⟨H1, I1, q⟩


variable {tA tB' : TT} {rest : List Expr}
noncomputable def tAnd (t u : TT) : TT := fun σ H Q => t σ H fun c H1 => if c = true then u σ H1 Q else Q false H1
noncomputable def tOr (t u : TT) : TT := fun σ H Q => t σ H fun c H1 => if c = true then Q true H1 else u σ H1 Q
noncomputable def tNot (t : TT) : TT := fun σ H Q => t σ H fun c H1 => Q (!c) H1
theorem pw_and1 (ha : PT X a tA) : PW X (.BoolOp .And [a] pos) tA := by
  intro wh pins s σ H Q I h
  refine isTrue_and (thn (ha pins s σ H Q I h) fun c s1 e => ?_)
  cases c with
  | true => exact isTrue_and_nil e
  | false => exact e
theorem pw_or1 (ha : PT X a tA) : PW X (.BoolOp .Or [a] pos) tA := by
  intro wh pins s σ H Q I h
  refine isTrue_or (thn (ha pins s σ H Q I h) fun c s1 e => ?_)
  cases c with
  | false => exact isTrue_or_nil e
  | true => exact e
theorem pw_and (ha : PT X a tA) (hb : PW X (.BoolOp .And (b :: rest) pos) tB') : PW X (.BoolOp .And (a :: b :: rest) pos) (tAnd tA tB') := by
  intro wh pins s σ H Q I h
  refine isTrue_and (thn (ha pins s σ H _ I h) fun c s1 zz9 => ?_)
  obtain ⟨H1, I1, q1⟩ := zz9
  cases c with
  | true => exact hb wh pins s1 σ H1 Q I1 q1
  | false => exact ⟨H1, I1, q1⟩
theorem pw_or (ha : PT X a tA) (hb : PW X (.BoolOp .Or (b :: rest) pos) tB') : PW X (.BoolOp .Or (a :: b :: rest) pos) (tOr tA tB') := by
  intro wh pins s σ H Q I h
  refine isTrue_or (thn (ha pins s σ H _ I h) fun c s1 zz9 => ?_)
  obtain ⟨H1, I1, q1⟩ := zz9
  cases c with
  | true => exact ⟨H1, I1, q1⟩
  | false => exact hb wh pins s1 σ H1 Q I1 q1
theorem pt_not (ha : PT X a tA) : PT X (.UnaryOp .Not a pos) (tNot tA) := by
  intro pins s σ H Q I h
  exact isTrue_not (ha pins s σ H (fun c H1 => Q (!c) H1) I h)
noncomputable def tAndV (ta tb : TE) : TE := fun σ H Q => ta σ H fun x H1 => ∃ c, x = .bl c ∧ if c = true then tb σ H1 Q else Q (.bl false) H1
noncomputable def tNotV (ta : TE) : TE := fun σ H Q => ta σ H fun x H1 => ∃ c, x = .bl c ∧ Q (.bl (!c)) H1
theorem pe_one {op} {t : TE} (h : PE X a t) : PE X (.BoolOp op [a] pos) t := fun pins s σ H Q I hw => BoolOp_one (h pins s σ H Q I hw)
theorem pe_and (ha : PE X a ta) (hb : PE X (.BoolOp .And (b :: rest) pos) tb) : PE X (.BoolOp .And (a :: b :: rest) pos) (tAndV ta tb) := by
  intro pins s σ H Q I h
  refine BoolOp_and (thn (ha pins s σ H _ I h) fun v s1 zz9 => ?_)
  obtain ⟨x, H1, I1, r1, q1⟩ := zz9
  obtain ⟨c, rfl, q1⟩ := q1
  cases r1
  refine wpAny_truthy_bool ?_
  cases c with
  | true => exact hb pins s1 σ H1 Q I1 q1
  | false => exact ⟨.bl false, H1, I1, rfl, q1⟩
theorem pe_not (ha : PE X a ta) : PE X (.UnaryOp .Not a pos) (tNotV ta) := by
  intro pins s σ H Q I h
  refine UnaryOp_ (thn (ha pins s σ H _ I h) fun v s1 zz9 => ?_)
  obtain ⟨x, H1, I1, r1, q1⟩ := zz9
  obtain ⟨c, rfl, q1⟩ := q1
  cases r1
  exact not_of (wpAny_truthy_bool ⟨.bl (!c), H1, I1, rfl, q1⟩)
end
end L2

namespace L2
open PySem PySem.Spec PyProof.Rows


noncomputable def SqL (K : PySem.W.Frag) (H : Hp) (a : Addr) (xs : List V) : Prop :=
  Rd H a (.lst xs) ∨
    ∃ (o : Obj) (its : Array Value) (n : Nat), K.lookup a = some o ∧ o.cls = .type "list" ∧ o.dict = none ∧ o.data = .seq its n ∧ its.size ≤ sizeLine ∧ Vals xs its.toList
noncomputable def SqT (K : PySem.W.Frag) (H : Hp) (a : Addr) (xs : List V) : Prop :=
  Rd H a (.tup xs) ∨
    ∃ (o : Obj) (its : Array Value) (n : Nat), K.lookup a = some o ∧ o.cls = .type "tuple" ∧ o.data = .seq its n ∧ its.size ≤ sizeLine ∧ Vals xs its.toList
noncomputable def absV : Value → Option V
  | .none => some .non
  | .bool b => some (.bl b)
  | .int i _ => some (.int i)
  | .str x _ => some (.str x)
  | .bytes b _ => some (.byt b)
  | .float b _ => some (.flt b)
  | .ref a => some (.ref a)
  | .type n => some (.ty n)
  | _ => none
theorem RelV.abs {x : V} {u : Value} (r : RelV x u) : absV u = some x := by
  cases x with
  | non => cases r; rfl
  | bl _ => cases r; rfl
  | int _ => obtain ⟨t, rfl⟩ := r; rfl
  | str _ => obtain ⟨t, rfl⟩ := r; rfl
  | byt _ => obtain ⟨t, rfl⟩ := r; rfl
  | flt _ => obtain ⟨t, rfl⟩ := r; rfl
  | ref _ => cases r; rfl
  | ty _ => cases r; rfl
theorem RelV.inj {x y : V} {u : Value} (r : RelV x u) (q : RelV y u) : x = y := Option.some.inj (r.abs.symm.trans q.abs)
theorem Vals.inj : ∀ {xs ys : List V} {us : List Value}, Vals xs us → Vals ys us → xs = ys
  | _, _, _, .nil, .nil => rfl
  | _, _, _, .cons r t, .cons r' t' => by rw [r.inj r', Vals.inj t t']
section
variable {X : Cx} {pins : List (Addr × Obj)} {σ : St} {H : Hp} {s : Shared} {a : Addr} {xs ys : List V}
theorem SqL.of {K : PySem.W.Frag} (h : H a = some (.lst xs)) : SqL K H a xs := .inl (.inl h)
theorem SqT.of {K : PySem.W.Frag} (h : H a = some (.tup xs)) : SqT K H a xs := .inl (.inl h)
theorem Inv.list (I : Inv X pins σ H s) (h : SqL X.K H a xs) : ∃ its : List Value, Vals xs its ∧ PlainL s.heap a its.toArray ∧ xs.length ≤ sizeLine := by
  rcases h with h | ⟨o, its, n, hk, hc, hd, hs, hz, r⟩
  · obtain ⟨z, its, n, r, e⟩ := h.ok I.hok
    exact ⟨its, r, ⟨_, n, e, rfl, rfl, rfl⟩, z⟩
  · refine ⟨its.toList, r, ⟨o, n, I.kIn a o hk, hc, hd, by simpa using hs⟩, ?_⟩
    have e := r.length
    simp only [Array.length_toList] at e
    omega
theorem Inv.tuple (I : Inv X pins σ H s) (h : SqT X.K H a xs) : ∃ its : List Value, Vals xs its ∧ IsTup s.heap a its.toArray ∧ xs.length ≤ sizeLine := by
  rcases h with h | ⟨o, its, n, hk, hc, hs, hz, r⟩
  · obtain ⟨z, its, r, p⟩ := h.ok I.hok
    exact ⟨its, r, p, z⟩
  · refine ⟨its.toList, r, ⟨o, I.kIn a o hk, hc, n, by simpa using hs⟩, ?_⟩
    have e := r.length
    simp only [Array.length_toList] at e
    omega
theorem Inv.list_inj (I : Inv X pins σ H s) (h : SqL X.K H a xs) (h' : SqL X.K H a ys) : xs = ys := by
  obtain ⟨its, r, ⟨o, n, e, _, _, d⟩, _⟩ := I.list h
  obtain ⟨its', r', ⟨o', n', e', _, _, d'⟩, _⟩ := I.list h'
  rw [e] at e'; cases e'
  rw [d] at d'
  injection d' with d1 _
  have : its = its' := by simpa using congrArg Array.toList d1
  subst this
  exact r.inj r'
end


noncomputable abbrev Cx.wish (X : Cx) (E : Value → Shared → Prop) : Cx := { X with xe := E }
theorem Cx.Ok.wish {X : Cx} (ok : X.Ok) (E : Value → Shared → Prop) : (X.wish E).Ok :=
  ⟨ok.mod, ok.kind, ok.glob, ok.blt, ok.above, ok.inj, ok.has, ok.cab, ok.hd, ok.frames, ok.stk, ok.exf, ok.bs, ok.bsz, ok.noex, ok.exfs, ok.funs, ok.frf⟩
theorem Cx.Ok.unwish {X : Cx} {E : Value → Shared → Prop} (ok : (X.wish E).Ok) : X.Ok :=
  ⟨ok.mod, ok.kind, ok.glob, ok.blt, ok.above, ok.inj, ok.has, ok.cab, ok.hd, ok.frames, ok.stk, ok.exf, ok.bs, ok.bsz, ok.noex, ok.exfs, ok.funs, ok.frf⟩
section
variable {X : Cx} {pins : List (Addr × Obj)} {σ : St} {H : Hp} {s : Shared} {E : Value → Shared → Prop}
theorem Inv.wish (I : Inv X pins σ H s) (E : Value → Shared → Prop) : Inv (X.wish E) pins σ H s := ⟨I.ok.wish E, I.os, I.bare, I.base, I.loc, I.cell, I.free, I.freeC, I.pin, I.hok, I.len⟩
theorem Inv.unwish (I : Inv (X.wish E) pins σ H s) : Inv X pins σ H s := ⟨I.ok.unwish, I.os, I.bare, I.base, I.loc, I.cell, I.free, I.freeC, I.pin, I.hok, I.len⟩
theorem SP.unwish {D : Ends} {f : Flow} {s' : Shared} (h : SP (X.wish E) pins D f s') : SP X pins D f s' := by
  cases f with
  | next => obtain ⟨σ', H', I, q⟩ := h; exact ⟨σ', H', I.unwish, q⟩
  | brk => obtain ⟨σ', H', I, q⟩ := h; exact ⟨σ', H', I.unwish, q⟩
  | cont => obtain ⟨σ', H', I, q⟩ := h; exact ⟨σ', H', I.unwish, q⟩
  | ret u => obtain ⟨v, σ', H', I, r, q⟩ := h; exact ⟨v, σ', H', I.unwish, r, q⟩
end


section
variable {X : Cx} {st : Stmt} {rest : List Stmt} {t u : TS} {e : Expr} {te : TE} {pos : Pos}
noncomputable def tNext : TS := fun D σ H => D.nx σ H
noncomputable def tSeq (t u : TS) : TS := fun D σ H => t { D with nx := u D } σ H
theorem pss_nil : PSs X [] tNext := fun _ _ σ H _ I h => wpAny_execs_nil ⟨σ, H, I, h⟩
theorem pss_cons (h1 : PS X st t) (h2 : PSs X rest u) : PSs X (st :: rest) (tSeq t u) := by
  intro pins s σ H D I h
  refine wpAny_execs_cons (thn (h1 pins s σ H { D with nx := u D } I h) fun f s1 q => ?_)
  cases f with
  | next =>
    obtain ⟨σ', H', I', q⟩ := q
    exact h2 pins s1 σ' H' D I' q
  | ret v => exact q
  | brk => exact q
  | cont => exact q
theorem pss_one (h1 : PS X st t) : PSs X [st] t := by
  intro pins s σ H D I h
  refine wpAny_execs_cons (thn (h1 pins s σ H D I h) fun f s1 q => ?_)
  cases f with
  | next => exact wpAny_execs_nil q
  | ret v => exact q
  | brk => exact q
  | cont => exact q
theorem Inv.quiet {pins : List (Addr × Obj)} {σ : St} {H : Hp} {s : Shared} (I : Inv X pins σ H s) : interactive X.env = false := by simp [interactive, I.ok.kind]
noncomputable def tDrop (te : TE) : TS := fun D σ H => te σ H fun _ H1 => D.nx σ H1
theorem ps_expr (he : PE X e te) (hs : swapsWith e none pos.line X.env = pure false := by rfl) : PS X (.Expr e pos) (tDrop te) := by
  intro pins s σ H D I h
  exact wpAny_Expr_any (thn (he pins s σ H _ I h) fun v s1 ⟨x, H1, I1, r1, q1⟩ => ⟨σ, H1, I1, q1⟩) I.quiet hs
noncomputable def tRet (te : TE) : TS := fun D σ H => te σ H D.rt
theorem ps_ret (he : PE X e te) : PS X (.Return (some e) pos) (tRet te) := by
  intro pins s σ H D I h
  exact wpAny_Return_some (thn (he pins s σ H _ I h) fun v s1 ⟨x, H1, I1, r1, q1⟩ => ⟨x, σ, H1, I1, r1, q1⟩)
noncomputable def tIfS (c : TT) (t u : TS) : TS := fun D σ H => c σ H fun b H1 => if b = true then t D σ H1 else u D σ H1
theorem ps_if {c : Expr} {a b : List Stmt} {tc : TT} (hc : PT X c tc) (ha : PSs X a t) (hb : PSs X b u) : PS X (.If c a b pos) (tIfS tc t u) := by
  intro pins s σ H D I h
  refine wpAny_If (thn (hc pins s σ H _ I h) fun d s1 zz9 => ?_)
  obtain ⟨H1, I1, q1⟩ := zz9
  cases d with
  | true => exact ha pins s1 σ H1 D I1 q1
  | false => exact hb pins s1 σ H1 D I1 q1
end


noncomputable abbrev TG := V → St → Hp → (St → Hp → Prop) → Prop
noncomputable abbrev TGs := List V → St → Hp → (St → Hp → Prop) → Prop
noncomputable def PG (X : Cx) (target : Expr) (t : TG) : Prop :=
  ∀ (pins : List (Addr × Obj)) (s : Shared) (σ : St) (H : Hp) (v : V) (u : Value) (Q : St → Hp → Prop), Inv X pins σ H s → RelV v u → t v σ H Q →
    wpAny (model X.prog X.w) X.A (assign target X.env u) (fun _ s' => ∃ σ' H', Inv X pins σ' H' s' ∧ Q σ' H') X.xe s
noncomputable def PGs (X : Cx) (ts : List Expr) (t : TGs) : Prop :=
  ∀ (pins : List (Addr × Obj)) (s : Shared) (σ : St) (H : Hp) (vs : List V) (us : List Value) (Q : St → Hp → Prop), Inv X pins σ H s → Vals vs us → t vs σ H Q →
    wpAny (model X.prog X.w) X.A (assignInOrder ((assignEach ts X.env).map (·.2)) us) (fun _ s' => ∃ σ' H', Inv X pins σ' H' s' ∧ Q σ' H') X.xe s
noncomputable abbrev TSet := V → V → V → Hp → (Hp → Prop) → Prop
noncomputable def PSet (X : Cx) (t : TSet) : Prop :=
  ∀ (pins : List (Addr × Obj)) (s : Shared) (σ : St) (H : Hp) (o i v : V) (ov iv u : Value) (Q : Hp → Prop), Inv X pins σ H s → RelV o ov → RelV i iv → RelV v u → t o i v H Q →
    wpAny (model X.prog X.w) X.A (setItem ov iv u) (fun _ s' => ∃ H', Inv X pins σ H' s' ∧ Q H') X.xe s
section
variable {X : Cx} {pos : Pos}
noncomputable def gName (i : Nat) : TG := fun v σ H Q => Q (σ.set i (some v)) H
theorem pg_name {i : Nat} {x : Str} (hN : X.N.Nodup) (hi : X.N[i]? = some x) (hx : Loc X.env.scope x) (hf : X.fn x = true ∨ X.env.scope.names.lookup x = some .local := by first | exact .inl rfl | exact .inr rfl | assumption) : PG X (.Name x pos) (gName i) := by
  intro pins s σ H v u Q I r h
  exact wpAny_assign_Name (store_ok I hN hi hx r (fun s' I' => ⟨_, H, I', h⟩) hf)
noncomputable def gNil : TGs := fun vs σ H Q => vs = [] ∧ Q σ H
noncomputable def gCons (t : TG) (u : TGs) : TGs := fun vs σ H Q => ∃ v r, vs = v :: r ∧ t v σ H fun σ' H' => u r σ' H' Q
theorem pgs_nil : PGs X [] gNil := by
  intro pins s σ H vs us Q I r h
  obtain ⟨e, h⟩ := h
  subst e
  cases r
  exact assignInOrder_nil ⟨σ, H, I, h⟩
theorem pgs_cons {e : Expr} {es : List Expr} {t : TG} {u : TGs} (h1 : PG X e t) (h2 : PGs X es u)
    (hs : (assignEach (e :: es) X.env).map (·.2) = assign e X.env :: (assignEach es X.env).map (·.2) := by rfl) : PGs X (e :: es) (gCons t u) := by
  intro pins s σ H vs us Q I r h
  obtain ⟨v, vr, e1, h⟩ := h
  subst e1
  cases r with
  | cons r rr =>
    rw [hs]
    refine assignInOrder_cons (thn (h1 pins s σ H _ _ _ I r h) fun _ s1 zz9 => ?_)
    obtain ⟨σ1, H1, I1, q1⟩ := zz9
    exact h2 pins s1 σ1 H1 _ _ Q I1 rr q1
noncomputable def gTup (K : PySem.W.Frag) (n : Nat) (t : TGs) : TG := fun v σ H Q => ∃ a xs, v = .ref a ∧ SqT K H a xs ∧ xs.length = n ∧ t xs σ H Q
theorem pg_tup {es : List Expr} {k : Nat} {t : TGs} {n : Nat} (hc : X.calm = true) (h : PGs X es t)
    (hn : (assignEach es X.env).length = n := by rfl) (hst : (assignEach es X.env).findIdx? (·.1) = none := by rfl) : PG X (.Tuple es k pos) (gTup X.K n t) := by
  intro pins s σ H v u Q I r hw
  obtain ⟨a, xs, e1, hq, hl, hw⟩ := hw
  subst e1
  cases r
  obtain ⟨its, rv, ht, hz⟩ := I.tuple hq
  refine assign_Tuple_tuple (I.ok.hd hc) ht (by simp [hn, ← hl, rv.length]) hst fun h' hx => ?_
  have I1 : Inv X pins σ H { s with heap := h' } := I.kept (t' := s.toks) fun b o e => hx b o (Nat.ne_of_lt (Heap.lt_size e)) e
  exact h pins _ σ H xs _ Q I1 (by simpa using rv) hw
noncomputable def gSub (to ti : TE) (t : TSet) : TG := fun v σ H Q => to σ H fun o H1 => ti σ H1 fun i H2 => t o i v H2 fun H3 => Q σ H3
theorem pg_sub {o i : Expr} {to ti : TE} {t : TSet} (ho : PE X o to) (hi : PE X i ti) (hs : PSet X t)
    (ha : ∀ v, assign (.Subscript o i pos) X.env v = (do
      let ov ← holding [v] (eval o X.env)
      let iv ← holding [v, ov] (eval i X.env)
      standAt pos
      holding [v, ov, iv] (setItem ov iv v)
      release [v, ov, iv] []) := by intro _; rfl) : PG X (.Subscript o i pos) (gSub to ti t) := by
  intro pins s σ H v u Q I r h
  rw [ha]
  refine wpAny_bind (wpAny_holding (thn (ho pins s σ H _ I h) fun ov s1 zz9 => ?_))
  obtain ⟨x, H1, I1, r1, q1⟩ := zz9
  refine wpAny_bind (wpAny_holding (thn (hi pins s1 σ H1 _ I1 q1) fun iv s2 zz9 => ?_))
  obtain ⟨y, H2, I2, r2, q2⟩ := zz9
  refine wpAny_bind (wpAny_standAt (wpAny_bind (wpAny_holding (thn (hs pins s2 σ H2 x y v ov iv u _ I2 r1 r2 r q2) fun _ s3 zz9 => ?_))))
  obtain ⟨H3, I3, q3⟩ := zz9
  exact wpAny_release ⟨σ, H3, I3, q3⟩
noncomputable def tAsg (te : TE) (g : TG) : TS := fun D σ H => te σ H fun x H1 => g x σ H1 D.nx
theorem ps_asg {tg e : Expr} {te : TE} {g : TG} (he : PE X e te) (hg : PG X tg g) (hs : swapsWithSole [tg] e pos.line X.env = pure false := by rfl) (hw : swappedStores [tg] e X.env = pure none := by rfl)
    (h1 : (assignEach [tg] X.env).map (·.2) = [assign tg X.env] := by rfl) : PS X (.Assign [tg] e pos) (tAsg te g) := by
  intro pins s σ H D I h
  refine wpAny_Assign_stores (thn (he pins s σ H _ I h) fun v s1 ⟨x, H1, I1, r1, q1⟩ => ?_) hs hw
  rw [h1]
  exact thn (hg pins s1 σ H1 x v _ I1 r1 q1) fun _ s2 q => q
theorem ps_set {i : Nat} {x : Str} {e : Expr} {te : TE} {pos' : Pos} (hN : X.N.Nodup) (hi : X.N[i]? = some x) (hx : Loc X.env.scope x) (he : PE X e te) (hs : swapsWith e (some (.Name x pos')) pos.line X.env = pure false := by rfl) (hf : X.fn x = true ∨ X.env.scope.names.lookup x = some .local := by first | exact .inl rfl | exact .inr rfl | assumption) :
    PS X (.Assign [.Name x pos'] e pos) (tAsg te (gName i)) := by
  intro pins s σ H D I h
  refine wpAny_Assign_Name (thn (he pins s σ H _ I h) fun v s1 ⟨y, H1, I1, r1, q1⟩ => ?_) hs
  exact store_ok I1 hN hi hx r1 (fun s2 I2 => ⟨_, H1, I2, q1⟩) hf
end


section
variable {X : Cx} {pos : Pos}
noncomputable def tWhile (c : TT) (tb : TS) : TS := fun D σ H => ∃ W : Nat → St → Hp → Prop, (∃ m, W m σ H) ∧ ∀ m σ H, W m σ H →
  c σ H fun b H1 => if b = true then ∃ N : St → Hp → Prop, (∀ σ' H', N σ' H' → ∃ m', m' < m ∧ W m' σ' H') ∧ tb { D with nx := N, ct := N, bk := D.nx } σ H1 else D.nx σ H1
theorem ps_while {c : Expr} {body : List Stmt} {tc : TT} {tb : TS} (hp : PassesOwn (model X.prog X.w) X.A X.env X.xe) (hc : PT X c tc) (hb : PSs X body tb) : PS X (.While c body [] pos) (tWhile tc tb) := by
  intro pins s σ H D I h
  obtain ⟨W, ⟨m0, w0⟩, turn⟩ := h
  refine wpAny_While (codeAny_whileLoop (fun n s' => ∃ σ' H', Inv X pins σ' H' s' ∧ W n σ' H') ?_ m0 ⟨σ, H, I, w0⟩)
  rintro n s1 ⟨σ1, H1, I1, w1⟩
  refine wpAny_passesOwn hp (thn (hc pins s1 σ1 H1 _ I1 (turn n σ1 H1 w1)) fun b s2 zz9 => ?_)
  obtain ⟨H2, I2, q2⟩ := zz9
  cases b with
  | true =>
    obtain ⟨N, hN, q2⟩ := q2
    rw [if_pos rfl]
    refine wpAny_passesOwn hp (thn (hb pins s2 σ1 H2 _ I2 q2) fun f s3 q3 => ?_)
    cases f with
    | next =>
      obtain ⟨σ3, H3, I3, n3⟩ := q3
      obtain ⟨m', hm, w3⟩ := hN σ3 H3 n3
      exact ⟨m', hm, σ3, H3, I3, w3⟩
    | cont =>
      obtain ⟨σ3, H3, I3, n3⟩ := q3
      obtain ⟨m', hm, w3⟩ := hN σ3 H3 n3
      exact ⟨m', hm, σ3, H3, I3, w3⟩
    | brk => exact q3
    | ret v => exact q3
  | false =>
    rw [if_neg Bool.false_ne_true]
    exact wpAny_execs_nil ⟨σ1, H2, I2, q2⟩
end



structure It where
  go : Nat → Hp → Prop
  yld : Nat → Hp → V → Hp → Prop
  stop : Nat → Hp → Prop
noncomputable def FpOk (X : Cx) (pins : List (Addr × Obj)) (H : Hp) (b : Addr) : Prop :=
  H b = none ∧ b ≠ X.env.locals ∧ b ∉ X.fs ∧ (b ∈ X.ex ∨ X.s₀.heap.objs.size ≤ b) ∧ (∀ x c, X.env.cells.lookup x = some c → c ≠ b) ∧ ∀ p ∈ X.pn ++ pins, p.1 ≠ b
theorem Inv.fpOk {X : Cx} {pins : List (Addr × Obj)} {σ : St} {H H' : Hp} {s : Shared} {b : Addr} (I : Inv X pins σ H s) (hb : s.heap.objs.size ≤ b) (hn : H' b = none) : FpOk X pins H' b := by
  refine ⟨hn, Nat.ne_of_gt (Nat.lt_of_lt_of_le I.lt hb), I.nofs hb, .inr (Nat.le_trans I.sz hb), fun x c e z => ?_, fun p hp z => ?_⟩
  · obtain ⟨v, q⟩ := I.cell x c e
    exact absurd (Nat.lt_of_lt_of_le q.lt (by rw [z]; exact hb)) (Nat.lt_irrefl _)
  · exact absurd (Nat.lt_of_lt_of_le (Heap.lt_size (I.pin p hp).1) (by rw [z]; exact hb)) (Nat.lt_irrefl _)
structure Turn (P : Program) (w : World) (K : PySem.W.Frag) (tg : Expr) (J : It) (fp : List Addr) (it : Addr) (tn : Nat → Heap → Prop) : Prop where
  mem : it ∈ fp
  obj : ∀ i h, tn i h → ∀ b ∈ fp, ∃ o, h.get? b = some o ∧ ∀ v, o.data ≠ .cell v
  keep : ∀ i h h', tn i h → (∀ b ∈ fp, ∀ o, h.get? b = some o → h'.get? b = some o) → tn i h'
  item : ∀ (X : Cx), X.prog = P → X.w = w → X.K = K → X.calm = true → ∀ (i : Nat) (pins : List (Addr × Obj)) (s : Shared) (σ : St) (H : Hp) (E : Value → Shared → Prop), Inv X pins σ H s → (∀ b ∈ fp, FpOk X pins H b) → tn i s.heap → J.go i H →
    wpAny (model P w) X.A (pyNext (.ref it)) (fun r s1 => ∃ u, r = some u ∧
      wpAny (model P w) X.A (letOwnedTupleGo tg (.ref it) u) (fun _ s2 => ∃ x H', Inv X pins σ H' s2 ∧ RelV x u ∧ J.yld i H x H' ∧ tn (i + 1) s2.heap ∧ ∀ b ∈ fp, H' b = none) E s1) E s
  done : ∀ (X : Cx), X.prog = P → X.w = w → X.K = K → X.calm = true → ∀ (i : Nat) (pins : List (Addr × Obj)) (s : Shared) (σ : St) (H : Hp) (E : Value → Shared → Prop), Inv X pins σ H s → (∀ b ∈ fp, FpOk X pins H b) → tn i s.heap → J.stop i H →
    wpAny (model P w) X.A (pyNext (.ref it)) (fun r s1 => r = none ∧ Inv X pins σ H s1) E s
  self : ∀ (A : Around) (i : Nat) (s : Shared) (Q : Value → Shared → Prop) (E : Value → Shared → Prop), tn i s.heap → Q (.ref it) s → wpAny (model P w) A (pyIter (.ref it)) Q E s
noncomputable abbrev TI := St → Hp → (It → Hp → Prop) → Prop
noncomputable def PIE (X : Cx) (pins : List (Addr × Obj)) (σ : St) (tg : Expr) (R : It → Hp → Prop) (itv : Value) (s2 : Shared) : Prop :=
  ∃ (it : Addr) (fp : List Addr) (tn : Nat → Heap → Prop) (J : It) (H' : Hp), itv = .ref it ∧ Inv X pins σ H' s2 ∧ Turn X.prog X.w X.K tg J fp it tn ∧ tn 0 s2.heap ∧ (∀ b ∈ fp, FpOk X pins H' b) ∧ R J H'
noncomputable def PI (X : Cx) (tg iter : Expr) (wi : TI) : Prop :=
  ∀ (pins : List (Addr × Obj)) (s : Shared) (σ : St) (H : Hp) (R : It → Hp → Prop), Inv X pins σ H s → wi σ H R →
    wpAny (model X.prog X.w) X.A (eval iter X.env) (fun v s1 => wpAny (model X.prog X.w) X.A (pyIter v) (PIE X pins σ tg R) X.xe s1) X.xe s

theorem go_of {M : Model} {A : Around} {E : Value → Shared → Prop} {s : Shared} {tg : Expr} {it : Addr} {u : Value} {o : Obj} {n : String} {vs : Array Value} {Q : Unit → Shared → Prop} (ho : s.heap.get? it = some o) (hc : o.cls = .type n) (hd : o.data = .fields vs)
    (hn : ["enumerate", "zip", "dict_itemiterator", "dict_reverseitemiterator", "odict_iterator", "itertools.zip_longest", "itertools.pairwise"].contains n = false) (hQ : Q () s) : wpAny M A (letOwnedTupleGo tg (.ref it) u) Q E s := by
  unfold letOwnedTupleGo
  cases tg <;> first
    | exact wpAny_pure hQ
    | (cases u <;> first
        | exact wpAny_pure hQ
        | (refine wpAny_bind (wpAny_load ho ?_)
           rw [hc, hd]
           show wpAny M A (if (["enumerate", "zip", "dict_itemiterator", "dict_reverseitemiterator", "odict_iterator", "itertools.zip_longest", "itertools.pairwise"].contains n && vs[0]? == some (rawInt _)) = true then _ else _) Q E s
           rw [if_neg (by intro h; rw [hn, Bool.false_and] at h; cases h)]
           exact wpAny_pure hQ))

noncomputable def Itl (K : PySem.W.Frag) (a : Addr) : It :=
  ⟨fun i H => ∃ xs x, SqL K H a xs ∧ xs[i]? = some x, fun i H x H' => H' = H ∧ ∀ xs, SqL K H a xs → xs[i]? = some x, fun i H => ∃ xs, SqL K H a xs ∧ xs.length ≤ i⟩
noncomputable def Itr (lo : Int) (n : Nat) : It := ⟨fun i _ => i < n, fun i H x H' => H' = H ∧ x = .int (lo + i), fun i _ => n ≤ i⟩
theorem turn_list {P : Program} {w : World} {K : PySem.W.Frag} {tg : Expr} (a it : Addr) : Turn P w K tg (Itl K a) [it] it (fun i h => h.IsListIter it a i) where
  mem := by simp
  obj := fun i h st b hb => by
    have e : b = it := by simpa using hb
    subst e
    obtain ⟨o, e, c, d⟩ := st
    exact ⟨o, e, fun v z => by rw [d] at z; cases z⟩
  keep := fun i h h' st k => st.at fun o e => k it (by simp) o e
  item := by
    intro X hP hw hK hc i pins s σ H E I hf st hg
    subst hP hw hK
    obtain ⟨xs, x, hq, hx⟩ := hg
    obtain ⟨its, rv, p, hz⟩ := I.list hq
    obtain ⟨u, hu, ru⟩ := rv.get hx
    obtain ⟨f0, f1, f2, f3, f4, f5⟩ := hf it (by simp)
    refine wpAny_pyNext_list_item st p.isList (x := u) (by simpa using hu) fun h' st' sb => ?_
    have I1 : Inv X pins σ H { s with heap := h' } := I.turned (t' := s.toks) (fun b o hb e => (sb.2 b hb).trans e) f0 f1 f3 f4 f5
    obtain ⟨o, e, c, d⟩ := id st'
    exact ⟨u, rfl, go_of (s := { s with heap := h' }) e c d (by decide) ⟨x, H, I1, ru, ⟨rfl, fun ys hy => by rw [I.list_inj hy hq]; exact hx⟩, st', fun b hb => (hf b hb).1⟩⟩
  done := by
    intro X hP hw hK hc i pins s σ H E I hf st hg
    subst hP hw hK
    obtain ⟨xs, hq, hx⟩ := hg
    obtain ⟨its, rv, p, hz⟩ := I.list hq
    obtain ⟨f0, f1, f2, f3, f4, f5⟩ := hf it (by simp)
    have hl := rv.length
    exact wpAny_pyNext_list_end (I.ok.hd hc) st p.isList (by simp; omega) fun h' eb => ⟨rfl, I.turned (t' := s.toks) (fun b o hb e => eb b o hb e) f0 f1 f3 f4 f5⟩
  self := fun _ _ _ _ _ st h => wpAny_pyIter_listiter st h
theorem turn_range {P : Program} {w : World} {K : PySem.W.Frag} {tg : Expr} (it : Addr) (lo : Int) (n : Nat) : Turn P w K tg (Itr lo n) [it] it (fun i h => IsRangeIter h it (lo + (i : Nat) * 1) ((n : Int) - (i : Nat)) 1) where
  mem := by simp
  obj := fun i h st b hb => by
    have e : b = it := by simpa using hb
    subst e
    exact ⟨_, st, fun v z => by
      have z' : Data.fields _ = Data.cell v := z
      cases z'⟩
  keep := fun i h h' st k => k it (by simp) _ st
  item := by
    intro X hP hw hK hc i pins s σ H E I hf st hg
    subst hP hw hK
    obtain ⟨f0, f1, f2, f3, f4, f5⟩ := hf it (by simp)
    have W := Walks.range (prog := X.prog) (w := X.w) (I.ok.hd hc) it lo 1 n
    refine W.item i s _ _ hg st fun v h' tk hv st' kk => ?_
    obtain ⟨t, rfl⟩ := hv
    have I1 : Inv X pins σ H { s with heap := h', toks := tk } := I.turned (fun b o hb e => kk b o (by simpa using hb) e) f0 f1 f3 f4 f5
    refine ⟨_, rfl, go_of (s := { s with heap := h', toks := tk }) (n := "range_iterator") st' rfl rfl (by decide) ⟨.int (lo + i), H, I1, ⟨t, ?_⟩, ⟨rfl, rfl⟩, st', fun b hb => (hf b hb).1⟩⟩
    rw [Int.mul_one]
  done := by
    intro X hP hw hK hc i pins s σ H E I hf st hg
    subst hP hw hK
    obtain ⟨f0, f1, f2, f3, f4, f5⟩ := hf it (by simp)
    exact wpAny_pyNext_range_end (I.ok.hd hc) st (by have : n ≤ i := hg; omega) fun h' eb => ⟨rfl, I.turned (t' := s.toks) (fun b o hb e => eb b o hb e) f0 f1 f3 f4 f5⟩
  self := fun _ _ _ _ _ st h => wpAny_pyIter_rangeiter st h
end L2

namespace L2
open PySem PySem.Spec PyProof.Rows
section
variable {X : Cx} {tg : Expr}
noncomputable def iList (K : PySem.W.Frag) (tl : TE) : TI := fun σ H R => tl σ H fun x H1 => ∃ a, x = .ref a ∧ (∃ xs, SqL K H1 a xs) ∧ R (Itl K a) H1
theorem pi_list {l : Expr} {tl : TE} (hl : PE X l tl) : PI X tg l (iList X.K tl) := by
  intro pins s σ H R I h
  refine thn (hl pins s σ H _ I h) fun v s1 zz9 => ?_
  obtain ⟨x, H1, I1, r1, q1⟩ := zz9
  obtain ⟨a, e, ⟨xs, hq⟩, q⟩ := q1
  subst e
  cases r1
  obtain ⟨its, rv, p, hz⟩ := I1.list hq
  refine wpAny_pyIter_list p.isList ?_
  refine ⟨s1.heap.objs.size, [s1.heap.objs.size], _, _, H1, rfl, I1.kept (t' := s1.toks) fun b o e => Heap.get?_push_of_some _ e, turn_list a _, ⟨_, Heap.get?_push_size _ rfl, rfl, rfl⟩, fun b hb => ?_, q⟩
  have e : b = s1.heap.objs.size := by simpa using hb
  subst e
  exact I1.fpOk (Nat.le_refl _) (I1.hok.fresh (Nat.le_refl _))
theorem range_it {pins : List (Addr × Obj)} {σ : St} {H : Hp} {s : Shared} {R : It → Hp → Prop} {E : Value → Shared → Prop} {lo hi : Int} {t u v : Tok} {tk : Nat} (I : Inv X pins σ H s) (h1 : -(2 ^ 62) ≤ lo) (h2 : lo < 2 ^ 62) (h3 : -(2 ^ 62) ≤ hi) (h4 : hi < 2 ^ 62)
    (q : R (Itr lo (hi - lo).toNat) H) : wpAny (model X.prog X.w) X.A (pyIter (.ref s.heap.objs.size)) (PIE X pins σ tg R) E { s with heap := s.heap.push { cls := .type "range", data := .fields #[.int lo t, .int hi u, .int 1 v] }, toks := tk } := by
  refine wpAny_pyIter_range (IsRange.new ..) (small_one h1 h2 h3 h4) ?_
  have I1 : Inv X pins σ H { s with heap := s.heap.push { cls := .type "range", data := .fields #[.int lo t, .int hi u, .int 1 v] }, toks := tk } := I.kept fun b o e => Heap.get?_push_of_some _ e
  refine ⟨(s.heap.push { cls := .type "range", data := .fields #[.int lo t, .int hi u, .int 1 v] }).objs.size, [(s.heap.push { cls := .type "range", data := .fields #[.int lo t, .int hi u, .int 1 v] }).objs.size], _, _, H, rfl,
    I1.kept (t' := tk) fun b o e => Heap.get?_push_of_some _ e, turn_range _ lo (hi - lo).toNat, ?_, fun b hb => ?_, q⟩
  · have e1 : lo + ((0 : Nat) : Int) * 1 = lo := by simp
    have e2 : (((hi - lo).toNat : Nat) : Int) - ((0 : Nat) : Int) = Builtin.Range.rangeSize lo hi 1 := by rw [rangeSize_one]; split <;> omega
    show IsRangeIter _ _ (lo + ((0 : Nat) : Int) * 1) ((((hi - lo).toNat : Nat) : Int) - ((0 : Nat) : Int)) 1
    rw [e1, e2]
    exact Heap.get?_push_size _ rfl
  · have e : b = (s.heap.push { cls := .type "range", data := .fields #[.int lo t, .int hi u, .int 1 v] }).objs.size := by simpa using hb
    subst e
    exact I1.fpOk (Nat.le_refl _) (I1.hok.fresh (Nat.le_refl _))
noncomputable def iRng1 (ta : TA) : TI := fun σ H R => ta σ H fun vs H1 => ∃ j : Int, vs = [.int j] ∧ -(2 ^ 62) ≤ j ∧ j < 2 ^ 62 ∧ R (Itr 0 j.toNat) H1
noncomputable def iRng2 (ta : TA) : TI := fun σ H R => ta σ H fun vs H1 => ∃ i j : Int, vs = [.int i, .int j] ∧ (-(2 ^ 62) ≤ i ∧ i < 2 ^ 62 ∧ -(2 ^ 62) ≤ j ∧ j < 2 ^ 62) ∧ R (Itr i (j - i).toNat) H1
theorem pi_range1 {a : Expr} {ta : TA} {p pos : Pos} (hg : Gl X "range") (hm : X.mg "range" = none) (ha : PA X [a] ta) (hs : starEach [a] X.env = [(false, eval a X.env)] := by rfl) : PI X tg (.Call (.Name "range" p) [a] [] pos) (iRng1 ta) := by
  intro pins s σ H R I h
  refine Call_ (ld_blt I hg hm boot_range (PyProof.Rows.callWith_type1 (thn (ha pos pins s σ H _ I h) fun us s1 ⟨vs, H1, I1, r1, q1⟩ => ?_) hs rfl))
  obtain ⟨j, e, q1, q2, q⟩ := q1
  subst e
  cases r1 with
  | cons r rr =>
    cases rr
    obtain ⟨t, rfl⟩ := r
    exact call_range_1 (range_it I1 (by omega) (by omega) q1 q2 (by simpa using q))
theorem pi_range2 {a b : Expr} {ta : TA} {p pos : Pos} (hg : Gl X "range") (hm : X.mg "range" = none) (ha : PA X [a, b] ta) (hs : starEach [a, b] X.env = [(false, eval a X.env), (false, eval b X.env)] := by rfl) (hs2 : starEach [b] X.env = [(false, eval b X.env)] := by rfl) :
    PI X tg (.Call (.Name "range" p) [a, b] [] pos) (iRng2 ta) := by
  intro pins s σ H R I h
  refine Call_ (ld_blt I hg hm boot_range (PyProof.Rows.callWith_type1 (thn (ha pos pins s σ H _ I h) fun us s1 ⟨vs, H1, I1, r1, q1⟩ => ?_) (by rw [hs, hs2]) (by rw [hs2]; rfl)))
  obtain ⟨i, j, e, ⟨q1, q2, q3, q4⟩, q⟩ := q1
  subst e
  cases r1 with
  | cons r rr =>
    cases rr with
    | cons r' rr =>
      cases rr
      obtain ⟨t, rfl⟩ := r
      obtain ⟨t', rfl⟩ := r'
      exact call_range_2 (range_it I1 q1 q2 q3 q4 q)


noncomputable def tFor (wi : TI) (g : TG) (tb : TS) : TS := fun D σ H => wi σ H fun J H1 => ∃ W : Nat → Nat → St → Hp → Prop, (∃ m, W 0 m σ H1) ∧ ∀ i m σ H, W i m σ H →
  (J.stop i H ∧ D.nx σ H) ∨ (J.go i H ∧ ∃ N : St → Hp → Prop, (∀ σ' H', N σ' H' → ∃ m', m' < m ∧ W (i + 1) m' σ' H') ∧ ∀ x H', J.yld i H x H' → g x σ H' fun σ2 H2 => tb { D with nx := N, ct := N, bk := D.nx } σ2 H2)
noncomputable def pinsAt (fp : List Addr) (h : Heap) : List (Addr × Obj) := fp.filterMap fun b => (h.get? b).map fun o => (b, o)
theorem mem_pinsAt {fp : List Addr} {h : Heap} {b : Addr} {o : Obj} (hb : b ∈ fp) (e : h.get? b = some o) : (b, o) ∈ pinsAt fp h := List.mem_filterMap.mpr ⟨b, hb, by rw [e]; rfl⟩
theorem of_pinsAt {fp : List Addr} {h : Heap} {p : Addr × Obj} (hp : p ∈ pinsAt fp h) : p.1 ∈ fp ∧ h.get? p.1 = some p.2 := by
  obtain ⟨b, hb, e⟩ := List.mem_filterMap.mp hp
  cases q : h.get? b with
  | none => rw [q] at e; cases e
  | some o =>
    rw [q] at e
    have e' : (b, o) = p := Option.some.inj e
    subst e'
    exact ⟨hb, q⟩
theorem Inv.pinned {pins : List (Addr × Obj)} {σ : St} {H : Hp} {s : Shared} {fp : List Addr} (I : Inv X pins σ H s) (hf : ∀ b ∈ fp, FpOk X pins H b) (ho : ∀ b ∈ fp, ∃ o, s.heap.get? b = some o ∧ ∀ v, o.data ≠ .cell v) : Inv X (pins ++ pinsAt fp s.heap) σ H s :=
  I.pins_of fun p hp => (List.mem_append.mp hp).elim (fun z => I.pin p (List.mem_append_right _ z)) fun z => by
    obtain ⟨hb, e⟩ := of_pinsAt z
    obtain ⟨f0, f1, f2, _⟩ := hf p.1 hb
    obtain ⟨o, e', d⟩ := ho p.1 hb
    rw [e] at e'; cases e'
    exact ⟨e, f0, f1, f2, d⟩
theorem Inv.unpinned {pins pl : List (Addr × Obj)} {σ : St} {H : Hp} {s : Shared} (I : Inv X (pins ++ pl) σ H s) : Inv X pins σ H s := I.pins_of fun p hp => I.pin p (List.mem_append_right _ (List.mem_append_left _ hp))
theorem ps_for {iter : Expr} {body : List Stmt} {wi : TI} {g : TG} {tb : TS} {pos : Pos} (hp : PassesOwn (model X.prog X.w) X.A X.env X.xe) (hc : X.calm = true) (hi : PI X tg iter wi) (hg : PG X tg g) (hb : PSs X body tb)
    (hs : ∀ x, foldedSetIterable iter X.env x = pure x := by intro _; rfl) : PS X (.For tg iter body [] pos) (tFor wi g tb) := by
  intro pins s σ H D I h
  refine wpAny_For (thn (hi pins s σ H _ I h) fun v s1 h1 => thn h1 fun itv s2 h2 => ?_) hs
  obtain ⟨it, fp, tn, J, H2, e, I2, T, st2, f2, W, ⟨m0, w0⟩, turn⟩ := h2
  subst e
  -- what stays true of the iterator's objects through the loop
  have stat : ∀ {H' : Hp}, (∀ b ∈ fp, H' b = none) → ∀ b ∈ fp, FpOk X pins H' b := fun hn b hb => ⟨hn b hb, (f2 b hb).2⟩
  refine codeAny_forLoop_any (fun n s' => ∃ i σ' H', Inv X pins σ' H' s' ∧ tn i s'.heap ∧ (∀ b ∈ fp, H' b = none) ∧ W i n σ' H') ?_ m0 ⟨0, σ, H2, I2, st2, fun b hb => (f2 b hb).1, w0⟩
  rintro n s3 ⟨i, σ3, H3, I3, st3, fr3, w3⟩
  rcases turn i n σ3 H3 w3 with ⟨stop, qn⟩ | ⟨go, N, hN, step⟩
  · refine wpAny_passesOwn hp (thn (T.done X rfl rfl rfl hc i pins s3 σ3 H3 X.xe I3 (stat fr3) st3 stop) fun r s4 zz9 => ?_)
    obtain ⟨hr, I4⟩ := zz9
    subst hr
    exact wpAny_execs_nil ⟨σ3, H3, I4, qn⟩
  · refine wpAny_passesOwn hp (thn (T.item X rfl rfl rfl hc i pins s3 σ3 H3 X.xe I3 (stat fr3) st3 go) fun r s4 zz9 => ?_)
    obtain ⟨u, hr, h4⟩ := zz9
    subst hr
    refine wpAny_passesOwn hp (thn h4 fun _ s5 zz9 => ?_)
    obtain ⟨x, H5, I5, r5, y5, st5, fr5⟩ := zz9
    have I5' := I5.pinned (stat fr5) (T.obj _ _ st5)
    refine wpAny_passesOwn hp (thn (hg _ s5 σ3 H5 x u _ I5' r5 (step x H5 y5)) fun _ s6 zz9 => ?_)
    obtain ⟨σ6, H6, I6, q6⟩ := zz9
    refine wpAny_passesOwn hp (thn (hb _ s6 σ6 H6 _ I6 q6) fun f s7 q7 => ?_)
    have again : ∀ {σ7 : St} {H7 : Hp}, Inv X (pins ++ pinsAt fp s5.heap) σ7 H7 s7 → N σ7 H7 → ∃ m, m < n ∧ ∃ i σ' H', Inv X pins σ' H' s7 ∧ tn i s7.heap ∧ (∀ b ∈ fp, H' b = none) ∧ W i m σ' H' := fun {σ7 H7} I7 n7 => by
      obtain ⟨m', hm, w7⟩ := hN σ7 H7 n7
      refine ⟨m', hm, i + 1, σ7, H7, I7.unpinned, T.keep _ _ _ st5 fun b hb o e => (I7.pin (b, o) (List.mem_append_right _ (List.mem_append_right _ (mem_pinsAt hb e)))).1, fun b hb => ?_, w7⟩
      obtain ⟨o, e, d⟩ := T.obj _ _ st5 b hb
      exact (I7.pin (b, o) (List.mem_append_right _ (List.mem_append_right _ (mem_pinsAt hb e)))).2.1
    cases f with
    | next => obtain ⟨σ7, H7, I7, n7⟩ := q7; exact again I7 n7
    | cont => obtain ⟨σ7, H7, I7, n7⟩ := q7; exact again I7 n7
    | brk => obtain ⟨σ7, H7, I7, q7⟩ := q7; exact ⟨σ7, H7, I7.unpinned, q7⟩
    | ret v => obtain ⟨x7, σ7, H7, I7, r7, q7⟩ := q7; exact ⟨x7, σ7, H7, I7.unpinned, r7, q7⟩
end


end L2

namespace L2
open PySem PySem.Spec PyProof.Rows

noncomputable abbrev R2 := V → V → Hp → VK → Prop
noncomputable def OpR (X : Cx) (f : Value → Value → Sem Value) (r : R2) : Prop :=
  ∀ (pins : List (Addr × Obj)) (s : Shared) (σ : St) (H : Hp) (x y : V) (v u : Value) (Q : VK), Inv X pins σ H s → RelV x v → RelV y u → r x y H Q →
    wpAny (model X.prog X.w) X.A (f v u) (EP X pins σ Q) X.xe s
noncomputable def UnR (X : Cx) (f : Value → Sem Value) (r : V → Hp → VK → Prop) : Prop :=
  ∀ (pins : List (Addr × Obj)) (s : Shared) (σ : St) (H : Hp) (x : V) (v : Value) (Q : VK), Inv X pins σ H s → RelV x v → r x H Q →
    wpAny (model X.prog X.w) X.A (f v) (EP X pins σ Q) X.xe s
noncomputable def CallR (X : Cx) (f : Value) (r : List V → Hp → VK → Prop) : Prop :=
  ∀ (pins : List (Addr × Obj)) (s : Shared) (σ : St) (H : Hp) (xs : List V) (us : List Value) (Q : VK), Inv X pins σ H s → Vals xs us → r xs H Q →
    wpAny (model X.prog X.w) X.A (call f us) (EP X pins σ Q) X.xe s
noncomputable def tOp (r : R2) (ta tb : TE) : TE := fun σ H Q => ta σ H fun x H1 => tb σ H1 fun y H2 => r x y H2 Q
noncomputable def tUn (r : V → Hp → VK → Prop) (ta : TE) : TE := fun σ H Q => ta σ H fun x H1 => r x H1 Q
noncomputable def rI (C : Int → Int → Prop) (g : Int → Int → V) : R2 := fun x y H Q => ∃ i j, x = .int i ∧ y = .int j ∧ C i j ∧ Q (g i j) H
noncomputable def rI0 (g : Int → Int → V) : R2 := fun x y H Q => ∃ i j, x = .int i ∧ y = .int j ∧ Q (g i j) H
noncomputable def rU (g : Int → V) : V → Hp → VK → Prop := fun x H Q => ∃ i, x = .int i ∧ Q (g i) H

section
variable {X : Cx} {a b c : Expr} {ta tb tc : TE} {pos : Pos}

theorem binT (ha : PE X a ta) (hb : PE X b tb) {pins : List (Addr × Obj)} {s : Shared} {σ : St} {H : Hp} {R : V → V → Hp → Prop} (I : Inv X pins σ H s)
    (h : ta σ H fun x H1 => tb σ H1 fun y H2 => R x y H2) {Q : Value → Shared → Prop} {f : Value → Value → Sem Value}
    (hf : ∀ v u s2 x y H2, Inv X pins σ H2 s2 → RelV x v → RelV y u → R x y H2 → wpAny (model X.prog X.w) X.A (f v u) Q X.xe s2) :
    wpAny (model X.prog X.w) X.A (eval a X.env) (fun v s₁ => wpAny (model X.prog X.w) X.A (eval b X.env) (fun u s₂ => wpAny (model X.prog X.w) X.A (f v u) Q X.xe s₂) X.xe s₁) X.xe s := by
  refine thn (ha pins s σ H _ I h) fun v s1 zz9 => ?_
  obtain ⟨x, H1, I1, r1, q1⟩ := zz9
  refine thn (hb pins s1 σ H1 _ I1 q1) fun u s2 zz9 => ?_
  obtain ⟨y, H2, I2, r2, q2⟩ := zz9
  exact hf v u s2 x y H2 I2 r1 r2 q2

theorem pe_op {op : Operator} {r : R2} (ho : OpR X (binaryOp op) r) (ha : PE X a ta) (hb : PE X b tb) : PE X (.BinOp a op b pos) (tOp r ta tb) := by
  intro pins s σ H Q I h
  exact wpAny_BinOp (binT ha hb I h fun v u s2 x y H2 I2 rx ry q => ho pins s2 σ H2 x y v u Q I2 rx ry q)
theorem pe_un {op : UnaryOp} {r : V → Hp → VK → Prop} (ho : UnR X (unaryOp op) r) (ha : PE X a ta) : PE X (.UnaryOp op a pos) (tUn r ta) := by
  intro pins s σ H Q I h
  exact UnaryOp_ (thn (ha pins s σ H _ I h) fun v s1 ⟨x, H1, I1, r1, q1⟩ => ho pins s1 σ H1 x v Q I1 r1 q1)

theorem opI {f : Value → Value → Sem Value} {C : Int → Int → Prop} {g : Int → Int → Int}
    (rule : ∀ (i j : Int) (t u : Tok) (s : Shared) (Q : Value → Shared → Prop) (E : Value → Shared → Prop), C i j → Q (.int (g i j) s.toks) { s with toks := s.toks + 1 } → wpAny (model X.prog X.w) X.A (f (.int i t) (.int j u)) Q E s) :
    OpR X f (rI C fun i j => .int (g i j)) := by
  intro pins s σ H x y v u Q I rx ry h
  obtain ⟨i, j, rfl, rfl, hc, q⟩ := h
  obtain ⟨t, rfl⟩ := rx
  obtain ⟨t', rfl⟩ := ry
  exact rule i j t t' s _ _ hc ⟨.int (g i j), H, I.tok _, ⟨_, rfl⟩, q⟩
theorem opI0 {f : Value → Value → Sem Value} {g : Int → Int → Int}
    (rule : ∀ (i j : Int) (t u : Tok) (s : Shared) (Q : Value → Shared → Prop) (E : Value → Shared → Prop), Q (.int (g i j) s.toks) { s with toks := s.toks + 1 } → wpAny (model X.prog X.w) X.A (f (.int i t) (.int j u)) Q E s) :
    OpR X f (rI0 fun i j => .int (g i j)) := by
  intro pins s σ H x y v u Q I rx ry h
  obtain ⟨i, j, rfl, rfl, q⟩ := h
  obtain ⟨t, rfl⟩ := rx
  obtain ⟨t', rfl⟩ := ry
  exact rule i j t t' s _ _ ⟨.int (g i j), H, I.tok _, ⟨_, rfl⟩, q⟩
theorem opB0 {f : Value → Value → Sem Value} {g : Int → Int → Bool}
    (rule : ∀ (i j : Int) (t u : Tok) (s : Shared) (Q : Value → Shared → Prop) (E : Value → Shared → Prop), Q (.bool (g i j)) s → wpAny (model X.prog X.w) X.A (f (.int i t) (.int j u)) Q E s) :
    OpR X f (rI0 fun i j => .bl (g i j)) := by
  intro pins s σ H x y v u Q I rx ry h
  obtain ⟨i, j, rfl, rfl, q⟩ := h
  obtain ⟨t, rfl⟩ := rx
  obtain ⟨t', rfl⟩ := ry
  exact rule i j t t' s _ _ ⟨.bl (g i j), H, I, rfl, q⟩

noncomputable def CDiv (i j : Int) : Prop := 0 < j ∧ j < 1073741824
noncomputable def CPow (i j : Int) : Prop := 0 ≤ j ∧ j ≤ 1000000 ∧ i.natAbs < 2 ^ 64
noncomputable def CMul (i j : Int) : Prop := (-(2 ^ 64) < i ∧ i < 2 ^ 64) ∨ (-(2 ^ 64) < j ∧ j < 2 ^ 64)
theorem CMul.ok {i j : Int} (h : CMul i j) : IntMulOk i j := by
  rcases h with ⟨h1, h2⟩ | ⟨h1, h2⟩
  · exact .of_left (intBits_le_64 h1 h2)
  · exact .of_right (intBits_le_64 h1 h2)
theorem op_add : OpR X (binaryOp .Add) (rI0 fun i j => .int (i + j)) := opI0 fun _ _ _ _ _ _ _ q => add_int q
theorem op_sub : OpR X (binaryOp .Sub) (rI0 fun i j => .int (i - j)) := opI0 fun _ _ _ _ _ _ _ q => sub_int q
theorem op_fdiv : OpR X (binaryOp .FloorDiv) (rI CDiv fun i j => .int (i / j)) := opI fun i j _ _ _ _ _ hc q => by
  have h1 : (0 : Int) < j := hc.1
  have h2 : j < 1073741824 := hc.2
  exact floordiv_int (by omega) (by rw [Int.fdiv_eq_ediv_of_nonneg i (by omega)]; exact q) (.inl (PyProof.noPylong_small (by omega)))
theorem op_mod : OpR X (binaryOp .Mod) (rI (fun _ j => 0 < j) fun i j => .int (i % j)) := opI fun i j _ _ _ _ _ hc q => by
  have h1 : (0 : Int) < j := hc
  exact mod_int' (by omega) (by rw [Int.fmod_eq_emod_of_nonneg i (by omega)]; exact q)
theorem op_pow : OpR X (binaryOp .Pow) (rI CPow fun i j => .int (i ^ j.toNat)) := opI fun _ _ _ _ _ _ _ hc q => pow_int_small hc.1 hc.2.1 hc.2.2 q
theorem unI {f : Value → Sem Value} {g : Int → Int}
    (rule : ∀ (i : Int) (t : Tok) (s : Shared) (Q : Value → Shared → Prop) (E : Value → Shared → Prop), Q (.int (g i) s.toks) { s with toks := s.toks + 1 } → wpAny (model X.prog X.w) X.A (f (.int i t)) Q E s) :
    UnR X f (rU fun i => .int (g i)) := by
  intro pins s σ H x v Q I rx h
  obtain ⟨i, rfl, q⟩ := h
  obtain ⟨t, rfl⟩ := rx
  exact rule i t s _ _ ⟨.int (g i), H, I.tok _, ⟨_, rfl⟩, q⟩
theorem un_neg : UnR X (unaryOp .USub) (rU fun i => .int (-i)) := unI fun _ _ _ _ _ q => neg_int q

end


noncomputable def scal : V → V → Bool
  | .non, .non => true | .non, .int _ => true | .int _, .non => true | .non, .bl _ => true | .bl _, .non => true | .non, .str _ => true | .str _, .non => true
  | .int _, .int _ => true | .bl _, .bl _ => true | .str _, .str _ => true | .byt _, .byt _ => true
  | .int _, .str _ => true | .str _, .int _ => true | .bl _, .str _ => true | .str _, .bl _ => true
  | _, _ => false
noncomputable def rEq : R2 := fun x y H Q => scal x y = true ∧ Q (.bl (decide (x = y))) H
noncomputable def rNe : R2 := fun x y H Q => scal x y = true ∧ Q (.bl (!decide (x = y))) H

theorem dec_int {i j : Int} : decide (V.int i = V.int j) = (i == j) := by
  rw [Bool.eq_iff_iff]
  simp
theorem dec_bl {i j : Bool} : decide (V.bl i = V.bl j) = (i == j) := by
  rw [Bool.eq_iff_iff]
  simp
theorem dec_str {i j : Str} : decide (V.str i = V.str j) = (i == j) := by
  rw [Bool.eq_iff_iff]
  simp
theorem dec_byt {i j : Array UInt8} : decide (V.byt i = V.byt j) = (i.toList == j.toList) := by
  rw [Bool.eq_iff_iff]
  cases i
  cases j
  simp

section
variable {X : Cx} {a b c : Expr} {ta tb tc : TE} {pos : Pos}
theorem fin_bl {pins : List (Addr × Obj)} {σ : St} {H : Hp} {s : Shared} {Q : VK} {k k' : Bool} (I : Inv X pins σ H s) (q : Q (.bl k) H) (e : k = k') : EP X pins σ Q (.bool k') s := by
  subst e
  exact ⟨.bl k, H, I, rfl, q⟩
theorem op_eq : OpR X (compareOp .Eq) rEq := by
  intro pins s σ H x y v u Q I rx ry h
  obtain ⟨hs, q⟩ := h
  cases x with
  | non =>
    cases rx
    cases y with
    | non => cases ry; exact PySem.EqNone.eq_none_none (fin_bl I q (by simp))
    | bl j => cases ry; exact PySem.EqNone.eq_none_bool (fin_bl I q (by simp))
    | int j => obtain ⟨t', rfl⟩ := ry; exact PySem.EqNone.eq_none_int (fin_bl I q (by simp))
    | str j => obtain ⟨t', rfl⟩ := ry; exact PySem.EqNone.eq_none_str (fin_bl I q (by simp))
    | _ => exact absurd (show false = true from hs) Bool.false_ne_true
  | bl i =>
    cases rx
    cases y with
    | non => cases ry; exact PySem.EqNone.eq_bool_none (fin_bl I q (by simp))
    | bl j => cases ry; exact eq_bool (fin_bl I q dec_bl)
    | str j => obtain ⟨t', rfl⟩ := ry; exact PySem.EqMixed.eq_bool_str (fin_bl I q (by simp))
    | _ => exact absurd (show false = true from hs) Bool.false_ne_true
  | int i =>
    obtain ⟨t, rfl⟩ := rx
    cases y with
    | non => cases ry; exact PySem.EqNone.eq_int_none (fin_bl I q (by simp))
    | int j => obtain ⟨t', rfl⟩ := ry; exact eq_int (fin_bl I q dec_int)
    | str j => obtain ⟨t', rfl⟩ := ry; exact PySem.EqMixed.eq_int_str (fin_bl I q (by simp))
    | _ => exact absurd (show false = true from hs) Bool.false_ne_true
  | str i =>
    obtain ⟨t, rfl⟩ := rx
    cases y with
    | non => cases ry; exact PySem.EqNone.eq_str_none (fin_bl I q (by simp))
    | bl j => cases ry; exact PySem.EqMixed.eq_str_bool (fin_bl I q (by simp))
    | int j => obtain ⟨t', rfl⟩ := ry; exact PySem.EqMixed.eq_str_int (fin_bl I q (by simp))
    | str j => obtain ⟨t', rfl⟩ := ry; exact eq_str (fin_bl I q dec_str)
    | _ => exact absurd (show false = true from hs) Bool.false_ne_true
  | byt i =>
    obtain ⟨t, rfl⟩ := rx
    cases y with
    | byt j => obtain ⟨t', rfl⟩ := ry; exact PySem.W.eq_bytes (fin_bl I q dec_byt)
    | _ => exact absurd (show false = true from hs) Bool.false_ne_true
  | _ => cases y <;> exact absurd (show false = true from hs) Bool.false_ne_true
theorem op_ne : OpR X (compareOp .NotEq) rNe := by
  intro pins s σ H x y v u Q I rx ry h
  obtain ⟨hs, q⟩ := h
  cases x with
  | non =>
    cases rx
    cases y with
    | non => cases ry; exact PySem.EqNone.ne_none_none (fin_bl I q (by simp))
    | bl j => cases ry; exact PySem.EqNone.ne_none_bool (fin_bl I q (by simp))
    | int j => obtain ⟨t', rfl⟩ := ry; exact PySem.EqNone.ne_none_int (fin_bl I q (by simp))
    | str j => obtain ⟨t', rfl⟩ := ry; exact PySem.EqNone.ne_none_str (fin_bl I q (by simp))
    | _ => exact absurd (show false = true from hs) Bool.false_ne_true
  | bl i =>
    cases rx
    cases y with
    | non => cases ry; exact PySem.EqNone.ne_bool_none (fin_bl I q (by simp))
    | bl j => cases ry; exact ne_bool (fin_bl I q (congrArg not dec_bl))
    | str j => obtain ⟨t', rfl⟩ := ry; exact PySem.EqMixed.ne_bool_str (fin_bl I q (by simp))
    | _ => exact absurd (show false = true from hs) Bool.false_ne_true
  | int i =>
    obtain ⟨t, rfl⟩ := rx
    cases y with
    | non => cases ry; exact PySem.EqNone.ne_int_none (fin_bl I q (by simp))
    | int j => obtain ⟨t', rfl⟩ := ry; exact ne_int (fin_bl I q (congrArg not dec_int))
    | str j => obtain ⟨t', rfl⟩ := ry; exact PySem.EqMixed.ne_int_str (fin_bl I q (by simp))
    | _ => exact absurd (show false = true from hs) Bool.false_ne_true
  | str i =>
    obtain ⟨t, rfl⟩ := rx
    cases y with
    | non => cases ry; exact PySem.EqNone.ne_str_none (fin_bl I q (by simp))
    | bl j => cases ry; exact PySem.EqMixed.ne_str_bool (fin_bl I q (by simp))
    | int j => obtain ⟨t', rfl⟩ := ry; exact PySem.EqMixed.ne_str_int (fin_bl I q (by simp))
    | str j => obtain ⟨t', rfl⟩ := ry; exact ne_str (fin_bl I q (congrArg not dec_str))
    | _ => exact absurd (show false = true from hs) Bool.false_ne_true
  | byt i =>
    obtain ⟨t, rfl⟩ := rx
    cases y with
    | byt j => obtain ⟨t', rfl⟩ := ry; exact PySem.W.ne_bytes (fin_bl I q (congrArg not dec_byt))
    | _ => exact absurd (show false = true from hs) Bool.false_ne_true
  | _ => cases y <;> exact absurd (show false = true from hs) Bool.false_ne_true

theorem op_lt : OpR X (compareOp .Lt) (rI0 fun i j => .bl (decide (i < j))) := opB0 fun _ _ _ _ _ _ _ q => lt_int q
theorem op_gt : OpR X (compareOp .Gt) (rI0 fun i j => .bl (decide (j < i))) := opB0 fun _ _ _ _ _ _ _ q => gt_int q
theorem op_ge : OpR X (compareOp .GtE) (rI0 fun i j => .bl (decide (j ≤ i))) := opB0 fun _ _ _ _ _ _ _ q => ge_int q
theorem op_in_str : OpR X (compareOp .In) (fun x y H Q => ∃ i j, x = .str i ∧ y = .str j ∧ Q (.bl (!(Builtin.Str.occurrences j i 0 j.length 1).isEmpty)) H) := by
  intro pins s σ H x y v u Q I rx ry h
  obtain ⟨i, j, rfl, rfl, q⟩ := h
  obtain ⟨t, rfl⟩ := rx
  obtain ⟨t', rfl⟩ := ry
  exact in_str (fin_bl I q rfl)

theorem op_isN : OpR X (compareOp .Is) (fun x y H Q => y = .non ∧ Q (.bl (decide (x = .non))) H) := by
  intro pins s σ H x y v u Q I rx ry h
  obtain ⟨rfl, q⟩ := h
  cases ry
  refine is_none_gen (fin_bl I q ?_)
  cases x <;> first
    | (cases rx; rfl)
    | (obtain ⟨t, rfl⟩ := rx; rfl)
theorem op_notN : OpR X (compareOp .IsNot) (fun x y H Q => y = .non ∧ Q (.bl (!decide (x = .non))) H) := by
  intro pins s σ H x y v u Q I rx ry h
  obtain ⟨rfl, q⟩ := h
  cases ry
  refine isnot_none_gen (fin_bl I q ?_)
  cases x <;> first
    | (cases rx; rfl)
    | (obtain ⟨t, rfl⟩ := rx; rfl)

theorem op_notin_str : OpR X (compareOp .NotIn) (fun x y H Q => ∃ i j, x = .str i ∧ y = .str j ∧ Q (.bl (!(!(Builtin.Str.occurrences j i 0 j.length 1).isEmpty))) H) := by
  intro pins s σ H x y v u Q I rx ry h
  obtain ⟨i, j, rfl, rfl, q⟩ := h
  obtain ⟨t, rfl⟩ := rx
  obtain ⟨t', rfl⟩ := ry
  exact notIn_str (fin_bl I q rfl)
theorem OpR.or {f : Value → Value → Sem Value} {r r' : R2} (h : OpR X f r) (h' : OpR X f r') : OpR X f (fun x y H Q => r x y H Q ∨ r' x y H Q) := by
  intro pins s σ H x y v u Q I rx ry q
  rcases q with q | q
  · exact h pins s σ H x y v u Q I rx ry q
  · exact h' pins s σ H x y v u Q I rx ry q

theorem nomark (b : Expr) {op : CmpOp} (h : op ≠ .In := by decide) (h2 : op ≠ .NotIn := by decide) : behindInMarks op b = false := by
  have e1 : (op == CmpOp.In) = false := by cases op <;> first | rfl | exact absurd rfl h
  have e2 : (op == CmpOp.NotIn) = false := by cases op <;> first | rfl | exact absurd rfl h2
  cases b <;> simp [behindInMarks, e1, e2]
theorem pe_cmpR {op : CmpOp} {r : R2} (ho : OpR X (compareOp op) r) (ha : PE X a ta) (hb : PE X b tb) (hm : behindInMarks op b = false) : PE X (.Compare a [op] [b] pos) (tOp r ta tb) := by
  intro pins s σ H Q I h
  exact wpAny_Compare1 (binT ha hb I h fun v u s2 x y H2 I2 rx ry q => ho pins s2 σ H2 x y v u Q I2 rx ry q) hm
noncomputable def tTest (t : TE) : TT := fun σ H Q => t σ H fun x H' => ∃ k, x = .bl k ∧ Q k H'
theorem pt_cmpR {op : CmpOp} {r : R2} (ho : OpR X (compareOp op) r) (ha : PE X a ta) (hb : PE X b tb) (hm : behindInMarks op b = false) : PT X (.Compare a [op] [b] pos) (tTest (tOp r ta tb)) := by
  intro pins s σ H Q I h
  refine wpAny_isTrue_Compare1 (thn (ha pins s σ H _ I h) fun v s1 ⟨x, H1, I1, r1, q1⟩ => thn (hb pins s1 σ H1 _ I1 q1) fun u s2 ⟨y, H2, I2, r2, q2⟩ =>
    thn (ho pins s2 σ H2 x y v u _ I2 r1 r2 q2) fun c s3 ⟨z, H3, I3, r3, k, e, q3⟩ => ?_) hm
  subst e
  cases r3
  exact wpAny_truthy_bool ⟨H3, I3, q3⟩

theorem line63 : (sizeLine : Nat) < 2 ^ 63 := by rw [sizeLine_eq]; decide

theorem op_add_str : OpR X (binaryOp .Add) (fun x y H Q => ∃ i j, x = .str i ∧ y = .str j ∧ i.length + j.length ≤ sizeLine ∧ Q (.str (i ++ j)) H) := by
  intro pins s σ H x y v u Q I rx ry h
  obtain ⟨i, j, rfl, rfl, hz, q⟩ := h
  obtain ⟨t, rfl⟩ := rx
  obtain ⟨t', rfl⟩ := ry
  exact add_str (fun t' tk => ⟨.str (i ++ j), H, I.tok _, ⟨_, rfl⟩, q⟩) hz

theorem vals1 {x : V} {us : List Value} (r : Vals [x] us) : ∃ u, us = [u] ∧ RelV x u := by
  cases r with
  | cons r1 r2 => cases r2; exact ⟨_, rfl, r1⟩
theorem vals2 {x y : V} {us : List Value} (r : Vals [x, y] us) : ∃ u w', us = [u, w'] ∧ RelV x u ∧ RelV y w' := by
  cases r with
  | cons r1 r2 =>
    cases r2 with
    | cons r3 r4 => cases r4; exact ⟨_, _, rfl, r1, r3⟩
theorem call_max2 (hc : X.calm = true) : CallR X (.builtin "max") (fun xs H Q => ∃ i j, xs = [.int i, .int j] ∧ Q (.int (if j > i then j else i)) H) := by
  intro pins s σ H xs us Q I r h
  obtain ⟨i, j, rfl, q⟩ := h
  obtain ⟨u, w', rfl, ⟨t, rfl⟩, ⟨t', rfl⟩⟩ := vals2 r
  refine max_two_ints (I.ok.hd hc) fun h' tk k => ⟨_, H, I.kept k, ?_, q⟩
  by_cases hj : j > i
  · rw [if_pos hj, if_pos hj]; exact ⟨_, rfl⟩
  · rw [if_neg hj, if_neg hj]; exact ⟨_, rfl⟩
noncomputable def LenV (K : PySem.W.Frag) (x : V) (H : Hp) (n : Nat) : Prop :=
  match x with
  | .str y => y.length ≤ sizeLine ∧ n = y.length
  | .byt y => y.size ≤ sizeLine ∧ n = y.size
  | .ref p => (∃ xs, SqL K H p xs ∧ n = xs.length) ∨ ∃ xs, SqT K H p xs ∧ n = xs.length
  | _ => False
theorem call_len : CallR X (.builtin "len") (fun xs H Q => ∃ x n, xs = [x] ∧ LenV X.K x H n ∧ Q (.int n) H) := by
  intro pins s σ H xs us Q I r h
  obtain ⟨x, n, rfl, e, q⟩ := h
  obtain ⟨u, rfl, rx⟩ := vals1 r
  have hl := line63
  have hs : sizeLine = 16777216 := sizeLine_eq
  cases x with
  | str y =>
    obtain ⟨t, rfl⟩ := rx
    obtain ⟨hy, e'⟩ : y.length ≤ sizeLine ∧ n = y.length := e
    subst e'
    exact len_str (by omega) ⟨.int _, H, I.tok _, ⟨_, rfl⟩, q⟩
  | byt y =>
    obtain ⟨t, rfl⟩ := rx
    obtain ⟨hy, e'⟩ : y.size ≤ sizeLine ∧ n = y.size := e
    subst e'
    exact PySem.W.len_bytes (by omega) ⟨.int _, H, I.tok _, ⟨_, rfl⟩, q⟩
  | ref p =>
    cases rx
    have e' : (∃ xs, SqL X.K H p xs ∧ n = xs.length) ∨ ∃ xs, SqT X.K H p xs ∧ n = xs.length := e
    rcases e' with ⟨xs, hx, e'⟩ | ⟨xs, hx, e'⟩
    · subst e'
      obtain ⟨its, r', pl, hz⟩ := I.list hx
      have hlen := r'.length
      exact Calls.call_len_list pl.isList (by simp only [List.size_toArray]; omega) ⟨.int xs.length, H, I.tok _, ⟨_, by simp only [List.size_toArray]; rw [hlen]⟩, q⟩
    · subst e'
      obtain ⟨its, r', pl, hz⟩ := I.tuple hx
      have hlen := r'.length
      exact len_tuple pl (by simp only [List.size_toArray]; omega) ⟨.int xs.length, H, I.tok _, ⟨_, by simp only [List.size_toArray]; rw [hlen]⟩, q⟩
  | _ => exact (show False from e).elim
end
end L2

namespace L2
open PySem PySem.Spec PyProof.Rows


structure ObjM (h : Heap) (x dx C : Addr) (mA : Str → Option Value) : Prop where
  obj : h.get? x = some (PySem.W.instObj C dx)
  ns : h.Ns1 dx mA
  ne : dx ≠ x

theorem lookIn_ns {h : Heap} {dx : Addr} {mA : Str → Option Value} (n : h.Ns1 dx mA) : ∃ od, h.get? dx = some od ∧ ∀ name, PySem.W.lookIn name od = some (mA name) := by
  obtain ⟨o, es, ep, ho, hd, hk, _, hm⟩ := n
  refine ⟨o, ho, fun name => ?_⟩
  have e := hm name
  unfold nsFind findBy at e
  rw [← Array.find?_toList] at e
  unfold PySem.W.lookIn
  rw [hd]
  dsimp only
  split
  · rename_i y q
    rw [q] at e
    exact congrArg some e
  · rename_i q
    rw [q] at e
    have a : es.toList.any (·.refKey) = false := by
      rw [List.any_eq_false]
      intro y hy
      obtain ⟨z, t, hkey⟩ := hk y (Array.mem_toList_iff.mp hy)
      simp [DictEntry.refKey, hkey]
    have a' : ¬ es.toList.any (·.refKey) = true := by rw [a]; exact Bool.false_ne_true
    rw [if_neg a']
    exact congrArg some e

theorem ObjM.look {h : Heap} {x dx C : Addr} {mA : Str → Option Value} (I : ObjM h x dx C mA) : ∃ od, PySem.W.InstAt h x (PySem.W.instObj C dx) C (some od) ∧ ∀ name, PySem.W.lookIn name od = some (mA name) :=
  let ⟨od, ho, hl⟩ := lookIn_ns I.ns
  ⟨od, ⟨I.obj, rfl, rfl, ho⟩, hl⟩

section
variable {prog : Program} {w : World} {A : Around} {E : Value → Shared → Prop} {s : Shared} {K : PySem.W.Frag} {x dx C f : Addr} {mA : Str → Option Value} {name : Str} {v : Value}

theorem get_map {expr : Bool} {Q : Value → Shared → Prop} (X : K.In s.heap) (I : ObjM s.heap x dx C mA) (hg : PySem.W.plainGet K C name = true) (hh : PySem.W.hasDictIn K C = true)
    (ha : PySem.W.findIn K (.ref C) name = some none) (hv : mA name = some v) (hv' : PySem.W.handedIn v = true) (h : Q v { s with toks := s.toks + 1 }) :
    wpAny (model prog w) A (getAttr (.ref x) name expr) Q E s := by
  obtain ⟨od, J, hl⟩ := I.look
  exact PySem.W.get_value X J (PySem.W.plainGet_of hg).1 (PySem.W.findObj_own hh ha rfl (by rw [hl, hv])) hv' h

theorem get_meth {pl : Sem Bool} {Q : Value × List Value → Shared → Prop} (X : K.In s.heap) (I : ObjM s.heap x dx C mA) (hg : PySem.W.plainGet K C name = true)
    (hf : PySem.W.findIn K (.ref C) name = some (some (.ref f))) (ht : PySem.W.isFn K (.ref f) = true) (hv : mA name = none) (h : Q (.ref f, [.ref x]) s) :
    wpAny (model prog w) A (getMethod (.ref x) name pl) Q E s := by
  obtain ⟨od, J, hl⟩ := I.look
  exact PySem.W.method_fn X J (PySem.W.plainGet_of hg).1 (PySem.W.plainGet_of hg).2 hf (beq_iff_eq.mp ht) (by show (PySem.W.lookIn name od).map (·.isSome) = some false; rw [hl, hv]; rfl) h

theorem set_map {ns : List Str} {Q : Unit → Shared → Prop} (X : K.In s.heap) (I : ObjM s.heap x dx C mA)
    (hs : PySem.W.findIn K (.ref C) "__setattr__" = some (some (.builtin "object.__setattr__"))) (hp : PySem.W.plainOver K C = true) (ht : PySem.W.takerIn K C name = some none) (hh : PySem.W.hasDictIn K C = true)
    (hw : PySem.Within mA ns) (hsz : ns.length ≤ sizeLine)
    (h : ∀ h', ObjM h' x dx C (fun y => if y = name then some v else mA y) → Heap.SameBut dx s.heap h' → Q () { s with heap := h', toks := s.toks + 2 }) :
    wpAny (model prog w) A (setAttr (.ref x) name v) Q E s := by
  obtain ⟨od, J, hl⟩ := I.look
  refine PySem.W.set_plain X J hs (PySem.W.osa_open (s := { s with toks := s.toks + 1 }) (r := none) X J hp ht fun b => ?_)
  obtain ⟨cd, hc, hd'⟩ := PySem.W.any_some hh
  have hx : s.heap.get? x = some ⟨.ref C, some dx, .plain, #[]⟩ := I.obj
  refine wpAny_bind (wpAny_pure (wpAny_bind (wpAny_bind (wpAny_loadPart hx (wpAny_bind (PySem.W.Looks.here (s := { s with toks := s.toks + 1 }) (PySem.W.looks_clsIn X hc) ?_))))))
  rw [hd']
  refine wpAny_pure (a := some dx) (wpAny_bind (wpAny_pure (wpAny_bind ?_)))
  refine wpAny_nsSet1 (s := { s with toks := s.toks + 1 }) I.ns fun h' hn2 hs2 => ?_
  obtain ⟨oD, esD, epD, hoD, hdD, hcD⟩ := hn2.count (PySem.Within.cons name v hw)
  refine wpAny_bind (wpAny_lookBehind hoD (by rw [hdD]; exact pastItsLine_dict (Nat.le_trans hcD (by rw [List.length_cons]; omega))) ?_)
  exact wpAny_pure (h _ ⟨(hs2.2 _ (Ne.symm I.ne)).trans I.obj, hn2, I.ne⟩ hs2)

theorem make_map {R : Result → Shared → Prop} {vs : List Value} {kw : List (Str × Value)} (X : K.In s.heap) (hm : PySem.W.makesIn K C = true)
    (hi : PySem.W.findIn K (.ref C) "__init__" = some (some (.ref f))) (hf : PySem.W.typeIn K (.ref f) = some (.type "function"))
    (h : codeAny (model prog w) (A.under (.builtin "type.__call__" ⟨.ref C :: vs, kw⟩)) (.call (.ref f) ⟨.ref (s.heap.objs.size + 1) :: vs, kw⟩) (PySem.W.InitBack (s.heap.objs.size + 1) R)
      { s with heap := (s.heap.push PySem.W.emptyDict).push (PySem.W.instObj C s.heap.objs.size) }) :
    codeAny (model prog w) A (.call (.ref C) ⟨vs, kw⟩) R s := by
  obtain ⟨hh, g, d, t, os⟩ := s
  exact PySem.W.make_core (PySem.W.makes_of X hm) (PySem.W.looks_findIn X hi) (fun self => PySem.W.bind_fn X self hf) (.inl rfl) h
end


noncomputable def putF (f : Str) (v : V) : List (Str × V) → List (Str × V)
  | [] => [(f, v)]
  | (g, x) :: r => if g = f then (g, v) :: r else (g, x) :: putF f v r
theorem lookup_putF (f g : Str) (v : V) : ∀ fs : List (Str × V), (putF f v fs).lookup g = if g = f then some v else fs.lookup g
  | [] => by
    show List.lookup g [(f, v)] = _
    by_cases h : g = f
    · have hb : (g == f) = true := beq_iff_eq.mpr h
      simp only [List.lookup, hb, if_pos h]
    · have hb : (g == f) = false := beq_eq_false_iff_ne.mpr h
      simp only [List.lookup, hb, if_neg h]
  | (k, x) :: r => by
    have ih := lookup_putF f g v r
    rw [show putF f v ((k, x) :: r) = (if k = f then (k, v) :: r else (k, x) :: putF f v r) from rfl]
    by_cases hk : k = f
    · rw [if_pos hk]
      by_cases h : g = k
      · have hb : (g == k) = true := beq_iff_eq.mpr h
        simp only [List.lookup, hb, if_pos (h.trans hk)]
      · have hb : (g == k) = false := beq_eq_false_iff_ne.mpr h
        simp only [List.lookup, hb, if_neg (fun e : g = f => h (e.trans hk.symm))]
    · rw [if_neg hk]
      by_cases h : g = k
      · have hb : (g == k) = true := beq_iff_eq.mpr h
        simp only [List.lookup, hb, if_neg (fun e : g = f => hk (h.symm.trans e))]
      · have hb : (g == k) = false := beq_eq_false_iff_ne.mpr h
        simp only [List.lookup, hb]
        exact ih
theorem keys_putF (f : Str) (v : V) : ∀ fs : List (Str × V), f ∈ (putF f v fs).map (·.1) ∧ ∀ g, g ∈ fs.map (·.1) → g ∈ (putF f v fs).map (·.1)
  | [] => ⟨by simp [putF], fun g h => by simp at h⟩
  | (k, x) :: r => by
    obtain ⟨i1, i2⟩ := keys_putF f v r
    rw [show putF f v ((k, x) :: r) = (if k = f then (k, v) :: r else (k, x) :: putF f v r) from rfl]
    by_cases hk : k = f
    · rw [if_pos hk]
      subst hk
      exact ⟨by simp, fun g h => by simpa using h⟩
    · rw [if_neg hk]
      refine ⟨?_, fun g h => ?_⟩
      · rw [List.map_cons]
        exact List.mem_cons_of_mem _ i1
      · rw [List.map_cons] at h ⊢
        rcases List.mem_cons.mp h with e | e
        · exact List.mem_cons.mpr (.inl e)
        · exact List.mem_cons_of_mem _ (i2 g e)
theorem length_putF (f : Str) (v : V) : ∀ fs : List (Str × V), (putF f v fs).length ≤ fs.length + 1
  | [] => by simp [putF]
  | (k, x) :: r => by
    have ih := length_putF f v r
    rw [show putF f v ((k, x) :: r) = (if k = f then (k, v) :: r else (k, x) :: putF f v r) from rfl]
    by_cases hk : k = f
    · rw [if_pos hk, List.length_cons, List.length_cons]; omega
    · rw [if_neg hk, List.length_cons, List.length_cons]; omega

theorem RelO.some_of {v : V} {o : Option Value} (r : RelO (some v) o) : ∃ u, o = some u ∧ RelV v u := by
  cases o with
  | none => exact (show False from r).elim
  | some u => exact ⟨u, rfl, r⟩
theorem RelO.none_of {o : Option Value} (r : RelO none o) : o = none := by
  cases o with
  | none => rfl
  | some u => exact (show False from r).elim
theorem handed_of {v : V} {u : Value} (r : RelV v u) : PySem.W.handedIn u = true := by
  cases v with
  | non => cases (show u = Value.none from r); rfl
  | bl b => cases (show u = Value.bool b from r); rfl
  | int i => obtain ⟨t, e⟩ := (show ∃ t, u = Value.int i t from r); cases e; rfl
  | str x => obtain ⟨t, e⟩ := (show ∃ t, u = Value.str x t from r); cases e; rfl
  | byt b => obtain ⟨t, e⟩ := (show ∃ t, u = Value.bytes b t from r); cases e; rfl
  | flt b => obtain ⟨t, e⟩ := (show ∃ t, u = Value.float b t from r); cases e; rfl
  | ref a => cases (show u = Value.ref a from r); rfl
  | ty n => cases (show u = Value.type n from r); rfl

section
variable {P : Program} {w : World} {H H' : Hp} {h h' : Heap} {a C dx : Addr} {fs fs' : List (Str × V)}
theorem ins_get (hok : HOk P w H h) (e : H a = some (.ins C dx fs)) : ∃ mA, ObjM h a dx C mA ∧ (∀ f, RelO (fs.lookup f) (mA f)) ∧ PySem.Within mA (fs.map (·.1)) ∧ fs.length ≤ 1000 ∧ H dx = some (.own a) := by
  obtain ⟨d, z, ne, ob, mA, n, r, q⟩ := (show ObjOk P w H h a (.ins C dx fs) from hok a _ e)
  exact ⟨mA, ⟨ob, n, ne⟩, r, q, z, d⟩
end


structure Cls (K : PySem.W.Frag) (C : Addr) : Prop where
  pg : PySem.W.plainGet K C Str.empty = true
  hd : PySem.W.hasDictIn K C = true
  po : PySem.W.plainOver K C = true
  sa : PySem.W.findIn K (.ref C) "__setattr__" = some (some (.builtin "object.__setattr__"))
theorem Cls.get {K : PySem.W.Frag} {C : Addr} (c : Cls K C) (f : Str) : PySem.W.plainGet K C f = true := c.pg
noncomputable def NoAttr (K : PySem.W.Frag) (C : Addr) (f : Str) : Prop := PySem.W.findIn K (.ref C) f = some none
theorem NoAttr.taker {K : PySem.W.Frag} {C : Addr} {f : Str} (n : NoAttr K C f) : PySem.W.takerIn K C f = some none := by
  unfold PySem.W.takerIn
  rw [show PySem.W.findIn K (.ref C) f = some none from n]
  rfl


structure Meth (K : PySem.W.Frag) (C : Addr) (m : Str) (f : Addr) : Prop where
  at_ : PySem.W.findIn K (.ref C) m = some (some (.ref f))
  fn : PySem.W.isFn K (.ref f) = true
  kp : PySem.W.keepIn K (.ref f) = true

section
variable {X : Cx} {pins : List (Addr × Obj)} {σ : St} {H : Hp} {s : Shared} {a C dx : Addr} {fs : List (Str × V)} {f : Str} {v : V} {A : Around} {E : Value → Shared → Prop}

theorem getattr_ok {b : Bool} {Q : Value → Shared → Prop} (I : Inv X pins σ H s) (e : H a = some (.ins C dx fs)) (c : Cls X.K C) (n : NoAttr X.K C f) (l : fs.lookup f = some v)
    (h : ∀ u s', Inv X pins σ H s' → RelV v u → Q u s') : wpAny (model X.prog X.w) A (getAttr (.ref a) f b) Q E s := by
  obtain ⟨mA, O, r, _, _, _⟩ := ins_get I.hok e
  obtain ⟨u, hu, ru⟩ := RelO.some_of (v := v) (o := mA f) (by rw [← l]; exact r f)
  exact get_map I.kIn O (c.get f) c.hd n hu (handed_of ru) (h u _ (I.tok _) ru)

theorem getmeth_ok {m : Str} {g : Addr} {pl : Sem Bool} {Q : Value × List Value → Shared → Prop} (I : Inv X pins σ H s) (e : H a = some (.ins C dx fs)) (c : Cls X.K C) (k : Meth X.K C m g) (l : fs.lookup m = none)
    (h : Q (.ref g, [.ref a]) s) : wpAny (model X.prog X.w) A (getMethod (.ref a) m pl) Q E s := by
  obtain ⟨mA, O, r, _, _, _⟩ := ins_get I.hok e
  have hn : mA m = none := RelO.none_of (by rw [← l]; exact r m)
  exact get_meth I.kIn O (c.get m) k.at_ k.fn hn h

theorem setattr_ok {y : V} {u : Value} {Q : Unit → Shared → Prop} (I : Inv X pins σ H s) (e : H a = some (.ins C dx fs)) (c : Cls X.K C) (n : NoAttr X.K C f) (hl : fs.length < 1000) (ry : RelV y u)
    (h : ∀ s', Inv X pins σ (upd H a (.ins C dx (putF f y fs))) s' → Q () s') : wpAny (model X.prog X.w) A (setAttr (.ref a) f u) Q E s := by
  obtain ⟨mA, O, r, wi, _, ho⟩ := ins_get I.hok e
  have hz : (fs.map (·.1)).length ≤ sizeLine := by rw [List.length_map, sizeLine_eq]; omega
  refine set_map I.kIn O c.sa c.po n.taker c.hd wi hz fun h' O' sb => h _ ?_
  have hd : ∃ o, h'.get? dx = some o := let ⟨o, _, _, e', _⟩ := O'.ns; ⟨o, e'⟩
  refine I.write (x := a) (e := dx) (by rw [e]; exact True.intro) (.inr ho) (fun b q hb z => (sb.2 b hb).trans z) hd ?_
  refine ⟨by rw [upd_ne O.ne]; exact ho, ?_, O.ne, O'.obj, _, O'.ns, fun g => ?_, fun g hg => ?_⟩
  · have := length_putF f y fs; omega
  · show RelO ((putF f y fs).lookup g) (if g = f then some u else mA g)
    rw [lookup_putF]
    by_cases q : g = f
    · rw [if_pos q, if_pos q]; exact ry
    · rw [if_neg q, if_neg q]; exact r g
  · by_cases q : g = f
    · rw [q]; exact (keys_putF f y fs).1
    · refine (keys_putF f y fs).2 g (wi g fun z => hg ?_)
      show (if g = f then some u else mA g) = none
      rw [if_neg q]; exact z

theorem Inv.made (I : Inv X pins σ H s) : Inv X pins σ (upd (upd H s.heap.objs.size (.own (s.heap.objs.size + 1))) (s.heap.objs.size + 1) (.ins C s.heap.objs.size []))
    { s with heap := (s.heap.push PySem.W.emptyDict).push (PySem.W.instObj C s.heap.objs.size) } := by
  have e1 : (s.heap.push PySem.W.emptyDict).get? s.heap.objs.size = some PySem.W.emptyDict := Heap.get?_push_size s.heap rfl
  have e2 : ((s.heap.push PySem.W.emptyDict).push (PySem.W.instObj C s.heap.objs.size)).get? (s.heap.objs.size + 1) = some (PySem.W.instObj C s.heap.objs.size) := by
    have := Heap.get?_push_size (s.heap.push PySem.W.emptyDict) (o := PySem.W.instObj C s.heap.objs.size) rfl
    rwa [Heap.size_push] at this
  have e3 : (s.heap.push PySem.W.emptyDict).Ns s.heap.objs.size (fun _ => none) := ⟨PySem.W.emptyDict, #[], _, e1, rfl, (fun e he => absurd he (by simp)), fun _ => rfl⟩
  have I1 := I.laid (a := s.heap.objs.size) (o := .own (s.heap.objs.size + 1)) (h' := s.heap.push PySem.W.emptyDict) (t' := s.toks) (fun b u q => Heap.get?_push_of_some _ q) (Nat.le_refl _) ⟨_, e1⟩
  refine I1.laid (a := s.heap.objs.size + 1) (o := .ins C s.heap.objs.size []) (t' := s.toks) (fun b u q => Heap.get?_push_of_some _ q) (Nat.le_of_eq (Heap.size_push _ _)) ?_
  have ne : s.heap.objs.size ≠ s.heap.objs.size + 1 := Nat.ne_of_lt (Nat.lt_succ_self _)
  refine ⟨by rw [upd_ne ne, upd_same], Nat.zero_le _, ne, e2, fun _ => none, (Heap.Ns1.of_empty e3).at fun o q => Heap.get?_push_of_some _ q, fun _ => True.intro, fun y hy => absurd rfl hy⟩

theorem attr_of {prog : Program} {w : World} {env : Env} {e : Expr} {f : Str} {pos : Pos} {s : Shared} {Q : Value → Shared → Prop} (hb : attributeBase e f env (eval e env) = eval e env)
    (h : wpAny (model prog w) A (eval e env) (fun o s₁ => wpAny (model prog w) A (getAttr o f true) Q E s₁) E s) : wpAny (model prog w) A (eval (.Attribute e f pos) env) Q E s :=
  Attribute_any_ h (by rw [arm_eval_Attribute, hb])
end


noncomputable def tFld (K : PySem.W.Frag) (ta : TE) (f : Str) : TE := fun σ H Q => ta σ H fun x H1 => ∃ a C dx fs v, x = .ref a ∧ H1 a = some (.ins C dx fs) ∧ Cls K C ∧ NoAttr K C f ∧ fs.lookup f = some v ∧ Q v H1
noncomputable def sFld (K : PySem.W.Frag) (ta tv : TE) (f : Str) : TS := fun D σ H => tv σ H fun y H1 => ta σ H1 fun x H2 => ∃ a C dx fs, x = .ref a ∧ H2 a = some (.ins C dx fs) ∧ Cls K C ∧ NoAttr K C f ∧ fs.length < 1000 ∧
  D.nx σ (upd H2 a (.ins C dx (putF f y fs)))
section
variable {X : Cx} {o e value : Expr} {f : Str} {pos pos' tpos : Pos} {ta tv : TE}
theorem pe_fld (he : PE X e ta) (hb : attributeBase e f X.env (eval e X.env) = eval e X.env) : PE X (.Attribute e f pos) (tFld X.K ta f) := by
  intro pins s σ H Q I h
  refine attr_of hb (thn (he pins s σ H _ I h) fun u s1 zz9 => ?_)
  obtain ⟨x, H1, I1, rx, a, C, dx, fs, v, ex, ea, c, n, l, q⟩ := zz9
  subst ex
  obtain rfl : u = Value.ref a := rx
  exact getattr_ok I1 ea c n l fun u' s2 I2 ru => ⟨v, H1, I2, ru, q⟩
theorem ps_fld (ha : PE X o ta) (hv : PE X value tv) (hs : swapsWith value (some (.Attribute o f pos')) pos.line X.env = pure false) : PS X (.Assign [.Attribute o f pos'] value pos) (sFld X.K ta tv f) := by
  intro pins s σ H D I h
  refine plainObj_wpAny_Assign_Attribute (thn (hv pins s σ H _ I h) fun u s1 ⟨y, H1, I1, ry, q⟩ => thn (ha pins s1 σ H1 _ I1 q) fun ov s2 ⟨x, H2, I2, rx, a, C, dx, fs, ex, ea, c, n, l, q2⟩ => ?_) hs
  subst ex
  obtain rfl : ov = Value.ref a := rx
  exact setattr_ok I2 ea c n l ry fun s3 I3 => ⟨σ, _, I3, q2⟩
end


section
variable {X : Cx} {pins : List (Addr × Obj)} {σ : St} {H : Hp} {s : Shared} {A : Around} {E : Value → Shared → Prop} {Q : Value → Shared → Prop} {c : Value} {b : Bool}

inductive TyOf (K : PySem.W.Frag) (H : Hp) : V → Value → Prop where
  | non : TyOf K H .non (.type "NoneType")
  | bl (x : Bool) : TyOf K H (.bl x) (.type "bool")
  | int (i : Int) : TyOf K H (.int i) (.type "int")
  | str (x : Str) : TyOf K H (.str x) (.type "str")
  | flt (x : UInt64) : TyOf K H (.flt x) (.type "float")
  | lst {a : Addr} {xs : List V} (e : H a = some (.lst xs)) : TyOf K H (.ref a) (.type "list")
  | frz {a : Addr} {o : Obj} {xs : List V} (e : H a = some (.frz o (.lst xs))) : TyOf K H (.ref a) (.type "list")
  | tup {a : Addr} {xs : List V} (e : H a = some (.tup xs)) : TyOf K H (.ref a) (.type "tuple")
  | dK {a : Addr} {kvs : List (Key × V)} (e : H a = some (.dK kvs)) : TyOf K H (.ref a) (.type "dict")
  | dT {a : Addr} {kvs : List (List Key × V)} (e : H a = some (.dT kvs)) : TyOf K H (.ref a) (.type "dict")
  | ins {a C dx : Addr} {fs : List (Str × V)} (e : H a = some (.ins C dx fs)) (cl : Cls K C) (ha : PySem.W.findIn K (.ref C) "__class__" = some (some (.builtin "object.__class__")))
      (hn : PySem.W.specialIn K (.builtin "object.__class__") "__get__" = some (some (.builtin "getset_descriptor.__get__"))) (htk : PySem.W.takesIn K (.builtin "object.__class__") = some true)
      (hm : PySem.W.mroIn K C (.type "object") = some true) : TyOf K H (.ref a) (.ref C)
theorem isinst_ok {x : V} {u t : Value} (I : Inv X pins σ H s) (rx : RelV x u) (ty : TyOf X.K H x t) (e : PySem.W.kitOne X.K t c = some b) (h : ∀ tk, Q (.bool b) { s with toks := tk }) :
    wpAny (model X.prog X.w) A (call (.builtin "isinstance") [u, c]) Q E s := by
  cases ty with
  | non => cases (show u = Value.none from rx); exact PySem.W.kia_one PySem.W.kitx_none I.kIn True.intro e (fun z => nomatch z) h
  | bl y => cases (show u = Value.bool y from rx); exact PySem.W.kia_one PySem.W.kitx_bool I.kIn True.intro e (fun z => nomatch z) h
  | int i => obtain ⟨t, q⟩ := (show ∃ t, u = Value.int i t from rx); cases q; exact PySem.W.kia_one PySem.W.kitx_int I.kIn True.intro e (fun z => nomatch z) h
  | str y => obtain ⟨t, q⟩ := (show ∃ t, u = Value.str y t from rx); cases q; exact PySem.W.kia_one PySem.W.kitx_str I.kIn True.intro e (fun z => nomatch z) h
  | flt y => obtain ⟨t, q⟩ := (show ∃ t, u = Value.float y t from rx); cases q; exact PySem.W.kia_one PySem.W.kitx_float I.kIn True.intro e (fun z => nomatch z) h
  | @lst a xs ea =>
    cases (show u = Value.ref a from rx)
    obtain ⟨_, _, n, _, h1⟩ := (show ObjOk X.prog X.w H s.heap a (.lst xs) from I.hok a _ ea)
    exact PySem.W.kia_one PySem.W.kitx_list I.kIn ⟨_, h1, rfl⟩ e (fun z => nomatch z) h
  | @frz a ob xs ea =>
    cases (show u = Value.ref a from rx)
    obtain ⟨_, _, _, n, _, h1⟩ := (show ObjOk X.prog X.w H s.heap a (.frz ob (.lst xs)) from I.hok a _ ea)
    exact PySem.W.kia_one PySem.W.kitx_list I.kIn ⟨_, h1, rfl⟩ e (fun z => nomatch z) h
  | @tup a xs ea =>
    cases (show u = Value.ref a from rx)
    obtain ⟨_, _, _, p⟩ := (show ObjOk X.prog X.w H s.heap a (.tup xs) from I.hok a _ ea)
    obtain ⟨o, h1, h2, _⟩ := p
    exact PySem.W.kia_one PySem.W.kitx_tuple I.kIn ⟨o, h1, h2⟩ e (fun z => nomatch z) h
  | @dK a kvs ea =>
    cases (show u = Value.ref a from rx)
    obtain ⟨_, _, vs, _, p⟩ := (show ObjOk X.prog X.w H s.heap a (.dK kvs) from I.hok a _ ea)
    obtain ⟨o, es, ep, h1, h2, _⟩ := p
    exact PySem.W.kia_one PySem.W.kitx_dict I.kIn ⟨o, h1, h2.1⟩ e (fun z => nomatch z) h
  | @dT a kvs ea =>
    cases (show u = Value.ref a from rx)
    obtain ⟨_, _, xs, _, o, es, ep, h1, h2, _⟩ := (show ObjOk X.prog X.w H s.heap a (.dT kvs) from I.hok a _ ea)
    exact PySem.W.kia_one PySem.W.kitx_dict I.kIn ⟨o, h1, h2.1⟩ e (fun z => nomatch z) h
  | @ins a C dx fs ea cl ha hn htk hm =>
    cases (show u = Value.ref a from rx)
    obtain ⟨mA, O, _⟩ := ins_get I.hok ea
    obtain ⟨od, J, _⟩ := O.look
    exact PySem.W.kia_one (PySem.W.kitx_own (cl.get _) cl.hd ha hn htk hm) I.kIn J e (fun z => nomatch z) h
end
end L2

namespace L2
open PySem PySem.Spec PyProof.Rows


structure Room (k : Nat) (A : Around) : Prop where
  hd : A.handled = none
  dp : A.depth + 3 * k + 5 < recursionLimit
  un : A.units + 16 * k + 200 < cLine
theorem Room.mono {j k : Nat} {A : Around} (r : Room k A) (h : j ≤ k) : Room j A := ⟨r.hd, by have := r.dp; omega, by have := r.un; omega⟩
theorem Room.deeper {k : Nat} {A : Around} (r : Room (k + 1) A) (env : Env) : Room k (A.deeper env) :=
  ⟨r.hd, by have := r.dp; show A.depth + 1 + 3 * k + 5 < _; omega, by have := r.un; show A.units + 3 + 16 * k + 200 < _; omega⟩
theorem Room.in1 {k : Nat} {A : Around} (r : Room (k + 1) A) : Room k A.in1 :=
  ⟨r.hd, by have := r.dp; show A.depth + 3 * k + 5 < _; omega, by have := r.un; show A.units + 1 + 16 * k + 200 < _; omega⟩
theorem make_depth {A : Around} {C : Addr} {us : List Value} {kw : List (Str × Value)} : (A.under (.builtin "type.__call__" ⟨.ref C :: us, kw⟩)).depth = A.depth + 1 := by
  first | rfl | simp [Around.under, Code.weight, Code.isCreation, Code.isGuard, Code.isCaller, Code.frames, Code.isFrame, guardIds]
theorem make_units {A : Around} {C : Addr} {us : List Value} {kw : List (Str × Value)} : (A.under (.builtin "type.__call__" ⟨.ref C :: us, kw⟩)).units = A.units + 1 := by
  first | rfl | simp [Around.under, Code.cUnits, Code.frames, Code.isFrame]
theorem Room.make {k : Nat} {A : Around} (r : Room (k + 1) A) (C : Addr) (us : List Value) (kw : List (Str × Value)) : Room k (A.under (.builtin "type.__call__" ⟨.ref C :: us, kw⟩)) :=
  ⟨r.hd, by have := r.dp; rw [make_depth]; omega, by have := r.un; rw [make_units]; omega⟩
theorem Room.depth {k : Nat} {A : Around} (r : Room k A) : A.depth < recursionLimit := by have := r.dp; omega
theorem Room.units {k : Nat} {A : Around} (r : Room k A) : A.units + 64 < cLine := by have := r.un; omega

noncomputable def tNil : TA := fun _ H Q => Q [] H
noncomputable def tCons (ta : TE) (tr : TA) : TA := fun σ H Q => ta σ H fun x H1 => tr σ H1 fun xs H2 => Q (x :: xs) H2
section
variable {X : Cx} {e : Expr} {es : List Expr} {te : TE} {t : TA} {pos : Pos}
theorem pa_nil : PA X [] tNil := fun _ _ _ _ H Q I h => Calls.spliced_nil ⟨[], H, I, .nil, h⟩
theorem pa_cons (ha : PE X e te) (hr : PA X es t) (hs : starEach (e :: es) X.env = (false, eval e X.env) :: starEach es X.env := by rfl) : PA X (e :: es) (tCons te t) := by
  intro pos pins s σ H Q I h
  rw [hs]
  show wpAny _ _ (spliced ((false, eval e X.env) :: backTo pos (starEach es X.env))) _ _ s
  refine Calls.spliced_cons (thn (ha pins s σ H _ I h) fun u s1 zz9 => ?_)
  obtain ⟨x, H1, I1, r1, q1⟩ := zz9
  exact thn (hr pos pins s1 σ H1 _ I1 q1) fun us s2 ⟨xs, H2, I2, r2, q2⟩ => ⟨x :: xs, H2, I2, .cons r1 r2, q2⟩

noncomputable def tTup (t : TA) : TE := fun σ H Q => t σ H fun xs H1 => xs.length ≤ sizeLine ∧ ∀ p, H1 p = none → Q (.ref p) (upd H1 p (.tup xs))
noncomputable def tLst (t : TA) : TE := fun σ H Q => t σ H fun xs H1 => xs.length ≤ sizeLine ∧ ∀ p, H1 p = none → Q (.ref p) (upd H1 p (.lst xs))
theorem pe_tup {x1} (h : PA X es t) : PE X (.Tuple es x1 pos) (tTup t) := by
  intro pins s σ H Q I hq
  refine wpAny_Tuple_spliced (thn (h pos pins s σ H _ I hq) fun us s1 ⟨xs, H1, I1, r, z, q⟩ => ⟨by rw [← r.length]; exact z, ?_⟩)
  have hf : H1 s1.heap.objs.size = none := I1.hok.fresh (Nat.le_refl _)
  refine ⟨.ref s1.heap.objs.size, upd H1 s1.heap.objs.size (.tup xs), I1.laid (t' := s1.toks) (fun b u e => Heap.get?_push_of_some _ e) (Nat.le_refl _) ?_, rfl, q _ hf⟩
  exact ⟨z, us, r, ⟨_, Heap.get?_push_size _ rfl, rfl, _, rfl⟩⟩
theorem pe_lst (h : PA X es t) : PE X (.List es pos) (tLst t) := by
  intro pins s σ H Q I hq
  refine wpAny_List_spliced (thn (h pos pins s σ H _ I hq) fun us s1 ⟨xs, H1, I1, r, z, q⟩ => ⟨by rw [← r.length]; exact z, ?_⟩)
  have hf : H1 s1.heap.objs.size = none := I1.hok.fresh (Nat.le_refl _)
  refine ⟨.ref s1.heap.objs.size, upd H1 s1.heap.objs.size (.lst xs), I1.laid (t' := s1.toks) (fun b u e => Heap.get?_push_of_some _ e) (Nat.le_refl _) ?_, rfl, q _ hf⟩
  exact ⟨z, us, 0, r, Heap.get?_push_size _ rfl⟩
end


noncomputable abbrev Sp := List V → Hp → VK → XK → Prop
noncomputable abbrev CXT := List Env → Hp → Shared → XK → Value → Shared → Prop


structure Env0 (P : Program) (w : World) (K : PySem.W.Frag) (mg : Str → Option Value) (base : Heap) (A : Around) (outer : List Env) (s : Shared) (H : Hp) : Prop where
  frames : A.frames = some outer
  mod : Mod K mg base
  bs : ∀ b o, base.get? b = some o → s.heap.get? b = some o ∧ H b = none
  bsz : base.objs.size ≤ s.heap.objs.size
  funs : s.heap.FunFrames base outer
  frf : ∀ b ∈ frs outer, H b = none
  hok : HOk P w H s.heap
  bare : AllBare s.gens
noncomputable def CE (outer : List Env) (P : Program) (w : World) (H : Hp) (s : Shared) (Q : VK) (u : Value) (s' : Shared) : Prop :=
  ∃ v H', s'.os = s.os ∧ AllBare s'.gens ∧ Un (frs outer) [] H H' s.heap s'.heap ∧ HOk P w H' s'.heap ∧ RelV v u ∧ Q v H'
noncomputable def CR (CX : CXT) (outer : List Env) (P : Program) (w : World) (H : Hp) (s : Shared) (Q : VK) (E : XK) (r : Result) (s' : Shared) : Prop :=
  match r with
  | .ok (.ret u) => CE outer P w H s Q u s'
  | .ok _ => False
  | .error e => CX outer H s E e s'
structure FnOk (P : Program) (w : World) (K : PySem.W.Frag) (mg : Str → Option Value) (base : Heap) (CX : CXT) (k : Nat) (f : Addr) (fd : FuncData) (ps : List Str) (sp : Sp) : Prop where
  len : ∀ vs H Q E, sp vs H Q E → vs.length = ps.length
  run : ∀ (A : Around) (outer : List Env) (s : Shared) (H : Hp) (args : Args) (us : List Value) (vs : List V) (Q : VK) (E : XK), Room k A → Env0 P w K mg base A outer s H → BindsTo s fd args (ps.zip us) → Vals vs us → sp vs H Q E →
    codeAny (model P w) A (.call (.ref f) args) (CR CX outer P w H s Q E) s
theorem Env0.make {P : Program} {w : World} {K : PySem.W.Frag} {mg : Str → Option Value} {base : Heap} {A : Around} {outer : List Env} {s : Shared} {H : Hp} (e : Env0 P w K mg base A outer s H) (C : Addr) (us : List Value) (kw : List (Str × Value)) :
    Env0 P w K mg base (A.under (.builtin "type.__call__" ⟨.ref C :: us, kw⟩)) outer s H := ⟨by first | exact e.frames | (simpa [Around.under, Code.envs, Code.isFrame, pushEnvs] using e.frames), e.mod, e.bs, e.bsz, e.funs, e.frf, e.hok, e.bare⟩
section
variable {X : Cx} {pins : List (Addr × Obj)} {σ : St} {H : Hp} {s s' : Shared}
theorem Inv.env0 (I : Inv X pins σ H s) : Env0 X.prog X.w X.K X.mg X.base X.A X.stack s H :=
  ⟨I.ok.frames, I.ok.mod, I.bs, Nat.le_trans I.ok.bsz I.sz, I.stack, I.stkFree, I.hok, I.bare⟩
theorem Inv.after {Q : VK} {u : Value} (I : Inv X pins σ H s) (h : CE X.stack X.prog X.w H s Q u s') : EP X pins σ Q u s' := by
  obtain ⟨v, H', os, bare, un, hok, r, q⟩ := h
  obtain ⟨hh, g, d, t, os'⟩ := s'
  obtain rfl : os' = s.os := os
  exact ⟨v, H', I.call (h' := hh) (g' := g) (d' := d) (t' := t) (ch := []) un hok bare (fun b z => absurd z (by simp)), r, q⟩
end


noncomputable def tMake (C : Addr) (sp : Sp) (dvs : List V) (E : XK) (t : TA) : TE := fun σ H Q => t σ H fun vs H1 => ∀ x dx, H1 x = none → H1 dx = none → dx ≠ x →
  sp (.ref x :: (vs ++ dvs)) (upd (upd H1 dx (.own x)) x (.ins C dx [])) (fun v H2 => v = .non ∧ Q (.ref x) H2) E

noncomputable def Binds (K : PySem.W.Frag) (fd : FuncData) (ps : List Str) (ds : List Value) : Prop :=
  ∀ (s : Shared) (us : List Value), K.In s.heap → (us ++ ds).length = ps.length → BindsTo s fd ⟨us, []⟩ (ps.zip (us ++ ds))
theorem Binds.all {K : PySem.W.Frag} {fd : FuncData} {ps : List Str} (h : ∀ us : List Value, us.length = ps.length → bindArgs fd ⟨us, []⟩ = pure (ps.zip us)) : Binds K fd ps [] := fun s us _ hl => by
  rw [List.append_nil] at hl ⊢
  exact .of_eq (h us hl)

noncomputable def Passes (CX : CXT) (X : Cx) (E : XK) : Prop := ∀ (pins : List (Addr × Obj)) (σ : St) (H : Hp) (s : Shared) (e : Value) (s' : Shared), Inv X pins σ H s → CX X.stack H s E e s' → X.xe e s'

section
variable {X : Cx} {CX : CXT} {k : Nat} {f C : Addr} {fd : FuncData} {ps : List Str} {sp : Sp} {dvs : List V} {ds : List Value} {E : XK} {x m : Str} {p pos apos : Pos} {e o : Expr} {es : List Expr} {ta : TE} {t : TA}


structure Mk (K : PySem.W.Frag) (C f : Addr) : Prop where
  makes : PySem.W.makesIn K C = true
  init : PySem.W.findIn K (.ref C) "__init__" = some (some (.ref f))
  fn : PySem.W.isFn K (.ref f) = true
  kp : PySem.W.keepIn K (.ref C) = true

theorem run_make {pins : List (Addr × Obj)} {σ : St} {H : Hp} {s : Shared} {Q : VK} {us : List Value} {vs : List V} (M : Mk X.K C f) (F : FnOk X.prog X.w X.K X.mg X.base CX k f fd ps sp) (hr : Room (k + 1) X.A) (hb : Binds X.K fd ps ds) (hd : Vals dvs ds)
    (hx : Passes CX X E) (I : Inv X pins σ H s) (r : Vals vs us)
    (h : ∀ x dx, H x = none → H dx = none → dx ≠ x → sp (.ref x :: (vs ++ dvs)) (upd (upd H dx (.own x)) x (.ins C dx [])) (fun v H2 => v = .non ∧ Q (.ref x) H2) E) :
    wpAny (model X.prog X.w) X.A (call (.ref C) us) (EP X pins σ Q) X.xe s := by
  have hq := h (s.heap.objs.size + 1) s.heap.objs.size (I.hok.fresh (Nat.le_succ _)) (I.hok.fresh (Nat.le_refl _)) (Nat.ne_of_lt (Nat.lt_succ_self _))
  have I2 := Inv.made (C := C) I
  have r2 : Vals (V.ref (s.heap.objs.size + 1) :: (vs ++ dvs)) (Value.ref (s.heap.objs.size + 1) :: (us ++ ds)) := .cons rfl (r.append hd)
  have hl : (Value.ref (s.heap.objs.size + 1) :: us ++ ds).length = ps.length := by
    have e := r2.length
    rw [F.len _ _ _ _ hq] at e
    exact e.symm
  refine wpAny_call (make_map (f := f) I.kIn M.makes M.init (beq_iff_eq.mp M.fn) (codeAny_mono (F.run _ X.stack _ _ ⟨Value.ref (s.heap.objs.size + 1) :: us, []⟩ (Value.ref (s.heap.objs.size + 1) :: (us ++ ds)) _ _ E (hr.make C us [])
    (I2.env0.make C us []) (hb _ (Value.ref (s.heap.objs.size + 1) :: us) I2.kIn hl) r2 hq) fun r s' hq' => ?_))
  cases r with
  | error e => exact hx pins σ _ _ e s' I2 hq'
  | ok fl =>
    cases fl with
    | ret u =>
      obtain ⟨v, H', I3, rv, ev, q3⟩ := I2.after hq'
      subst ev
      exact ⟨rv, ⟨V.ref (s.heap.objs.size + 1), H', I3, rfl, q3⟩⟩
    | next => exact False.elim hq'
    | brk => exact False.elim hq'
    | cont => exact False.elim hq'
theorem pe_make0 (M : Mk X.K C f) (F : FnOk X.prog X.w X.K X.mg X.base CX k f fd ps sp) (hr : Room (k + 1) X.A) (hg : Gl X x) (hm : X.mg x = some (.ref C)) (hb : Binds X.K fd ps ds) (hd : Vals dvs ds) (hx : Passes CX X E)
    (hdb : (x == ("__debug__" : Str)) = false := by decide) : PE X (.Call (.Name x p) [] [] pos) (tMake C sp dvs E tNil) := by
  intro pins s σ H Q I h
  refine wpAny_Call_Name_kw (ld_glob I hg hm ?_ hdb)
  exact PySem.W.callWith_K0 I.kIn M.kp (run_make (us := []) M F hr hb hd hx I .nil h)
end


section
variable {X : Cx} {CX : CXT} {k : Nat} {f C : Addr} {fd : FuncData} {ps ks : List Str} {sp : Sp} {E : XK} {x m : Str} {p pos apos kpos : Pos} {e o : Expr} {es : List Expr} {kws : List Keyword} {te ta : TE} {t tk : TA} {nm : Option Str}

variable {g : List Value → List Value → List Value} {gV : List V → List V → List V}
end



structure FnScope (N P : List Str) (sc : Scope) : Prop where
  kind : sc.kind = .function
  co : sc.isCoroutine = false
  gen : sc.isGenerator = false
  nd : N.Nodup
  pre : N.take P.length = P
  par : ∀ x ∈ P, sc.names.lookup x = some .local ∨ sc.names.lookup x = some .cell
  nofree : ∀ y ∈ sc.names, y.2 ≠ .free

theorem bindL_out {kindOf : Str → Option NameKind} {x : Str} : ∀ {binds : List (Str × Value)} {m : Str → Option Value}, (∀ v, (x, v) ∉ binds) → bindL kindOf binds m x = m x
  | [], _, _ => rfl
  | (n, v) :: r, m, h => by
    unfold bindL
    rw [bindL_out fun w hw => h w (List.mem_cons_of_mem _ hw)]
    split
    · have : x ≠ n := by rintro rfl; exact h v List.mem_cons_self
      simp [this]
    · rfl
theorem bindC_out {kindOf : Str → Option NameKind} {x : Str} : ∀ {binds : List (Str × Value)} {m : Str → Option Value}, (∀ v, (x, v) ∉ binds) → bindC kindOf binds m x = m x
  | [], _, _ => rfl
  | (n, v) :: r, m, h => by
    unfold bindC
    rw [bindC_out fun w hw => h w (List.mem_cons_of_mem _ hw)]
    split
    · rfl
    · have : x ≠ n := by rintro rfl; exact h v List.mem_cons_self
      simp [this]
theorem bindL_get {kindOf : Str → Option NameKind} {x : Str} {v : Value} : ∀ {P : List Str} {vs : List Value} {i : Nat} {m : Str → Option Value}, P.Nodup → P[i]? = some x → vs[i]? = some v → kindOf x = some .local →
    bindL kindOf (P.zip vs) m x = some v
  | [], _, _, _, _, h, _, _ => by simp at h
  | _ :: _, [], _, _, _, _, h, _ => by simp at h
  | p :: P, w :: vs, 0, m, nd, h1, h2, hk => by
    simp at h1 h2; subst h1; subst h2
    show bindL kindOf ((p, w) :: P.zip vs) m p = _
    unfold bindL
    rw [bindL_out fun v hv => (List.nodup_cons.mp nd).1 (List.of_mem_zip hv).1, if_pos hk]
    simp
  | p :: P, w :: vs, i + 1, m, nd, h1, h2, hk => by
    show bindL kindOf ((p, w) :: P.zip vs) m x = _
    unfold bindL
    exact bindL_get (i := i) (List.nodup_cons.mp nd).2 (by simpa using h1) (by simpa using h2) hk
theorem bindC_get {kindOf : Str → Option NameKind} {x : Str} {v : Value} : ∀ {P : List Str} {vs : List Value} {i : Nat} {m : Str → Option Value}, P.Nodup → P[i]? = some x → vs[i]? = some v → kindOf x ≠ some .local →
    bindC kindOf (P.zip vs) m x = some v
  | [], _, _, _, _, h, _, _ => by simp at h
  | _ :: _, [], _, _, _, _, h, _ => by simp at h
  | p :: P, w :: vs, 0, m, nd, h1, h2, hk => by
    simp at h1 h2; subst h1; subst h2
    show bindC kindOf ((p, w) :: P.zip vs) m p = _
    unfold bindC
    rw [bindC_out fun v hv => (List.nodup_cons.mp nd).1 (List.of_mem_zip hv).1, if_neg hk]
    simp
  | p :: P, w :: vs, i + 1, m, nd, h1, h2, hk => by
    show bindC kindOf ((p, w) :: P.zip vs) m x = _
    unfold bindC
    exact bindC_get (i := i) (List.nodup_cons.mp nd).2 (by simpa using h1) (by simpa using h2) hk

noncomputable def start (N : List Str) (vs : List V) : St := vs.map some ++ List.replicate (N.length - vs.length) none

noncomputable def cxOf (CX : CXT) (P : Program) (w : World) (K : PySem.W.Frag) (mg : Str → Option Value) (base : Heap) (N : List Str) (qual : Str) (scope : Scope) (f : Addr) (cd : Value) (A : Around) (outer : List Env) (s : Shared) (H : Hp) (E : XK) : Cx where
  prog := P
  w := w
  K := K
  mg := mg
  base := base
  A := A.deeper (envOfC qual scope s.heap.objs.size f cd)
  N := N
  s₀ := s
  H₀ := H
  env := envOfC qual scope s.heap.objs.size f cd
  outer := outer
  stack := envOfC qual scope s.heap.objs.size f cd :: outer
  ex := []
  calm := true
  fn := fun _ => true
  pn := []
  xe := fun e s' => wpAny (model P w) (A.deeper (envOfC qual scope s.heap.objs.size f cd)) (leaving (envOfC qual scope s.heap.objs.size f cd) e) (fun _ s'' => CX outer H s E e s'') (fun e' s'' => CX outer H s E e' s'') s'

theorem cell_has {sc : Scope} {n : Nat} {x : Str} (h : sc.names.lookup x = some .cell) : ∃ c, (cellsFrom n sc.names []).lookup x = some c := by
  have q := PySem.W.cellsFrom_some sc.names n [] (.inl h)
  exact Option.isSome_iff_exists.mp q

theorem inv_start {CX : CXT} {P : Program} {w : World} {K : PySem.W.Frag} {mg : Str → Option Value} {base : Heap} {N ps : List Str} {qual : Str} {scope : Scope} {f : Addr} {cd : Value} {A : Around} {outer : List Env} {s s1 : Shared} {H : Hp} {E : XK} {us : List Value} {vs : List V}
    (S : FnScope N ps scope) (hd : A.handled = none) (e0 : Env0 P w K mg base A outer s H) (hl : vs.length = ps.length) (r : Vals vs us)
    (x : InCallC s s.heap.objs.size (bindL (envOfC qual scope s.heap.objs.size f cd).kindOf (ps.zip us) fun _ => none) (cellsFrom (s.heap.objs.size + 1) scope.names []) (bindC (envOfC qual scope s.heap.objs.size f cd).kindOf (ps.zip us) fun _ => none) s1) :
    Inv (cxOf CX P w K mg base N qual scope f cd A outer s H E) [] (start N vs) H s1 := by
  have hpl : ps.length ≤ N.length := by have := congrArg List.length S.pre; rw [List.length_take] at this; omega
  obtain ⟨h1, tk, rfl, hk⟩ := x.done
  have noA : ∀ b : Addr, b ∉ (cxOf CX P w K mg base N qual scope f cd A outer s H E).ex := fun b z => absurd (show b ∈ ([] : List Addr) from z) (by simp)
  refine ⟨⟨e0.mod, S.kind, rfl, rfl, Nat.le_refl _, fun y z c h1 h2 => ?_, fun y hy => ?_, fun y c _ h => ?_, fun _ => hd, Around.frames_deeper e0.frames, .inr ⟨rfl, rfl⟩, fun b z => absurd z (noA b), e0.bs, e0.bsz, fun b _ _ => noA b, fun b z => absurd z (noA b), e0.funs, e0.frf⟩,
    rfl, e0.bare, Un.kept hk, ⟨_, x.toInCall.ns, fun i y v h1 h2 h3 => ?_⟩, fun y c h => ⟨_, x.cell y c h⟩, e0.hok.fresh (Nat.le_refl _), fun y c h => ?_, fun p hp => absurd (show p ∈ ([] : List (Addr × Obj)) from hp) (by simp), e0.hok.kept hk, ?_⟩
  · exact name_of_addr x.apart (PySem.mem_of_lookup h1) (PySem.mem_of_lookup h2)
  · have hy : scope.names.lookup y = some .cell ∨ scope.names.lookup y = some .free := hy
    rcases hy with hy | hy
    · exact cell_has hy
    · exact absurd rfl (S.nofree _ (PySem.mem_of_lookup hy))
  · exact Nat.le_of_lt (x.above y c (PySem.mem_of_lookup h))
  · have hi : i < vs.length := by
      unfold start at h2
      by_cases hi : i < vs.length
      · exact hi
      · rw [List.getElem?_append_right (by simpa using hi)] at h2
        rw [List.getElem?_replicate] at h2
        split at h2 <;> cases h2
    have ha : vs[i]? = some v := by
      unfold start at h2
      rw [List.getElem?_append_left (by simpa using hi), List.getElem?_map] at h2
      cases e : vs[i]? with
      | none => rw [e] at h2; cases h2
      | some a => rw [e] at h2; cases h2; rfl
    obtain ⟨u, hu, rv⟩ := r.get ha
    have hp : ps[i]? = some y := by
      rw [← S.pre, List.getElem?_take_of_lt (by omega)]; exact h1
    have ndP : ps.Nodup := by rw [← S.pre]; exact S.nd.sublist (List.take_sublist _ _)
    refine ⟨u, rv, ?_⟩
    rcases S.par y (List.mem_of_getElem? hp) with k | k
    · exact .inl ⟨k, bindL_get ndP hp hu k⟩
    · obtain ⟨c, e⟩ := cell_has (n := s.heap.objs.size + 1) k
      refine .inr ⟨.inl k, c, e, ?_⟩
      have q := x.cell y c e
      rw [bindC_get ndP hp hu (by show scope.names.lookup y ≠ _; rw [k]; decide)] at q
      exact q
  · exact e0.hok.fresh (Nat.le_of_lt (x.above y c (PySem.mem_of_lookup h)))
  · unfold start
    show _ = N.length
    rw [List.length_append, List.length_map, List.length_replicate]
    omega

theorem fn_of {CX : CXT} {P : Program} {w : World} {K : PySem.W.Frag} {mg : Str → Option Value} {base : Heap} {k : Nat} {f : Addr} {name qual : Str} {params : Arguments} {body : List Stmt} {scope : Scope} {dV kV doc pm cdv ct oc : Value} {an od : Option Addr}
    {osl : Array (Option Value)} {N ps : List Str} {sp : Sp} (lk : K.lookup f = some ⟨oc, od, .func (PySem.W.fnOf name qual params body scope dV kV doc pm an cdv ct), osl⟩) (hcd : PySem.W.codeIn K cdv qual = true) (S : FnScope N ps scope)
    (len : ∀ vs H Q E, sp vs H Q E → vs.length = ps.length)
    (hbody : ∀ (A : Around) (outer : List Env) (s : Shared) (H : Hp) (vs : List V) (Q : VK) (E : XK), Room k (A.deeper (envOfC qual scope s.heap.objs.size f cdv)) → sp vs H Q E →
      ∃ t, PSs (cxOf CX P w K mg base N qual scope f cdv A outer s H E) body t ∧ t { nx := fun _ H' => Q .non H', rt := Q } (start N vs) H) :
    FnOk P w K mg base CX (k + 1) f (PySem.W.fnOf name qual params body scope dV kV doc pm an cdv ct) ps sp := by
  refine ⟨len, fun A outer s H args us vs Q E hr e0 hb r hsp => ?_⟩
  have hl := len _ _ _ _ hsp
  have KX : K.In s.heap := e0.mod.kin.keeps fun b o e => (e0.bs b o e).1
  have lim : s.heap.NoLimit := e0.mod.nolimit.keeps fun b o e => (e0.bs b o e).1
  have hkind : ∀ y ∈ ps.zip us, scope.names.lookup y.1 = some .local ∨ (scope.names.lookup y.1 = some .cell ∧ ((cellsFrom (s.heap.objs.size + 1) scope.names []).lookup y.1).isSome = true) := fun ⟨n, v⟩ hy => by
    rcases S.par n (List.of_mem_zip hy).1 with q | q
    · exact .inl q
    · exact .inr ⟨q, PySem.W.cellsFrom_some _ _ _ (.inl q)⟩
  refine codeAny_call_function hr.depth (KX _ _ lk) rfl S.co S.gen rfl (PySem.W.codeRec_of KX hcd) (hb _ _ _ _ ?_)
  refine wpAny_newFunctionEnv_cells S.kind hkind fun env he s1 x => ?_
  subst he
  refine ⟨lim.keeps x.toInCall.keep, codeAny_func ?_⟩
  obtain ⟨t, ht, hq⟩ := hbody A outer s H vs Q E (hr.deeper _) hsp
  have I : Inv (cxOf CX P w K mg base N qual scope f cdv A outer s H E) [] (start N vs) H s1 := inv_start S hr.hd e0 hl r x
  refine wpAny_mono (ht [] s1 (start N vs) H _ I hq) (fun fl s' hs => ?_) fun e s' hs => hs
  have fin : ∀ {σ' : St} {H' : Hp} {v : V} {u : Value}, Inv (cxOf CX P w K mg base N qual scope f cdv A outer s H E) [] σ' H' s' → RelV v u → Q v H' → CE outer P w H s Q u s' :=
    fun {σ' H' v u} J rv q => ⟨v, H', J.os, J.bare, J.base, J.hok, rv, q⟩
  cases fl with
  | ret u =>
    obtain ⟨v, σ', H', J, rv, q⟩ := hs
    exact fin J rv q
  | next =>
    obtain ⟨σ', H', J, q⟩ := hs
    exact fin (v := V.non) (u := Value.none) J rfl q
  | brk =>
    obtain ⟨_, _, _, q⟩ := hs
    exact False.elim q
  | cont =>
    obtain ⟨_, _, _, q⟩ := hs
    exact False.elim q
end L2

namespace L2
open PySem PySem.Spec PyProof.Rows
section
variable {X : Cx} {x : Str} {p pos : Pos} {e : Expr} {es : List Expr} {t : TA} {id T : String} {r : List V → Hp → VK → Prop}

noncomputable def tCB (r : List V → Hp → VK → Prop) (t : TA) : TE := fun σ H Q => t σ H fun vs H1 => r vs H1 Q
theorem pe_callB (hc : CallR X (.builtin id) r) (hg : Gl X x) (hm : X.mg x = none) (hv : bootBuiltins x = some (.builtin id)) (ha : PA X (e :: es) t) (hn : x ≠ "__name__" := by decide) (hdb : (x == ("__debug__" : Str)) = false := by decide)
    (he : starEach (e :: es) X.env = (false, eval e X.env) :: starEach es X.env := by rfl) (hpl : (backTo pos (starEach es X.env)).any (·.1) = false := by rfl) : PE X (.Call (.Name x p) (e :: es) [] pos) (tCB r t) := by
  intro pins s σ H Q I h
  refine wpAny_Call_Name_kw (ld_blt I hg hm hv ?_ hn hdb)
  exact PyProof.Rows.callWith_builtin1 (thn (ha pos pins s σ H _ I h) fun us s1 ⟨vs, H1, I1, r1, q1⟩ => hc pins s1 σ H1 vs us Q I1 r1 q1) he hpl
theorem pe_callTy (hc : CallR X (.type T) r) (hg : Gl X x) (hm : X.mg x = none) (hv : bootBuiltins x = some (.type T)) (ha : PA X (e :: es) t) (hn : x ≠ "__name__" := by decide) (hdb : (x == ("__debug__" : Str)) = false := by decide)
    (he : starEach (e :: es) X.env = (false, eval e X.env) :: starEach es X.env := by rfl) (hpl : (backTo pos (starEach es X.env)).any (·.1) = false := by rfl) : PE X (.Call (.Name x p) (e :: es) [] pos) (tCB r t) := by
  intro pins s σ H Q I h
  refine wpAny_Call_Name_kw (ld_blt I hg hm hv ?_ hn hdb)
  exact PyProof.Rows.callWith_type1 (thn (ha pos pins s σ H _ I h) fun us s1 ⟨vs, H1, I1, r1, q1⟩ => hc pins s1 σ H1 vs us Q I1 r1 q1) he hpl
end
end L2

namespace HT
open PySem PyProof.Rows

section
open PySem.SeqAt
open PySem.AutoSeq1 (wpAny_loadPart')
open PySem.MeetsSeq PySem.MeetsSeq2 PySem.MeetsSeq3

end

section
variable {prog : Program} {w : World} {A : Around} {E : Value → Shared → Prop} {s : Shared}


noncomputable def sIx (n d : Nat) : Option Int → Nat
  | none => d
  | some v => if v < 0 then (v + (n : Int)).toNat else min v.toNat n
end
end HT

namespace L2
open PySem PySem.Spec PyProof.Rows


noncomputable abbrev TO := St → Hp → (Option Int → Hp → Prop) → Prop
noncomputable def PO (X : Cx) (e : Option Expr) (t : TO) : Prop :=
  ∀ (pins : List (Addr × Obj)) (s : Shared) (σ : St) (H : Hp) (Q : Option Int → Hp → Prop), Inv X pins σ H s → t σ H Q →
    wpAny (model X.prog X.w) X.A (evalPart e X.env) (fun u s' => ∃ o H', Inv X pins σ H' s' ∧ IsPart u o ∧ Q o H') X.xe s
noncomputable def tNoPart : TO := fun _ H Q => Q none H
noncomputable def tPart (t : TE) : TO := fun σ H Q => t σ H fun x H1 => ∃ i, x = .int i ∧ Q (some i) H1

section
variable {X : Cx} {e : Expr} {te : TE} {lo hi : Option Expr} {tl th : TO} {pos p2 : Pos}

theorem po_none : PO X none tNoPart := by
  intro pins s σ H Q I h
  rw [evalPart_none]
  exact wpAny_pure ⟨none, H, I, .none, h⟩
theorem po_some (h : PE X e te) : PO X (some e) (tPart te) := by
  intro pins s σ H Q I hw
  rw [evalPart_some]
  refine thn (h pins s σ H _ I hw) fun u s1 zz9 => ?_
  obtain ⟨x, H1, I1, r1, q1⟩ := zz9
  obtain ⟨i, rfl, q⟩ := q1
  obtain ⟨t, rfl⟩ := r1
  exact ⟨some i, H1, I1, .int i t, q⟩

noncomputable def SlR (X : Cx) (r : V → Option Int → Option Int → Hp → VK → Prop) : Prop :=
  ∀ (pins : List (Addr × Obj)) (s : Shared) (σ : St) (H : Hp) (x : V) (v vl vu : Value) (lo hi : Option Int) (sl : Addr) (Q : VK), Inv X pins σ H s → RelV x v → s.heap.IsSliceOf sl vl vu .none → IsPart vl lo → IsPart vu hi → r x lo hi H Q →
    ∃ T id, typeLookup (.type T) "__getitem__" = pure (some (.builtin id)) ∧ s.TypeIs v T ∧ wpAny (model X.prog X.w) X.A (getItem v (.ref sl)) (EP X pins σ Q) X.xe s
theorem SlR.or {r r' : V → Option Int → Option Int → Hp → VK → Prop} (h : SlR X r) (h' : SlR X r') : SlR X (fun x lo hi H Q => r x lo hi H Q ∨ r' x lo hi H Q) := by
  intro pins s σ H x v vl vu lo hi sl Q I rx hs pl pu q
  rcases q with q | q
  · exact h pins s σ H x v vl vu lo hi sl Q I rx hs pl pu q
  · exact h' pins s σ H x v vl vu lo hi sl Q I rx hs pl pu q
noncomputable def tSl (r : V → Option Int → Option Int → Hp → VK → Prop) (te : TE) (tl th : TO) : TE := fun σ H Q => te σ H fun x H1 => tl σ H1 fun l H2 => th σ H2 fun u H3 => r x l u H3 Q
theorem pe_slice {r : V → Option Int → Option Int → Hp → VK → Prop} (hr : SlR X r) (he : PE X e te) (hl : PO X lo tl) (hu : PO X hi th) : PE X (.Subscript e (.Slice lo hi none p2) pos) (tSl r te tl th) := by
  intro pins s σ H Q I h
  refine Subscript_ (thn (he pins s σ H _ I h) fun v s1 zz9 => ?_)
  obtain ⟨x, H1, I1, r1, q1⟩ := zz9
  refine wpAny_Slice (thn (hl pins s1 σ H1 _ I1 q1) fun vl s2 ⟨l, H2, I2, pl, q2⟩ => thn (hu pins s2 σ H2 _ I2 q2) fun vu s3 zz9 => ?_)
  obtain ⟨u, H3, I3, pu, q3⟩ := zz9
  rw [evalPart_none]
  refine wpAny_pure ?_
  have I4 : Inv X pins σ H3 { s3 with heap := s3.heap.push { cls := .type "slice", data := .fields #[vl, vu, .none] } } := I3.kept (t' := s3.toks) fun b ob q => Heap.get?_push_of_some _ q
  obtain ⟨T, id, hT, ht, hg⟩ := hr pins { s3 with heap := s3.heap.push { cls := .type "slice", data := .fields #[vl, vu, .none] } } σ H3 x v vl vu l u s3.heap.objs.size Q I4 r1 (Heap.IsSliceOf.new ..) pl pu q3
  show wpAny (model X.prog X.w) X.A (subscriptTail e (.Slice lo hi none p2) v (.ref s3.heap.objs.size)) (EP X pins σ Q) X.xe { s3 with heap := s3.heap.push { cls := .type "slice", data := .fields #[vl, vu, .none] } }
  exact tail_any (ops := [.ref s3.heap.objs.size, v]) ht hT hg (by with_unfolding_all rfl)

noncomputable def cutV (xs : List V) (lo hi : Option Int) : List V := (xs.drop (HT.sIx xs.length 0 lo)).take (HT.sIx xs.length xs.length hi - HT.sIx xs.length 0 lo)
theorem cutV_length (xs : List V) (lo hi : Option Int) : (cutV xs lo hi).length ≤ xs.length := by
  unfold cutV
  rw [List.length_take, List.length_drop]
  omega

end
end L2

namespace L2
open PySem PySem.Spec PyProof.Rows


noncomputable def ixN (n : Nat) (i : Int) : Option Nat := if 0 ≤ i then (if i < n then some i.toNat else none) else if -(n : Int) ≤ i then some (i + n).toNat else none
noncomputable def atI {α : Type} (xs : List α) (i : Int) : Option α := (ixN xs.length i).bind fun j => xs[j]?
theorem ixN_seq {n : Nat} {i : Int} {j : Nat} (h : ixN n i = some j) : seqIndex? i n = some j ∧ j < n ∧ -(n : Int) ≤ i ∧ i < n := by
  unfold ixN at h
  by_cases h0 : 0 ≤ i
  · rw [if_pos h0] at h
    by_cases h1 : i < n
    · rw [if_pos h1] at h
      have e : i.toNat = j := Option.some.inj h
      exact ⟨by rw [seqIndex_of h0 h1, e], by omega, by omega, h1⟩
    · rw [if_neg h1] at h; cases h
  · rw [if_neg h0] at h
    by_cases h1 : -(n : Int) ≤ i
    · rw [if_pos h1] at h
      have e : (i + n).toNat = j := Option.some.inj h
      exact ⟨by rw [seqIndex_neg (by omega) h1, e], by omega, h1, by omega⟩
    · rw [if_neg h1] at h; cases h
theorem atI_get {α : Type} {xs : List α} {i : Int} {v : α} (h : atI xs i = some v) : ∃ j, seqIndex? i xs.length = some j ∧ xs[j]? = some v ∧ j < xs.length ∧ -(xs.length : Int) ≤ i ∧ i < xs.length := by
  unfold atI at h
  cases e : ixN xs.length i with
  | none => rw [e] at h; cases h
  | some j =>
    rw [e] at h
    obtain ⟨h1, h2, h3, h4⟩ := ixN_seq e
    exact ⟨j, h1, h, h2, h3, h4⟩
theorem atI_nat {α : Type} {xs : List α} {j : Nat} {v : α} (h : xs[j]? = some v) : atI xs (j : Int) = some v := by
  have hj : j < xs.length := (List.getElem?_eq_some_iff.mp h).1
  have e : ixN xs.length (j : Int) = some j := by
    unfold ixN
    rw [if_pos (by omega), if_pos (by omega)]; simp
  unfold atI; rw [e]; exact h

noncomputable def PlainIx (b : Expr) : Prop := ∀ o i, subscripted b false o i = operate [o, i] (getItem o i)
noncomputable def IxR (X : Cx) (r : R2) : Prop :=
  ∀ (value slice : Expr) (pins : List (Addr × Obj)) (s : Shared) (σ : St) (H : Hp) (x y : V) (v u : Value) (Q : VK), Inv X pins σ H s → RelV x v → RelV y u → r x y H Q →
    subscripted slice false v u = operate [v, u] (getItem v u) → wpAny (model X.prog X.w) X.A (subscriptTail value slice v u) (EP X pins σ Q) X.xe s
noncomputable def MtR (X : Cx) (id : String) (r : V → List V → Hp → VK → Prop) : Prop :=
  ∀ (pins : List (Addr × Obj)) (s : Shared) (σ : St) (H : Hp) (x : V) (xs : List V) (v : Value) (us : List Value) (Q : VK), Inv X pins σ H s → RelV x v → Vals xs us → r x xs H Q →
    wpAny (model X.prog X.w) X.A (call (.builtin id) (v :: us)) (EP X pins σ Q) X.xe s
section
variable {X : Cx} {a b : Expr} {ta tb : TE} {pos : Pos}
theorem IxR.or {r r' : R2} (h : IxR X r) (h' : IxR X r') : IxR X (fun x y H Q => r x y H Q ∨ r' x y H Q) := by
  intro value slice pins s σ H x y v u Q I rx ry q hs
  rcases q with q | q
  · exact h value slice pins s σ H x y v u Q I rx ry q hs
  · exact h' value slice pins s σ H x y v u Q I rx ry q hs
theorem pe_ix {r : R2} (hr : IxR X r) (ha : PE X a ta) (hb : PE X b tb) (hs : PlainIx b) : PE X (.Subscript a b pos) (tOp r ta tb) := by
  intro pins s σ H Q I h
  exact Subscript_ (binT ha hb I h fun v u s2 x y H2 I2 rx ry q => hr a b pins s2 σ H2 x y v u Q I2 rx ry q (hs _ _))

noncomputable def rIxL (K : PySem.W.Frag) : R2 := fun x y H Q => ∃ p xs i v, x = .ref p ∧ y = .int i ∧ SqL K H p xs ∧ atI xs i = some v ∧ Q v H
noncomputable def rIxT (K : PySem.W.Frag) : R2 := fun x y H Q => ∃ p xs i v, x = .ref p ∧ y = .int i ∧ SqT K H p xs ∧ atI xs i = some v ∧ Q v H
noncomputable def rIxS : R2 := fun x y H Q => ∃ z i c, x = .str z ∧ y = .int i ∧ z.length ≤ sizeLine ∧ atI z.cps.toList i = some c ∧ Q (.str ⟨#[c]⟩) H
theorem ix_list : IxR X (rIxL X.K) := by
  intro value slice pins s σ H x y v u Q I rx ry h hs
  obtain ⟨p, xs, i, z, rfl, rfl, hq, he, q⟩ := h
  cases rx
  obtain ⟨t, rfl⟩ := ry
  obtain ⟨its, r, pl, hz⟩ := I.list hq
  obtain ⟨j, h1, h2, h3, h4, h5⟩ := atI_get he
  obtain ⟨w, ew, rw'⟩ := r.get h2
  have hl := r.length
  have hn := line63
  have fin : EP X pins σ Q w s := ⟨z, H, I, rw', q⟩
  by_cases h0 : 0 ≤ i
  · have hj : i.toNat = j := by
      rw [seqIndex_of h0 h5] at h1
      exact Option.some.inj h1
    exact item_listR pl.isList h0 (by omega) (by rw [hj]; simpa using ew) fin hs
  · have hj : (i + (its.toArray.size : Int)).toNat = j := by
      rw [seqIndex_neg (by omega) h4] at h1
      rw [List.size_toArray, ← hl]
      exact Option.some.inj h1
    exact subscriptTail_builtinR (x := w) pl.isList.typeIs slot_list_getitem.lookup
      (wpAny_getItem_list_neg (Q := fun r s' => r = w ∧ EP X pins σ Q r s') pl.isList (by omega) (by rw [List.size_toArray] <;> omega) (by omega) (by rw [hj]; simpa using ew) ⟨rfl, fin⟩) hs
theorem ix_tup : IxR X (rIxT X.K) := by
  intro value slice pins s σ H x y v u Q I rx ry h hs
  obtain ⟨p, xs, i, z, rfl, rfl, hq, he, q⟩ := h
  cases rx
  obtain ⟨t, rfl⟩ := ry
  obtain ⟨its, r, pl, hz⟩ := I.tuple hq
  obtain ⟨j, h1, h2, h3, h4, h5⟩ := atI_get he
  obtain ⟨w, ew, rw'⟩ := r.get h2
  have hl := r.length
  have hn := line63
  have fin : EP X pins σ Q w s := ⟨z, H, I, rw', q⟩
  exact subscriptTail_builtinR (x := w) pl.typeIs slot_tuple_getitem.lookup
    (getItem_tuple (j := j) (Q := fun r s' => r = w ∧ EP X pins σ Q r s') pl (by omega) (by omega) (by rw [List.size_toArray, ← hl]; exact h1) (by simpa using ew) ⟨rfl, fin⟩) hs
theorem ix_str : IxR X rIxS := by
  intro value slice pins s σ H x y v u Q I rx ry h hs
  obtain ⟨z, i, c, rfl, rfl, hz, he, q⟩ := h
  obtain ⟨t, rfl⟩ := rx
  obtain ⟨t', rfl⟩ := ry
  obtain ⟨j, h1, h2, h3, h4, h5⟩ := atI_get he
  have hl : z.cps.toList.length = z.length := by simp [Str.length]
  rw [hl] at h1 h4 h5
  have hn := line63
  exact tail_any (typeIs_str s z t) slot_str_getitem.lookup (getItem_str (c := c) (by
    have e1 : decide (i < -(2 ^ 63 : Int)) = false := decide_eq_false (by omega)
    have e2 : decide (i ≥ 2 ^ 63) = false := decide_eq_false (by omega)
    rw [e1, e2, Bool.or_false]) (by rw [h1]; simpa using h2) ⟨.str ⟨#[c]⟩, H, I.tok _, ⟨_, rfl⟩, q⟩) hs
noncomputable def rIx (K : PySem.W.Frag) : R2 := fun x y H Q => rIxL K x y H Q ∨ rIxT K x y H Q ∨ rIxS x y H Q
theorem ix_seq : IxR X (rIx X.K) := ix_list.or (ix_tup.or ix_str)


theorem mapSeq_set (its : List Value) (n j : Nat) (u : Value) : Obj.mapSeq (·.setIfInBounds j u) { cls := .type "list", data := .seq its.toArray n } = { cls := .type "list", data := .seq (its.set j u).toArray n } := by
  simp [Obj.mapSeq]
theorem Inv.lst {pins : List (Addr × Obj)} {σ : St} {H : Hp} {s : Shared} {p : Addr} {xs : List V} (I : Inv X pins σ H s) (h : H p = some (.lst xs)) :
    ∃ (its : List Value) (n : Nat), Vals xs its ∧ s.heap.get? p = some { cls := .type "list", data := .seq its.toArray n } ∧ xs.length ≤ sizeLine := by
  obtain ⟨z, its, n, r, e⟩ := I.hok p _ h
  exact ⟨its, n, r, e, z⟩
theorem Inv.lstUpd {pins : List (Addr × Obj)} {σ : St} {H : Hp} {s : Shared} {p : Addr} {xs ys : List V} {its its' : List Value} {n n' : Nat} {f : Obj → Obj} (I : Inv X pins σ H s) (h : H p = some (.lst xs))
    (ho : s.heap.get? p = some { cls := .type "list", data := .seq its.toArray n }) (hf : f { cls := .type "list", data := .seq its.toArray n } = { cls := .type "list", data := .seq its'.toArray n' }) (r : Vals ys its') (hz : ys.length ≤ sizeLine) (t : Nat) :
    Inv X pins σ (upd H p (.lst ys)) { s with heap := s.heap.update p f, toks := t } := by
  have e : (s.heap.update p f).get? p = some { cls := .type "list", data := .seq its'.toArray n' } := by
    rw [Heap.get?_update_self f ho (by rw [hf] <;> rfl), hf]
  refine I.write (x := p) (e := p) (by rw [h]; trivial) (.inl rfl) (fun b u hb q => (Heap.get?_update_other _ _ (Ne.symm hb)).trans q) ⟨_, e⟩ ?_
  exact ⟨hz, its', n', r, e⟩
noncomputable def rSetL : V → V → V → Hp → (Hp → Prop) → Prop := fun o i v H Q => ∃ p xs k j, o = .ref p ∧ i = .int k ∧ H p = some (.lst xs) ∧ ixN xs.length k = some j ∧ Q (upd H p (.lst (xs.set j v)))
theorem set_list : PSet X rSetL := by
  intro pins s σ H o i v ov iv u Q I ro ri rv h
  obtain ⟨p, xs, k, j, rfl, rfl, hp, hj, q⟩ := h
  cases ro
  obtain ⟨t, rfl⟩ := ri
  obtain ⟨its, n, r, ho, hz⟩ := I.lst hp
  obtain ⟨h1, h2, h3, h4⟩ := ixN_seq hj
  have hl := r.length
  have hn := line63
  have I' : Inv X pins σ (upd H p (.lst (xs.set j v))) { s with heap := s.heap.update p (Obj.mapSeq (·.setIfInBounds j u)) } :=
    I.lstUpd hp ho (mapSeq_set its n j u) (r.set rv j) (by rw [List.length_set]; exact hz) s.toks
  by_cases h0 : 0 ≤ k
  · have hk : k.toNat = j := by
      rw [seqIndex_of h0 h4] at h1
      exact Option.some.inj h1
    exact PySem.W.ki_setAt ho h0 (by omega) (by rw [List.size_toArray, ← hl]; exact h4) (by rw [hk]; exact ⟨_, I', q⟩)
  · have hk : (k + (its.toArray.size : Int)).toNat = j := by
      rw [seqIndex_neg (by omega) h3] at h1
      rw [List.size_toArray, ← hl]
      exact Option.some.inj h1
    exact PySem.W.ki_setBack ho (by omega) (by rw [List.size_toArray, ← hl]; exact h3) (by omega) (by rw [hk]; exact ⟨_, I', q⟩)


theorem slice_bounds (lo hi : Option Int) (n : Nat) : (sliceBounds lo hi none n).1 = ((HT.sIx n 0 lo : Nat) : Int) ∧ (sliceBounds lo hi none n).2.1 = ((HT.sIx n n hi : Nat) : Int) ∧ (sliceBounds lo hi none n).2.2 = 1 := by
  refine ⟨?_, ?_, rfl⟩
  · cases lo with
    | none => simp [sliceBounds, HT.sIx]
    | some i =>
      simp only [sliceBounds, HT.sIx, Option.getD_none, show (1 : Int) > 0 by decide, if_true]
      by_cases h : i < 0
      · simp only [h, if_true] <;> omega
      · simp only [h, if_false] <;> omega
  · cases hi with
    | none => simp [sliceBounds, HT.sIx]
    | some i =>
      simp only [sliceBounds, HT.sIx, Option.getD_none, show (1 : Int) > 0 by decide, if_true]
      by_cases h : i < 0
      · simp only [h, if_true] <;> omega
      · simp only [h, if_false] <;> omega
theorem slicePick_cut (its : List Value) (lo hi : Option Int) : slicePick its.toArray lo hi none = ((its.drop (HT.sIx its.length 0 lo)).take (HT.sIx its.length its.length hi - HT.sIx its.length 0 lo)).toArray := by
  obtain ⟨h1, h2, h3⟩ := slice_bounds lo hi its.toArray.size
  unfold slicePick
  rw [h1, h2, h3]
  simp only [sliceRange_one, pick_run, List.size_toArray] <;> rfl
noncomputable def rSlL (K : PySem.W.Frag) : V → Option Int → Option Int → Hp → VK → Prop := fun x lo hi H Q => ∃ a xs, x = .ref a ∧ SqL K H a xs ∧ ∀ p, H p = none → Q (.ref p) (upd H p (.lst (cutV xs lo hi)))
theorem sl_list : SlR X (rSlL X.K) := by
  intro pins s σ H x v vl vu lo hi sl Q I rx hs pl pu h
  obtain ⟨a, xs, rfl, hx, q⟩ := h
  cases rx
  obtain ⟨its, r, ht, hz⟩ := I.list hx
  have hlen := r.length
  refine ⟨"list", _, slot_list_getitem.lookup, ht.isList.typeIs, ?_⟩
  refine wpAny_getItem_list_slice ht.isList hs pl pu .none (by simp) ?_ (by rw [List.size_toArray] <;> omega)
  rw [slicePick_cut, ← hlen]
  refine ⟨.ref s.heap.objs.size, _, I.laid (t' := s.toks) (o := .lst (cutV xs lo hi)) (fun b ob q => Heap.get?_push_of_some _ q) (Nat.le_refl _) ?_, rfl, q _ (I.hok.fresh (Nat.le_refl _))⟩
  exact ⟨Nat.le_trans (cutV_length xs lo hi) hz, _, 0, (r.drop (HT.sIx xs.length 0 lo)).take (HT.sIx xs.length xs.length hi - HT.sIx xs.length 0 lo), Heap.get?_push_size _ rfl⟩


noncomputable def flatV : V → Bool
  | .non => true
  | .bl _ => true
  | .int _ => true
  | .str _ => true
  | _ => false
noncomputable def eqV : V → V → Bool
  | .non, .non => true
  | .bl a, .bl b => a == b
  | .bl a, .int b => (if a then 1 else 0) == b
  | .int a, .bl b => a == (if b then 1 else 0)
  | .int a, .int b => a == b
  | .str a, .str b => a == b
  | _, _ => false
theorem eqAt_V {A : Around} {s : Shared} {y x : V} {u v : Value} (ry : RelV y u) (rx : RelV x v) (fy : flatV y = true) (fx : flatV x = true) : SeqAt.EqAt A s u v (eqV y x) := by
  cases y with
  | non =>
    cases ry
    cases x with
    | non => cases rx; exact SeqAt.EqAt.same _
    | bl b => cases rx; exact SeqAt.EqAt.none_bool b
    | int b => obtain ⟨t, rfl⟩ := rx; exact SeqAt.EqAt.none_int b t
    | str b => obtain ⟨t, rfl⟩ := rx; exact SeqAt.EqAt.none_str b t
    | _ => exact absurd (show false = true from fx) Bool.false_ne_true
  | bl a =>
    cases ry
    cases x with
    | non => cases rx; exact SeqAt.EqAt.bool_none a
    | bl b => cases rx; exact SeqAt.EqAt.bool_bool a b
    | int b => obtain ⟨t, rfl⟩ := rx; exact SeqAt.EqAt.bool_int a b t
    | str b => obtain ⟨t, rfl⟩ := rx; exact SeqAt.EqAt.bool_str a b t
    | _ => exact absurd (show false = true from fx) Bool.false_ne_true
  | int a =>
    obtain ⟨t', rfl⟩ := ry
    cases x with
    | non => cases rx; exact SeqAt.EqAt.int_none a t'
    | bl b => cases rx; exact SeqAt.EqAt.int_bool a t' b
    | int b => obtain ⟨t, rfl⟩ := rx; exact SeqAt.EqAt.int_int a t' b t
    | str b => obtain ⟨t, rfl⟩ := rx; exact SeqAt.EqAt.int_str a t' b t
    | _ => exact absurd (show false = true from fx) Bool.false_ne_true
  | str a =>
    obtain ⟨t', rfl⟩ := ry
    cases x with
    | non => cases rx; exact SeqAt.EqAt.str_none a t'
    | bl b => cases rx; exact SeqAt.EqAt.str_bool a t' b
    | int b => obtain ⟨t, rfl⟩ := rx; exact SeqAt.EqAt.str_int a t' b t
    | str b => obtain ⟨t, rfl⟩ := rx; exact SeqAt.EqAt.str_str a t' b t
    | _ => exact absurd (show false = true from fx) Bool.false_ne_true
  | _ => exact absurd (show false = true from fy) Bool.false_ne_true
noncomputable def eqU (x : V) (u : Value) : Bool := match u with
  | .none => eqV .non x
  | .bool b => eqV (.bl b) x
  | .int i _ => eqV (.int i) x
  | .str z _ => eqV (.str z) x
  | _ => false
theorem eqU_of {x y : V} {u : Value} (r : RelV y u) (f : flatV y = true) : eqU x u = eqV y x := by
  cases y with
  | non => cases r; rfl
  | bl b => cases r; rfl
  | int i => obtain ⟨t, rfl⟩ := r; rfl
  | str z => obtain ⟨t, rfl⟩ := r; rfl
  | _ => exact absurd (show false = true from f) Bool.false_ne_true
theorem any_eqU {x : V} : ∀ {xs : List V} {us : List Value}, Vals xs us → xs.all flatV = true → us.any (eqU x) = xs.any fun y => eqV y x
  | _, _, .nil, _ => rfl
  | y :: xs, u :: us, .cons r t, f => by
    rw [List.all_cons, Bool.and_eq_true] at f
    rw [List.any_cons, List.any_cons, eqU_of r f.1, any_eqU t f.2]
theorem mem_eqAt {A : Around} {s : Shared} {x : V} {v : Value} (rx : RelV x v) (fx : flatV x = true) : ∀ {xs : List V} {us : List Value}, Vals xs us → xs.all flatV = true → ∀ u ∈ us, SeqAt.EqAt A s u v (eqU x u)
  | _, _, .nil, _ => fun u hu => by cases hu
  | y :: xs, u :: us, .cons r t, f => fun u' hu => by
    rw [List.all_cons, Bool.and_eq_true] at f
    rcases List.mem_cons.mp hu with rfl | hu
    · rw [eqU_of r f.1]; exact eqAt_V r rx f.1 fx
    · exact mem_eqAt rx fx t f.2 u' hu
noncomputable def inV (x : V) (xs : List V) : Bool := xs.any fun y => eqV y x
noncomputable def rIn (K : PySem.W.Frag) (neg : Bool) : R2 := fun x y H Q => ∃ p xs, y = .ref p ∧ (SqL K H p xs ∨ SqT K H p xs) ∧ flatV x = true ∧ xs.all flatV = true ∧ Q (.bl (if neg then !inV x xs else inV x xs)) H
theorem op_in_seq : OpR X (compareOp .In) (rIn X.K false) := by
  intro pins s σ H x y v u Q I rx ry h
  obtain ⟨p, xs, rfl, hq, fx, fs, q⟩ := h
  cases ry
  rcases hq with hq | hq
  · obtain ⟨its, r, pl, hz⟩ := I.list hq
    refine SeqAt.in_listAt (eqU x) pl.isList (fun w hw => mem_eqAt rx fx r fs w (by simpa using hw)) ⟨.bl _, H, I, rfl, ?_⟩
    rw [show its.toArray.any (eqU x) = its.any (eqU x) by simp, any_eqU r fs]
    exact q
  · obtain ⟨its, r, pl, hz⟩ := I.tuple hq
    refine SeqAt.in_tupleAt (eqU x) pl (fun w hw => mem_eqAt rx fx r fs w (by simpa using hw)) ⟨.bl _, H, I, rfl, ?_⟩
    rw [show its.toArray.any (eqU x) = its.any (eqU x) by simp, any_eqU r fs]
    exact q
theorem op_notIn_seq : OpR X (compareOp .NotIn) (rIn X.K true) := by
  intro pins s σ H x y v u Q I rx ry h
  obtain ⟨p, xs, rfl, hq, fx, fs, q⟩ := h
  cases ry
  rcases hq with hq | hq
  · obtain ⟨its, r, pl, hz⟩ := I.list hq
    refine SeqAt.notIn_listAt (eqU x) pl.isList (fun w hw => mem_eqAt rx fx r fs w (by simpa using hw)) ⟨.bl _, H, I, rfl, ?_⟩
    rw [show its.toArray.any (eqU x) = its.any (eqU x) by simp, any_eqU r fs]
    exact q
  · obtain ⟨its, r, pl, hz⟩ := I.tuple hq
    refine SeqAt.notIn_tupleAt (eqU x) pl (fun w hw => mem_eqAt rx fx r fs w (by simpa using hw)) ⟨.bl _, H, I, rfl, ?_⟩
    rw [show its.toArray.any (eqU x) = its.any (eqU x) by simp, any_eqU r fs]
    exact q

theorem CallR.or {f : Value} {r r' : List V → Hp → VK → Prop} (h : CallR X f r) (h' : CallR X f r') : CallR X f (fun xs H Q => r xs H Q ∨ r' xs H Q) := by
  intro pins s σ H xs us Q I rs q
  rcases q with q | q
  · exact h pins s σ H xs us Q I rs q
  · exact h' pins s σ H xs us Q I rs q
theorem call_list_of : CallR X (.type "list") (fun xs H Q => ∃ p ys, xs = [.ref p] ∧ (SqL X.K H p ys ∨ SqT X.K H p ys) ∧ ∀ l, H l = none → Q (.ref l) (upd H l (.lst ys))) := by
  intro pins s σ H xs us Q I r h
  obtain ⟨p, ys, rfl, hq, q⟩ := h
  obtain ⟨u, rfl, rx⟩ := vals1 r
  cases rx
  have fin : ∀ (its : List Value), Vals ys its → ys.length ≤ sizeLine → ∀ (h' : Heap) (c' : Nat), (∀ b o', s.heap.get? b = some o' → h'.get? b = some o') →
      h'.get? s.heap.objs.size = some { cls := .type "list", dict := none, data := .seq its.toArray c', slots := #[] } → EP X pins σ Q (.ref s.heap.objs.size) { s with heap := h' } := fun its r' hz h' c' kp e =>
    ⟨.ref s.heap.objs.size, _, I.laid (t' := s.toks) kp (Nat.le_refl _) (show ObjOk X.prog X.w _ h' _ (.lst ys) from ⟨hz, its, c', r', e⟩), rfl, q _ (I.hok.fresh (Nat.le_refl _))⟩
  rcases hq with hq | hq
  · obtain ⟨its, r', pl, hz⟩ := I.list hq
    have hlen := r'.length
    obtain ⟨o, ho, hc, n, hd⟩ := pl.isList
    exact call_list_seq p (.inl rfl) ho hc hd (fun h' c' kp e => fin its r' hz h' c' kp e) (by simp only [List.size_toArray] <;> omega)
  · obtain ⟨its, r', pl, hz⟩ := I.tuple hq
    have hlen := r'.length
    obtain ⟨o, ho, hc, n, hd⟩ := pl
    exact call_list_seq p (.inr rfl) ho hc hd (fun h' c' kp e => fin its r' hz h' c' kp e) (by simp only [List.size_toArray] <;> omega)

noncomputable def tyV (K : PySem.W.Frag) (T : String) (x : V) (H : Hp) : Prop := match x with
  | .str _ => T = "str"
  | .int _ => T = "int"
  | .ref p => (T = "list" ∧ ∃ xs, SqL K H p xs) ∨ (T = "tuple" ∧ ∃ o, K.lookup p = some o ∧ o.cls = .type "tuple" ∧ o.dict = none) ∨
      (T = "dict" ∧ ((∃ kvs, H p = some (.dK kvs)) ∨ ∃ kvs, H p = some (.dT kvs))) ∨ (T = "set" ∧ ∃ S n, H p = some (.set S n))
  | _ => False
theorem tyV_is {pins : List (Addr × Obj)} {σ : St} {H : Hp} {s : Shared} {T : String} {x : V} {v : Value} (I : Inv X pins σ H s) (r : RelV x v) (ty : tyV X.K T x H) :
    s.TypeIs v T ∧ ∀ a, v = .ref a → ∃ ob, s.heap.get? a = some ob ∧ ob.dict = none := by
  cases x with
  | str z =>
    obtain ⟨t, rfl⟩ := r
    cases (show T = "str" from ty)
    exact ⟨typeIs_str s z t, fun _ e => nomatch e⟩
  | int i =>
    obtain ⟨t, rfl⟩ := r
    cases (show T = "int" from ty)
    exact ⟨typeIs_int s i t, fun _ e => nomatch e⟩
  | ref p =>
    cases r
    rcases ty with ⟨rfl, xs, hq⟩ | ⟨rfl, o, hk, hc, hd⟩ | ⟨rfl, hk⟩ | ⟨rfl, S, n, hk⟩
    · obtain ⟨its, _, pl, _⟩ := I.list hq
      refine ⟨pl.isList.typeIs, fun a e => ?_⟩
      cases e
      obtain ⟨o, n, e, c, hd, _⟩ := pl
      exact ⟨o, e, hd⟩
    · refine ⟨⟨o, I.kIn p o hk, hc⟩, fun a e => ?_⟩
      cases e
      exact ⟨o, I.kIn _ o hk, hd⟩
    · have z : ∃ o, s.heap.get? p = some o ∧ o.ExactDict := by
        rcases hk with ⟨kvs, hk⟩ | ⟨kvs, hk⟩
        · obtain ⟨_, _, _, _, o, _, _, e, ex, _⟩ := I.hok p _ hk
          exact ⟨o, e, ex⟩
        · obtain ⟨_, _, _, _, o, _, _, e, ex, _⟩ := I.hok p _ hk
          exact ⟨o, e, ex⟩
      obtain ⟨o, e, ex⟩ := z
      refine ⟨⟨o, e, ex.1⟩, fun a e2 => ?_⟩
      cases e2
      exact ⟨o, e, ex.2.1⟩
    · obtain ⟨o, _, _, _, e, ex, _⟩ := I.hok p _ hk
      refine ⟨⟨o, e, ex.1⟩, fun a e2 => ?_⟩
      cases e2
      exact ⟨o, e, ex.2.1⟩
  | _ => exact False.elim ty
noncomputable def tBM0 (K : PySem.W.Frag) (T : String) (r : V → List V → Hp → VK → Prop) (to : TE) : TE := fun σ H Q => to σ H fun x H1 => tyV K T x H1 ∧ r x [] H1 Q
noncomputable def tBM (K : PySem.W.Frag) (T : String) (r : V → List V → Hp → VK → Prop) (to : TE) (t : TA) : TE := fun σ H Q => to σ H fun x H1 => tyV K T x H1 ∧ t σ H1 fun xs H2 => r x xs H2 Q
variable {o e : Expr} {es : List Expr} {to : TE} {t : TA} {name : Str} {apos cpos : Pos} {T id : String} {r : V → List V → Hp → VK → Prop}
theorem pe_bm0 (pa : PlainAttrs T) (slot : Slot T name id) (hty : typeOf (.builtin id) = pure (.type "method_descriptor")) (hm : MtR X id r) (ho : PE X o to)
    (hbase : attributeBase o name X.env (eval o X.env) = eval o X.env := by rfl) (hline : (apos.endLine == cpos.line) = true := by rfl) : PE X (.Call (.Attribute o name apos) [] [] cpos) (tBM0 X.K T r to) := by
  intro pins s σ H Q I h
  refine wpAny_Call_method0_late hbase hline (thn (ho pins s σ H _ I h) fun v s1 zz9 => ?_)
  obtain ⟨x, H1, I1, r1, ty, q1⟩ := zz9
  obtain ⟨h1, h2⟩ := tyV_is I1 r1 ty
  exact ⟨T, id, pa, slot, hty, h1, h2, Calls.callWith_builtin rfl (PySem.evalArgs_none (hm pins s1 σ H1 x [] v [] Q I1 r1 .nil q1))⟩
theorem pe_bm (pa : PlainAttrs T) (slot : Slot T name id) (hty : typeOf (.builtin id) = pure (.type "method_descriptor")) (hm : MtR X id r) (ho : PE X o to) (ha : PA X (e :: es) t)
    (hbase : attributeBase o name X.env (eval o X.env) = eval o X.env := by rfl)
    (hfew : ((backTo cpos (starEach (e :: es) X.env)).all (fun x => !x.1) && (backToKw cpos (keywordEach [] X.env)).all (fun x => x.1.isSome)
      && decide ((e :: es).length + ([] : List Keyword).length + (if ([] : List Keyword).isEmpty then 0 else 1) < 30)) = true := by rfl)
    (hline : (apos.endLine == cpos.line) = true := by rfl) (hs : starEach (e :: es) X.env = (false, eval e X.env) :: starEach es X.env := by rfl) (hplain : (backTo cpos (starEach es X.env)).any (·.1) = false := by rfl) :
    PE X (.Call (.Attribute o name apos) (e :: es) [] cpos) (tBM X.K T r to t) := by
  intro pins s σ H Q I h
  refine wpAny_Call_method_late hbase hfew hline rfl (thn (ho pins s σ H _ I h) fun v s1 zz9 => ?_)
  obtain ⟨x, H1, I1, r1, ty, q1⟩ := zz9
  obtain ⟨h1, h2⟩ := tyV_is I1 r1 ty
  refine ⟨T, id, pa, slot, hty, h1, h2, ?_⟩
  have hA := ha cpos pins s1 σ H1 _ I1 q1
  rw [hs] at hA ⊢
  refine Calls.callWith_builtin (by show (false || (backTo cpos (starEach es X.env)).any (·.1)) = false; rw [hplain] <;> rfl) (Calls.evalArgs_plain ?_)
  exact thn hA fun us s2 ⟨vs, H2, I2, r2, q2⟩ => hm pins s2 σ H2 x vs v us Q I2 r1 r2 q2
/- xs.append(e), list.index on a module's tuple .. are MtR facts of 06m -/
end
end L2

namespace L2
open PySem PySem.Spec PyProof.Rows

noncomputable def MtM (X : Cx) (id : String) (r : V → List V → Hp → VK → Prop) : Prop :=
  ∀ (pins : List (Addr × Obj)) (s : Shared) (σ : St) (H : Hp) (x : V) (xs : List V) (v : Value) (us : List Value) (Q : VK), Inv X pins σ H s → RelV x v → Vals xs us → r x xs H Q →
    wpAny (model X.prog X.w) X.A (call (.builtin id) (v :: us)) (EP X pins σ Q) X.xe s


theorem Vals.one : ∀ {x : V} {us : List Value}, Vals [x] us → ∃ u, us = [u] ∧ RelV x u
  | _, _, .cons r .nil => ⟨_, rfl, r⟩
theorem Vals.zero : ∀ {us : List Value}, Vals [] us → us = []
  | _, .nil => rfl
theorem Vals.eraseIdx : ∀ {xs : List V} {us : List Value} (i : Nat), Vals xs us → Vals (xs.eraseIdx i) (us.eraseIdx i)
  | _, _, _, .nil => .nil
  | _, _, 0, .cons _ t => t
  | _, _, i + 1, .cons r t => .cons r (Vals.eraseIdx i t)
theorem Vals.reverse {xs : List V} {us : List Value} (h : Vals xs us) : Vals xs.reverse us.reverse := by
  induction h with
  | nil => exact .nil
  | cons r t ih => rw [List.reverse_cons, List.reverse_cons]; exact Vals.append ih (.cons r .nil)
theorem len_erase {α : Type} : ∀ (l : List α) (i : Nat), (l.eraseIdx i).length ≤ l.length
  | [], _ => Nat.le_refl _
  | _ :: _, 0 => Nat.le_succ _
  | _ :: r, i + 1 => Nat.succ_le_succ (len_erase r i)
section
variable {X : Cx} {pins : List (Addr × Obj)} {σ : St} {H : Hp} {s : Shared} {l b : Addr} {xs ys zs : List V}


theorem Inv.lset {its its' : List Value} {n : Nat} {f : Array Value → Array Value} {t' : Nat} (I : Inv X pins σ H s) (hH : H l = some (.lst xs))
    (e : s.heap.get? l = some { cls := .type "list", data := .seq its.toArray n }) (hf : f its.toArray = its'.toArray) (hv : Vals ys its') (hz : ys.length ≤ sizeLine) :
    Inv X pins σ (upd H l (.lst ys)) { s with heap := s.heap.update l (Obj.mapSeq f), toks := t' } := by
  have q := PySem.IsL.update e f
  rw [hf] at q
  refine I.write (x := l) (e := l) (by rw [hH]; exact trivial) (.inl rfl) (fun b' u hb hu => (Heap.get?_update_other s.heap (Obj.mapSeq f) (Ne.symm hb)).trans hu) ⟨_, q⟩ ?_
  exact ⟨hz, its', _, hv, q⟩
theorem Inv.fresh (I : Inv X pins σ H s) : H s.heap.objs.size = none := I.hok.fresh (Nat.le_refl _)
theorem Inv.lstM (I : Inv X pins σ H s) (hH : H l = some (.lst xs)) : xs.length ≤ sizeLine ∧ ∃ (its : List Value) (n : Nat), Vals xs its ∧ xs.length = its.length ∧ s.heap.get? l = some { cls := .type "list", data := .seq its.toArray n } := by
  obtain ⟨z, its, n, r, e⟩ := I.hok l _ hH
  exact ⟨z, its, n, r, r.length, e⟩

end

section
variable {X : Cx}


noncomputable def rAppend : V → List V → Hp → VK → Prop := fun x vs H Q => ∃ l xs y, x = .ref l ∧ vs = [y] ∧ H l = some (.lst xs) ∧ xs.length < sizeLine ∧ Q .non (upd H l (.lst (xs ++ [y])))
theorem mt_append : MtM X "list.append" rAppend := by
  intro pins s σ H x vs v us Q I rx rv h
  obtain ⟨l, xs, y, rfl, rfl, hH, hz, q⟩ := h
  cases rx
  obtain ⟨u, rfl, ru⟩ := rv.one
  obtain ⟨z, its, n, r, hl, e⟩ := I.lstM hH
  refine call_meets F.slot_list_append ⟨_, e, rfl⟩ F.entry_list_append (F.args_list_append_2 _ _) (PySem.list_append l its.toArray n u (by rw [List.size_toArray]; omega)) ⟨e, ?_⟩
  refine ⟨.non, _, I.lset (its' := its ++ [u]) hH e (by simp) (r.append (.cons ru .nil)) ?_, rfl, q⟩
  rw [List.length_append, List.length_singleton]
  omega

noncomputable def rPopAt : V → List V → Hp → VK → Prop := fun x vs H Q => ∃ l xs i k y, x = .ref l ∧ vs = [.int i] ∧ H l = some (.lst xs) ∧ -(2 ^ 63) ≤ i ∧ i < 2 ^ 63 ∧ seqIndex? i xs.length = some k ∧ xs[k]? = some y ∧ Q y (upd H l (.lst (xs.eraseIdx k)))
theorem mt_popAt : MtM X "list.pop" rPopAt := by
  intro pins s σ H x vs v us Q I rx rv h
  obtain ⟨l, xs, i, k, y, rfl, rfl, hH, h1, h2, hk, hy, q⟩ := h
  cases rx
  obtain ⟨u, rfl, ru⟩ := rv.one
  obtain ⟨t, rfl⟩ := ru
  obtain ⟨z, its, n, r, hl, e⟩ := I.lstM hH
  obtain ⟨w, hw, rw'⟩ := r.get hy
  refine call_meets F.slot_list_pop ⟨_, e, rfl⟩ F.entry_list_pop (F.args_list_pop_2 _ _)
    (MeetsSeq.list_pop_at l its.toArray n i t k w (fitsIndex_both h1 h2) (by rw [List.size_toArray, ← hl]; exact hk) (by rw [← Array.getElem?_toList]; exact hw) (by rw [List.size_toArray]; omega)) ⟨e, ?_⟩
  refine ⟨y, _, I.lset (its' := its.eraseIdx k) hH e ?_ (r.eraseIdx k) ?_, rw', q⟩
  · show its.toArray.eraseIdxIfInBounds k = (its.eraseIdx k).toArray
    rw [List.eraseIdxIfInBounds_toArray]
  · have := len_erase xs k
    omega

noncomputable def rReverse : V → List V → Hp → VK → Prop := fun x vs H Q => ∃ l xs, x = .ref l ∧ vs = [] ∧ H l = some (.lst xs) ∧ Q .non (upd H l (.lst xs.reverse))
theorem mt_reverse : MtM X "list.reverse" rReverse := by
  intro pins s σ H x vs v us Q I rx rv h
  obtain ⟨l, xs, rfl, rfl, hH, q⟩ := h
  cases rx
  have hus := rv.zero
  subst hus
  obtain ⟨z, its, n, r, hl, e⟩ := I.lstM hH
  refine call_meets F.slot_list_reverse ⟨_, e, rfl⟩ F.entry_list_reverse (F.args_list_reverse_1 _) (AutoSeq1.list_reverse_list_0 l its.toArray n (by rw [List.size_toArray]; omega)) ⟨e, ?_⟩
  refine ⟨.non, _, I.lset (its' := its.reverse) hH e (by simp) r.reverse ?_, rfl, q⟩
  rw [List.length_reverse]
  omega

noncomputable def rClear : V → List V → Hp → VK → Prop := fun x vs H Q => ∃ l xs, x = .ref l ∧ vs = [] ∧ H l = some (.lst xs) ∧ Q .non (upd H l (.lst []))
theorem mt_clear : MtM X "list.clear" rClear := by
  intro pins s σ H x vs v us Q I rx rv h
  obtain ⟨l, xs, rfl, rfl, hH, q⟩ := h
  cases rx
  have hus := rv.zero
  subst hus
  obtain ⟨z, its, n, r, hl, e⟩ := I.lstM hH
  refine call_meets F.slot_list_clear ⟨_, e, rfl⟩ F.entry_list_clear (F.args_list_clear_1 _) (AutoSeq1.list_clear_list_0 l its.toArray n (by rw [List.size_toArray]; omega)) ⟨e, ?_⟩
  exact ⟨.non, _, I.lset (its' := []) (ys := []) hH e rfl .nil (Nat.zero_le _), rfl, q⟩



end


section
variable {prog : Program} {w : World} {A : Around} {E : Value → Shared → Prop} {s : Shared}
set_option maxRecDepth 100000 in
end

section
variable {X : Cx}
end
end L2

namespace Att
open PySem PySem.W PySem.Calls PyProof.Rows


theorem ints_of_wellAll {P : Params} {h : Heap} : ∀ (ns : List Int) (vs : List Value), WellAll P h vs (ns.map WData.int) → IntsAre vs ns := by
  intro ns
  induction ns with
  | nil =>
    intro vs w
    rw [List.map_nil] at w
    cases w
    exact .nil
  | cons n ns ih =>
    intro vs w
    rw [List.map_cons] at w
    cases w with
    | cons a b =>
      cases a
      exact .cons _ _ (ih _ b)

theorem script_of {l : OpenLaw} {n : Nat} (hn : l.most = some n) {P : Params} {h : Heap} {args : List WData} {vals : List Value}
    (hpre : l.row.toRowW.claim.pre args = true) (hwl : WellAll P h vals args) :
    ∃ a vs ns, vals = [Value.ref a] ∧ args = [WData.list (ns.map WData.int)] ∧ h.get? a = some { cls := .type "list", data := .seq vs.toArray } ∧ IntsAre vs ns ∧ ns.length ≤ n := by
  have hsh : WShape.hasAll [] args [.list .int] = true := (pre_splitW hpre).1
  have hc : l.pre.holds [] { args := args } = true := (pre_splitW hpre).2
  obtain ⟨d, r, rfl, h1, h2⟩ := hasAllW_cons hsh
  obtain rfl := hasAllW_nil h2
  obtain ⟨xs, rfl, h3⟩ := hasW_list h1
  obtain ⟨ns, rfl⟩ := items_int h3
  have hlen : ns.length ≤ n := by
    unfold OpenLaw.pre at hc
    have h4 : (WTm.not (.lt (.lit (.int (n : Int))) (.len (.arg 0)))).holds [] { args := [.list (ns.map .int)] } = true := by
      have h4 := (holds_andW hc).1
      rw [hn] at h4
      exact h4
    have h5 := condW_of h4 (w_not (w_lt w_lit (w_len_list (w_arg rfl))))
    rw [List.length_map] at h5
    refine Nat.le_of_not_lt fun q => ?_
    have q' : (n : Int) < ((ns.length : Nat) : Int) := by omega
    first
      | (rw [decide_eq_true q'] at h5; exact absurd h5 (by decide))
      | (simp at h5; omega)
  cases hwl with
  | cons w1 w2 =>
    cases w2
    cases w1 with
    | list ho hall => exact ⟨_, _, ns, rfl, rfl, ho, ints_of_wellAll ns _ hall, hlen⟩

theorem post_true (l : OpenLaw) (args : List WData) : l.row.toRowW.claim.post args (.bool true) args = true :=
  postW_of (r := l.row.toRowW) (X := (true == true))
    (show WShape.has [] (.bool true) .bool = true by first | rfl | decide | simp [WShape.has, WShape.arms, WShape.armsAll])
    (show (WTm.eq .res (.lit (.bool true))).value [] { args := args, res := some (.bool true), after := args } = some (.bool (true == true)) from w_eq_bool (w_res rfl) w_lit) rfl



section
variable {prog : Program} {w : World} {A : Around} {E : Value → Shared → Prop} {s : Shared} {K : Frag}


end
end Att

namespace L2
open PySem PySem.Spec PyProof.Rows

theorem vals_ints : ∀ {vs : List Value} {ns : List Int}, IntsAre vs ns → Vals (ns.map V.int) vs
  | _, _, .nil => .nil
  | _, _, .cons n t h => .cons ⟨t, rfl⟩ (vals_ints h)

noncomputable def Only (H : Hp) : Prop := ∀ b, H b = none ∨ ∃ o xs, H b = some (.frz o (.lst xs))

end L2

namespace L2
open PySem PySem.Spec PyProof.Rows

end L2

/- THE LAST THEOREM (shape; LID, My.* are yours):
   My.Adr: a structure of the addresses that your layer names (classes, functions); My.Txt K t: a structure (Prop) of the equations over K;
   My.txt_mk : {K} {implicit addresses ..} (e1 : nsIn K mainGlobals "law" = some (some (.ref f))) (e2 : K.lookup f = some ⟨oc, od, .func (fnOf "law" "law" params body scope dV kV doc pm an cdv ct), sl⟩) (e3 : codeIn K cdv "law" = true) .. : ∃ t, My.Txt K t

set_option maxRecDepth 100000 in
(the tactic k_is has no namespace: write k_is) -/


namespace L2
open PySem PySem.Spec PyProof.Rows


noncomputable def inClass (s : Stmt) (j : Nat) : Stmt := match s with
  | .ClassDef _ _ _ body _ _ _ _ _ _ _ => body.getD j (.Pass ⟨0, 0, 0, 0⟩)
  | _ => .Pass ⟨0, 0, 0, 0⟩
noncomputable def defArgs (s : Stmt) : Arguments := match s with
  | .FunctionDef _ a _ _ _ _ _ _ _ _ => a
  | _ => { posonlyargs := [], args := [], vararg := none, kwonlyargs := [], kw_defaults := [], kwarg := none, defaults := [] }
noncomputable def defBody (s : Stmt) : List Stmt := match s with
  | .FunctionDef _ _ b _ _ _ _ _ _ _ => b
  | _ => []
noncomputable def defScope (s : Stmt) : Scope := match s with
  | .FunctionDef _ _ _ _ _ _ sc _ _ _ => sc
  | _ => { kind := .function, names := [], isGenerator := false, isCoroutine := false }


noncomputable abbrev CX0 : CXT := fun _ _ _ _ _ _ => False
noncomputable abbrev E0 : XK := fun _ _ _ => False

structure Fun (K : PySem.W.Frag) (x qual : Str) (st : Stmt) (f : Addr) (fd : FuncData) : Prop where
  ex : ∃ (oc : Value) (od : Option Addr) (kV doc pm : Value) (an : Option Addr) (cdv ct : Value) (osl : Array (Option Value)),
    fd = PySem.W.fnOf x qual (defArgs st) (defBody st) (defScope st) .none kV doc pm an cdv ct ∧ K.lookup f = some ⟨oc, od, .func fd, osl⟩ ∧ PySem.W.codeIn K cdv qual = true
  kp : PySem.W.keepIn K (.ref f) = true
section
variable {P : Program} {w : World} {K : PySem.W.Frag} {mg : Str → Option Value} {base : Heap}
theorem Fun.binds {x qual : Str} {st : Stmt} {f : Addr} {fd : FuncData} {ps : List Str} (F : Fun K x qual st f fd)
    (h : ∀ (kV doc pm : Value) (an : Option Addr) (cdv ct : Value) (us : List Value), us.length = ps.length → bindArgs (PySem.W.fnOf x qual (defArgs st) (defBody st) (defScope st) .none kV doc pm an cdv ct) ⟨us, []⟩ = pure (ps.zip us)) : Binds K fd ps [] := by
  obtain ⟨oc, od, kV, doc, pm, an, cdv, ct, osl, rfl, lk, hcd⟩ := F.ex
  exact .all (h kV doc pm an cdv ct)
theorem fun_mk {x qual : Str} {st : Stmt} {f : Addr} {oc : Value} {od an : Option Addr} {osl : Array (Option Value)} {kV doc pm cdv ct : Value} (l : K.lookup f = some ⟨oc, od, .func (PySem.W.fnOf x qual (defArgs st) (defBody st) (defScope st) .none kV doc pm an cdv ct), osl⟩)
    (c : PySem.W.codeIn K cdv qual = true) (k : PySem.W.keepIn K (.ref f) = true) : Fun K x qual st f (PySem.W.fnOf x qual (defArgs st) (defBody st) (defScope st) .none kV doc pm an cdv ct) := ⟨⟨oc, od, kV, doc, pm, an, cdv, ct, osl, rfl, l, c⟩, k⟩
end
theorem hu_of {A : Around} {k : Nat} (hr : Room k A) : A.units + 1 < cLine := Nat.lt_of_le_of_lt (Nat.add_le_add_left (by decide : 1 ≤ 64) _) hr.units
theorem small1000 {n : Nat} (h : n ≤ 1000) : n < sizeLine := Nat.lt_of_le_of_lt h (by decide)


section
variable {X : Cx}
theorem pv (i : Nat) {x : Str} {pos : Pos} (hN : X.N[i]? = some x := by rfl) (hv : Vis X.env.scope x := by first | exact Or.inl rfl | exact Or.inr (Or.inl rfl) | exact Or.inr (Or.inr rfl)) (hd : (x == ("__debug__" : Str)) = false := by decide)
    (hcd : (x == ("__classdict__" : Str)) = false := by decide) : PE X (.Name x pos) (tVar i) := pe_var hN hv hd hcd
end


theorem ite2 {c A B : Prop} [Decidable c] (h1 : c → A) (h2 : ¬ c → B) : if c then A else B := by
  by_cases h : c
  · rw [if_pos h]
    exact h1 h
  · rw [if_neg h]
    exact h2 h

noncomputable def Same (H H' : Hp) : Prop := ∀ b o, H b = some o → H' b = some o
theorem Same.refl (H : Hp) : Same H H := fun _ _ h => h
theorem Same.trans {H H1 H2 : Hp} (a : Same H H1) (b : Same H1 H2) : Same H H2 := fun c o h => b c o (a c o h)
theorem Same.free {H H' : Hp} (e : Same H H') {l : Addr} (h : H' l = Option.none) : H l = Option.none := by
  cases q : H l with
  | none => rfl
  | some o =>
    rw [e l o q] at h
    cases h
theorem Same.seq {K : PySem.W.Frag} {H H' : Hp} {a : Addr} {xs : List V} (e : Same H H') (h : SqL K H a xs) : SqL K H' a xs := by
  rcases h with (h | ⟨o, h⟩) | h
  · exact .inl (.inl (e _ _ h))
  · exact .inl (.inr ⟨o, e _ _ h⟩)
  · exact .inr h

end L2

namespace L2
open PySem PySem.Spec PyProof.Rows


section
variable {κ : Type} [DecidableEq κ]
noncomputable def valV (kvs : List (κ × V)) (k : κ) : Option V := (kvs.find? fun kv => decide (kv.1 = k)).map (·.2)
noncomputable def putK (kvs : List (κ × V)) (k : κ) (v : V) : List (κ × V) :=
  if (kvs.any fun kv => decide (kv.1 = k)) = true then kvs.map (fun kv => if kv.1 = k then (kv.1, v) else kv) else kvs ++ [(k, v)]
noncomputable def dropK (kvs : List (κ × V)) (k : κ) : List (κ × V) := kvs.filter fun kv => decide (kv.1 ≠ k)

theorem valV_pos {p : κ × V} {r : List (κ × V)} {k : κ} (e : p.1 = k) : valV (p :: r) k = some p.2 := by simp [valV, List.find?_cons, e]
theorem valV_neg {p : κ × V} {r : List (κ × V)} {k : κ} (e : ¬ p.1 = k) : valV (p :: r) k = valV r k := by simp [valV, List.find?_cons, e]
theorem valV_any (k : κ) : ∀ kvs : List (κ × V), (kvs.any fun kv => decide (kv.1 = k)) = (valV kvs k).isSome
  | [] => rfl
  | p :: r => by
    rw [List.any_cons]
    by_cases e : p.1 = k
    · simp only [valV_pos e, decide_eq_true e, Bool.true_or, Option.isSome_some]
    · rw [valV_neg e, decide_eq_false e, Bool.false_or]; exact valV_any k r
theorem length_putK (kvs : List (κ × V)) (k : κ) (v : V) : (putK kvs k v).length ≤ kvs.length + 1 := by
  unfold putK
  split
  · rw [List.length_map]; omega
  · rw [List.length_append, List.length_cons, List.length_nil]; omega
theorem RelO.isSome_eq {o : Option V} {u : Option Value} (r : RelO o u) : o.isSome = u.isSome := by
  cases o with
  | none => cases u with
    | none => rfl
    | some _ => exact (show False from r).elim
  | some _ => cases u with
    | none => exact (show False from r).elim
    | some _ => rfl
theorem KV.val {kvs : List (κ × V)} {vs : List (κ × Value)} (r : KV kvs vs) (k : κ) : RelO (valV kvs k) (valueAt vs k) := by
  unfold KV at r
  induction r with
  | nil => exact True.intro
  | @cons p q ps qs h t ih =>
    obtain ⟨h1, h2⟩ := h
    by_cases e : p.1 = k
    · have e' : q.1 = k := h1.symm.trans e
      have b : valueAt (q :: qs) k = some q.2 := by simp [valueAt, List.find?_cons, e']
      rw [valV_pos e, b]; exact h2
    · have e' : ¬ q.1 = k := fun z => e (h1.trans z)
      have b : valueAt (q :: qs) k = valueAt qs k := by simp [valueAt, List.find?_cons, e']
      rw [valV_neg e, b]; exact ih
theorem KV.any {kvs : List (κ × V)} {vs : List (κ × Value)} (r : KV kvs vs) (k : κ) : (kvs.any fun kv => decide (kv.1 = k)) = vs.any fun kv => decide (kv.1 = k) := by
  unfold KV at r
  induction r with
  | nil => rfl
  | cons h t ih => rw [List.any_cons, List.any_cons, ih, h.1]
theorem KV.repl {kvs : List (κ × V)} {vs : List (κ × Value)} (r : KV kvs vs) (k : κ) {y : V} {u : Value} (ry : RelV y u) :
    KV (kvs.map fun kv => if kv.1 = k then (kv.1, y) else kv) (vs.map fun kv => if kv.1 = k then (kv.1, u) else kv) := by
  unfold KV at r ⊢
  induction r with
  | nil => exact .nil
  | @cons p q ps qs h t ih =>
    rw [List.map_cons, List.map_cons]
    refine .cons ?_ ih
    obtain ⟨h1, h2⟩ := h
    by_cases e : p.1 = k
    · rw [if_pos e, if_pos (h1.symm.trans e)]; exact ⟨h1, ry⟩
    · rw [if_neg e, if_neg (fun z => e (h1.trans z))]; exact ⟨h1, h2⟩
theorem KV.put {kvs : List (κ × V)} {vs : List (κ × Value)} (r : KV kvs vs) (k : κ) {y : V} {u : Value} (ry : RelV y u) : KV (putK kvs k y) (stored vs k u) := by
  unfold putK stored
  rw [r.any k]
  by_cases e : (vs.any fun kv => decide (kv.1 = k)) = true
  · rw [if_pos e, if_pos e]; exact r.repl k ry
  · rw [if_neg e, if_neg e]; exact Paired.snoc r ⟨rfl, ry⟩
theorem KV.drop {kvs : List (κ × V)} {vs : List (κ × Value)} (r : KV kvs vs) (k : κ) : KV (dropK kvs k) (without vs k) := by
  unfold KV at r ⊢
  unfold dropK without
  induction r with
  | nil => exact .nil
  | @cons p q ps qs h t ih =>
    obtain ⟨h1, h2⟩ := h
    rw [List.filter_cons, List.filter_cons]
    by_cases e : p.1 = k
    · have a : ¬ decide (p.1 ≠ k) = true := by simp [e]
      have b : ¬ decide (q.1 ≠ k) = true := by simp [h1.symm.trans e]
      rw [if_neg a, if_neg b]; exact ih
    · have e' : ¬ q.1 = k := fun z => e (h1.trans z)
      have a : decide (p.1 ≠ k) = true := by simp [e]
      have b : decide (q.1 ≠ k) = true := by simp [e']
      rw [if_pos a, if_pos b]; exact .cons ⟨h1, h2⟩ ih
theorem KV.length {kvs : List (κ × V)} {vs : List (κ × Value)} (r : KV kvs vs) : kvs.length = vs.length := Paired.length r
theorem dropK_le (kvs : List (κ × V)) (k : κ) : (dropK kvs k).length ≤ kvs.length := List.length_filter_le _ _
end



theorem kV_is {P : Program} {w : World} {k : Key} {u : Value} (r : RelV (kV k) u) : (mixKind P w).is k u = true := by
  cases k with
  | inl i => obtain ⟨t, e⟩ := (show ∃ t, u = Value.int i t from r); subst e; exact mixKind_int P w i t
  | inr x => obtain ⟨t, e⟩ := (show ∃ t, u = Value.str x t from r); subst e; exact mixKind_str P w x t
theorem items_are {P : Program} {w : World} : ∀ {ks : List Key} {us : List Value}, Vals (ks.map kV) us → ItemsAre (mixKind P w) ks us
  | [], _, r => by rw [List.map_nil] at r; cases r; exact .nil
  | k :: ks, _, r => by
    rw [List.map_cons] at r
    cases r with
    | cons h t => exact .cons (kV_is h) (items_are t)

noncomputable abbrev KT (H : Hp) : List (List Key × V) → List (List Key × Addr × Value) → Prop := Paired fun p q => p.1 = q.1 ∧ H q.2.1 = some (.tup (p.1.map kV)) ∧ RelV p.2 q.2.2
theorem KT.val {H : Hp} {kvs : List (List Key × V)} {xs : List (List Key × Addr × Value)} (r : KT H kvs xs) (k : List Key) : RelO (valV kvs k) ((atKey xs k).map (·.2)) := by
  induction r with
  | nil => exact True.intro
  | @cons p q ps qs h t ih =>
    obtain ⟨h1, _, h2⟩ := h
    by_cases e : p.1 = k
    · have e' : q.1 = k := h1.symm.trans e
      have b : atKey (q :: qs) k = some q.2 := by simp [atKey, List.find?_cons, e']
      rw [valV_pos e, b]; exact h2
    · have e' : ¬ q.1 = k := fun z => e (h1.trans z)
      have b : atKey (q :: qs) k = atKey qs k := by simp [atKey, List.find?_cons, e']
      rw [valV_neg e, b]; exact ih
theorem KT.repl {H : Hp} {kvs : List (List Key × V)} {xs : List (List Key × Addr × Value)} (r : KT H kvs xs) (k : List Key) {y : V} {u : Value} (ry : RelV y u) :
    KT H (kvs.map fun kv => if kv.1 = k then (kv.1, y) else kv) (xs.map (putAt k u)) := by
  induction r with
  | nil => exact .nil
  | @cons p q ps qs h t ih =>
    rw [List.map_cons, List.map_cons]
    refine .cons ?_ ih
    obtain ⟨h1, h2, h3⟩ := h
    unfold putAt
    by_cases e : p.1 = k
    · rw [if_pos e, if_pos (h1.symm.trans e)]; exact ⟨h1, h2, ry⟩
    · rw [if_neg e, if_neg (fun z => e (h1.trans z))]; exact ⟨h1, h2, h3⟩
theorem KT.put {H : Hp} {kvs : List (List Key × V)} {xs : List (List Key × Addr × Value)} (r : KT H kvs xs) (k : List Key) {b : Addr} {y : V} {u : Value} (hb : H b = some (.tup (k.map kV))) (ry : RelV y u) :
    KT H (putK kvs k y) (storedH xs k b u) := by
  have e : (kvs.any fun kv => decide (kv.1 = k)) = (atKey xs k).isSome := by
    rw [valV_any, (r.val k).isSome_eq, Option.isSome_map]
  unfold putK storedH
  rw [e]
  by_cases q : (atKey xs k).isSome = true
  · rw [if_pos q, if_pos q]; exact r.repl k ry
  · rw [if_neg q, if_neg q]; exact Paired.snoc r ⟨rfl, hb, ry⟩
theorem KT.keeps {H H' : Hp} {kvs : List (List Key × V)} {xs : List (List Key × Addr × Value)} (r : KT H kvs xs) (ht : ∀ b ys, H b = some (.tup ys) → H' b = some (.tup ys)) : KT H' kvs xs :=
  Paired.mapP r fun _ _ z => ⟨z.1, ht _ _ z.2.1, z.2.2⟩

section
variable {P : Program} {w : World} {H : Hp} {h : Heap} {a : Addr}
theorem rd_of {u : HO} (ok : HOk P w H h) (e : Rd H a u) : ObjOk P w H h a u := e.ok ok
theorem dk_rd {kvs : List (Key × V)} (ok : HOk P w H h) (e : Rd H a (.dK kvs)) : kvs.length ≤ sizeLine ∧ (a == sysModules) = false ∧ ∃ vs, KV kvs vs ∧ h.DictOf (mixKind P w) a vs :=
  show ObjOk P w H h a (.dK kvs) from rd_of ok e
theorem dk_of {kvs : List (Key × V)} (ok : HOk P w H h) (e : H a = some (.dK kvs)) : kvs.length ≤ sizeLine ∧ (a == sysModules) = false ∧ ∃ vs, KV kvs vs ∧ h.DictOf (mixKind P w) a vs := dk_rd ok (.inl e)
theorem key_of {ks : List Key} (ok : HOk P w H h) (e : H a = some (.tup (ks.map kV))) : (tupleKind (mixKind P w)).is h ks a := by
  obtain ⟨_, its, r, o, h1, h2, n, h3⟩ := (show ObjOk P w H h a (.tup (ks.map kV)) from ok a _ e)
  exact ⟨o, its.toArray, n, h1, h2, h3, by simpa using items_are r⟩
theorem dt_rd {kvs : List (List Key × V)} (ok : HOk P w H h) (e : Rd H a (.dT kvs)) : kvs.length ≤ sizeLine ∧ (a == sysModules) = false ∧
    ∃ xs, KT H kvs xs ∧ h.DictOfH (tupleKind (mixKind P w)) a xs := by
  obtain ⟨z, y, xs, r, o, es, ep, h1, h2, h3, h4, h5⟩ := (show ObjOk P w H h a (.dT kvs) from rd_of ok e)
  refine ⟨z, y, xs, r, o, es, ep, h1, h2, h3, h4, fun x hx => ?_, h5⟩
  have all : ∀ {l : List (List Key × V)} {m : List (List Key × Addr × Value)}, KT H l m → ∀ x ∈ m, (tupleKind (mixKind P w)).is h x.1 x.2.1 := by
    intro l m q
    induction q with
    | nil => intro x hx; exact nomatch hx
    | @cons p q ps qs hq t ih =>
      intro x hx
      rcases List.mem_cons.mp hx with e | hx
      · subst e
        exact key_of ok (by rw [← hq.1]; exact hq.2.1)
      · exact ih x hx
  exact all r x hx
theorem dt_of {kvs : List (List Key × V)} (ok : HOk P w H h) (e : H a = some (.dT kvs)) : kvs.length ≤ sizeLine ∧ (a == sysModules) = false ∧
    ∃ xs, KT H kvs xs ∧ h.DictOfH (tupleKind (mixKind P w)) a xs := dt_rd ok (.inl e)
end

noncomputable def DGet (H : Hp) (a : Addr) (y : V) (r : Option V) : Prop :=
  (∃ kvs k, Rd H a (.dK kvs) ∧ y = kV k ∧ r = valV kvs k) ∨ ∃ kvs k b, Rd H a (.dT kvs) ∧ y = .ref b ∧ H b = some (.tup (k.map kV)) ∧ r = valV kvs k
noncomputable def DPut (H : Hp) (a : Addr) (y v : V) (H' : Hp) : Prop :=
  (∃ kvs k, H a = some (.dK kvs) ∧ y = kV k ∧ kvs.length < sizeLine ∧ H' = upd H a (.dK (putK kvs k v))) ∨
  ∃ kvs k b, H a = some (.dT kvs) ∧ y = .ref b ∧ H b = some (.tup (k.map kV)) ∧ kvs.length < sizeLine ∧ H' = upd H a (.dT (putK kvs k v))
theorem DGet.k {H : Hp} {a : Addr} {kvs : List (Key × V)} {k : Key} (e : H a = some (.dK kvs)) : DGet H a (kV k) (valV kvs k) := .inl ⟨kvs, k, .inl e, rfl, rfl⟩
theorem DPut.k {H : Hp} {a : Addr} {kvs : List (Key × V)} {k : Key} {v : V} (e : H a = some (.dK kvs)) (hl : kvs.length < sizeLine) : DPut H a (kV k) v (upd H a (.dK (putK kvs k v))) := .inl ⟨kvs, k, e, rfl, hl, rfl⟩
section
variable {X : Cx} {pins : List (Addr × Obj)} {σ : St} {H : Hp} {s : Shared} {a : Addr} {y v : V} {u r : Value} {o : Option V} {A : Around} {E : Value → Shared → Prop}

theorem Inv.big (I : Inv X pins σ H s) : sysModules < s.heap.objs.size := by
  have h : mainGlobals < s.heap.objs.size := (I.mod.glob.keeps I.bk).lt
  exact Nat.lt_trans (by decide) h

theorem d_getItem {Q : Value → Shared → Prop} (hu : A.units + 1 < cLine) (I : Inv X pins σ H s) (g : DGet H a y (some v)) (ry : RelV y u) (h : ∀ w' s', Inv X pins σ H s' → RelV v w' → Q w' s') :
    wpAny (model X.prog X.w) A (getItem (.ref a) u) Q E s := by
  rcases g with ⟨kvs, k, e, ey, l⟩ | ⟨kvs, k, b, e, ey, eb, l⟩
  · subst ey
    obtain ⟨z, hd, vs, rel, dd⟩ := dk_rd I.hok e
    obtain ⟨w', hw, rw'⟩ := RelO.some_of (v := v) (o := valueAt vs k) (by rw [l]; exact rel.val k)
    exact wpAny_getItem_of (kV_is ry) dd.mapOf hw (h w' _ (I.tok _) rw')
  · subst ey
    cases (show u = Value.ref b from ry)
    obtain ⟨z, hd, xs, rel, dd⟩ := dt_rd I.hok e
    obtain ⟨w', hw, rw'⟩ := RelO.some_of (v := v) (o := (atKey xs k).map (·.2)) (by rw [l]; exact rel.val k)
    obtain ⟨p, hp, hp2⟩ := Option.map_eq_some_iff.mp hw
    refine wpAny_getItem_heap (tupleKind_room_in1 hu) (key_of I.hok eb) dd hp ?_
    rw [hp2]
    exact h w' _ (I.tok _) rw'
theorem d_in {Q : Value → Shared → Prop} (hu : A.units + 1 < cLine) (I : Inv X pins σ H s) (g : DGet H a y o) (ry : RelV y u) (h : ∀ s', Inv X pins σ H s' → Q (.bool o.isSome) s') :
    wpAny (model X.prog X.w) A (compareOp .In u (.ref a)) Q E s := by
  rcases g with ⟨kvs, k, e, ey, l⟩ | ⟨kvs, k, b, e, ey, eb, l⟩
  · subst ey
    obtain ⟨z, hd, vs, rel, dd⟩ := dk_rd I.hok e
    refine wpAny_in_of (kV_is ry) hd dd.mapOf ?_
    rw [← (rel.val k).isSome_eq, ← l]
    exact h _ (I.tok _)
  · subst ey
    cases (show u = Value.ref b from ry)
    obtain ⟨z, hd, xs, rel, dd⟩ := dt_rd I.hok e
    refine wpAny_in_heap (tupleKind_room_in1 hu) (key_of I.hok eb) hd dd ?_
    have q := (rel.val k).isSome_eq
    rw [Option.isSome_map] at q
    rw [← q, ← l]
    exact h _ (I.tok _)
theorem d_notIn {Q : Value → Shared → Prop} (hu : A.units + 1 < cLine) (I : Inv X pins σ H s) (g : DGet H a y o) (ry : RelV y u) (h : ∀ s', Inv X pins σ H s' → Q (.bool (!o.isSome)) s') :
    wpAny (model X.prog X.w) A (compareOp .NotIn u (.ref a)) Q E s := by
  rcases g with ⟨kvs, k, e, ey, l⟩ | ⟨kvs, k, b, e, ey, eb, l⟩
  · subst ey
    obtain ⟨z, hd, vs, rel, dd⟩ := dk_rd I.hok e
    refine wpAny_notIn_of (kV_is ry) hd dd.mapOf ?_
    rw [← (rel.val k).isSome_eq, ← l]
    exact h _ (I.tok _)
  · subst ey
    cases (show u = Value.ref b from ry)
    obtain ⟨z, hd, xs, rel, dd⟩ := dt_rd I.hok e
    refine wpAny_notIn_heap (tupleKind_room_in1 hu) (key_of I.hok eb) hd dd ?_
    have q := (rel.val k).isSome_eq
    rw [Option.isSome_map] at q
    rw [← q, ← l]
    exact h _ (I.tok _)
theorem d_write {h' : Heap} {t' : Nat} {ob : HO} (I : Inv X pins σ H s) (mu : Mut (H a)) (hs : Heap.SameBut a s.heap h') (he : ∃ q, h'.get? a = some q) (new : ObjOk X.prog X.w (upd H a ob) h' a ob) :
    Inv X pins σ (upd H a ob) { s with heap := h', toks := t' } :=
  I.write (x := a) (e := a) mu (.inl rfl) (fun b q hb z => (hs.2 b hb).trans z) he new
theorem dk_new {P : Program} {w : World} {H' : Hp} {h' : Heap} {kvs : List (Key × V)} {vs : List (Key × Value)} (z : kvs.length ≤ sizeLine) (hd : (a == sysModules) = false) (rel : KV kvs vs) (dd : h'.DictOf (mixKind P w) a vs) :
    ObjOk P w H' h' a (.dK kvs) := ⟨z, hd, vs, rel, dd⟩
theorem d_setItem {H' : Hp} {Q : Unit → Shared → Prop} (hu : A.units + 1 < cLine) (I : Inv X pins σ H s) (g : DPut H a y v H') (ry : RelV y u) (rv : RelV v r) (h : ∀ s', Inv X pins σ H' s' → Q () s') :
    wpAny (model X.prog X.w) A (setItem (.ref a) u r) Q E s := by
  rcases g with ⟨kvs, k, e, ey, l, eH⟩ | ⟨kvs, k, b, e, ey, eb, l, eH⟩
  · subst ey eH
    obtain ⟨z, hd, vs, rel, dd⟩ := dk_of I.hok e
    have hz : vs.length ≤ sizeLine := by rw [← rel.length]; exact z
    have hl : (putK kvs k v).length ≤ sizeLine := by have := length_putK kvs k v; omega
    refine wpAny_setItem_pairs (hsz := hz) (kV_is ry) dd fun h' dd' hs => h _ ?_
    have he : ∃ q, h'.get? a = some q := let ⟨q, _, _, hq, _⟩ := dd'; ⟨q, hq⟩
    exact d_write I (by rw [e]; exact True.intro) hs he (dk_new hl hd (rel.put k rv) dd')
  · subst ey eH
    cases (show u = Value.ref b from ry)
    obtain ⟨z, hd, xs, rel, dd⟩ := dt_of I.hok e
    have hz : xs.length ≤ sizeLine := by rw [← Paired.length rel]; exact z
    have hl : (putK kvs k v).length ≤ sizeLine := by have := length_putK kvs k v; omega
    refine wpAny_setItem_heap (hsz := hz) (tupleKind_room_in1 hu) (key_of I.hok eb) dd fun h' dd' hs => h _ ?_
    obtain ⟨q, es, ep, hq, h2, h3, h4, _, h5⟩ := dd'
    refine d_write I (by rw [e]; exact True.intro) hs ⟨q, hq⟩ ⟨hl, hd, _, (rel.put k eb rv).keeps fun c ys ec => ?_, q, es, ep, hq, h2, h3, h4, h5⟩
    rw [upd_ne (ne_of ec e (fun z => nomatch z))]
    exact ec
end

section
variable {X : Cx} {pins : List (Addr × Obj)} {σ : St} {H : Hp} {s : Shared} {a : Addr} {kvs : List (Key × V)} {k : Key} {u : Value} {A : Around} {E : Value → Shared → Prop}
theorem d_pop {v : V} {more : List Value} {Q : Value → Shared → Prop} (I : Inv X pins σ H s) (e : H a = some (.dK kvs)) (ry : RelV (kV k) u) (l : valV kvs k = some v) (hm : more = [] ∨ ∃ x, more = [x])
    (h : ∀ w' s', Inv X pins σ (upd H a (.dK (dropK kvs k))) s' → RelV v w' → Q w' s') : wpAny (model X.prog X.w) A (call (.builtin "dict.pop") (.ref a :: u :: more)) Q E s := by
  obtain ⟨z, hd, vs, rel, dd⟩ := dk_of I.hok e
  obtain ⟨w', hw, rw'⟩ := RelO.some_of (v := v) (o := valueAt vs k) (by rw [← l]; exact rel.val k)
  have hp : (keyPart u).isSome = true := by
    cases k with
    | inl i => obtain ⟨t, q⟩ := (show ∃ t, u = Value.int i t from ry); subst q; rfl
    | inr x => obtain ⟨t, q⟩ := (show ∃ t, u = Value.str x t from ry); subst q; rfl
  have ha : argsOk "dict.pop" ⟨.ref a :: u :: more, []⟩ := by
    rcases hm with q | ⟨x, q⟩
    · subst q; exact PySem.F.args_dict_pop_2 _ _
    · subst q; exact PySem.F.args_dict_pop_3 _ _ _
  refine call_meetsIn PySem.F.slot_dict_pop dd.typeIs PySem.F.entry_dict_pop ha (meets_dict_pop_there (mixKind X.prog X.w) a (kV_is ry) more hm hp)
    ⟨vs, w', dd, by rw [← rel.length]; exact z, hw, fun h' dd' hs => h w' _ ?_ rw'⟩
  have he : ∃ q, h'.get? a = some q := let ⟨q, _, _, hq, _⟩ := dd'; ⟨q, hq⟩
  exact d_write I (by rw [e]; exact True.intro) hs he (dk_new (Nat.le_trans (dropK_le kvs k) z) hd (rel.drop k) dd')
theorem d_len {Q : Value → Shared → Prop} (I : Inv X pins σ H s) (e : Rd H a (.dK kvs)) (h : ∀ t s', Inv X pins σ H s' → Q (.int kvs.length t) s') : wpAny (model X.prog X.w) A (call (.builtin "len") [.ref a]) Q E s := by
  obtain ⟨z, hd, vs, rel, dd⟩ := dk_rd I.hok e
  refine call_len_dict hd dd (by rw [← rel.length]; rw [sizeLine_eq] at z; omega) ?_
  rw [← rel.length]
  exact h _ _ (I.tok _)
end



noncomputable def NoSl (i : Expr) : Prop := ∀ ov iv, subscripted i false ov iv = operate [ov, iv] (getItem ov iv)
theorem subD_of {prog : Program} {w : World} {A : Around} {E : Value → Shared → Prop} {s : Shared} {env : Env} {value slice : Expr} {pos : Pos} {T id : String} {Q : Value → Shared → Prop}
    (hl : typeLookup (.type T) "__getitem__" = pure (some (.builtin id))) (hs : NoSl slice)
    (h : wpAny (model prog w) A (eval value env) (fun o s₁ => wpAny (model prog w) A (eval slice env) (fun i s₂ => s₂.TypeIs o T ∧ wpAny (model prog w) A (getItem o i) Q E s₂) E s₁) E s) :
    wpAny (model prog w) A (eval (.Subscript value slice pos) env) Q E s := by
  refine Subscript_ (wpAny_mono h (fun o s₁ h₁ => wpAny_mono h₁ (fun i s₂ h₂ => ?_) fun _ _ x => x) fun _ _ x => x)
  obtain ⟨hT, h₂⟩ := h₂
  unfold subscriptTail
  refine wpAny_bind ?_
  rw [getitemInPython_of_ne hT.not_modules]
  refine wpAny_bind (wpAny_specialOf hT hl ?_)
  have fin : wpAny (model prog w) A (subscripted slice false o i) (fun r s₃ => wpAny (model prog w) A (letTemporaryGo value o r >>= fun _ => pure r) Q E s₃) E s₂ := by
    rw [hs o i]
    exact wpAny_operating (wpAny_mono h₂ (fun r s₃ h₃ => wpAny_bind (wpAny_letTemporaryGo (wpAny_pure h₃))) fun _ _ x => x)
  first
    | exact wpAny_pure (wpAny_bind fin)
    | exact wpAny_bind (wpAny_pure (wpAny_bind fin))
    | exact wpAny_bind fin

theorem dict_typeIs {X : Cx} {pins : List (Addr × Obj)} {σ : St} {H : Hp} {s : Shared} {a : Addr} {y : V} {o : Option V} (I : Inv X pins σ H s) (g : DGet H a y o) : s.TypeIs (.ref a) "dict" := by
  rcases g with ⟨kvs, k, e, _, _⟩ | ⟨kvs, k, b, e, _, _, _⟩
  · obtain ⟨_, _, vs, _, dd⟩ := dk_rd I.hok e
    exact dd.typeIs
  · obtain ⟨_, _, xs, _, dd⟩ := dt_rd I.hok e
    exact dd.typeIs
noncomputable def tDGet (td ty : TE) : TE := fun σ H Q => td σ H fun x H1 => ty σ H1 fun y H2 => ∃ a v, x = .ref a ∧ DGet H2 a y (some v) ∧ Q v H2
noncomputable def tDIn (ty td : TE) : TE := fun σ H Q => ty σ H fun y H1 => td σ H1 fun x H2 => ∃ a o, x = .ref a ∧ DGet H2 a y o ∧ Q (.bl o.isSome) H2
noncomputable def tDNotIn (ty td : TE) : TE := fun σ H Q => ty σ H fun y H1 => td σ H1 fun x H2 => ∃ a o, x = .ref a ∧ DGet H2 a y o ∧ Q (.bl (!o.isSome)) H2
noncomputable def sDPut (td ty tv : TE) : TS := fun D σ H => tv σ H fun v H1 => td σ H1 fun x H2 => ty σ H2 fun y H3 => ∃ a H4, x = .ref a ∧ DPut H3 a y v H4 ∧ D.nx σ H4
section
variable {X : Cx} {o i e value : Expr} {pos pos' tpos : Pos} {td ty tv : TE}
theorem pe_dget (hu : X.A.units + 1 < cLine) (ho : PE X o td) (hi : PE X i ty) (hs : NoSl i) : PE X (.Subscript o i pos) (tDGet td ty) := by
  intro pins s σ H Q I h
  refine subD_of PySem.F.slot_dict_getitem.lookup hs (thn (ho pins s σ H _ I h) fun u s1 ⟨x, H1, I1, rx, q1⟩ => thn (hi pins s1 σ H1 _ I1 q1) fun iv s2 zz9 => ?_)
  obtain ⟨y, H2, I2, ry, a, v, ex, g, q2⟩ := zz9
  subst ex
  obtain rfl : u = Value.ref a := rx
  exact ⟨dict_typeIs I2 g, d_getItem hu I2 g ry fun w' s3 I3 rw' => ⟨v, H2, I3, rw', q2⟩⟩
theorem pc_din (hu : X.A.units + 1 < cLine) (hi : PE X i ty) (ho : PE X o td) : PC X .In i o (tDIn ty td) := by
  intro pins s σ H Q I h
  refine thn (hi pins s σ H _ I h) fun iv s1 ⟨y, H1, I1, ry, q1⟩ => thn (ho pins s1 σ H1 _ I1 q1) fun u s2 zz9 => ?_
  obtain ⟨x, H2, I2, rx, a, ov, ex, g, q2⟩ := zz9
  subst ex
  obtain rfl : u = Value.ref a := rx
  exact d_in hu I2 g ry fun s3 I3 => ⟨.bl ov.isSome, H2, I3, rfl, q2⟩
theorem pc_dnotin (hu : X.A.units + 1 < cLine) (hi : PE X i ty) (ho : PE X o td) : PC X .NotIn i o (tDNotIn ty td) := by
  intro pins s σ H Q I h
  refine thn (hi pins s σ H _ I h) fun iv s1 ⟨y, H1, I1, ry, q1⟩ => thn (ho pins s1 σ H1 _ I1 q1) fun u s2 zz9 => ?_
  obtain ⟨x, H2, I2, rx, a, ov, ex, g, q2⟩ := zz9
  subst ex
  obtain rfl : u = Value.ref a := rx
  exact d_notIn hu I2 g ry fun s3 I3 => ⟨.bl (!ov.isSome), H2, I3, rfl, q2⟩
theorem ps_dput (hu : X.A.units + 1 < cLine) (ho : PE X o td) (hi : PE X i ty) (hv : PE X value tv) (hs : swapsWith value (some (.Subscript o i pos')) pos.line X.env = pure false) :
    PS X (.Assign [.Subscript o i pos'] value pos) (sDPut td ty tv) := by
  intro pins s σ H D I h
  refine wpAny_Assign_Subscript (thn (hv pins s σ H _ I h) fun r s1 ⟨v, H1, I1, rv, q1⟩ => thn (ho pins s1 σ H1 _ I1 q1) fun u s2 ⟨x, H2, I2, rx, q2⟩ => thn (hi pins s2 σ H2 _ I2 q2) fun iv s3 ⟨y, H3, I3, ry, a, H4, ex, g, q3⟩ => ?_) hs
  subst ex
  obtain rfl : u = Value.ref a := rx
  exact d_setItem hu I3 g ry rv fun s4 I4 => ⟨σ, H4, I4, q3⟩
end



theorem dk_empty {P : Program} {w : World} {H : Hp} (h : Heap) (hb : sysModules < h.objs.size) : ObjOk P w H (h.push { cls := .type "dict", data := .dict #[] }) h.objs.size (.dK []) :=
  ⟨Nat.zero_le _, beq_eq_false_iff_ne.mpr (Ne.symm (Nat.ne_of_lt hb)), [], .nil, Heap.DictOf.new h⟩
noncomputable def tDNewK : TE := fun _ H Q => ∀ p, H p = none → Q (.ref p) (upd H p (.dK []))
section
variable {X : Cx} {pos : Pos}
theorem pe_dnewK : PE X (.Dict [] [] pos) tDNewK := fun pins s σ H Q I h =>
  wpAny_Dict_empty ⟨.ref s.heap.objs.size, _, I.laid (a := s.heap.objs.size) (o := .dK []) (t' := s.toks) (fun _ _ q => Heap.get?_push_of_some _ q) (Nat.le_refl _) (dk_empty s.heap I.big), rfl, h _ (I.hok.fresh (Nat.le_refl _))⟩
end

noncomputable def tPairs : List (TE × TE) → St → Hp → (List (V × V) → Hp → Prop) → Prop
  | [], _, H, Q => Q [] H
  | (tk, tv) :: r, σ, H, Q => tk σ H fun x H1 => tv σ H1 fun y H2 => tPairs r σ H2 fun ps H3 => Q ((x, y) :: ps) H3
noncomputable abbrev VV : List (V × V) → List (Value × Value) → Prop := Paired fun p q => RelV p.1 q.1 ∧ RelV p.2 q.2
noncomputable def PPs (X : Cx) (pos : Pos) (keys : List (Option Expr)) (values : List Expr) (trs : List (TE × TE)) : Prop :=
  ∀ (pins : List (Addr × Obj)) (s : Shared) (σ : St) (H : Hp) (Q : List (V × V) → Hp → Prop), Inv X pins σ H s → tPairs trs σ H Q →
    wpAny (model X.prog X.w) X.A (evalPairs (pairTrees keys values X.env pos)) (fun vs s' => ∃ ps H', Inv X pins σ H' s' ∧ VV ps vs ∧ Q ps H') X.xe s
theorem pps_nil {X : Cx} {pos : Pos} : PPs X pos [] [] [] := fun pins s σ H Q I h => pairTrees_nil_walk ⟨[], H, I, .nil, h⟩
theorem pps_cons {X : Cx} {pos : Pos} {k v : Expr} {ks : List (Option Expr)} {vs : List Expr} {tk tv : TE} {trs : List (TE × TE)} (hk : PE X k tk) (hv : PE X v tv) (hr : PPs X pos ks vs trs) :
    PPs X pos (some k :: ks) (v :: vs) ((tk, tv) :: trs) := fun pins s σ H Q I h =>
  pairTrees_cons_walk (thn (hk pins s σ H _ I h) fun u s1 ⟨x, H1, I1, rx, q1⟩ => thn (hv pins s1 σ H1 _ I1 q1) fun w2 s2 ⟨y, H2, I2, ry, q2⟩ =>
    thn (hr pins s2 σ H2 _ I2 q2) fun ws s3 ⟨ps, H3, I3, rel, q3⟩ => ⟨(x, y) :: ps, H3, I3, .cons ⟨rx, ry⟩ rel, q3⟩)

noncomputable def mergeK (kvs more : List (Key × V)) : List (Key × V) := more.foldl (fun acc kv => putK acc kv.1 kv.2) kvs
theorem KV.merge : ∀ {more : List (Key × V)} {rs : List (Key × Value)} {kvs : List (Key × V)} {vs : List (Key × Value)}, KV more rs → KV kvs vs → KV (mergeK kvs more) (merged vs rs) := by
  intro more rs kvs vs r
  unfold KV at r
  induction r generalizing kvs vs with
  | nil => intro q; exact q
  | @cons p q ps qs h t ih =>
    intro r0
    have e : KV (putK kvs p.1 p.2) (stored vs q.1 q.2) := by
      have := r0.put p.1 h.2
      rw [← h.1]; exact this
    exact ih e
theorem length_mergeK : ∀ (more kvs : List (Key × V)), (mergeK kvs more).length ≤ kvs.length + more.length
  | [], kvs => by show kvs.length ≤ kvs.length + 0; omega
  | p :: r, kvs => by
    have h1 := length_mergeK r (putK kvs p.1 p.2)
    have h2 := length_putK kvs p.1 p.2
    show (mergeK (putK kvs p.1 p.2) r).length ≤ _
    rw [List.length_cons]; omega
theorem carries_of {P : Program} {w : World} : ∀ {kvs : List (Key × V)} {ws : List (Value × Value)}, VV (kvs.map fun kv => (kV kv.1, kv.2)) ws → ∃ rs, Carries (mixKind P w) ws rs ∧ KV kvs rs
  | [], _, r => by rw [List.map_nil] at r; cases r; exact ⟨[], True.intro, .nil⟩
  | p :: kvs, _, r => by
    rw [List.map_cons] at r
    cases r with
    | @cons a b as bs h t =>
      obtain ⟨rs, c, q⟩ := carries_of (P := P) (w := w) t
      obtain ⟨b1, b2⟩ := b
      exact ⟨(p.1, b2) :: rs, ⟨kV_is h.1, rfl, c⟩, .cons ⟨rfl, h.2⟩ q⟩
noncomputable def tDisp (trs : List (TE × TE)) : TE := fun σ H Q => ∀ p, H p = none → tPairs trs σ (upd H p (.dK [])) fun ps H2 => H2 p = some (.dK []) ∧ ∃ kvs : List (Key × V), ps = kvs.map (fun kv => (kV kv.1, kv.2)) ∧ kvs.length ≤ 15 ∧ Q (.ref p) (upd H2 p (.dK (mergeK [] kvs)))
theorem pe_disp {X : Cx} {pos : Pos} {keys : List (Option Expr)} {values : List Expr} {trs : List (TE × TE)} (h : PPs X pos keys values trs) (hall : keys.all (·.isSome) = true) (hl : keys.length = values.length) (h0 : keys ≠ [])
    (h15 : keys.length ≤ 15) : PE X (.Dict keys values pos) (tDisp trs) := by
  intro pins s σ H Q I q
  have hn := I.hok.fresh (Nat.le_refl s.heap.objs.size)
  have I1 := I.laid (a := s.heap.objs.size) (o := .dK []) (h' := s.heap.push { cls := .type "dict", data := .dict #[] }) (t' := s.toks) (fun _ _ q => Heap.get?_push_of_some _ q) (Nat.le_refl _) (dk_empty s.heap I.big)
  refine wpAny_Dict_walk (knd := mixKind X.prog X.w) hall hl h0 h15 (thn (h pins _ σ _ _ I1 (q _ hn)) fun ws s2 zz9 => ?_)
  obtain ⟨ps, H2, I2, rel, e, kvs, ep, lk, q2⟩ := zz9
  subst ep
  obtain ⟨rs, c, rk⟩ := carries_of (P := X.prog) (w := X.w) rel
  obtain ⟨z, hd, vs0, r0, dd⟩ := dk_of I2.hok e
  cases r0
  refine ⟨rs, c, dd, fun h' dd' hs => ⟨.ref s.heap.objs.size, _, ?_, rfl, q2⟩⟩
  have hz : (mergeK [] kvs).length ≤ sizeLine := by
    have h1 := length_mergeK kvs []
    rw [List.length_nil] at h1
    rw [sizeLine_eq]; omega
  have he : ∃ q, h'.get? s.heap.objs.size = some q := let ⟨q, _, _, hq, _⟩ := dd'; ⟨q, hq⟩
  exact d_write I2 (by rw [e]; exact True.intro) hs he (dk_new hz hd (rk.merge .nil) dd')




structure M1 (X : Cx) (o : Expr) (m : Str) (apos : Pos) (e : Expr) (cpos : Pos) : Prop where
  base : attributeBase o m X.env (eval o X.env) = eval o X.env
  few : ((backTo cpos (starEach [e] X.env)).all (fun x => !x.1) && (backToKw cpos (keywordEach [] X.env)).all (fun x => x.1.isSome)
    && decide (([e] : List Expr).length + ([] : List Keyword).length + (if ([] : List Keyword).isEmpty then 0 else 1) < 30)) = true
  line : (apos.endLine == cpos.line) = true
  trees : backTo cpos (starEach [e] X.env) = [(false, eval e X.env)]
noncomputable def IsD (H : Hp) (a : Addr) : Prop := (∃ kvs, Rd H a (.dK kvs)) ∨ ∃ kvs, Rd H a (.dT kvs)
theorem isD_at {X : Cx} {pins : List (Addr × Obj)} {σ : St} {H : Hp} {s : Shared} {a : Addr} (I : Inv X pins σ H s) (d : IsD H a) :
    s.TypeIs (.ref a) "dict" ∧ (∀ b, Value.ref a = .ref b → ∃ ob, s.heap.get? b = some ob ∧ ob.dict = none) ∧ (a == sysModules) = false := by
  rcases d with ⟨kvs, e⟩ | ⟨kvs, e⟩
  · obtain ⟨_, hd, vs, _, dd⟩ := dk_rd I.hok e
    refine ⟨dd.typeIs, fun b q => ?_, hd⟩
    cases q
    obtain ⟨ob, _, _, h1, h2, _⟩ := dd
    exact ⟨ob, h1, h2.2.1⟩
  · obtain ⟨_, hd, xs, _, dd⟩ := dt_rd I.hok e
    refine ⟨dd.typeIs, fun b q => ?_, hd⟩
    cases q
    obtain ⟨ob, _, _, h1, h2, _⟩ := dd
    exact ⟨ob, h1, h2.2.1⟩

section
variable {X : Cx} {pins : List (Addr × Obj)} {σ : St} {H : Hp} {s : Shared} {a : Addr} {y d : V} {u r : Value} {o : Option V} {A : Around} {E : Value → Shared → Prop}
end

noncomputable def tDPop1 (td ty : TE) : TE := fun σ H Q => td σ H fun x H1 => ∃ a, x = .ref a ∧ IsD H1 a ∧ ty σ H1 fun y H2 => ∃ kvs k v, H2 a = some (.dK kvs) ∧ y = kV k ∧ valV kvs k = some v ∧ Q v (upd H2 a (.dK (dropK kvs k)))
section
variable {X : Cx} {o e f : Expr} {apos cpos : Pos} {td ty tx : TE}
theorem pe_dpop1 (ho : PE X o td) (he : PE X e ty) (m : M1 X o "pop" apos e cpos) : PE X (.Call (.Attribute o "pop" apos) [e] [] cpos) (tDPop1 td ty) := by
  intro pins s σ H Q I h
  refine wpAny_Call_method m.base m.few m.line PySem.F.plainAttrs_dict PySem.F.slot_dict_pop PySem.F.type_dict_pop (thn (ho pins s σ H _ I h) fun u s1 zz9 => ?_)
  obtain ⟨x, H1, I1, rx, a, ex, d, q1⟩ := zz9
  subst ex
  obtain rfl : u = Value.ref a := rx
  obtain ⟨t1, t2, _⟩ := isD_at I1 d
  refine ⟨t1, t2, ?_⟩
  rw [m.trees]
  refine Calls.callWith_builtin rfl (Calls.evalArgs_plain (Calls.spliced_cons (thn (he pins s1 σ H1 _ I1 q1) fun iv s2 ⟨y, H2, I2, ry, kvs, k, v, ea, ey, l, q2⟩ => Calls.spliced_nil ?_)))
  subst ey
  exact d_pop I2 ea ry l (.inl rfl) fun w' s3 I3 rw' => ⟨v, _, I3, rw', q2⟩
end


section
variable {X : Cx} {pins : List (Addr × Obj)} {σ : St} {H : Hp} {s : Shared} {a : Addr} {kvs : List (Key × V)} {A : Around} {E : Value → Shared → Prop}
end


section
variable {X : Cx} {pins : List (Addr × Obj)} {σ : St} {H : Hp} {s : Shared} {a : Addr} {y : V} {u : Value} {A : Around} {E : Value → Shared → Prop}
end
end L2

namespace L2
open PySem PySem.Spec PyProof.Rows
section
variable {X : Cx}
theorem call_lenD : CallR X (.builtin "len") (fun xs H Q => ∃ a kvs, xs = [V.ref a] ∧ H a = some (.dK kvs) ∧ Q (.int kvs.length) H) := by
  intro pins s σ H xs us Q I r h
  obtain ⟨a, kvs, rfl, ha, q⟩ := h
  obtain ⟨u, rfl, ru⟩ := vals1 r
  cases ru
  exact d_len I (.inl ha) fun t s' I' => ⟨.int kvs.length, H, I', ⟨t, rfl⟩, q⟩
end
end L2
namespace L2
open PySem PySem.Spec PyProof.Rows

section
variable {κ : Type} [DecidableEq κ]
end
end L2
set_option Elab.async false
set_option linter.all false
set_option maxRecDepth 100000

namespace L2
open PySem PySem.Spec PyProof.Rows


structure Has (P : Program) (w : World) (K : PySem.W.Frag) (mg : Str → Option Value) (base : Heap) (CX : CXT) (k : Nat) (x : Str) (ps : List Str) (sp : Sp) : Prop where
  ex : ∃ f fd, FnOk P w K mg base CX k f fd ps sp ∧ mg x = some (.ref f) ∧ PySem.W.keepIn K (.ref f) = true ∧ Binds K fd ps []
section
variable {X : Cx} {CX : CXT} {k : Nat} {ps : List Str} {sp : Sp} {E : XK} {x : Str} {p pos : Pos} {e : Expr} {es : List Expr} {t : TA}
end


section
variable {X : Cx}
theorem op_mulB : OpR X (binaryOp .Mult) (rI IntMulOk fun i j => .int (i * j)) := opI fun _ _ _ _ _ _ _ hc q => mul_int q hc

end


section
variable {X : Cx}
end

section
variable {X : Cx} {st : Stmt} {rest : List Stmt} {t u : TS}
end


theorem NoSeer.hid {h : Heap} {a : Addr} {o : Obj} {H : Hp} (hN : h.NoSeer) (ha : h.get? a = some o) (hc : o.cls = .type "list") (hA : ∀ b, H b ≠ none → b = a)
    (nsK : ∀ {b : Addr} {m : Str → Option Value}, h.Ns b m → (hidT h H).Ns b m) : (hidT h H).NoSeer where
  statics := let ⟨mc, x, y⟩ := hN.statics; ⟨mc, nsK x, y⟩
  mods := let ⟨mc, x, y⟩ := hN.mods; ⟨mc, nsK x, y⟩
  imp := let ⟨mc, x, y⟩ := hN.imp; ⟨mc, nsK x, y⟩
  main := by
    obtain ⟨mg, bm, ob, x, y, z, c, d⟩ := hN.main
    refine ⟨mg, bm, ob, nsK x, y, hidT_get z ?_, c, d⟩
    cases q : H bm with
    | none => rfl
    | some u =>
      have e : bm = a := hA bm (by rw [q]; simp)
      subst e
      rw [ha] at z
      cases z
      rw [hc] at c
      exact absurd c (by decide)

theorem law_callB {P : Program} {w : World} {K : PySem.W.Frag} {mg mb : Str → Option Value} {CX : CXT} {k : Nat} {fa a : Addr} {fd : FuncData} {x : Str} {sp : Sp} {s₁ : Shared} {vs : List Value} {ns : List Int}
    (KX : K.In s₁.heap) (hns : s₁.heap.Ns mainGlobals mg) (hb : s₁.heap.Ns builtinsNs mb) (hbb : ∀ x : Str, x ≠ "__name__" → mb x = bootBuiltins x) (hlim : s₁.heap.NoLimit) (hsee : s₁.heap.NoSeer) (hg : s₁.gens = #[])
    (ha : s₁.heap.get? a = some { cls := .type "list", data := .seq vs.toArray }) (hi : IntsAre vs ns) (hl : ns.length ≤ sizeLine) (hr : Room k callerA)
    (F : ∀ base : Heap, K.In base → base.Ns mainGlobals mg → base.NoSeer → FnOk P w K mg base CX k fa fd [x] sp) (hbind : ∀ (s : Shared) (u : Value), BindsTo s fd ⟨[u], []⟩ [(x, u)])
    (hsp : ∀ H : Hp, Only H → SqL K H a (ns.map V.int) → sp [.ref a] H (fun v _ => v = .bl true) fun _ _ _ => False)
    (hCX : ∀ H e s', CX [] H s₁ (fun _ _ _ => False) e s' → False) :
    codeAny (model P w) callerA (.call (.ref fa) ⟨[.ref a], []⟩) (fun r s' => r = .ok (.ret (.bool true)) ∧ OldK s₁.heap s'.heap ∧ s'.os = s₁.os ∧ AllBare s'.gens) s₁ := by
  have rv := vals_ints hi
  have lenV := hi.length
  have core : ∀ H : Hp, Only H → SqL K H a (ns.map V.int) → HOk P w H s₁.heap → (∀ b, H b ≠ none → b = a) → (H a ≠ none → K.lookup a = none) →
      codeAny (model P w) callerA (.call (.ref fa) ⟨[.ref a], []⟩) (fun r s' => r = .ok (.ret (.bool true)) ∧ OldK s₁.heap s'.heap ∧ s'.os = s₁.os ∧ AllBare s'.gens) s₁ := by
    intro H hO hS hok hA hK
    have base_of : ∀ {b : Addr} {o : Obj}, s₁.heap.get? b = some o → H b = none → (hidT s₁.heap H).get? b = some o := fun e n => hidT_get e n
    have noA : ∀ {b : Addr} {o : Obj} {es : Array DictEntry} {ep : Nat}, s₁.heap.get? b = some o → o.data = .dict es ep → H b = none := fun {b o es ep} e d => by
      cases q : H b with
      | none => rfl
      | some u =>
        have e' : b = a := hA b (by rw [q]; simp)
        subst e'
        rw [ha] at e; cases e
        have d' : Data.seq vs.toArray _ = Data.dict es ep := d
        cases d'
    have nsK : ∀ {b : Addr} {m : Str → Option Value}, s₁.heap.Ns b m → (hidT s₁.heap H).Ns b m := fun {b m} ⟨o, es, ep, e, d, r⟩ => ⟨o, es, ep, base_of e (noA e d), d, r⟩
    have hKb : K.In (hidT s₁.heap H) := fun b o e => base_of (KX b o e) (by
      cases q : H b with
      | none => rfl
      | some u =>
        have e' : b = a := hA b (by rw [q]; simp)
        subst e'
        rw [hK (by rw [q]; simp)] at e; cases e)
    have hM : Mod K mg (hidT s₁.heap H) := ⟨hKb, nsK hns, ⟨mb, nsK hb, hbb⟩, let ⟨mc, h1, h2⟩ := hlim; ⟨mc, nsK h1, h2⟩⟩
    have hSe : (hidT s₁.heap H).NoSeer := NoSeer.hid hsee ha rfl hA nsK
    have e0 : Env0 P w K mg (hidT s₁.heap H) callerA [] s₁ H := ⟨rfl, hM, fun b o e => of_hidT e, Nat.le_of_eq (hidT_size _ _), trivial, fun b hb => absurd (show b ∈ ([] : List Addr) from hb) (by simp), hok, .of_eq hg⟩
    refine codeAny_mono ((F _ hKb (nsK hns) hSe).run callerA [] s₁ H ⟨[.ref a], []⟩ [.ref a] [.ref a] _ _ hr e0 (hbind s₁ (.ref a)) (.cons rfl .nil) (hsp H hO hS)) fun r s' h => ?_
    cases r with
    | error e => exact (hCX H e s' h).elim
    | ok fl =>
      cases fl with
      | next => exact False.elim h
      | brk => exact False.elim h
      | cont => exact False.elim h
      | ret u =>
        obtain ⟨v, H', os, bare, un, hok', r', q⟩ := h
        have q' : v = .bl true := q
        subst q'
        obtain rfl : u = Value.bool true := r'
        refine ⟨rfl, OldK.of_keep fun b o e => ?_, os, bare⟩
        cases q : H b with
        | none => exact un.keep b o e q (by intro z; exact absurd (show b ∈ ([] : List Addr) from z) (by simp)) (by simp)
        | some u =>
          rcases hO b with z | ⟨ob, xs, z⟩
          · rw [q] at z; cases z
          · have z2 := un.frzs b ob _ z
            obtain ⟨e1, _⟩ := hok b _ z
            obtain ⟨e2, _⟩ := hok' b _ z2
            rw [e] at e1; cases e1
            exact e2
  cases hk : K.lookup a with
  | some o =>
    have e := KX a o hk
    rw [ha] at e
    cases e
    refine core (fun _ => none) (fun _ => .inl rfl) (.inr ⟨_, vs.toArray, _, hk, rfl, rfl, rfl, by rw [List.size_toArray, lenV]; exact hl, by simpa using rv⟩) (fun b u z => by have z' : (none : Option HO) = some u := z; cases z') (fun b z => absurd rfl z) fun z => absurd rfl z
  | none =>
    refine core (fun b => if b = a then some (.frz { cls := .type "list", data := .seq vs.toArray } (.lst (ns.map V.int))) else none) (fun b => ?_) (.inl (.inr ⟨{ cls := .type "list", data := .seq vs.toArray }, if_pos rfl⟩)) (fun b u z => ?_) (fun b z => ?_) fun _ => hk
    · by_cases hb : b = a
      · exact .inr ⟨_, _, if_pos hb⟩
      · exact .inl (if_neg hb)
    · by_cases hb : b = a
      · have z' := (if_pos hb).symm.trans z
        cases z'
        subst hb
        exact ⟨ha, by rw [List.length_map]; exact hl, vs, _, rv, ha⟩
      · have z' := (if_neg hb).symm.trans z
        cases z'
    · by_cases hb : b = a
      · exact hb
      · exact absurd (if_neg hb) z


structure Script (n : Nat) (ns : List Int) : Prop where
  len : ns.length ≤ n
  bits : ∀ i ∈ ns, Builtin.Int.intBits i ≤ 2 ^ 20

theorem bits_of_lay {ns : List Int} (h : PySem.W.WData.layableAll [PySem.W.WData.list (ns.map PySem.W.WData.int)] = true) : ∀ i ∈ ns, Builtin.Int.intBits i ≤ 2 ^ 20 := fun i hi => by
  have h1 := (PySem.W.layW_cons h).1
  have h2 := PySem.W.layableW_item h1 (.int i) (List.mem_map.mpr ⟨i, hi, rfl⟩)
  have h3 := (PySem.W.layableW_iff.mp h2).2.2
  simpa only [PySem.W.WData.weight, Builtin.Int.intBits] using h3

section
open PySem.W PySem.Calls
theorem attach_callB {l : PySem.W.OpenLaw} {n : Nat} {q : Program} {loose : List Str} {XP : (Str → Option Value) → Heap → Prop} {YP : World → Heap → Prop} {d : DefRec}
    (hn : l.most = some n) (hdf : d.params.defaults = [])
    (call : ∀ (w : World) (s₀ s₁ : Shared) (mg mb : Str → Option Value) (fa : Addr) (o : Obj) (pm cd doc : Value) (a : Addr) (vs : List Value) (ns : List Int),
      PySem.W.Ground q loose [] XP w s₀ mg mb s₁.heap → YP w s₁.heap →
      s₁.heap.get? fa = some o → o.data = .func (docDef d.name d.params d.body d.scope pm cd doc) → s₁.heap.CodeRec cd d.name → mg d.name = some (.ref fa) →
      s₁.heap.get? a = some { cls := .type "list", data := .seq vs.toArray } → IntsAre vs ns → Script n ns → s₁.gens = #[] →
      codeAny (model l.prog w) callerA (.call (.ref fa) ⟨[.ref a], []⟩) (fun r s' => r = .ok (.ret (.bool true)) ∧ OldK s₁.heap s'.heap ∧ s'.os = s₁.os ∧ AllBare s'.gens) s₁) :
    PySem.W.WalkO q loose XP YP l.row.toRowW d [] (fun f vs => PySem.call f vs) := by
  intro w s₀ s₁ mg mb G Y fa o pm cd doc dV kV ho hd hcd hD hmg hg args vals as hpre hlay hrd hwl hlo
  obtain rfl : dV = .none := Dflts.none hD hdf
  obtain rfl : kV = .none := Dflts.noKw hD
  obtain ⟨a, vs, ns, rfl, rfl, hobj, hints, hlen⟩ := Att.script_of hn hpre hwl
  refine enter_call (codeAny_mono (call w s₀ s₁ mg mb fa o pm cd doc a vs ns G Y ho (fd_plain hd) hcd hmg hobj hints ⟨hlen, bits_of_lay hlay⟩ hg) fun r s' hq => ?_)
  obtain ⟨rfl, h2, h3, h4⟩ := hq
  exact ⟨.inl ⟨.bool true, .bool true, [], rfl, fun _ => rfl, .bool true, Att.post_true l _, fun _ => ⟨List.Pairwise.nil, fun _ hm => (nomatch hm)⟩⟩, h2, h3, h4⟩

end
theorem walk_ofB {l : PySem.W.OpenLaw} {n k : Nat} {q : Program} {loose : List Str} {XP : (Str → Option Value) → Heap → Prop} {YP : World → Heap → Prop} {d : DefRec} {K : Params → PySem.W.Frag} {CX : CXT} {sp : PySem.W.Frag → Sp} {x : Str}
    (hn : l.most = some n) (hn2 : n ≤ sizeLine) (hdf : d.params.defaults = []) (hr : Room k callerA) (him : importsNone q = true)
    (hY : ∀ (w : World) (h : Heap), YP w h → (K w.params).In h)
    (F : ∀ (w : World) (mg : Str → Option Value) (fa : Addr) (h : Heap), (K w.params).In h → h.Ns mainGlobals mg → mg d.name = some (.ref fa) →
      ∃ fd : FuncData, (∀ (s : Shared) (u : Value), BindsTo s fd ⟨[u], []⟩ [(x, u)]) ∧
        ∀ base : Heap, (K w.params).In base → base.Ns mainGlobals mg → base.NoSeer → FnOk l.prog w (K w.params) mg base CX k fa fd [x] (sp (K w.params)))
    (hsp : ∀ (K : PySem.W.Frag) (H : Hp) (a : Addr) (ns : List Int), Script n ns → Only H → SqL K H a (ns.map V.int) → sp K [.ref a] H (fun v _ => v = .bl true) fun _ _ _ => False)
    (hCX : ∀ (H : Hp) (s : Shared) (e : Value) (s' : Shared), CX [] H s (fun _ _ _ => False) e s' → False) :
    PySem.W.WalkO q loose XP YP l.row.toRowW d [] (fun f vs => PySem.call f vs) := by
  refine attach_callB hn hdf fun w s₀ s₁ mg mb fa o pm cd doc a vs ns G Y ho hd hcd hmg hobj hints hsc hg => ?_
  have KX := hY w _ Y
  obtain ⟨fd, hb, hF⟩ := F w mg fa _ KX G.T.g hmg
  exact law_callB KX G.T.g G.T.b G.T.builtins G.T.nolimit (G.T.seer him) hg hobj hints (Nat.le_trans hsc.len hn2) hr hF hb (fun H hO hS => hsp (K w.params) H a ns hsc hO hS) fun H e s' => hCX H s₁ e s'
end L2

set_option Elab.async false
set_option linter.all false
set_option maxRecDepth 100000

namespace L2
open PySem PySem.Spec PySem.Calls PyProof.Rows



structure Air (B : Heap) (l : List Env) (a : Addr) (h : Heap) : Prop where
  stay : B.StaysIn h
  new : B.get? a = none
  frm : h.FunFrames B l
noncomputable def Trc (B : Heap) (a : Addr) (cls a0 : Value) (m : Option Value) (h : Heap) : Prop := match m with
  | none => ∃ oe vs, h.get? a = some oe ∧ oe.cls = cls ∧ oe.data = .fields vs ∧ vs[0]? = some a0 ∧ vs[1]? = some .none
  | some fl => h.TracedAtW B a cls a0 fl

noncomputable def NoD (a : Addr) (h : Heap) : Prop := ∃ oe vs, h.get? a = some oe ∧ oe.dict = none ∧ oe.data = .fields vs ∧ vs[2]? = some .none
theorem dict_mapFields (o : Obj) (f : Array Value → Array Value) : (Obj.mapFields f o).dict = o.dict := by
  obtain ⟨c, d, dt, sl⟩ := o
  cases dt <;> rfl
section
variable {M : Model} {A : Around} {E : Value → Shared → Prop} {s : Shared} {B : Heap} {env : Env} {outer l : List Env} {L a : Addr} {cls a0 : Value} {m : Option Value}
theorem entryD {base : Heap} {e : Addr} {oe : Obj} {vs : Array Value} {head : Value} {hadNext : Bool} {Q : Unit → Shared → Prop}
    (hfr : A.frames = some (env :: outer)) (hl : s.heap.FunFrames base (env :: outer)) (hf : env.frame = some L)
    (he : s.heap.get? e = some oe) (hkb : base.StaysIn s.heap) (hen : base.get? e = none) (hd : oe.data = .fields vs) (hsz : 1 < vs.size) (h0 : vs[0]? = some a0) (hnd : oe.dict = none) (h2 : vs[2]? = some .none)
    (h : ∀ h', Heap.NotedW base (env :: outer) e oe.cls a0 (rawInt L) s.heap h' → NoD e h' → Q () { s with heap := h' }) :
    wpAny M A (do let a ← frameOf env; let pl ← entryPlaceOf L hadNext; let b ← EntryCells.newEntry head a .none (rawInt L) .none pl; setField (.ref e) 1 b) Q E s := by
  have hene : e ∉ (env :: outer).filterMap (·.frame) := fun hm => by
    obtain ⟨_, o, ho, hnf⟩ := hl.mem hm
    rw [he] at ho; injection ho with ho; subst ho; exact hnf vs hd
  refine wpAny_bind (wpAny_frameOf_fun hfr hl hf fun h₁ hs₁ => ?_)
  refine wpAny_bind (wpAny_entryPlaceOf fun pl hpl => ?_)
  unfold EntryCells.newEntry newFields
  refine wpAny_bind (wpAny_newObj_type ?_ (hpl.sizeOk5 _ _ _ _ _))
  have he₁ : h₁.get? e = some oe := (hs₁.2.1 e hene).trans he
  have kb₁ : base.StaysIn h₁ := fun b o hbo => (hs₁.2.1 b fun hm => by rw [(hl.mem hm).1] at hbo; cases hbo).trans (hkb b o hbo)
  have he₂ := Heap.get?_push_of_some (h := h₁) { cls := .type "traceback", dict := none, data := .fields ([head, .ref L, .none, rawInt L, .none] ++ (if pl.isEmpty then List.replicate 6 Value.none else pl)).toArray } he₁
  have hTe : h₁.objs.size ≠ e := Nat.ne_of_gt (Heap.lt_size he₁)
  have hd₃ := Obj.data_mapFields hd (·.setIfInBounds 1 (Value.ref h₁.objs.size))
  have he₃ := Heap.get?_update_self (Obj.mapFields (·.setIfInBounds 1 (Value.ref h₁.objs.size))) he₂ (Obj.isFreed_of_fields hd₃)
  refine wpAny_setField he₂ hd hsz (h _ ?_ ⟨_, _, he₃, (dict_mapFields _ _).trans hnd, hd₃, by rw [Array.getElem?_setIfInBounds_ne (by decide)]; exact h2⟩)
  have hT₃ := (Heap.get?_update_other (h₁.push { cls := .type "traceback", dict := none, data := .fields ([head, .ref L, .none, rawInt L, .none] ++ (if pl.isEmpty then List.replicate 6 Value.none else pl)).toArray })
    (Obj.mapFields (·.setIfInBounds 1 (Value.ref h₁.objs.size))) (Ne.symm hTe)).trans (Heap.get?_push_size h₁ rfl)
  have keep : ∀ b o, b ≠ e → h₁.get? b = some o →
      ((h₁.push { cls := .type "traceback", dict := none, data := .fields ([head, .ref L, .none, rawInt L, .none] ++ (if pl.isEmpty then List.replicate 6 Value.none else pl)).toArray }).update e (Obj.mapFields (·.setIfInBounds 1 (Value.ref h₁.objs.size)))).get? b = some o :=
    fun b o hbe hb => by
      rw [Heap.get?_update_other _ _ (Ne.symm hbe)]
      exact Heap.get?_push_of_some _ hb
  have noRecord : ∀ b o, s.heap.get? b = some o → (∀ vs, o.data ≠ .fields vs) → b ≠ e := fun b o hb hnf q => by
    rw [q, he] at hb; injection hb with hb; subst hb; exact hnf vs hd
  refine ⟨fun b o hbo => keep b o (fun q => by rw [q, hen] at hbo; cases hbo) (kb₁ b o hbo), hl.of_keeps fun b o hb hnf => ?_, ?_, fun b o hb hnf => ?_⟩
  · obtain ⟨sl, hs⟩ := hs₁.2.2 b o hb
    exact ⟨_, keep b _ (noRecord b o hb hnf) hs, rfl⟩
  · exact ⟨_, _, h₁.objs.size, _, _, he₃, ⟨Obj.cls_mapFields _ _, by rw [Array.getElem?_setIfInBounds_ne (by decide)]; exact h0⟩, hd₃, by simp [hsz], kb₁.fresh, hTe, hT₃, rfl, by first | (simp; done) | (rcases hpl with rfl | ⟨_, _, _, _, _, _, _, rfl⟩ <;> simp)⟩
  · obtain ⟨sl, hs⟩ := hs₁.2.2 b o hb
    exact ⟨sl, keep b _ (noRecord b o hb hnf) hs⟩
theorem note_ok {Q : Unit → Shared → Prop} (hfr : A.frames = some (env :: outer)) (hf : env.frame = some L) (air : Air B (env :: outer) a s.heap) (tr : Trc B a cls a0 m s.heap) (nd : NoD a s.heap)
    (hm : m = none ∨ m = some .none ∨ m = some (rawInt L))
    (hQ : ∀ h', Air B (env :: outer) a h' → h'.TracedAtW B a cls a0 (rawInt L) → NoD a h' → s.heap.UpToSlots h' → Q () { s with heap := h' }) : wpAny M A (noteFrame (.ref a) env) Q E s := by
  obtain ⟨ox, vx, hox, hdx, hvx, hv2⟩ := nd
  rcases hm with rfl | rfl | rfl
  · obtain ⟨oe, vs, he, rfl, hd, h0, h1⟩ := tr
    rw [hox] at he; cases he
    have e2 := hd.symm.trans hvx
    injection e2 with e2
    subst e2
    unfold noteFrame
    simp only [hf]
    refine wpAny_bind (wpAny_field hox hd h1 ?_)
    rw [if_neg (by decide)]
    refine entryD hfr air.frm hf hox air.stay air.new hd (Array.getElem?_eq_some_iff.mp h1).1 h0 hdx hv2 fun h' hN hn => ?_
    obtain ⟨k1, k2, k3, k4⟩ := hN
    exact hQ h' ⟨k1, air.new, k2⟩ k3 hn k4
  · obtain ⟨oe, vs, T, oT, ts, he, ⟨hcls, h0⟩, hd, h1, hnT, hTe, hT, hdT, h3⟩ := tr
    rw [hox] at he; cases he
    have e2 := hd.symm.trans hvx
    injection e2 with e2
    subst e2
    subst hcls
    unfold noteFrame
    simp only [hf]
    refine wpAny_bind (wpAny_field hox hd h1 ?_)
    rw [if_pos (show (Value.ref T != Value.none) = true from by simp)]
    refine wpAny_bind (wpAny_field hT hdT h3 ?_)
    rw [if_neg (show ¬ ((Value.none == rawInt L) = true) from by simp [rawInt])]
    refine wpAny_bind (wpAny_setField hT hdT (Array.getElem?_eq_some_iff.mp h3).1 ?_)
    have other : ∀ b, b ≠ T → (s.heap.update T (Obj.mapFields (·.setIfInBounds 3 Value.none))).get? b = s.heap.get? b := fun b hb => Heap.get?_update_other _ _ (Ne.symm hb)
    have noRecord : ∀ b o, s.heap.get? b = some o → (∀ vs, o.data ≠ .fields vs) → b ≠ T := fun b o hb hnf q => by
      rw [q, hT] at hb; injection hb with hb; subst hb; exact hnf ts hdT
    refine entryD hfr (air.frm.of_keeps fun b o hb hnf => ⟨o, (other b (noRecord b o hb hnf)).trans hb, rfl⟩) hf ((other a (Ne.symm hTe)).trans hox)
      (fun b o hbo => (other b fun q => by rw [q, hnT] at hbo; cases hbo).trans (air.stay b o hbo)) air.new hd (Array.getElem?_eq_some_iff.mp h1).1 h0 hdx hv2
      fun h' ⟨x1, x2, x3, x4⟩ hn => hQ h' ⟨x1, air.new, x2⟩ x3 hn fun b o hb hnf => x4 b o ((other b (noRecord b o hb hnf)).trans hb) hnf
  · refine wpAny_noteFrame_againW hf tr ?_
    exact hQ s.heap air tr ⟨ox, vx, hox, hdx, hvx, hv2⟩ (.refl _)

theorem flight_ok {f : Option Addr} {fl : Value} {Q : Unit → Shared → Prop} (air : Air B l a s.heap) (tr : s.heap.TracedAtW B a cls a0 fl) (nd : NoD a s.heap)
    (hQ : ∀ h', Air B l a h' → h'.TracedAtW B a cls a0 (f.elim Value.none fun x => rawInt x) → NoD a h' → s.heap.UpToSlots h' → Q () { s with heap := h' }) : wpAny M A (setFlight (.ref a) f) Q E s := by
  obtain ⟨oe, vs, T, oT, ts, he, hcls, hd, h1, hnT, hTe, hT, hdT, h3⟩ := tr
  obtain ⟨ox, vx, hox, hdx, hvx, hv2⟩ := nd
  have hsz3 : 3 < ts.size := (Array.getElem?_eq_some_iff.mp h3).1
  have other : ∀ b, b ≠ T → (s.heap.update T (Obj.mapFields (·.setIfInBounds 3 (f.elim Value.none fun x => rawInt x)))).get? b = s.heap.get? b :=
    fun b hb => Heap.get?_update_other _ _ (Ne.symm hb)
  have noRecord : ∀ b o, s.heap.get? b = some o → (∀ vs, o.data ≠ .fields vs) → b ≠ T := fun b o hb hnf q => by
    rw [q, hT] at hb; injection hb with hb; subst hb; exact hnf ts hdT
  unfold setFlight
  refine wpAny_bind (wpAny_field he hd h1 ?_)
  rw [if_pos (show (Value.ref T != Value.none) = true from by simp)]
  refine wpAny_setField hT hdT hsz3 (hQ _ ⟨fun b o hbo => (other b fun q => by rw [q, hnT] at hbo; cases hbo).trans (air.stay b o hbo), air.new,
    air.frm.of_keeps fun b o hb hnf => ⟨o, (other b (noRecord b o hb hnf)).trans hb, rfl⟩⟩ ?_ ⟨ox, vx, (other a (Ne.symm hTe)).trans hox, hdx, hvx, hv2⟩ fun b o hb hnf => ⟨o.slots, (other b (noRecord b o hb hnf)).trans hb⟩)
  exact ⟨oe, vs, T, _, _, (other a (Ne.symm hTe)).trans he, hcls, hd, h1, hnT, hTe, Heap.get?_update_self _ hT (Obj.isFreed_of_fields (Obj.data_mapFields hdT _)), Obj.data_mapFields hdT _, by simp [hsz3]⟩
end


noncomputable def Old (X : Cx) (H : Hp) (b : Addr) : Prop :=
  H b ≠ none ∨ (∃ o, X.s₀.heap.get? b = some o) ∨ (∃ x, X.env.cells.lookup x = some b) ∨ (∃ p ∈ X.pn, p.1 = b) ∨ b = X.env.locals
noncomputable def Cov (X : Cx) (H : Hp) (B h : Heap) : Prop := ∀ b o, h.get? b = some o → Old X H b → b ∉ frs X.stack → B.get? b = some o
structure Exn (X : Cx) (H : Hp) (B : Heap) (a : Addr) (cls a0 : Value) (m : Option Value) (h : Heap) : Prop where
  air : Air B X.stack a h
  tr : Trc B a cls a0 m h
  md : m = none ∨ m = some .none ∨ m = some (rawInt X.env.locals)
  cov : Cov X H B h
  nd : NoD a h

structure Plain (X : Cx) : Prop where
  stk : X.stack = X.env :: X.outer
  frm : X.env.frame = some X.env.locals
  ex : X.ex = []
noncomputable abbrev RX := St → Hp → Value → Addr → Prop
noncomputable def XS (X : Cx) (R : RX) : Value → Shared → Prop := fun e s' =>
  ∃ a σ H B cls a0 m, e = .ref a ∧ Inv X [] σ H s' ∧ Exn X H B a cls a0 m s'.heap ∧ R σ H cls a

theorem ObjOk.get {P : Program} {w : World} {H : Hp} {h : Heap} {a : Addr} {o : HO} (x : ObjOk P w H h a o) : ∃ ob, h.get? a = some ob := by
  cases o with
  | lst xs => obtain ⟨_, _, _, _, e⟩ := x; exact ⟨_, e⟩
  | tup xs => obtain ⟨_, _, _, o, e, _⟩ := x; exact ⟨_, e⟩
  | dK kvs => obtain ⟨_, _, _, _, o, _, _, e, _⟩ := x; exact ⟨_, e⟩
  | dT kvs => obtain ⟨_, _, _, _, o, _, _, e, _⟩ := x; exact ⟨_, e⟩
  | set S n => obtain ⟨o, _, _, _, e, _⟩ := x; exact ⟨_, e⟩
  | ins C dx fs => obtain ⟨_, _, _, e, _⟩ := x; exact ⟨_, e⟩
  | own y => exact x
  | xd fs => obtain ⟨_, ⟨_, _, _, e, _⟩, _⟩ := x; exact ⟨_, e⟩
  | rng lo hi => obtain ⟨_, _, _, e⟩ := x; exact ⟨_, e⟩
  | frz ob u => obtain ⟨e, _⟩ := x; exact ⟨_, e⟩
  | tbl ps => exact ⟨_, (show h.get? a = some _ from x)⟩
  | met f y => exact ⟨_, (show h.get? a = some _ from x)⟩
  | ext φ => exact x.2.1

section
variable {X : Cx} {σ : St} {H : Hp} {s : Shared} {B h' : Heap}
theorem Inv.old (P : Plain X) {pins : List (Addr × Obj)} (I : Inv X pins σ H s) {b : Addr} (o : Old X H b) : ∃ ob, s.heap.get? b = some ob := by
  rcases o with o | ⟨ob, e⟩ | ⟨x, e⟩ | ⟨p, hp, rfl⟩ | rfl
  · cases q : H b with
    | none => exact absurd q o
    | some u => exact (I.hok b u q).get
  · exact I.base.there b ob e (by rw [P.ex]; simp)
  · obtain ⟨v, ob, e, _⟩ := I.cell x b e
    exact ⟨ob, e⟩
  · exact ⟨_, (I.pin p (List.mem_append_left _ hp)).1⟩
  · obtain ⟨m, ⟨o, _, _, e, _⟩, _⟩ := I.loc
    exact ⟨o, e⟩
theorem Inv.redo (I : Inv X [] σ H s) (cov : Cov X H B s.heap) (frm : s.heap.FunFrames B X.stack) (st : B.StaysIn h') (up : s.heap.UpToSlots h') : Inv X [] σ H { s with heap := h' } := by
  have kp : ∀ b o, s.heap.get? b = some o → Old X H b → b ∉ frs X.stack → h'.get? b = some o := fun b o e q n => st _ _ (cov b o e q n)
  have sl : ∀ b o, s.heap.get? b = some o → b ∈ frs X.stack → ∃ sl, h'.get? b = some { o with slots := sl } := fun b o e n => by
    obtain ⟨_, o', e', hd⟩ := frm.mem n
    rw [e] at e'; cases e'
    exact up b o e hd
  have any : ∀ b o, s.heap.get? b = some o → Old X H b → ∃ sl, h'.get? b = some { o with slots := sl } := fun b o e q => by
    by_cases n : b ∈ frs X.stack
    · exact sl b o e n
    · exact ⟨o.slots, kp b o e q n⟩
  have cellK : ∀ x c, X.env.cells.lookup x = some c → ∀ v, s.heap.IsCell c v → h'.IsCell c v := fun x c e v ⟨o, ho, hd⟩ => by
    obtain ⟨sl, q⟩ := any c o ho (.inr (.inr (.inl ⟨x, e⟩)))
    exact ⟨_, q, hd⟩
  refine ⟨I.ok, I.os, I.bare, ⟨fun b o e n hb hx => ?_, fun b o e n hb hx => ?_, I.base.free, fun b o e hx => ?_, I.base.tups, I.base.frzs, I.base.tbls⟩, ?_, fun x c e => ?_, I.free, I.freeC, fun p hp => ?_, fun b u q => ?_, I.len⟩
  · refine kp b o (I.base.keep b o e n hb hx) (.inr (.inl ⟨o, e⟩)) fun z => ?_
    rcases List.mem_cons.mp (I.stkSub b z) with q | q
    · exact absurd q (Nat.ne_of_lt (Nat.lt_of_lt_of_le (Heap.lt_size e) I.ok.above))
    · exact hb q
  · obtain ⟨s1, e1⟩ := I.base.slot b o e n hb hx
    obtain ⟨s2, e2⟩ := any b _ e1 (.inr (.inl ⟨o, e⟩))
    exact ⟨s2, e2⟩
  · obtain ⟨o', e1⟩ := I.base.there b o e hx
    obtain ⟨s2, e2⟩ := any b _ e1 (.inr (.inl ⟨o, e⟩))
    exact ⟨_, e2⟩
  · obtain ⟨m, hn, hl⟩ := I.loc
    refine ⟨m, up.ns hn, fun i x v e1 e2 e3 => ?_⟩
    obtain ⟨u, r, l⟩ := hl i x v e1 e2 e3
    refine ⟨u, r, ?_⟩
    rcases l with l | ⟨k, c, e, z⟩
    · exact .inl l
    · exact .inr ⟨k, c, e, cellK x c e _ z⟩
  · obtain ⟨v, z⟩ := I.cell x c e
    exact ⟨v, cellK x c e v z⟩
  · have hp' : p ∈ X.pn := by simpa using hp
    obtain ⟨e, n, ne, nf, d⟩ := I.pin p hp
    refine ⟨kp p.1 p.2 e (.inr (.inr (.inr (.inl ⟨p, hp', rfl⟩)))) fun z => ?_, n, ne, nf, d⟩
    rcases List.mem_cons.mp (I.stkSub _ z) with q | q
    · exact ne q
    · exact nf q
  · have hnn : ∀ c u, H c = some u → c ∉ frs X.stack := fun c u e z => by
      rw [I.stkFree c z] at e; cases e
    refine (I.hok b u q).stay (fun c v hc r => ?_) (fun _ r => r) fun _ _ r => r
    rcases hc with rfl | hc
    · exact kp c v r (.inl (by rw [q]; simp)) (hnn c _ q)
    · exact kp c v r (.inl (by rw [hc]; simp)) (hnn c _ hc)
theorem Cov.redo (P : Plain X) (I : Inv X [] σ H s) (cov : Cov X H B s.heap) (st : B.StaysIn h') : Cov X H B h' := fun b o e q n => by
  obtain ⟨ob, e0⟩ := I.old P q
  have e1 := cov b ob e0 q n
  have e2 := st _ _ e1
  rw [e] at e2
  cases e2
  exact e1
end

section
variable {X : Cx} {R : RX}
noncomputable def Thr (X : Cx) (R : RX) : Prop := ∀ e s', XS X R e s' → X.xe e s'
theorem Plain.wish (P : Plain X) (E : Value → Shared → Prop) : Plain (X.wish E) := ⟨P.stk, P.frm, P.ex⟩
theorem XS.unwish {E : Value → Shared → Prop} {e : Value} {s' : Shared} (h : XS (X.wish E) R e s') : XS X R e s' := by
  obtain ⟨a, σ, H, B, cls, a0, m, rfl, I, ex, r⟩ := h
  exact ⟨a, σ, H, B, cls, a0, m, rfl, I.unwish, ⟨ex.air, ex.tr, ex.md, ex.cov, ex.nd⟩, r⟩
theorem thr_self : Thr (X.wish (XS X R)) R := fun e s' h => h.unwish
theorem passes_XS (P : Plain X) (ok : X.A.frames = some X.stack) : PassesOwn (model X.prog X.w) X.A X.env (XS X R) := by
  rintro e s' ⟨a, σ, H, B, cls, a0, m, rfl, I, ex, r⟩
  have hfr : X.A.frames = some (X.env :: X.outer) := by rw [ok, P.stk]
  have air : Air B (X.env :: X.outer) a s'.heap := by have := ex.air; rw [P.stk] at this; exact this
  unfold notedBy
  refine note_ok hfr P.frm air ex.tr ex.nd ex.md fun h1 air1 tr1 nd1 up1 => ?_
  have air1' : Air B X.stack a h1 := by rw [P.stk]; exact air1
  have I1 : Inv X [] σ H { s' with heap := h1 } := I.redo ex.cov ex.air.frm air1.stay up1
  have cov1 : Cov X H B h1 := Cov.redo P I ex.cov air1.stay
  unfold cameBackBy
  obtain ⟨oe, vs, T, oT, ts, he, hcls, hd, hv1, _⟩ := id tr1
  refine wpAny_bind (wpAny_field (s := { s' with heap := h1 }) he hd hv1 ?_)
  rw [if_neg (show ¬ ((Value.ref T == Value.none) = true) from by simp)]
  rw [P.frm]
  have key : wpAny (model X.prog X.w) X.A (setFlight (.ref a) (some X.env.locals)) (fun _ s'' => XS X R (.ref a) s'') (XS X R) { s' with heap := h1 } :=
    flight_ok (s := { s' with heap := h1 }) (f := some X.env.locals) air1' tr1 nd1 fun h2 air2 tr2 nd2 up2 =>
      ⟨a, σ, H, B, cls, a0, some (rawInt X.env.locals), rfl, I1.redo cov1 air1'.frm air2.stay up2, ⟨air2, tr2, .inr (.inr rfl), Cov.redo P I1 cov1 air2.stay, nd2⟩, r⟩
  first
    | exact wpAny_bind (wpAny_pure key)
    | exact key
end


noncomputable def CXE (P : Program) (w : World) : CXT := fun outer H s E e s' => ∃ a H' B cls a0, e = .ref a ∧ s'.os = s.os ∧ AllBare s'.gens ∧ Un (frs outer) [] H H' s.heap s'.heap ∧ HOk P w H' s'.heap ∧
  Air B outer a s'.heap ∧ s'.heap.TracedAtW B a cls a0 .none ∧ NoD a s'.heap ∧ (∀ b o, s'.heap.get? b = some o → (H' b ≠ none ∨ ∃ o0, s.heap.get? b = some o0) → b ∉ frs outer → B.get? b = some o) ∧ E cls none H'
section
variable {X : Cx} {R : RX} {pins : List (Addr × Obj)} {σ : St} {H : Hp} {s s' : Shared} {e : Value} {E : XK}
theorem XS.of_call (P : Plain X) (I : Inv X pins σ H s) (h : CXE X.prog X.w X.stack H s E e s') (hE : ∀ cls H' a, E cls none H' → R σ H' cls a) : XS X R e s' := by
  obtain ⟨a, H', B, cls, a0, rfl, os, bare, un, hok, air, tr, nd, cov, q⟩ := h
  have I2 : Inv X pins σ H' s' := I.call' os un hok bare fun b z => absurd z (by simp)
  refine ⟨a, σ, H', B, cls, a0, some .none, rfl, I2.pins_of (fun p hp => absurd hp (by simp)), ⟨air, tr, .inr (.inl rfl), fun b o e0 q0 n => cov b o e0 ?_ n, nd⟩, hE _ _ _ q⟩
  rcases q0 with q0 | q0
  · exact .inl q0
  · right
    rcases q0 with ⟨ob, e⟩ | ⟨x, e⟩ | ⟨p, hp, rfl⟩ | rfl
    · exact I.base.there b ob e (by rw [P.ex]; simp)
    · obtain ⟨v, ob, e, _⟩ := I.cell x b e
      exact ⟨ob, e⟩
    · exact ⟨_, (I.pin p (List.mem_append_left _ hp)).1⟩
    · obtain ⟨m, ⟨o, _, _, e, _⟩, _⟩ := I.loc
      exact ⟨o, e⟩
theorem Thr.call (T : Thr X R) (P : Plain X) (I : Inv X pins σ H s) (h : CXE X.prog X.w X.stack H s (fun cls _ H' => ∀ a, R σ H' cls a) e s') : X.xe e s' :=
  T e s' (XS.of_call P I h fun cls H' a q => q a)
end

theorem plain_cx {CX : CXT} {P : Program} {w : World} {K : PySem.W.Frag} {mg : Str → Option Value} {base : Heap} {N : List Str} {qual : Str} {scope : Scope} {f : Addr} {cd : Value} {A : Around} {outer : List Env} {s : Shared} {H : Hp} {E : XK} :
    Plain (cxOf CX P w K mg base N qual scope f cd A outer s H E) := ⟨rfl, rfl, rfl⟩
theorem leave_ok {P : Program} {w : World} {K : PySem.W.Frag} {mg : Str → Option Value} {base : Heap} {N : List Str} {qual : Str} {scope : Scope} {f : Addr} {cd : Value} {A : Around} {outer : List Env} {s : Shared} {H : Hp} {E : XK} :
    Thr (cxOf (CXE P w) P w K mg base N qual scope f cd A outer s H E) (fun _ H' cls _ => E cls none H') := by
  rintro e s' ⟨a, σ, H', B, cls, a0, m, rfl, I, ex, r⟩
  have hfr : (A.deeper (envOfC qual scope s.heap.objs.size f cd)).frames = some (envOfC qual scope s.heap.objs.size f cd :: outer) := I.ok.frames
  show wpAny (model P w) (A.deeper (envOfC qual scope s.heap.objs.size f cd)) (leaving (envOfC qual scope s.heap.objs.size f cd) (.ref a)) (fun _ s'' => CXE P w outer H s E (.ref a) s'') (fun e' s'' => CXE P w outer H s E e' s'') s'
  unfold leaving
  refine wpAny_bind (note_ok (L := s.heap.objs.size) hfr rfl ex.air ex.tr ex.nd ex.md fun h1 air1 tr1 nd1 up1 => ?_)
  have I1 : Inv (cxOf (CXE P w) P w K mg base N qual scope f cd A outer s H E) [] σ H' { s' with heap := h1 } := I.redo ex.cov ex.air.frm air1.stay up1
  have cov1 := Cov.redo plain_cx I ex.cov air1.stay
  refine flight_ok (s := { s' with heap := h1 }) (f := none) air1 tr1 nd1 fun h2 air2 tr2 nd2 up2 => ?_
  have I2 : Inv (cxOf (CXE P w) P w K mg base N qual scope f cd A outer s H E) [] σ H' { s' with heap := h2 } := I1.redo cov1 air1.frm air2.stay up2
  have cov2 := Cov.redo plain_cx I1 cov1 air2.stay
  refine ⟨a, H', B, cls, a0, rfl, I2.os, I2.bare, I2.base, I2.hok, ⟨air2.stay, air2.new, ?_⟩, tr2, nd2, fun b o e0 q0 n => ?_, r⟩
  · obtain ⟨_, _, k⟩ := air2.frm
    exact k
  · refine cov2 b o e0 ?_ fun z => ?_
    · rcases q0 with q0 | q0
      · exact .inl q0
      · exact .inr (.inl q0)
    · rcases List.mem_cons.mp (I2.stkSub b z) with q | q
      · subst q
        rcases q0 with q0 | ⟨o0, q0⟩
        · exact q0 I2.free
        · exact absurd (Nat.lt_of_lt_of_le (Heap.lt_size q0) I2.ok.above) (Nat.lt_irrefl _)
      · exact n q
noncomputable abbrev Cx.by (X : Cx) (R : RX) : Cx := X.wish (XS X R)
theorem PSs.unthr {X : Cx} {R : RX} {st : List Stmt} {t : TS} (T : Thr X R) (h : PSs (X.by R) st t) : PSs X st t := fun pins s σ H D I hw =>
  wpAny_mono (h pins s σ H D (I.wish _) hw) (fun _ _ q => q.unwish) fun e s' q => T e s' q
noncomputable abbrev rE (E : XK) : RX := fun _ H' cls _ => E cls none H'
theorem Fun.okX {P : Program} {w : World} {K : PySem.W.Frag} {mg : Str → Option Value} {base : Heap} {x qual : Str} {st : Stmt} {f : Addr} {fd : FuncData} {N ps : List Str} {k : Nat} {sp : Sp} (F : Fun K x qual st f fd) (S : FnScope N ps (defScope st)) (len : ∀ vs H Q E, sp vs H Q E → vs.length = ps.length)
    (hbody : ∀ (cdv : Value) (A : Around) (outer : List Env) (s : Shared) (H : Hp) (vs : List V) (Q : VK) (E : XK), Room k (A.deeper (envOfC qual (defScope st) s.heap.objs.size f cdv)) → sp vs H Q E →
      ∃ t, PSs ((cxOf (CXE P w) P w K mg base N qual (defScope st) f cdv A outer s H E).by (rE E)) (defBody st) t ∧ t { nx := fun _ H' => Q .non H', rt := Q } (start N vs) H) : FnOk P w K mg base (CXE P w) (k + 1) f fd ps sp := by
  obtain ⟨oc, od, kV, doc, pm, an, cdv, ct, osl, rfl, lk, hcd⟩ := F.ex
  refine fn_of lk hcd S len fun A outer s H vs Q E hr hsp => ?_
  obtain ⟨t, h, q⟩ := hbody cdv A outer s H vs Q E hr hsp
  exact ⟨t, h.unthr leave_ok, q⟩


section
variable {X : Cx} {k : Nat} {f C : Addr} {fd : FuncData} {ps : List Str} {sp : Sp} {R : RX} {x m : Str} {p pos apos : Pos} {e o : Expr} {es : List Expr} {ta : TE} {t : TA}
theorem run_fnX {pins : List (Addr × Obj)} {σ : St} {H : Hp} {s : Shared} {Q : VK} {us : List Value} {vs : List V} (F : FnOk X.prog X.w X.K X.mg X.base (CXE X.prog X.w) k f fd ps sp) (hr : Room k X.A) (hb : Binds X.K fd ps []) (T : Thr X R) (Pl : Plain X)
    (I : Inv X pins σ H s) (r : Vals vs us) (h : sp vs H Q (fun cls _ H' => ∀ a, R σ H' cls a)) : wpAny (model X.prog X.w) X.A (call (.ref f) us) (EP X pins σ Q) X.xe s := by
  have hl : us.length = ps.length := by rw [← r.length]; exact F.len _ _ _ _ h
  have hb' := hb s us I.kIn (by rw [List.append_nil]; exact hl)
  rw [List.append_nil] at hb'
  refine wpAny_call (codeAny_mono (F.run X.A X.stack s H ⟨us, []⟩ us vs Q _ hr I.env0 hb' r h) fun r s' hq => ?_)
  cases r with
  | error e => exact T.call Pl I hq
  | ok fl =>
    cases fl with
    | ret u => exact I.after hq
    | next => exact False.elim hq
    | brk => exact False.elim hq
    | cont => exact False.elim hq
noncomputable def tCallX (sp : Sp) (R : RX) (t : TA) : TE := fun σ H Q => t σ H fun vs H1 => sp vs H1 Q (fun cls _ H' => ∀ a, R σ H' cls a)
noncomputable def tMethX (C : Addr) (m : Str) (sp : Sp) (R : RX) (ta : TE) (t : TA) : TE := fun σ H Q => ta σ H fun x H1 => ∃ a dx fs, x = .ref a ∧ H1 a = some (.ins C dx fs) ∧ fs.lookup m = none ∧
  t σ H1 fun vs H2 => sp (x :: vs) H2 Q (fun cls _ H' => ∀ a, R σ H' cls a)
theorem pe_callX (h : Has X.prog X.w X.K X.mg X.base (CXE X.prog X.w) k x ps sp) (hr : Room k X.A) (hg : Gl X x) (T : Thr X R) (Pl : Plain X) (ha : PA X (e :: es) t)
    (hdb : (x == ("__debug__" : Str)) = false := by decide) (he : starEach (e :: es) X.env = (false, eval e X.env) :: starEach es X.env := by rfl) (hpl : (backTo pos (starEach es X.env)).any (·.1) = false := by rfl) :
    PE X (.Call (.Name x p) (e :: es) [] pos) (tCallX sp R t) := by
  intro pins s σ H Q I hw
  obtain ⟨f, fd, F, hm, hk, hb⟩ := h.ex
  refine wpAny_Call_Name_kw (ld_glob I hg hm ?_ hdb)
  refine PySem.W.callWith_K (h₀ := X.base) I.ok.mod.kin hk (thn (ha pos pins s σ H _ I hw) fun us s1 ⟨vs, H1, I1, r, q⟩ => ⟨I1.kIn, ?_⟩) he hpl
  exact run_fnX F hr hb T Pl I1 r q

structure HasM (P : Program) (w : World) (K : PySem.W.Frag) (mg : Str → Option Value) (base : Heap) (CX : CXT) (k : Nat) (C : Addr) (m : Str) (ps : List Str) (sp : Sp) : Prop where
  cl : Cls K C
  ex : ∃ f fd, FnOk P w K mg base CX k f fd ps sp ∧ Meth K C m f ∧ Binds K fd ps []
theorem pe_methX {pl : Sem Bool} (h : HasM X.prog X.w X.K X.mg X.base (CXE X.prog X.w) k C m ps sp) (hr : Room k X.A) (T : Thr X R) (Pl : Plain X) (ho : PE X o ta) (ha : PA X (e :: es) t)
    (hst : starEach (e :: es) X.env = (false, eval e X.env) :: starEach es X.env := by rfl) (hpl : (backTo pos (starEach es X.env)).any (·.1) = false := by rfl)
    (ht : eval (.Call (.Attribute o m apos) (e :: es) [] pos) X.env = (do
      let ov ← eval o X.env
      standAt apos.atName
      let (f, first) ← holding [ov] (getMethod ov m pl)
      callWith pos f first (backTo pos (starEach (e :: es) X.env)) (backToKw pos (keywordEach [] X.env))) := by rfl) :
    PE X (.Call (.Attribute o m apos) (e :: es) [] pos) (tMethX C m sp R ta t) := by
  intro pins s σ H Q I hw
  obtain ⟨f, fd, F, hm, hb⟩ := h.ex
  refine PySem.W.methodCall_KW (pl := pl) (thn (ho pins s σ H _ I hw) fun u s1 ⟨x, H1, I1, rx, a, dx, fs, ex, ea, l, q⟩ => ?_) ht
  subst ex
  obtain rfl : u = Value.ref a := rx
  refine getmeth_ok I1 ea h.cl hm l ?_
  refine PySem.W.callWith_K (first := [.ref a]) (h₀ := X.base) I.ok.mod.kin hm.kp (thn (ha pos pins s1 σ H1 _ I1 q) fun us s2 ⟨vs, H2, I2, r, q2⟩ => ⟨I2.kIn, ?_⟩) hst hpl
  exact run_fnX (us := .ref a :: us) (vs := .ref a :: vs) F hr hb T Pl I2 (.cons rfl r) q2
end


abbrev bmV : List Value := [.type "ValueError", .type "Exception", .type "BaseException", .type "object"]
structure ExCls (K : PySem.W.Frag) (mg : Str → Option Value) (x : Str) (C : Addr) : Prop where
  bound : mg x = some (.ref C)
  exc : PySem.W.excIn K C bmV "ValueError.__new__" = true
theorem ExCls.obj {K : PySem.W.Frag} {mg : Str → Option Value} {x : Str} {C : Addr} (O : ExCls K mg x C) {h : Heap} (X : K.In h) :
    ∃ bm N nm q bs hdct sn sub ab col dd k0 k1 k2 k3 k5 mN, h.get? C = some (excClassObj nm q C N bs bm hdct sn sub ab col dd k0 k1 k2 k3 k5 "ValueError.__new__") ∧ h.Ns N mN ∧ mN "__init__" = none ∧ OwnTail h bmV bm := by
  have q := O.exc
  unfold PySem.W.excIn at q
  split at q
  · rename_i dd cd sl ho
    split at q
    · rename_i C' bm k0 k1 k2 k3 n k5 hm hs
      simp only [Bool.and_eq_true, beq_iff_eq, Bool.not_eq_true'] at q
      obtain ⟨⟨⟨⟨⟨rfl, rfl⟩, hdel⟩, ht⟩, hok⟩, hni⟩ := q
      obtain ⟨nm, bs, mro, ns, qn, hd, sn, sub, ab, col, del⟩ := cd
      dsimp only at hm hdel hok hni
      subst hm hdel
      have hsl : sl = #[k0, k1, k2, k3, some (.builtin "ValueError.__new__"), k5] := by
        obtain ⟨l⟩ := sl
        simp only at hs
        rw [hs]
      subst hsl
      exact ⟨bm, ns, nm, qn, bs, hd, sn, sub, ab, col, dd, k0, k1, k2, k3, k5, _, X _ _ ho, .of_isNs (PySem.W.isNs_of_in X hok), PySem.W.nsMap_none_of_in X hok hni, PySem.W.tail_of_in X ht⟩
    · cases q
  · cases q
section
variable {X : Cx} {R : RX} {x : Str} {C : Addr} {np cpos pos : Pos} {e : Expr} {es : List Expr} {t : TA}
theorem XS.made (Pl : Plain X) {pins : List (Addr × Obj)} {σ : St} {H : Hp} {s : Shared} {h' : Heap} {a : Addr} {us : List Value} (I : Inv X pins σ H s) (hx : Heap.MadeExcOf s.heap h' a (.ref C) us) (r : R σ H (.ref C) a) : XS X R (.ref a) { s with heap := h' } := by
  obtain ⟨tt, he, htn, htt⟩ := hx.there
  have I1 : Inv X [] σ H { s with heap := h' } := (I.kept (t' := s.toks) hx.keeps).pins_of fun p hp => absurd hp (by simp)
  refine ⟨a, σ, H, PySem.W.hideAll s.heap (frs X.stack), .ref C, .ref tt, none, rfl, I1, ⟨⟨fun b o q => hx.keeps _ _ (PySem.W.of_hideAll _ q), ?_, ?_⟩, ⟨_, _, he, rfl, rfl, rfl, rfl⟩, .inl rfl, fun b o q old n => ?_, ⟨_, _, he, rfl, rfl, rfl⟩⟩, r⟩
  · cases q : (PySem.W.hideAll s.heap (frs X.stack)).get? a with
    | none => rfl
    | some o =>
      have := PySem.W.of_hideAll _ q
      rw [hx.new] at this; cases this
  · refine Heap.FunFrames.of_keeps (fun b o q _ => ⟨o, hx.keeps b o q, rfl⟩) (PySem.W.funFrames_hide I.stack fun env he a ha => ?_)
    exact List.mem_filterMap.mpr ⟨env, he, ha⟩
  · obtain ⟨ob, e0⟩ := I.old Pl old
    have e1 := hx.keeps _ _ e0
    rw [q] at e1; cases e1
    exact PySem.W.hideAll_get _ e0 n
noncomputable def tRaise (R : RX) (C : Addr) (t : TA) : TS := fun _ σ H => t σ H fun vs H1 => vs.length ≤ sizeLine ∧ ∀ a, R σ H1 (.ref C) a
theorem ps_raise (T : Thr X R) (Pl : Plain X) (O : ExCls X.K X.mg x C) (hc : X.calm = true) (hg : Gl X x) (ha : PA X (e :: es) t)
    (hd : (x == ("__debug__" : Str)) = false := by decide) (he : starEach (e :: es) X.env = (false, eval e X.env) :: starEach es X.env := by rfl) (hpl : (backTo cpos (starEach es X.env)).any (·.1) = false := by rfl) :
    PS X (.Raise (some (.Call (.Name x np) (e :: es) [] cpos)) none pos) (tRaise R C t) := by
  intro pins s σ H D I hw
  obtain ⟨tl, N, nm, q, bs, hdct, sn, sub, ab, col, dd, k0, k1, k2, k3, k5, mN, hC, hN, hni, Tl⟩ := O.obj I.ok.mod.kin
  refine wpAny_Raise_call_subT (C := C) (nm := nm) (q := q) (N := N) (bs := bs) (bm := tl) (hdct := hdct) (sn := sn) (sub := sub) (ab := ab) (col := col) (dd := dd) (k0 := k0) (k1 := k1) (k2 := k2) (k3 := k3) (k5 := k5)
    PySem.F.excBase_ValueError (mN := mN) (Tl.hasType PySem.F.excBase_ValueError.hasBase) (I.ok.hd hc) (by rw [he]; show (false || (backTo cpos (starEach es X.env)).any (·.1)) = false; rw [hpl]; rfl) hni (ld_glob I hg O.bound ⟨rfl, ?_⟩ hd)
  rw [he]
  have h2 := ha cpos pins s σ H _ I hw
  rw [he] at h2
  refine Calls.evalArgs_plain (wpAny_mono h2 (fun us s2 ⟨vs, H2, I2, r2, z2, q2⟩ => ⟨rfl, by rw [← r2.length]; exact z2, I2.bk _ _ hC, hN.keeps I2.bk, Tl.keeps I2.bk, fun h' a hx => ?_⟩) fun _ _ y => y)
  exact T _ _ (XS.made Pl I2 hx (q2 a))
end
end L2

set_option Elab.async false
set_option linter.all false
set_option maxRecDepth 100000

namespace L2
open PySem PySem.Spec PySem.Calls PyProof.Rows

noncomputable abbrev Cx.pin (X : Cx) (pn : List (Addr × Obj)) : Cx := { X with pn := pn }
section
variable {X : Cx} {pins : List (Addr × Obj)} {σ : St} {H : Hp} {s : Shared}
theorem Cx.Ok.pin (ok : X.Ok) (pn : List (Addr × Obj)) : (X.pin pn).Ok :=
  ⟨ok.mod, ok.kind, ok.glob, ok.blt, ok.above, ok.inj, ok.has, ok.cab, ok.hd, ok.frames, ok.stk, ok.exf, ok.bs, ok.bsz, ok.noex, ok.exfs, ok.funs, ok.frf⟩
theorem Cx.Ok.unpin {pn : List (Addr × Obj)} (ok : (X.pin pn).Ok) : X.Ok :=
  ⟨ok.mod, ok.kind, ok.glob, ok.blt, ok.above, ok.inj, ok.has, ok.cab, ok.hd, ok.frames, ok.stk, ok.exf, ok.bs, ok.bsz, ok.noex, ok.exfs, ok.funs, ok.frf⟩
theorem Inv.topin (I : Inv X pins σ H s) : Inv (X.pin (X.pn ++ pins)) [] σ H s :=
  ⟨I.ok.pin _, I.os, I.bare, I.base, I.loc, I.cell, I.free, I.freeC, fun p hp => I.pin p (by simpa using hp), I.hok, I.len⟩
theorem Inv.ofpin (I : Inv (X.pin (X.pn ++ pins)) [] σ H s) : Inv X pins σ H s :=
  ⟨I.ok.unpin, I.os, I.bare, I.base, I.loc, I.cell, I.free, I.freeC, fun p hp => I.pin p (by simpa using hp), I.hok, I.len⟩
theorem SP.ofpin {D : Ends} {f : Flow} {s' : Shared} (h : SP (X.pin (X.pn ++ pins)) [] D f s') : SP X pins D f s' := by
  cases f with
  | next => obtain ⟨σ', H', I, q⟩ := h; exact ⟨σ', H', I.ofpin, q⟩
  | brk => obtain ⟨σ', H', I, q⟩ := h; exact ⟨σ', H', I.ofpin, q⟩
  | cont => obtain ⟨σ', H', I, q⟩ := h; exact ⟨σ', H', I.ofpin, q⟩
  | ret u => obtain ⟨v, σ', H', I, r, q⟩ := h; exact ⟨v, σ', H', I.ofpin, r, q⟩
theorem Plain.pin (P : Plain X) (pn : List (Addr × Obj)) : Plain (X.pin pn) := ⟨P.stk, P.frm, P.ex⟩
end


noncomputable abbrev TH := Ends → Value → Addr → St → Hp → Prop
noncomputable def PH (X : Cx) (hs : List ExceptHandler) (t : TH) : Prop :=
  ∀ (s : Shared) (σ : St) (H : Hp) (D : Ends) (B : Heap) (a : Addr) (cls a0 : Value), Inv X [] σ H s → Exn X H B a cls a0 (some .none) s.heap → t D cls a σ H →
    wpAny (model X.prog X.w) X.A (handleBy (.ref a) X.env hs) (SP X [] D) X.xe s

noncomputable def tTry (tb : RX → TS) (th : TH) (to : TS) : TS := fun D σ H => tb (fun σ' H' cls a => th D cls a σ' H') { D with nx := to D } σ H
theorem ps_try {X : Cx} {body orelse : List Stmt} {h₀ : ExceptHandler} {hs : List ExceptHandler} {pos : Pos} {tb : RX → TS} {th : TH} {to : TS} (Pl : Plain X)
    (hb : ∀ pn R, PSs ((X.pin pn).by R) body (tb R)) (hh : ∀ pn, PH (X.pin pn) (h₀ :: hs) th) (ho : PSs X orelse to) : PS X (.Try body (h₀ :: hs) orelse [] pos) (tTry tb th to) := by
  intro pins s σ H D I hw
  refine wpAny_Try_except (wpAny_mono (hb (X.pn ++ pins) _ [] s σ H _ (I.topin.wish _) hw) (fun f s1 q => ?_) (fun e s1 hx => ?_))
  · have q' : SP X pins { D with nx := to D } f s1 := SP.ofpin (SP.unwish q)
    cases f with
    | next =>
      obtain ⟨σ', H', I1, q1⟩ := q'
      exact ho pins s1 σ' H' D I1 q1
    | brk => exact q'
    | cont => exact q'
    | ret u => exact q'
  · obtain ⟨a, σ1, H1, B, cls, a0, m, rfl, I1, ex, r⟩ := hx
    have hfr : X.A.frames = some (X.env :: X.outer) := by rw [I.ok.frames, Pl.stk]
    have air : Air B (X.env :: X.outer) a s1.heap := by have := ex.air; rw [show (X.pin (X.pn ++ pins)).stack = X.env :: X.outer from Pl.stk] at this; exact this
    refine note_ok hfr Pl.frm air ex.tr ex.nd ex.md fun h1 air1 tr1 nd1 up1 => ?_
    have I2 : Inv (X.pin (X.pn ++ pins)) [] σ1 H1 { s1 with heap := h1 } := I1.redo ex.cov ex.air.frm air1.stay up1
    have cov2 := Cov.redo (Pl.pin _) I1 ex.cov air1.stay
    have air1' : Air B (X.pin (X.pn ++ pins)).stack a h1 := by rw [show (X.pin (X.pn ++ pins)).stack = X.env :: X.outer from Pl.stk]; exact air1
    refine flight_ok (s := { s1 with heap := h1 }) (f := none) air1' tr1 nd1 fun h2 air2 tr2 nd2 up2 => ?_
    have I3 : Inv (X.pin (X.pn ++ pins)) [] σ1 H1 { s1 with heap := h2 } := I2.redo cov2 air1'.frm air2.stay up2
    have cov3 := Cov.redo (Pl.pin _) I2 cov2 air2.stay
    exact wpAny_mono (hh (X.pn ++ pins) { s1 with heap := h2 } σ1 H1 D B a cls a0 I3 ⟨air2, tr2, .inr (.inl rfl), cov3, nd2⟩ r) (fun f s4 q => q.ofpin) fun _ _ q => q

section
variable {X : Cx} {R : RX}
theorem ph_nil (T : Thr X R) (Pl : Plain X) : PH X [] (fun _ cls a σ H => R σ H cls a) := by
  intro s σ H D B a cls a0 I ex r
  obtain ⟨oe, vs, Tb, oT, ts, he, hcls, hd, hv1, _⟩ := id ex.tr
  refine wpAny_handleBy_nil ?_
  unfold PySem.passOn
  refine wpAny_bind (wpAny_field he hd hv1 ?_)
  rw [if_neg (show ¬ ((Value.ref Tb == Value.none) = true) from by simp)]
  rw [Pl.frm]
  have key : wpAny (model X.prog X.w) X.A (do setFlight (.ref a) (some X.env.locals); throw (.ref a)) (SP X [] D) X.xe s :=
    wpAny_bind (flight_ok (f := some X.env.locals) ex.air ex.tr ex.nd fun h2 air2 tr2 nd2 up2 => wpAny_throw (T _ _ ⟨a, σ, H, B, cls, a0, some (rawInt X.env.locals), rfl, I.redo ex.cov ex.air.frm air2.stay up2, ⟨air2, tr2, .inr (.inr rfl), Cov.redo Pl I ex.cov air2.stay, nd2⟩, r⟩))
  first
    | exact wpAny_bind (wpAny_pure key)
    | exact key

noncomputable def excφ (a : Addr) (cls : Value) : Heap → Prop := fun h => ∃ o vs, h.get? a = some o ∧ o.cls = cls ∧ o.dict = none ∧ o.data = .fields vs ∧ vs[2]? = some .none
end


noncomputable abbrev Cx.hand (X : Cx) (a : Addr) : Cx := { X with A := X.A.mark (some (.ref a)), calm := false, xe := fun _ _ => False }
section
variable {X : Cx} {pins : List (Addr × Obj)} {σ : St} {H : Hp} {s : Shared}
theorem Cx.Ok.hand (ok : X.Ok) (a : Addr) : (X.hand a).Ok :=
  ⟨ok.mod, ok.kind, ok.glob, ok.blt, ok.above, ok.inj, ok.has, ok.cab, fun z => absurd z (by simp), ok.frames, ok.stk, ok.exf, ok.bs, ok.bsz, ok.noex, ok.exfs, ok.funs, ok.frf⟩
theorem Inv.hand (I : Inv X pins σ H s) (a : Addr) : Inv (X.hand a) pins σ H s :=
  ⟨I.ok.hand a, I.os, I.bare, I.base, I.loc, I.cell, I.free, I.freeC, I.pin, I.hok, I.len⟩
theorem Inv.unhand {a : Addr} (ok : X.Ok) (I : Inv (X.hand a) pins σ H s) : Inv X pins σ H s :=
  ⟨ok, I.os, I.bare, I.base, I.loc, I.cell, I.free, I.freeC, I.pin, I.hok, I.len⟩
theorem SP.unhand {a : Addr} {D : Ends} {f : Flow} {s' : Shared} (ok : X.Ok) (h : SP (X.hand a) pins D f s') : SP X pins D f s' := by
  cases f with
  | next => obtain ⟨σ', H', I, q⟩ := h; exact ⟨σ', H', I.unhand ok, q⟩
  | brk => obtain ⟨σ', H', I, q⟩ := h; exact ⟨σ', H', I.unhand ok, q⟩
  | cont => obtain ⟨σ', H', I, q⟩ := h; exact ⟨σ', H', I.unhand ok, q⟩
  | ret u => obtain ⟨v, σ', H', I, r, q⟩ := h; exact ⟨v, σ', H', I.unhand ok, r, q⟩
end
section
variable {X : Cx} {x n : Str} {C : Addr} {np hp : Pos} {b₀ : Stmt} {suite : List Stmt} {rest : List ExceptHandler} {ts : Addr → TS} {tr : TH}
theorem excMatch_ok {s : Shared} {σ : St} {H : Hp} {B : Heap} {a : Addr} {cls a0 c : Value} {b : Bool} {A : Around} {E : Value → Shared → Prop} {Q : Bool → Shared → Prop} (I : Inv X [] σ H s) (ex : Exn X H B a cls a0 (some .none) s.heap)
    (hx : PySem.W.exmOne X.K cls c = some b) (q : Q b s) : wpAny (model X.prog X.w) A (excMatches (.ref a) c) Q E s := by
  obtain ⟨oe, vs, Tb, oT, tt, he, hcls, hd, hv1, _⟩ := id ex.tr
  obtain ⟨rfl, _⟩ := hcls
  exact (PySem.W.exm_one I.kIn ((PySem.W.Looks.ld he).andThen .now) hx).here q
theorem ph_cons (Pl : Plain X) (hm : X.mg x = some (.ref C)) (hg : Gl X x) (hs : ∀ a, PSs (X.hand a) (b₀ :: suite) (ts a)) (hr : PH X rest tr) (hd : (x == ("__debug__" : Str)) = false := by decide) :
    PH X (.ExceptHandler (some (.Name x np)) none (b₀ :: suite) hp :: rest)
      (fun D cls a σ H => ∃ b, PySem.W.exmOne X.K cls (.ref C) = some b ∧ if b = true then ts a D σ H else tr D cls a σ H) := by
  intro s σ H D B a cls a0 I ex hw
  obtain ⟨b, hx, hw⟩ := hw
  refine wpAny_handleBy_cons (codeAny_handlers_test ?_) (by intro q; cases q)
  refine ld_glob (X := X.hand a) (I.hand a) hg hm (excMatch_ok I ex hx ?_) hd
  cases b with
  | false => exact hr s σ H D B a cls a0 I ex hw
  | true =>
    refine codeAny_handlers_suite ?_
    refine flight_ok (f := none) ex.air ex.tr ex.nd fun h2 air2 tr2 nd2 up2 => ?_
    have I2 := I.redo ex.cov ex.air.frm air2.stay up2
    exact wpAny_mono (hs a [] _ σ H D (I2.hand a) hw) (fun f s' q => q.unhand I.ok) fun _ _ z => z.elim
end
end L2

set_option Elab.async false
set_option linter.all false
set_option maxRecDepth 100000

namespace L2
open PySem PySem.Spec PySem.Calls PyProof.Rows


structure CompOk (X : Cx) (scope : Scope) (cl : List (Str × Addr)) (Nc : List Str) (js : List (Option Nat)) : Prop where
  clos : closureFor scope X.env = pure cl
  sub : ∀ n c, cl.lookup n = some c → X.env.cells.lookup n = some c
  cell : ∀ y ∈ scope.names, y.2 ≠ .cell
  kind : scope.kind = .function
  names : ∀ x ∈ scope.names, x.2 = .local → scope.names.lookup x.1 = some .local
  has : ∀ x, ((relabel scope X.env).names.lookup x = some .cell ∨ (relabel scope X.env).names.lookup x = some .free) → ∃ c, cl.lookup x = some c
  len : js.length = Nc.length
  free : ∀ (k j : Nat), js[k]? = some (some j) → ∃ x c, Nc[k]? = some x ∧ X.N[j]? = some x ∧ X.env.scope.names.lookup x = some .cell ∧ cl.lookup x = some c ∧ (relabel scope X.env).names.lookup x = some .cell

noncomputable abbrev cxComp (X : Cx) (pins : List (Addr × Obj)) (Nc : List Str) (scope : Scope) (cl : List (Str × Addr)) (C : Addr) (fp : List Addr) (s : Shared) (H : Hp) : Cx :=
  { X with N := Nc, s₀ := s, H₀ := H, env := compEnvC scope cl C X.env, outer := X.stack, stack := X.stack, ex := fp, fn := fun _ => false, pn := X.pn ++ pins, xe := fun _ _ => False }
noncomputable def sigC (js : List (Option Nat)) (σ : St) : St := js.map fun o => o.bind fun j => (σ[j]?).join

section
variable {X : Cx} {pins : List (Addr × Obj)} {σ : St} {H : Hp} {s : Shared} {Nc : List Str} {scope : Scope} {cl : List (Str × Addr)} {js : List (Option Nat)} {fp : List Addr}
theorem comp_start (O : CompOk X scope cl Nc js) (I : Inv X pins σ H s) (hfp : ∀ b ∈ fp, FpOk X pins H b ∧ b < s.heap.objs.size) {h₁ : Heap} {t : Nat} (hns : h₁.Ns s.heap.objs.size (fun _ => none))
    (hk : ∀ b o, s.heap.get? b = some o → h₁.get? b = some o) :
    Inv (cxComp X pins Nc scope cl s.heap.objs.size fp s H) [] (sigC js σ) H { s with heap := h₁, toks := t } := by
  have cb : ∀ x c, cl.lookup x = some c → c < s.heap.objs.size := fun x c e => by
    obtain ⟨v, o, e, _⟩ := I.cell x c (O.sub x c e)
    exact Heap.lt_size e
  refine ⟨⟨I.ok.mod, O.kind, I.ok.glob, I.ok.blt, Nat.le_refl _, fun x y c e1 e2 => I.ok.inj x y c (O.sub _ _ e1) (O.sub _ _ e2), O.has, fun _ _ z => absurd z (by simp), I.ok.hd, I.ok.frames, .inl rfl, fun b hb => ?_,
    I.bs, Nat.le_trans I.ok.bsz I.sz, fun b o e hb => ?_, fun b hb z => ?_, I.stack, I.stkFree⟩, rfl, I.bare, Un.kept hk, ⟨_, hns, fun k x v e1 e2 e3 => ?_⟩, fun x c e => ?_, I.hok.fresh (Nat.le_refl _), fun x c e => I.freeC x c (O.sub x c e), fun p hp => ?_, I.hok.kept hk, ?_⟩
  · exact ⟨Nat.ne_of_lt (hfp b hb).2, fun x c e => (hfp b hb).1.2.2.2.2.1 x c (O.sub x c e)⟩
  · -- a thing of the base is no iterator of ours
    obtain ⟨⟨_, _, _, h4, _⟩, _⟩ := hfp b hb
    rcases h4 with z | z
    · exact I.ok.noex b o e z
    · exact absurd (Nat.lt_of_lt_of_le (Heap.lt_size (I.ok.bs b o e).1) z) (Nat.lt_irrefl _)
  · rcases List.mem_cons.mp (I.stkSub b z) with q | q
    · exact (hfp b hb).1.2.1 q
    · exact (hfp b hb).1.2.2.1 q
  · unfold sigC at e2
    rw [List.getElem?_map] at e2
    cases ej : js[k]? with
    | none => rw [ej] at e2; cases e2
    | some oj =>
      rw [ej] at e2
      cases oj with
      | none => cases e2
      | some j =>
        have e2 : (σ[j]?).join = some v := Option.some.inj e2
        obtain ⟨x', c, f1, f2, f3, f4, f5⟩ := O.free k j ej
        rw [show Nc[k]? = some x from e1] at f1
        cases f1
        have e2' : σ[j]? = some (some v) := by
          cases q : σ[j]? with
          | none => rw [q] at e2; cases e2
          | some q' => rw [q] at e2; cases q' with
            | none => cases e2
            | some z => cases e2; rfl
        obtain ⟨m, hn, hl⟩ := I.loc
        obtain ⟨u, r, l⟩ := hl j x v f2 e2' (.inr (.inl f3))
        refine ⟨u, r, .inr ⟨.inl f5, c, f4, ?_⟩⟩
        rcases l with ⟨k1, _⟩ | ⟨_, c', g1, g2⟩
        · have : X.env.scope.names.lookup x = some .local := k1
          rw [f3] at this; cases this
        · rw [O.sub x c f4] at g1
          cases g1
          obtain ⟨o, ho, hd⟩ := g2
          exact ⟨o, hk _ _ ho, hd⟩
  · obtain ⟨v, o, ho, hd⟩ := I.cell x c (O.sub x c e)
    exact ⟨v, o, hk _ _ ho, hd⟩
  · have hp : p ∈ X.pn ++ pins := by simpa using hp
    obtain ⟨e, n, n1, n2, d⟩ := I.pin p hp
    refine ⟨hk _ _ e, n, Nat.ne_of_lt (Heap.lt_size e), fun z => ?_, d⟩
    rcases List.mem_cons.mp (I.stkSub _ z) with q | q
    · exact n1 q
    · exact n2 q
  · show (js.map _).length = Nc.length
    rw [List.length_map, O.len]
theorem comp_end {C : Addr} {σ' : St} {H' : Hp} {s' : Shared} {qs : List (Addr × Obj)} (I : Inv X pins σ H s) (hfp : ∀ b ∈ fp, FpOk X pins H b) (J : Inv (cxComp X pins Nc scope cl C fp s H) qs σ' H' s') : Inv X pins σ H' s' :=
  I.call' (ch := fp) J.os J.base J.hok J.bare fun b hb => by
    obtain ⟨_, h2, _, h4, h5, h6⟩ := hfp b hb
    exact ⟨h4, h2, h5, h6⟩
end


noncomputable def ifsRun (env : Env) (ifs : List Expr) : Sem Bool := forIn ifs true fun c r => if r = true then do let ok ← isTrue c env (eval c env); pure (ForInStep.yield ok) else pure (ForInStep.yield r)
theorem ifs_nil {M : Model} {A : Around} {E : Value → Shared → Prop} {s : Shared} {env : Env} {Q : Bool → Shared → Prop} (h : Q true s) : wpAny M A (ifsRun env []) Q E s := wpAny_pure h
theorem compLoop_ok {prog : Program} {w : World} {A : Around} {R : Result → Shared → Prop} {s : Shared} {elt target iter : Expr} {ifs : List Expr} {scope : Scope} {pos : Pos} {it acc : Value} {env : Env} (I : Nat → Shared → Prop)
    (turn : ∀ n s, I n s → wpAny (model prog w) A (pyNext it) (fun r s₁ => match r with
      | none => R (.ok .next) s₁
      | some v => wpAny (model prog w) A (letOwnedTupleGo target it v) (fun _ s₂ => wpAny (model prog w) A (assign target env v) (fun _ s₃ => wpAny (model prog w) A (ifsRun env ifs) (fun b s₄ =>
          if b = true then wpAny (model prog w) A (eval elt env) (fun x s₅ => wpAny (model prog w) A (call (.builtin "list.append") [acc, x]) (fun _ s₆ => ∃ m, m < n ∧ I m s₆) (fun _ _ => False) s₅) (fun _ _ => False) s₄
          else ∃ m, m < n ∧ I m s₄) (fun _ _ => False) s₃) (fun _ _ => False) s₂) (fun _ _ => False) s₁) (fun _ _ => False) s)
    (n : Nat) (h : I n s) :
    codeAny (model prog w) A (.compLoop (.ListComp elt [⟨target, iter, ifs, 0⟩] scope pos) 0 it acc env) R s := by
  refine codeAny_loop rfl I (fun n s hI => ?_) n h
  show wpAny _ _ ((compTurn (.ListComp elt [⟨target, iter, ifs, 0⟩] scope pos) 0 it acc env).onRaise (fun x => do noteFrame x env; theTreesLotGoes x)) _ _ s
  refine wpAny_noted ?_
  have no : ∀ {E : Value → Shared → Prop} (e : Value) (s' : Shared), False → E e s' := fun _ _ f => f.elim
  rw [compTurn_list]
  refine wpAny_bind (wpAny_standAt (wpAny_bind (wpAny_mono (turn n s hI) (fun r s₁ h₁ => ?_) no)))
  cases r with
  | none => exact wpAny_pure h₁
  | some v =>
    refine wpAny_bind (wpAny_mono h₁ (fun _ s₂ h₂ => wpAny_bind (wpAny_mono h₂ (fun _ s₃ h₃ => ?_) no)) no)
    show wpAny (model prog w) A (ifsRun env ifs >>= _) _ _ s₃
    refine wpAny_bind (wpAny_mono h₃ (fun b s₄ h₄ => ?_) no)
    cases b with
    | true =>
      rw [if_pos rfl] at h₄
      exact wpAny_bind (wpAny_bind (wpAny_mono h₄ (fun x s₅ h5 => wpAny_bind (wpAny_mono h5 (fun _ s₆ h6 => wpAny_pure (wpAny_pure ⟨rfl, h6⟩)) no)) no))
    | false =>
      rw [if_neg Bool.false_ne_true] at h₄
      exact wpAny_bind (wpAny_pure (wpAny_pure ⟨rfl, h₄⟩))


noncomputable def PIfs (X : Cx) (ifs : List Expr) (t : TT) : Prop :=
  ∀ (pins : List (Addr × Obj)) (s : Shared) (σ : St) (H : Hp) (Q : Bool → Hp → Prop), Inv X pins σ H s → t σ H Q → wpAny (model X.prog X.w) X.A (ifsRun X.env ifs) (TP X pins σ Q) X.xe s
theorem pif_nil {X : Cx} : PIfs X [] (fun _ H Q => Q true H) := fun _ _ _ H _ I h => ifs_nil ⟨H, I, h⟩
noncomputable def tCompW (J : It) (l : Addr) (g : TG) (ti : TT) (te : TE) (Qk : Hp → Prop) (W : Nat → Nat → List V → St → Hp → Prop) : Prop :=
  ∀ i m ys σ H, W i m ys σ H → H l = some (.lst ys) ∧ ((J.stop i H ∧ Qk H) ∨ (J.go i H ∧ ys.length < sizeLine ∧ ∀ x H', J.yld i H x H' → g x σ H' fun σ2 H2 => ti σ2 H2 fun b H3 =>
    if b = true then te σ2 H3 fun y H4 => H4 l = some (.lst ys) ∧ ∃ m', m' < m ∧ W (i + 1) m' (ys ++ [y]) σ2 (upd H4 l (.lst (ys ++ [y]))) else ∃ m', m' < m ∧ W (i + 1) m' ys σ2 H3))
noncomputable def tComp (js : List (Option Nat)) (wi : TI) (g : TG) (ti : TT) (te : TE) : TE := fun σ H Q => wi σ H fun J H1 => ∀ l, H1 l = none → ∃ W : Nat → Nat → List V → St → Hp → Prop, (∃ m, W 0 m [] (sigC js σ) (upd H1 l (.lst []))) ∧ tCompW J l g ti te (Q (.ref l)) W

section
variable {X : Cx} {Nc : List Str} {scope : Scope} {cl : List (Str × Addr)} {js : List (Option Nat)} {tg iter elt : Expr} {ifs : List Expr} {g : TG} {ti : TT} {te : TE} {wi : TI} {pos : Pos}
theorem comp_run {pins : List (Addr × Obj)} {H₀ : Hp} {s₀ s : Shared} {C l it : Addr} {fp : List Addr} {J : It} {tn : Nat → Heap → Prop} {Qk : Hp → Prop} {W : Nat → Nat → List V → St → Hp → Prop} {RR : Result → Shared → Prop} {σc : St} {H : Hp} (hc : X.calm = true)
    (hg : ∀ pins C fp s H, PG (cxComp X pins Nc scope cl C fp s H) tg g) (hti : ∀ pins C fp s H, PIfs (cxComp X pins Nc scope cl C fp s H) ifs ti) (he : ∀ pins C fp s H, PE (cxComp X pins Nc scope cl C fp s H) elt te)
    (T : Turn X.prog X.w X.K tg J fp it tn) (w : tCompW J l g ti te Qk W) {m0 : Nat} (w0 : W 0 m0 [] σc H)
    (I : Inv (cxComp X pins Nc scope cl C fp s₀ H₀) [] σc H s) (st : tn 0 s.heap) (hfp : ∀ b ∈ fp, FpOk (cxComp X pins Nc scope cl C fp s₀ H₀) [] H b)
    (hRR : ∀ qs σ' H' s', Inv (cxComp X pins Nc scope cl C fp s₀ H₀) qs σ' H' s' → (∀ b ∈ fp, H' b = none) → Qk H' → RR (.ok .next) s') :
    codeAny (model X.prog X.w) X.A (.compLoop (.ListComp elt [⟨tg, iter, ifs, 0⟩] scope pos) 0 (.ref it) (.ref l) (compEnvC scope cl C X.env)) RR s := by
  have stat : ∀ {H' : Hp}, (∀ b ∈ fp, H' b = none) → ∀ b ∈ fp, FpOk (cxComp X pins Nc scope cl C fp s₀ H₀) [] H' b := fun hn b hb => ⟨hn b hb, (hfp b hb).2⟩
  refine compLoop_ok (fun n s' => ∃ i ys σ' H', Inv (cxComp X pins Nc scope cl C fp s₀ H₀) [] σ' H' s' ∧ tn i s'.heap ∧ (∀ b ∈ fp, H' b = none) ∧ W i n ys σ' H') ?_ m0 ⟨0, [], σc, H, I, st, fun b hb => (hfp b hb).1, w0⟩
  rintro n s3 ⟨i, ys, σ3, H3, I3, st3, fr3, w3⟩
  obtain ⟨hl, w4⟩ := w i n ys σ3 H3 w3
  rcases w4 with ⟨stop, qn⟩ | ⟨go, hz, step⟩
  · refine thn (T.done (cxComp X pins Nc scope cl C fp s₀ H₀) rfl rfl rfl hc i [] s3 σ3 H3 _ I3 (stat fr3) st3 stop) fun r s4 zz9 => ?_
    obtain ⟨hr, I4⟩ := zz9
    subst hr
    exact hRR [] σ3 H3 s4 I4 fr3 qn
  · refine thn (T.item (cxComp X pins Nc scope cl C fp s₀ H₀) rfl rfl rfl hc i [] s3 σ3 H3 _ I3 (stat fr3) st3 go) fun r s4 zz9 => ?_
    obtain ⟨u, hr, h4⟩ := zz9
    subst hr
    refine thn h4 fun _ s5 zz9 => ?_
    obtain ⟨x, H5, I5, r5, y5, st5, fr5⟩ := zz9
    have I5' := I5.pinned (stat fr5) (T.obj _ _ st5)
    refine thn (hg pins C fp s₀ H₀ _ s5 σ3 H5 x u _ I5' r5 (step x H5 y5)) fun _ s6 zz9 => ?_
    obtain ⟨σ6, H6, I6, q6⟩ := zz9
    refine thn (hti pins C fp s₀ H₀ _ s6 σ6 H6 _ I6 q6) fun b s7 zz9 => ?_
    obtain ⟨H7, I7, q7⟩ := zz9
    have again : ∀ {σ7 : St} {H8 : Hp} {s8 : Shared} {ys' : List V}, Inv (cxComp X pins Nc scope cl C fp s₀ H₀) ([] ++ pinsAt fp s5.heap) σ7 H8 s8 → (∃ m', m' < n ∧ W (i + 1) m' ys' σ7 H8) →
        ∃ m, m < n ∧ ∃ i ys σ' H', Inv (cxComp X pins Nc scope cl C fp s₀ H₀) [] σ' H' s8 ∧ tn i s8.heap ∧ (∀ b ∈ fp, H' b = none) ∧ W i m ys σ' H' := fun {σ7 H8 s8 ys'} I8 w8 => by
      obtain ⟨m', hm, w8⟩ := w8
      refine ⟨m', hm, i + 1, ys', σ7, H8, I8.unpinned, T.keep _ _ _ st5 fun b hb o e => (I8.pin (b, o) (List.mem_append_right _ (List.mem_append_right _ (mem_pinsAt hb e)))).1, fun b hb => ?_, w8⟩
      obtain ⟨o, e, d⟩ := T.obj _ _ st5 b hb
      exact (I8.pin (b, o) (List.mem_append_right _ (List.mem_append_right _ (mem_pinsAt hb e)))).2.1
    cases b with
    | true =>
      rw [if_pos rfl] at q7 ⊢
      refine thn (he pins C fp s₀ H₀ _ s7 σ6 H7 _ I7 q7) fun y s8 zz9 => ?_
      obtain ⟨vy, H8, I8, r8, hl8, q8⟩ := zz9
      refine thn (mt_append (X := cxComp X pins Nc scope cl C fp s₀ H₀) _ s8 σ6 H8 (.ref l) [vy] (.ref l) [y] (fun _ H9 => H9 = upd H8 l (.lst (ys ++ [vy]))) I8 rfl (.cons r8 .nil) ⟨l, ys, vy, rfl, rfl, hl8, hz, rfl⟩) fun _ s9 zz9 => ?_
      obtain ⟨_, H9, I9, _, e9⟩ := zz9
      subst e9
      exact again I9 q8
    | false =>
      rw [if_neg Bool.false_ne_true] at q7 ⊢
      exact again I7 q7
theorem pe_comp (O : CompOk X scope cl Nc js) (hc : X.calm = true) (hi : PI X tg iter wi) (hg : ∀ pins C fp s H, PG (cxComp X pins Nc scope cl C fp s H) tg g) (hti : ∀ pins C fp s H, PIfs (cxComp X pins Nc scope cl C fp s H) ifs ti)
    (he : ∀ pins C fp s H, PE (cxComp X pins Nc scope cl C fp s H) elt te) (hs : ∀ x, foldedSetIterable iter X.env x = pure x := by intro _; rfl) :
    PE X (.ListComp elt [⟨tg, iter, ifs, 0⟩] scope pos) (tComp js wi g ti te) := by
  intro pins s σ H Q I hw
  rw [eval_ListComp]
  refine wpAny_comprehension_free (use := none) rfl hs O.clos O.kind O.names (thn (hi pins s σ H _ I hw) fun v s1 h1 => thn h1 fun itv s2 h2 => ?_)
  obtain ⟨it, fp, tn, J, H2, e, I2, T, st2, f2, r2⟩ := h2
  subst e
  refine wpAny_newObj_type ?_
  have hl0 : H2 s2.heap.objs.size = none := I2.hok.fresh (Nat.le_refl _)
  obtain ⟨W, ⟨m0, w0⟩, w⟩ := r2 s2.heap.objs.size hl0
  have k3 : ∀ b o, s2.heap.get? b = some o → (s2.heap.push { cls := .type "list", data := .seq ([] : List Value).toArray }).get? b = some o := fun b o e => Heap.get?_push_of_some _ e
  have I3 : Inv X pins σ (upd H2 s2.heap.objs.size (.lst [])) { s2 with heap := s2.heap.push { cls := .type "list", data := .seq ([] : List Value).toArray } } :=
    I2.laid (t' := s2.toks) k3 (Nat.le_refl _) ⟨Nat.zero_le _, [], 0, .nil, Heap.get?_push_size _ rfl⟩
  have fpl : ∀ b ∈ fp, b < s2.heap.objs.size := fun b hb => by
    obtain ⟨o, e, _⟩ := T.obj _ _ st2 b hb
    exact Heap.lt_size e
  have f3 : ∀ b ∈ fp, FpOk X pins (upd H2 s2.heap.objs.size (.lst [])) b := fun b hb => ⟨by rw [upd_ne (Nat.ne_of_lt (fpl b hb))]; exact (f2 b hb).1, (f2 b hb).2⟩
  have sz3 : (s2.heap.push { cls := .type "list", data := .seq ([] : List Value).toArray }).objs.size = s2.heap.objs.size + 1 := Heap.size_push _ _
  refine wpAny_newFunctionEnv O.cell (by intro y hy; simp at hy) (fun h₁ hns₁ hsb₁ => ?_) O.kind
  have k4 : ∀ b o, (s2.heap.push { cls := .type "list", data := .seq ([] : List Value).toArray }).get? b = some o → h₁.get? b = some o := fun b o e =>
    (hsb₁.2 b (Nat.ne_of_lt (Heap.lt_size e))).trans (Heap.get?_push_of_some _ e)
  have Ic := comp_start (Nc := Nc) (js := js) (fp := fp) (t := s2.toks) O I3 (fun b hb => ⟨f3 b hb, by show b < (s2.heap.push _).objs.size; rw [sz3]; exact Nat.lt_succ_of_lt (fpl b hb)⟩) (h₁ := h₁) hns₁ k4
  have st4 : tn 0 h₁ := T.keep _ _ _ st2 fun b hb o e => k4 b o (k3 b o e)
  have fC : FpOk X pins (upd H2 s2.heap.objs.size (.lst [])) (s2.heap.push { cls := .type "list", data := .seq ([] : List Value).toArray }).objs.size := I3.fpOk (Nat.le_refl _) (I3.hok.fresh (Nat.le_refl _))
  have loop : ∀ s4 : Shared, s4 = { s2 with heap := h₁, toks := s2.toks } → codeAny (model X.prog X.w) X.A (.compLoop (.ListComp elt [⟨tg, iter, ifs, 0⟩] scope pos) 0 (.ref it) (.ref s2.heap.objs.size) (compEnvC scope cl (s2.heap.push { cls := .type "list", data := .seq ([] : List Value).toArray }).objs.size X.env))
      (compPost (model X.prog X.w) X.A X.xe none (EP X pins σ Q) (.ref s2.heap.objs.size) (s2.heap.push { cls := .type "list", data := .seq ([] : List Value).toArray }).objs.size) s4 := by
    rintro s4 rfl
    refine comp_run (s₀ := { s2 with heap := s2.heap.push { cls := .type "list", data := .seq ([] : List Value).toArray } }) hc hg hti he T w w0 Ic st4 (fun b hb => ?_) fun qs σ' H' s' J' fr' q' => ?_
    · obtain ⟨g1, g2, g3, g4, g5, g6⟩ := f3 b hb
      refine ⟨g1, Nat.ne_of_lt (by show b < (s2.heap.push _).objs.size; rw [sz3]; exact Nat.lt_succ_of_lt (fpl b hb)), fun z => ?_, .inl hb, fun x c e => g5 x c (O.sub x c e), fun p hp => g6 p (by simpa using hp)⟩
      rcases List.mem_cons.mp (I3.stkSub b z) with q | q
      · exact g2 q
      · exact g3 q
    · obtain ⟨mC, hnC, _⟩ := J'.loc
      have I5 : Inv X pins σ H' s' := comp_end I3 f3 J'
      refine ⟨mC, hnC, fun h' sb => ⟨.ref s2.heap.objs.size, H', ?_, rfl, q'⟩⟩
      exact I5.turned (t' := s'.toks) (fun b o hb e => (sb.2 b hb).trans e) J'.free fC.2.1 fC.2.2.2.1 fC.2.2.2.2.1 fC.2.2.2.2.2
  exact codeAny_compStart_list (loop _ rfl) (T.self X.A 0 _ _ _ st4 (loop _ rfl))
theorem ps_comp {i : Nat} {y : Str} {py spos : Pos} (hN : X.N.Nodup) (hiN : X.N[i]? = some y) (hyl : X.env.scope.names.lookup y = some .local) (O : CompOk X scope cl Nc js) (hc : X.calm = true) (hi : PI X tg iter wi) (hg : ∀ pins C fp s H, PG (cxComp X pins Nc scope cl C fp s H) tg g) (hti : ∀ pins C fp s H, PIfs (cxComp X pins Nc scope cl C fp s H) ifs ti)
    (he : ∀ pins C fp s H, PE (cxComp X pins Nc scope cl C fp s H) elt te) (hsw : swapsWith (.ListComp elt [⟨tg, iter, ifs, 0⟩] scope pos) (some (.Name y py)) spos.line X.env = pure true) (hs : ∀ x, foldedSetIterable iter X.env x = pure x := by intro _; rfl) :
    PS X (.Assign [.Name y py] (.ListComp elt [⟨tg, iter, ifs, 0⟩] scope pos) spos) (tAsg (tComp js wi g ti te) (gName i)) := by
  intro pins s σ H D I hw
  rw [exec_Assign_Name_used _ _ _ _ hsw]
  refine wpAny_bind (wpAny_standAt (wpAny_bind ?_))
  show wpAny _ X.A (do let _ ← comprehension (.ListComp elt [⟨tg, iter, ifs, 0⟩] scope pos) scope X.env _ (newList []) false (eval iter X.env) (some (assign (.Name y py) X.env))) _ _ s
  refine wpAny_bind (wpAny_mono (wpAny_comprehension_free (use := some (assign (.Name y py) X.env)) (Q := fun _ s' => SP X pins D .next s') rfl hs O.clos O.kind O.names ?_) (fun _ s' hq => wpAny_pure (wpAny_pure hq)) fun _ _ e => e)
  refine (thn (hi pins s σ H _ I hw) fun v s1 h1 => thn h1 fun itv s2 h2 => ?_)
  obtain ⟨it, fp, tn, J, H2, e, I2, T, st2, f2, r2⟩ := h2
  subst e
  refine wpAny_newObj_type ?_
  have hl0 : H2 s2.heap.objs.size = none := I2.hok.fresh (Nat.le_refl _)
  obtain ⟨W, ⟨m0, w0⟩, w⟩ := r2 s2.heap.objs.size hl0
  have k3 : ∀ b o, s2.heap.get? b = some o → (s2.heap.push { cls := .type "list", data := .seq ([] : List Value).toArray }).get? b = some o := fun b o e => Heap.get?_push_of_some _ e
  have I3 : Inv X pins σ (upd H2 s2.heap.objs.size (.lst [])) { s2 with heap := s2.heap.push { cls := .type "list", data := .seq ([] : List Value).toArray } } :=
    I2.laid (t' := s2.toks) k3 (Nat.le_refl _) ⟨Nat.zero_le _, [], 0, .nil, Heap.get?_push_size _ rfl⟩
  have fpl : ∀ b ∈ fp, b < s2.heap.objs.size := fun b hb => by
    obtain ⟨o, e, _⟩ := T.obj _ _ st2 b hb
    exact Heap.lt_size e
  have f3 : ∀ b ∈ fp, FpOk X pins (upd H2 s2.heap.objs.size (.lst [])) b := fun b hb => ⟨by rw [upd_ne (Nat.ne_of_lt (fpl b hb))]; exact (f2 b hb).1, (f2 b hb).2⟩
  have sz3 : (s2.heap.push { cls := .type "list", data := .seq ([] : List Value).toArray }).objs.size = s2.heap.objs.size + 1 := Heap.size_push _ _
  refine wpAny_newFunctionEnv O.cell (by intro y hy; simp at hy) (fun h₁ hns₁ hsb₁ => ?_) O.kind
  have k4 : ∀ b o, (s2.heap.push { cls := .type "list", data := .seq ([] : List Value).toArray }).get? b = some o → h₁.get? b = some o := fun b o e =>
    (hsb₁.2 b (Nat.ne_of_lt (Heap.lt_size e))).trans (Heap.get?_push_of_some _ e)
  have Ic := comp_start (Nc := Nc) (js := js) (fp := fp) (t := s2.toks) O I3 (fun b hb => ⟨f3 b hb, by show b < (s2.heap.push _).objs.size; rw [sz3]; exact Nat.lt_succ_of_lt (fpl b hb)⟩) (h₁ := h₁) hns₁ k4
  have st4 : tn 0 h₁ := T.keep _ _ _ st2 fun b hb o e => k4 b o (k3 b o e)
  have fC : FpOk X pins (upd H2 s2.heap.objs.size (.lst [])) (s2.heap.push { cls := .type "list", data := .seq ([] : List Value).toArray }).objs.size := I3.fpOk (Nat.le_refl _) (I3.hok.fresh (Nat.le_refl _))
  have loop : ∀ s4 : Shared, s4 = { s2 with heap := h₁, toks := s2.toks } → codeAny (model X.prog X.w) X.A (.compLoop (.ListComp elt [⟨tg, iter, ifs, 0⟩] scope pos) 0 (.ref it) (.ref s2.heap.objs.size) (compEnvC scope cl (s2.heap.push { cls := .type "list", data := .seq ([] : List Value).toArray }).objs.size X.env))
      (compPost (model X.prog X.w) X.A X.xe (some (assign (.Name y py) X.env)) (fun _ s' => SP X pins D .next s') (.ref s2.heap.objs.size) (s2.heap.push { cls := .type "list", data := .seq ([] : List Value).toArray }).objs.size) s4 := by
    rintro s4 rfl
    refine comp_run (s₀ := { s2 with heap := s2.heap.push { cls := .type "list", data := .seq ([] : List Value).toArray } }) hc hg hti he T w w0 Ic st4 (fun b hb => ?_) fun qs σ' H' s' J' fr' q' => ?_
    · obtain ⟨g1, g2, g3, g4, g5, g6⟩ := f3 b hb
      refine ⟨g1, Nat.ne_of_lt (by show b < (s2.heap.push _).objs.size; rw [sz3]; exact Nat.lt_succ_of_lt (fpl b hb)), fun z => ?_, .inl hb, fun x c e => g5 x c (O.sub x c e), fun p hp => g6 p (by simpa using hp)⟩
      rcases List.mem_cons.mp (I3.stkSub b z) with q | q
      · exact g2 q
      · exact g3 q
    · obtain ⟨mC, hnC, _⟩ := J'.loc
      have I5 : Inv X pins σ H' s' := comp_end I3 f3 J'
      have neC : (s2.heap.push { cls := .type "list", data := .seq ([] : List Value).toArray }).objs.size ≠ X.env.locals := fC.2.1
      show wpAny _ X.A (assign (.Name y py) X.env (.ref s2.heap.objs.size)) _ _ s'
      refine wpAny_assign_Name (store_ok2 I5 hN hiN (.inl hyl) (v := .ref s2.heap.objs.size) rfl (fun s6 I6 ⟨a6, sb6, ha6⟩ => ?_) (.inr hyl))
      have nea : a6 ≠ (s2.heap.push { cls := .type "list", data := .seq ([] : List Value).toArray }).objs.size := by
        rcases ha6 with z | z
        · rw [z]; exact fun z => neC z.symm
        · exact fC.2.2.2.2.1 y a6 z
      refine ⟨mC, hnC.sameBut sb6 nea.symm, fun h' sb => ⟨_, H', ?_, q'⟩⟩
      exact I6.turned (t' := s6.toks) (fun b o hb e => (sb.2 b hb).trans e) J'.free fC.2.1 fC.2.2.2.1 fC.2.2.2.2.1 fC.2.2.2.2.2
  exact codeAny_compStart_list (loop _ rfl) (T.self X.A 0 _ _ _ st4 (loop _ rfl))
end
end L2

set_option Elab.async false
set_option linter.all false
set_option maxRecDepth 100000

namespace L2
open PySem PySem.Spec PySem.Calls PyProof.Rows


mutual
inductive Rep (K : PySem.W.Frag) (H : Hp) : V → PyData → Prop where
  | non : Rep K H .non .none
  | bl (b : Bool) : Rep K H (.bl b) (.bool b)
  | int (i : Int) : Rep K H (.int i) (.int i)
  | str (x : Str) : Rep K H (.str x) (.str x)
  | lst {a : Addr} {xs : List V} {ds : List PyData} (e : SqL K H a xs) (r : Reps K H xs ds) : Rep K H (.ref a) (.list ds)
  | tup {a : Addr} {xs : List V} {ds : List PyData} (e : SqT K H a xs) (r : Reps K H xs ds) : Rep K H (.ref a) (.tuple ds)
inductive Reps (K : PySem.W.Frag) (H : Hp) : List V → List PyData → Prop where
  | nil : Reps K H [] []
  | cons {x : V} {d : PyData} {xs : List V} {ds : List PyData} (h : Rep K H x d) (t : Reps K H xs ds) : Reps K H (x :: xs) (d :: ds)
end

section
variable {X : Cx} {pins : List (Addr × Obj)} {σ : St} {H : Hp} {s : Shared}
mutual
theorem Rep.reads (I : Inv X pins σ H s) : ∀ {x : V} {d : PyData} {v : Value}, Rep X.K H x d → RelV x v → ∃ as, Reads s.heap v d as
  | _, _, _, .non, r => by cases (show _ = Value.none from r); exact ⟨_, .none⟩
  | _, _, _, .bl b, r => by cases (show _ = Value.bool b from r); exact ⟨_, .bool b⟩
  | _, _, _, .int i, r => by obtain ⟨t, rfl⟩ := r; exact ⟨_, .int i t⟩
  | _, _, _, .str x, r => by obtain ⟨t, rfl⟩ := r; exact ⟨_, .str x t⟩
  | _, _, _, @Rep.lst _ _ a xs ds e rs, r => by
    cases (show _ = Value.ref a from r)
    obtain ⟨its, rv, pl, _⟩ := I.list e
    obtain ⟨as, q⟩ := Reps.reads I rs rv
    obtain ⟨o, ho, hc, n, hd⟩ := pl.isList
    exact ⟨_, .list ho hc hd (by simpa using q)⟩
  | _, _, _, @Rep.tup _ _ a xs ds e rs, r => by
    cases (show _ = Value.ref a from r)
    obtain ⟨its, rv, ⟨o, ho, hc, n, hd⟩, _⟩ := I.tuple e
    obtain ⟨as, q⟩ := Reps.reads I rs rv
    exact ⟨_, .tuple ho hc hd (by simpa using q)⟩
theorem Reps.reads (I : Inv X pins σ H s) : ∀ {xs : List V} {ds : List PyData} {us : List Value}, Reps X.K H xs ds → Vals xs us → ∃ as, ReadsAll s.heap us ds as
  | _, _, _, .nil, r => by cases r; exact ⟨_, .nil⟩
  | _, _, _, .cons h t, r => by
    cases r with
    | cons r1 r2 =>
      obtain ⟨as, q1⟩ := Rep.reads I h r1
      obtain ⟨bs, q2⟩ := Reps.reads I t r2
      exact ⟨_, .cons q1 q2⟩
end
end

noncomputable def rEqD (K : PySem.W.Frag) (neg : Bool) : R2 := fun x y H Q => ∃ dx dy, Rep K H x dx ∧ Rep K H y dy ∧ SeqAt.shaped dx = true ∧ SeqAt.shaped dy = true ∧ Q (.bl (if neg then !PyData.eqv dx dy else PyData.eqv dx dy)) H
section
variable {X : Cx}
theorem op_eqD (hu : X.A.units + 64 < cLine) : OpR X (compareOp .Eq) (rEqD X.K false) := by
  intro pins s σ H x y v u Q I rx ry h
  obtain ⟨dx, dy, h1, h2, s1, s2, q⟩ := h
  obtain ⟨as, r1⟩ := h1.reads I rx
  obtain ⟨bs, r2⟩ := h2.reads I ry
  exact SeqAt.compareEq_shaped r1 r2 s1 s2 hu ⟨.bl _, H, I, rfl, q⟩
theorem op_neD (hu : X.A.units + 64 < cLine) : OpR X (compareOp .NotEq) (rEqD X.K true) := by
  intro pins s σ H x y v u Q I rx ry h
  obtain ⟨dx, dy, h1, h2, s1, s2, q⟩ := h
  obtain ⟨as, r1⟩ := h1.reads I rx
  obtain ⟨bs, r2⟩ := h2.reads I ry
  exact SeqAt.compareNe_shaped r1 r2 s1 s2 hu ⟨.bl _, H, I, rfl, q⟩
end
mutual
theorem eqv_refl : ∀ d : PyData, d.canLay0 = true → PyData.eqv d d = true
  | .none, _ => by simp [PyData.eqv]
  | .bool b, _ => by simp [PyData.eqv]
  | .int i, _ => by simp [PyData.eqv]
  | .str x, _ => by simp [PyData.eqv]
  | .list xs, h => by rw [PyData.eqv]; exact eqvAll_refl xs (by simpa only [PyData.canLay0] using h)
  | .tuple xs, h => by rw [PyData.eqv]; exact eqvAll_refl xs (by simpa only [PyData.canLay0] using h)
  | .dict _, h => by simp [PyData.canLay0] at h
theorem eqvAll_refl : ∀ ds : List PyData, PyData.canLayAll0 ds = true → PyData.eqvAll ds ds = true
  | [], _ => by simp [PyData.eqvAll]
  | d :: ds, h => by
    have h : d.canLay0 = true ∧ PyData.canLayAll0 ds = true := by simpa only [PyData.canLayAll0, Bool.and_eq_true] using h
    rw [PyData.eqvAll, eqv_refl d h.1, eqvAll_refl ds h.2]
    rfl
end


end L2

set_option Elab.async false
set_option linter.all false
set_option maxRecDepth 100000

namespace L2
open PySem PySem.Spec PySem.Calls PyProof.Rows


noncomputable def Itw (n : Nat) (f : Nat → V) : It := ⟨fun i _ => i < n, fun i H x H' => H' = H ∧ x = f i, fun i _ => i = n⟩
theorem turn_walks {P : Program} {w : World} {K : PySem.W.Frag} {tg : Expr} {it : Addr} {n : Nat} {f : Nat → V} {Pv : Nat → Value → Prop} {tn : Nat → Heap → Prop}
    (W : ∀ A : Around, A.handled = none → Walks P w A it [it] [it] n Pv tn) (hv : ∀ i v, i < n → Pv i v → RelV (f i) v)
    (ho : ∀ i h, tn i h → ∃ o nm vs, h.get? it = some o ∧ o.cls = .type nm ∧ o.data = .fields vs ∧ ["enumerate", "zip", "dict_itemiterator", "dict_reverseitemiterator", "odict_iterator", "itertools.zip_longest", "itertools.pairwise"].contains nm = false)
    (self : ∀ (A : Around) (i : Nat) (s : Shared) (Q : Value → Shared → Prop) (E : Value → Shared → Prop), tn i s.heap → Q (.ref it) s → wpAny (model P w) A (pyIter (.ref it)) Q E s) :
    Turn P w K tg (Itw n f) [it] it tn where
  mem := by simp
  obj := fun i h st b hb => by
    have e : b = it := by simpa using hb
    subst e
    obtain ⟨o, nm, vs, e, _, d, _⟩ := ho i h st
    exact ⟨o, e, fun v z => by rw [d] at z; cases z⟩
  keep := fun i h h' st k => (W { depth := 0, handled := none } rfl).frame i h h' st k
  item := by
    intro X hP hw hK hc i pins s σ H E I hf st hg
    subst hP hw hK
    obtain ⟨f0, f1, f2, f3, f4, f5⟩ := hf it (by simp)
    refine (W X.A (I.ok.hd hc)).item i s _ _ hg st fun v h' tk hpv st' kk => ?_
    have I1 : Inv X pins σ H { s with heap := h', toks := tk } := I.turned (fun b o hb e => kk b o (by simpa using hb) e) f0 f1 f3 f4 f5
    obtain ⟨o, nm, vs, e, c, d, nn⟩ := ho _ _ st'
    exact ⟨v, rfl, go_of (s := { s with heap := h', toks := tk }) e c d nn ⟨f i, H, I1, hv i v hg hpv, ⟨rfl, rfl⟩, st', fun b hb => (hf b hb).1⟩⟩
  done := by
    intro X hP hw hK hc i pins s σ H E I hf st hg
    subst hP hw hK
    obtain ⟨f0, f1, f2, f3, f4, f5⟩ := hf it (by simp)
    have hg : i = n := hg
    subst hg
    exact (W X.A (I.ok.hd hc)).done s _ _ st fun h' tk kk => ⟨rfl, I.turned (fun b o hb e => kk b o (by simpa using hb) e) f0 f1 f3 f4 f5⟩
  self := self
section
variable {X : Cx} {tg : Expr}

noncomputable def signV (x : Str) (i : Nat) : V := .str ⟨#[x.cps.getD i 0]⟩
noncomputable def iStr (tl : TE) : TI := fun σ H R => tl σ H fun v H1 => ∃ x, v = .str x ∧ R (Itw x.cps.size (signV x)) H1
theorem sign_rel {x : Str} {i : Nat} {v : Value} (hi : i < x.cps.size) (h : SignAt x i v) : RelV (signV x i) v := by
  obtain ⟨c, u, e, rfl⟩ := h
  refine ⟨u, ?_⟩
  have e2 : x.cps.getD i 0 = c := by simp [e]
  rw [e2]
theorem pi_str {l : Expr} {tl : TE} (hl : PE X l tl) : PI X tg l (iStr tl) := by
  intro pins s σ H R I h
  refine thn (hl pins s σ H _ I h) fun v s1 zz9 => ?_
  obtain ⟨y, H1, I1, r1, x, e1, q1⟩ := zz9
  subst e1
  obtain ⟨t, rfl⟩ := r1
  cases ha : x.cps.all (· < 128)
  · refine wpAny_pyIter_wide ha ?_
    exact ⟨s1.heap.objs.size, [s1.heap.objs.size], _, _, H1, rfl, I1.kept (t' := s1.toks) fun b o e => Heap.get?_push_of_some _ e, turn_walks (fun A hA => Walks.strWide hA _ x t) (fun i v hi hp => sign_rel hi hp)
      (fun i h ⟨o, e, c, d⟩ => ⟨o, _, _, e, c, d, by decide⟩) (fun _ _ _ _ _ st q => wpAny_pyIter_striter_wide st q), ⟨_, Heap.get?_push_size _ rfl, rfl, rfl⟩,
      fun b hb => by
        have e : b = s1.heap.objs.size := by simpa using hb
        subst e
        exact I1.fpOk (Nat.le_refl _) (I1.hok.fresh (Nat.le_refl _)), q1⟩
  · refine wpAny_pyIter_ascii ha ?_
    exact ⟨s1.heap.objs.size, [s1.heap.objs.size], _, _, H1, rfl, I1.kept (t' := s1.toks) fun b o e => Heap.get?_push_of_some _ e, turn_walks (fun A hA => Walks.strAscii hA _ x t) (fun i v hi hp => sign_rel hi hp)
      (fun i h ⟨o, e, c, d⟩ => ⟨o, _, _, e, c, d, by decide⟩) (fun _ _ _ _ _ st q => wpAny_pyIter_striter_ascii st q), ⟨_, Heap.get?_push_size _ rfl, rfl, rfl⟩,
      fun b hb => by
        have e : b = s1.heap.objs.size := by simpa using hb
        subst e
        exact I1.fpOk (Nat.le_refl _) (I1.hok.fresh (Nat.le_refl _)), q1⟩


noncomputable def rSlS : V → Option Int → Option Int → Hp → VK → Prop := fun x lo hi H Q => ∃ z, x = .str z ∧ z.length ≤ sizeLine ∧ Q (.str (Txt.slice z lo hi)) H
theorem sl_str : SlR X rSlS := by
  intro pins s σ H x v vl vu lo hi sl Q I rx hs pl pu h
  obtain ⟨z, rfl, hz, q⟩ := h
  obtain ⟨t, rfl⟩ := rx
  have fin : ∀ t' k, EP X pins σ Q (.str (Txt.slice z lo hi) t') { s with toks := k } := fun t' k => ⟨.str _, H, I.tok _, ⟨t', rfl⟩, q⟩
  have hle : (Txt.slice z lo hi).length ≤ sizeLine := Nat.le_trans (Txt.slice_le z _ _) hz
  refine ⟨"str", _, F.slot_str_getitem.lookup, typeIs_str _ _ _, ?_⟩
  cases pl with
  | none =>
    cases pu with
    | none => exact wpAny_getItem_str_slice (l := none) (u := none) (st := none) hs rfl (post_val_or_str ⟨hle, fun t' k => fin t' k⟩)
    | int j uj => exact wpAny_getItem_str_slice (l := none) (u := some (j, uj)) (st := none) hs rfl (post_val_or_str ⟨hle, fun t' k => fin t' k⟩)
  | int i ui =>
    cases pu with
    | none => exact wpAny_getItem_str_slice (l := some (i, ui)) (u := none) (st := none) hs rfl (post_val_or_str ⟨hle, fun t' k => fin t' k⟩)
    | int j uj => exact wpAny_getItem_str_slice (l := some (i, ui)) (u := some (j, uj)) (st := none) hs rfl (post_val_or_str ⟨hle, fun t' k => fin t' k⟩)


noncomputable def gLst (K : PySem.W.Frag) (n : Nat) (t : TGs) : TG := fun v σ H Q => ∃ a xs, v = .ref a ∧ SqL K H a xs ∧ xs.length = n ∧ t xs σ H Q
theorem pg_lst {es : List Expr} {k : Nat} {t : TGs} {n : Nat} {pos : Pos} (hc : X.calm = true) (h : PGs X es t)
    (hn : (assignEach es X.env).length = n := by rfl) (hst : (assignEach es X.env).findIdx? (·.1) = none := by rfl) : PG X (.Tuple es k pos) (gLst X.K n t) := by
  intro pins s σ H v u Q I r hw
  obtain ⟨a, xs, e1, hq, hl, hw⟩ := hw
  subst e1
  cases r
  obtain ⟨its, rv, pl, hz⟩ := I.list hq
  rw [assign_Tuple]
  refine wpAny_bind (wpAny_standAt ?_)
  unfold unpack
  have hsz : (assignEach es X.env).length = its.toArray.size := by simp [hn, ← hl, rv.length]
  rw [hsz, hst]
  refine wpAny_bind (wpAny_holding (PySem.W.kun_itemsOf (I.ok.hd hc) pl.isList fun h' hx => ?_))
  have I1 : Inv X pins σ H { s with heap := h' } := I.kept (t' := s.toks) fun b o e => hx b o (Nat.ne_of_lt (Heap.lt_size e)) e
  exact h pins _ σ H xs _ Q I1 (by simpa using rv) hw


noncomputable def rIndex (K : PySem.W.Frag) : V → List V → Hp → VK → Prop := fun x vs H Q => ∃ a xs y j, x = .ref a ∧ vs = [y] ∧ SqL K H a xs ∧ xs.all flatV = true ∧ flatV y = true ∧ j < xs.length ∧ (∀ z, xs[j]? = some z → eqV z y = true) ∧ (∀ m z, m < j → xs[m]? = some z → eqV z y = false) ∧ Q (.int j) H
theorem mt_index : MtR X "list.index" (rIndex X.K) := by
  intro pins s σ H x vs v us Q I rx rv h
  obtain ⟨a, xs, y, j, rfl, rfl, hq, ha, hy, hj, h1, h2, q⟩ := h
  cases rx
  obtain ⟨u, rfl, ru⟩ := rv.one
  obtain ⟨its, r, pl, hz⟩ := I.list hq
  obtain ⟨⟨oc, od, dt, sl⟩, n, e, hoc, hod, hdt⟩ := pl
  dsimp only at hoc hod hdt
  subst hoc hod hdt
  have hlen := r.length
  have hit : ∀ (m : Nat) (hm : m < its.toArray.size), ∃ z, xs[m]? = some z ∧ RelV z its.toArray[m] := fun m hm => by
    have hm' : m < xs.length := by simpa [hlen] using hm
    obtain ⟨w', e1, e2⟩ := r.get (i := m) (x := xs[m]) (by simp)
    refine ⟨xs[m], by simp, ?_⟩
    have : its.toArray[m] = w' := by
      have : its[m]? = some w' := e1
      rw [List.getElem?_eq_some_iff] at this
      obtain ⟨_, e3⟩ := this
      simpa using e3
    rw [this]; exact e2
  have fl : ∀ z, z ∈ xs → flatV z = true := fun z hz => List.all_eq_true.mp ha z hz
  have hval : ∀ (m : Nat) (hm : m < its.toArray.size) z, xs[m]? = some z → eqU y its.toArray[m] = eqV z y := fun m hm z hz => by
    obtain ⟨z', e1, e2⟩ := hit m hm
    rw [hz] at e1; cases e1
    exact eqU_of e2 (fl z (List.mem_of_getElem? hz))
  refine call_meets F.slot_list_index ⟨_, e, rfl⟩ F.entry_list_index (F.args_list_index_2 _ _) (SeqAt.list_indexAt a its.toArray n none sl u (eqU y) j (by simp; omega) ?_ ?_ ?_) ⟨e, ?_, ?_⟩
  · have := line63; omega
  · obtain ⟨z, e1, _⟩ := hit j (by simp; omega)
    rw [hval j (by simp; omega) z e1]
    exact h1 z e1
  · intro m hm hmj
    obtain ⟨z, e1, _⟩ := hit m hm
    rw [hval m hm z e1]
    exact h2 m z hmj e1
  · intro w' hw
    exact mem_eqAt ru hy r ha w' (by simpa using hw)
  · exact ⟨.int j, H, I.tok _, ⟨_, rfl⟩, q⟩
end
end L2

set_option Elab.async false
set_option linter.all false
set_option maxRecDepth 100000

namespace L2
open PySem PySem.W PySem.Spec PySem.Calls PyProof.Rows

structure ExLook (K : Frag) (D : Addr) : Prop where
  cl : (clsIn K D).isSome = true
  ga : findIn K (.ref D) "__getattribute__" = some (some (.builtin "BaseException.__getattribute__"))
  gn : findIn K (.ref D) "__getattr__" = some none
  ha : findIn K (.ref D) "__class__" = some (some (.builtin "object.__class__"))
  hn : specialIn K (.builtin "object.__class__") "__get__" = some (some (.builtin "getset_descriptor.__get__"))
  tk : takesIn K (.builtin "object.__class__") = some true
  hm : mroIn K D (.type "object") = some true
  hb : mroIn K D (.type "BaseException") = some true

section
variable {prog : Program} {w : World} {A : Around} {E : Value → Shared → Prop} {s : Shared} {K : Frag} {x D : Addr} {ox : Obj}
end
noncomputable def clsV : V → Option Value
  | .ref a => some (.ref a)
  | .ty n => some (.type n)
  | _ => none
theorem clsV_rel {y : V} {cv u : Value} (e : clsV y = some cv) (r : RelV y u) : u = cv := by
  cases y <;> first | (cases e; done) | (cases e; exact r)
theorem call_isinstC {X : Cx} : CallR X (.builtin "isinstance") (fun xs H Q => ∃ x y t cv b, xs = [x, y] ∧ TyOf X.K H x t ∧ clsV y = some cv ∧ kitOne X.K t cv = some b ∧ Q (.bl b) H) := by
  intro pins s σ H xs us Q I r h
  obtain ⟨x, y, t, cv, b, rfl, ty, hy, e, q⟩ := h
  obtain ⟨u, u', rfl, rx, ru⟩ := vals2 r
  cases clsV_rel hy ru
  exact isinst_ok I rx ty e fun tk => ⟨.bl b, H, I.tok tk, rfl, q⟩
end L2

set_option Elab.async false
set_option linter.all false
set_option maxRecDepth 100000

namespace L2
open PySem PySem.Spec PySem.Calls PyProof.Rows



section
variable {X : Cx} {tg l : Expr} {body : List Stmt} {tl : TE} {g : TG} {tb : TS} {pos : Pos} {a : Addr}
end


structure RoomH (k : Nat) (A : Around) : Prop where
  dp : A.depth + 3 * k + 5 < recursionLimit
  un : A.units + 16 * k + 200 < cLine
theorem Room.hand {k : Nat} {A : Around} (r : Room k A) (a : Addr) : RoomH k (A.mark (some (.ref a))) := ⟨r.dp, r.un⟩
theorem RoomH.deeper {k : Nat} {A : Around} (r : RoomH (k + 1) A) (env : Env) : RoomH k (A.deeper env) :=
  ⟨by have := r.dp; show A.depth + 1 + 3 * k + 5 < _; omega, by have := r.un; show A.units + 3 + 16 * k + 200 < _; omega⟩

structure FnOkH (P : Program) (w : World) (K : PySem.W.Frag) (mg : Str → Option Value) (base : Heap) (k : Nat) (f : Addr) (fd : FuncData) (ps : List Str) (sp : Addr → Sp) : Prop where
  len : ∀ a vs H Q E, sp a vs H Q E → vs.length = ps.length
  run : ∀ (A : Around) (a : Addr) (outer : List Env) (s : Shared) (H : Hp) (args : Args) (us : List Value) (vs : List V) (Q : VK) (E : XK), RoomH k A → A.handled = some (.ref a) → Env0 P w K mg base A outer s H → BindsTo s fd args (ps.zip us) → Vals vs us → sp a vs H Q E →
    codeAny (model P w) A (.call (.ref f) args) (CR CX0 outer P w H s Q E) s
structure HasH (P : Program) (w : World) (K : PySem.W.Frag) (mg : Str → Option Value) (base : Heap) (k : Nat) (x : Str) (ps : List Str) (sp : Addr → Sp) : Prop where
  ex : ∃ f fd, FnOkH P w K mg base k f fd ps sp ∧ mg x = some (.ref f) ∧ PySem.W.keepIn K (.ref f) = true ∧ Binds K fd ps []
section
variable {X : Cx} {k : Nat} {ps : List Str} {sp : Addr → Sp} {x : Str} {p pos : Pos} {e : Expr} {es : List Expr} {t : TA} {a : Addr}
end
end L2

set_option Elab.async false
set_option linter.all false
set_option maxRecDepth 100000

namespace L2
open PySem PySem.Spec PySem.Calls PyProof.Rows

section
variable {X : Cx} {pins : List (Addr × Obj)} {σ : St} {H : Hp} {s : Shared}
theorem Inv.adopt {b : Addr} {o : HO} (I : Inv X pins σ H s) (f : FpOk X pins H b) (hs : X.s₀.heap.objs.size ≤ b) (ok : ObjOk X.prog X.w (upd H b o) s.heap b o) : Inv X pins σ (upd H b o) s := by
  obtain ⟨hn, hL, hfs, _, hc, hp⟩ := f
  have ne : ∀ c u, H c = some u → c ≠ b := fun c u q z => by subst z; rw [hn] at q; cases q
  refine ⟨I.ok, I.os, I.bare, ⟨I.base.keep, I.base.slot, fun c oc e n hx => ?_, I.base.there, fun c xs e => ?_, fun c oc u e => ?_, fun c ps e => ?_⟩, I.loc, I.cell, ?_, fun x c e => ?_, fun p hp' => ?_, fun c u q => ?_, I.len⟩
  · rw [upd_ne (show c ≠ b from fun z => absurd (Nat.lt_of_lt_of_le (Heap.lt_size e) (by rw [z]; exact hs)) (Nat.lt_irrefl _))]
    exact I.base.free c oc e n hx
  · have e' := I.base.tups c xs e
    rw [upd_ne (ne c _ e')]; exact e'
  · have e' := I.base.frzs c oc u e
    rw [upd_ne (ne c _ e')]; exact e'
  · obtain ⟨m1, e'⟩ := I.base.tbls c ps e
    exact ⟨m1, by rw [upd_ne (ne c _ e')]; exact e'⟩
  · rw [upd_ne (Ne.symm hL)]; exact I.free
  · rw [upd_ne (hc x c e)]; exact I.freeC x c e
  · obtain ⟨e, n, n1, n2, d⟩ := I.pin p hp'
    exact ⟨e, by rw [upd_ne (hp p hp')]; exact n, n1, n2, d⟩
  · by_cases hb : c = b
    · subst hb
      rw [upd_same] at q
      cases q
      exact ok
    · rw [upd_ne hb] at q
      exact (I.hok c u q).stay (fun _ _ _ r => r) (fun c' r => by rw [upd_ne (ne c' _ r)]; exact r) fun c' xs r => by rw [upd_ne (ne c' _ r)]; exact r


noncomputable def viewφ (T : String) (p a : Addr) : Heap → Prop := fun h => h.get? p = some { cls := .type T, data := .fields #[.ref a] }
noncomputable def rView (T : String) : V → List V → Hp → VK → Prop := fun x vs H Q => ∃ a kvs, x = .ref a ∧ vs = [] ∧ Rd H a (.dK kvs) ∧ ∀ p, H p = none → Q (.ref p) (upd H p (.ext (viewφ T p a)))
theorem view_ok {T : String} {a : Addr} {Q : VK} (I : Inv X pins σ H s) (h : ∀ p, H p = none → Q (.ref p) (upd H p (.ext (viewφ T p a)))) :
    EP X pins σ Q (.ref s.heap.objs.size) { s with heap := s.heap.push { cls := .type T, data := .fields #[.ref a] } } := by
  refine ⟨.ref s.heap.objs.size, _, I.laid (t' := s.toks) (fun b ob q => Heap.get?_push_of_some _ q) (Nat.le_refl _) ?_, rfl, h _ (I.hok.fresh (Nat.le_refl _))⟩
  exact ⟨Heap.get?_push_size _ rfl, ⟨_, Heap.get?_push_size _ rfl⟩, fun h1 h2 e k => k _ e⟩
theorem mt_values : MtR X "dict.values" (rView "dict_values") := by
  intro pins s σ H x vs v us Q I rx rv h
  obtain ⟨a, kvs, rfl, rfl, hd, q⟩ := h
  cases rx; cases rv
  obtain ⟨_, lo, ws, _, hD⟩ := dk_rd I.hok hd
  exact call_meetsIn PySem.F.slot_dict_values hD.typeIs PySem.F.entry_dict_values (PySem.F.args_dict_values_1 _) (meets_dict_values (mixKind X.prog X.w) a lo) ⟨⟨ws, hD⟩, view_ok I q⟩
theorem mt_items : MtR X "dict.items" (rView "dict_items") := by
  intro pins s σ H x vs v us Q I rx rv h
  obtain ⟨a, kvs, rfl, rfl, hd, q⟩ := h
  cases rx; cases rv
  obtain ⟨_, lo, ws, _, hD⟩ := dk_rd I.hok hd
  exact call_meetsIn PySem.F.slot_dict_items hD.typeIs PySem.F.entry_dict_items (PySem.F.args_dict_items_1 _) (meets_dict_items (mixKind X.prog X.w) a lo) ⟨⟨ws, hD⟩, view_ok I q⟩
theorem vals_snd {kvs : List (Key × V)} {ws : List (Key × Value)} (r : KV kvs ws) : Vals (kvs.map (·.2)) (ws.map (·.2)) := by
  induction r with
  | nil => exact .nil
  | cons h _ ih => exact .cons h.2 ih
theorem KV.at {kvs : List (Key × V)} {ws : List (Key × Value)} (r : KV kvs ws) {j : Nat} {k : Key} {u : Value} (h : ws[j]? = some (k, u)) : ∃ v, kvs[j]? = some (k, v) ∧ RelV v u := by
  induction r generalizing j with
  | nil => simp at h
  | cons h1 _ ih =>
    cases j with
    | zero =>
      simp only [List.getElem?_cons_zero, Option.some.injEq] at h
      rename_i p q _ _ _
      subst h
      refine ⟨p.2, ?_, h1.2⟩
      simp only [List.getElem?_cons_zero, Option.some.injEq]
      exact Prod.ext h1.1 rfl
    | succ j => exact ih (by simpa using h)
theorem call_list_values (hc : X.calm = true) : CallR X (.type "list") (fun xs H Q => ∃ p a kvs, xs = [.ref p] ∧ H p = some (.ext (viewφ "dict_values" p a)) ∧ Rd H a (.dK kvs) ∧ ∀ l, H l = none → Q (.ref l) (upd H l (.lst (kvs.map (·.2))))) := by
  intro pins s σ H xs us Q I r h
  obtain ⟨p, a, kvs, rfl, hp, hd, q⟩ := h
  obtain ⟨u, rfl, ru⟩ := r.one
  cases ru
  obtain ⟨hz, lo, ws, rel, hD⟩ := dk_rd I.hok hd
  obtain ⟨ep, hat⟩ := hD.dictAt
  have hv : s.heap.get? p = some { cls := .type "dict_values", data := .fields #[.ref a] } := (I.hok p _ hp).1
  refine PySem.W.kdl_call (PySem.W.kdl_values (knd := mixKind X.prog X.w) (kvs := ws) (ep := ep)) (I.ok.hd hc) ⟨⟨_, hv, rfl, rfl⟩, hat⟩ (by rw [← rel.length]; exact hz) fun h' tk acc c hk hl hi => ?_
  have e : acc.toList = ws.map (·.2) := PySem.W.kdl_vals_eq acc.toList (by rw [Array.length_toList]; exact hi.1) fun j v e => hi.2 j v (by rw [← Array.getElem?_toList]; exact e)
  refine ⟨.ref s.heap.objs.size, _, I.laid (t' := tk) (o := .lst (kvs.map (·.2))) hk (Nat.le_refl _) ⟨by rw [List.length_map]; exact hz, ws.map (·.2), c, vals_snd rel, ?_⟩, rfl, q _ (I.hok.fresh (Nat.le_refl _))⟩
  rw [hl, ← e]
noncomputable def Prs (H : Hp) : List Addr → List (Key × V) → Prop := Paired fun a kv => H a = some (.tup [kV kv.1, kv.2])
theorem pairs_in {kvs : List (Key × V)} {ws : List (Key × Value)} {lo : Addr} (rel : KV kvs ws) (hs : X.s₀.heap.objs.size ≤ lo) :
    ∀ {as : List Addr} {j : Nat} {H : Hp}, Inv X pins σ H s → (∀ a ∈ as, lo < a ∧ FpOk X pins H a) → as.Pairwise (· < ·) → as.length + j = ws.length →
      (∀ (i : Nat) (a : Addr), as[i]? = some a → ∃ key k x, ws[j + i]? = some (k, x) ∧ (mixKind X.prog X.w).is k key = true ∧ s.heap.get? a = some { cls := .type "tuple", data := .seq #[key, x] }) →
      ∃ H', Inv X pins σ H' s ∧ (∀ b, (∀ a ∈ as, b ≠ a) → H' b = H b) ∧ Prs H' as (kvs.drop j)
  | [], j, H, I, _, _, hl, _ => ⟨H, I, fun _ _ => rfl, by
      rw [List.drop_of_length_le (by rw [rel.length]; simp at hl; omega)]
      exact .nil⟩
  | a :: as, j, H, I, hf, hp, hl, hv => by
    obtain ⟨key, k, x, e1, hk, e2⟩ := hv 0 a rfl
    obtain ⟨v, e3, rv⟩ := rel.at e1
    have rk : RelV (kV k) key := by
      rcases keyIs_shape hk with ⟨i, t, rfl, rfl⟩ | ⟨x, t, rfl, rfl⟩
      · exact ⟨t, rfl⟩
      · exact ⟨t, rfl⟩
    obtain ⟨hlo, fa⟩ := hf a List.mem_cons_self
    have hpa := List.pairwise_cons.mp hp
    have I1 : Inv X pins σ (upd H a (.tup [kV k, v])) s := I.adopt fa (Nat.le_trans hs (Nat.le_of_lt hlo)) ⟨by show 2 ≤ sizeLine; decide, [key, x], .cons rk (.cons rv .nil), _, e2, rfl, _, rfl⟩
    have hne : ∀ b ∈ as, b ≠ a := fun b hb z => absurd (hpa.1 b hb) (by rw [z]; exact Nat.lt_irrefl _)
    obtain ⟨H', I', k1, k2⟩ := pairs_in rel hs (as := as) (j := j + 1) I1 (fun b hb => ⟨(hf b (List.mem_cons_of_mem _ hb)).1, by
      have f := (hf b (List.mem_cons_of_mem _ hb)).2
      exact ⟨by rw [upd_ne (hne b hb)]; exact f.1, f.2⟩⟩) hpa.2 (by simp at hl ⊢; omega) (fun i b hb => by
      obtain ⟨key', k', x', g1, g2, g3⟩ := hv (i + 1) b (by simpa using hb)
      exact ⟨key', k', x', by rw [← g1]; congr 1; omega, g2, g3⟩)
    refine ⟨H', I', fun b hb => ?_, ?_⟩
    · rw [k1 b fun c hc => hb c (List.mem_cons_of_mem _ hc), upd_ne (hb a List.mem_cons_self)]
    · have e3' : kvs[j]? = some (k, v) := by simpa using e3
      have hlt : j < kvs.length := (List.getElem?_eq_some_iff.mp e3').1
      have hd : kvs.drop j = (k, v) :: kvs.drop (j + 1) := by
        rw [List.drop_eq_getElem_cons hlt]
        congr 1
        exact (List.getElem?_eq_some_iff.mp e3').2
      rw [hd]
      refine .cons ?_ k2
      rw [k1 a fun b hb z => hne b hb z.symm, upd_same]
theorem call_list_items (hc : X.calm = true) : CallR X (.type "list") (fun xs H Q => ∃ p a kvs, xs = [.ref p] ∧ H p = some (.ext (viewφ "dict_items" p a)) ∧ Rd H a (.dK kvs) ∧
    ∀ l as H1, H l = none → (∀ a ∈ as, H a = none ∧ a ≠ l) → (∀ b, (∀ a ∈ as, b ≠ a) → H1 b = upd H l (.lst (as.map V.ref)) b) → Prs H1 as kvs → Q (.ref l) H1) := by
  intro pins s σ H xs us Q I r h
  obtain ⟨p, a, kvs, rfl, hp, hd, q⟩ := h
  obtain ⟨u, rfl, ru⟩ := r.one
  cases ru
  obtain ⟨hz, lo, ws, rel, hD⟩ := dk_rd I.hok hd
  obtain ⟨ep, hat⟩ := hD.dictAt
  have hv : s.heap.get? p = some { cls := .type "dict_items", data := .fields #[.ref a] } := (I.hok p _ hp).1
  refine PySem.W.kdx_call (knd := mixKind X.prog X.w) (kvs := ws) (ep := ep) (I.ok.hd hc) ⟨_, hv, rfl, rfl⟩ hat (by rw [← rel.length]; exact hz) fun h' tk acc c as hk hl hlen hG hacc => ?_
  have hl0 := I.hok.fresh (Nat.le_refl s.heap.objs.size)
  have vr : Vals (as.map V.ref) (as.map Value.ref) := by
    clear hlen hG hacc
    induction as with
    | nil => exact .nil
    | cons _ _ ih => exact .cons rfl ih
  have I1 : Inv X pins σ (upd H s.heap.objs.size (.lst (as.map V.ref))) { s with heap := h', toks := tk } := I.laid hk (Nat.le_refl _) ⟨by rw [List.length_map, hlen, ← rel.length]; exact hz, as.map Value.ref, c, vr, by rw [hl, ← hacc]⟩
  have fa : ∀ b ∈ as, s.heap.objs.size < b ∧ FpOk X pins (upd H s.heap.objs.size (.lst (as.map V.ref))) b := fun b hb => by
    have hlt := hG.above b hb
    refine ⟨hlt, I.fpOk (Nat.le_of_lt hlt) ?_⟩
    rw [upd_ne (Nat.ne_of_gt hlt)]
    exact I.hok.fresh (Nat.le_of_lt hlt)
  obtain ⟨H', I', k1, k2⟩ := pairs_in (j := 0) rel I.sz I1 fa hG.rise (by omega) (fun i b hb => by
    obtain ⟨key, k, x, g1, g2, g3⟩ := hG.pairs i b hb
    exact ⟨key, k, x, by simpa using g1, g2, g3⟩)
  exact ⟨.ref s.heap.objs.size, H', I', rfl, q _ as H' hl0 (fun b hb => ⟨I.hok.fresh (Nat.le_of_lt (fa b hb).1), Nat.ne_of_gt (fa b hb).1⟩) k1 (by simpa using k2)⟩
end
end L2

set_option Elab.async false
set_option linter.all false
set_option maxRecDepth 100000

namespace L2
open PySem PySem.Spec PySem.Calls PyProof.Rows



inductive D where
  | non | bl (b : Bool) | int (i : Int) | str (x : Str) | lst (ds : List D) | tup (ds : List D) | scr (ds : List D) | ctp (ds : List D) | obj (p : Addr)
mutual
inductive RD (K : PySem.W.Frag) (F : Hp) : V → D → Prop where
  | non : RD K F .non .non
  | bl (b : Bool) : RD K F (.bl b) (.bl b)
  | int (i : Int) : RD K F (.int i) (.int i)
  | str (x : Str) : RD K F (.str x) (.str x)
  | lst {a : Addr} {xs : List V} {ds : List D} (e : F a = some (.lst xs)) (r : RDs K F xs ds) : RD K F (.ref a) (.lst ds)
  | scr {a : Addr} {xs : List V} {ds : List D} (e : SqL K F a xs) (r : RDs K F xs ds) : RD K F (.ref a) (.scr ds)
  | tup {a : Addr} {xs : List V} {ds : List D} (e : F a = some (.tup xs)) (r : RDs K F xs ds) : RD K F (.ref a) (.tup ds)
  | ctp {a : Addr} {xs : List V} {ds : List D} (e : SqT K F a xs) (r : RDs K F xs ds) : RD K F (.ref a) (.ctp ds)
  | obj (p : Addr) : RD K F (.ref p) (.obj p)
inductive RDs (K : PySem.W.Frag) (F : Hp) : List V → List D → Prop where
  | nil : RDs K F [] []
  | cons {x : V} {d : D} {xs : List V} {ds : List D} (h : RD K F x d) (t : RDs K F xs ds) : RDs K F (x :: xs) (d :: ds)
end
theorem Same.seqT {K : PySem.W.Frag} {H H' : Hp} {a : Addr} {xs : List V} (e : Same H H') (h : SqT K H a xs) : SqT K H' a xs := by
  rcases h with (h | ⟨o, h⟩) | h
  · exact .inl (.inl (e _ _ h))
  · exact .inl (.inr ⟨o, e _ _ h⟩)
  · exact .inr h
mutual
theorem RD.up {K : PySem.W.Frag} {F F' : Hp} (e : Same F F') : ∀ {x : V} {d : D}, RD K F x d → RD K F' x d
  | _, _, .non => .non
  | _, _, .bl b => .bl b
  | _, _, .int i => .int i
  | _, _, .str x => .str x
  | _, _, .lst q rs => .lst (e _ _ q) (RDs.up e rs)
  | _, _, .scr q rs => .scr (e.seq q) (RDs.up e rs)
  | _, _, .tup q rs => .tup (e _ _ q) (RDs.up e rs)
  | _, _, .ctp q rs => .ctp (e.seqT q) (RDs.up e rs)
  | _, _, .obj p => .obj p
theorem RDs.up {K : PySem.W.Frag} {F F' : Hp} (e : Same F F') : ∀ {xs : List V} {ds : List D}, RDs K F xs ds → RDs K F' xs ds
  | _, _, .nil => .nil
  | _, _, .cons h t => .cons (RD.up e h) (RDs.up e t)
end
section
variable {K : PySem.W.Frag} {F : Hp}
theorem RDs.length : ∀ {xs : List V} {ds : List D}, RDs K F xs ds → xs.length = ds.length
  | _, _, .nil => rfl
  | _, _, .cons _ t => by simp [RDs.length t]
theorem RDs.get : ∀ {xs : List V} {ds : List D} {i : Nat} {d : D}, RDs K F xs ds → ds[i]? = some d → ∃ x, xs[i]? = some x ∧ RD K F x d
  | _, _, _, _, .nil, e => by simp at e
  | _, _, 0, _, .cons h _, e => by simp at e; subst e; exact ⟨_, rfl, h⟩
  | _, _, i + 1, d, .cons _ t, e => by
    obtain ⟨x, h1, h2⟩ := RDs.get (i := i) (d := d) t (by simpa using e)
    exact ⟨x, by simpa using h1, h2⟩
theorem RDs.get' : ∀ {xs : List V} {ds : List D} {i : Nat} {x : V}, RDs K F xs ds → xs[i]? = some x → ∃ d, ds[i]? = some d ∧ RD K F x d
  | _, _, _, _, .nil, e => by simp at e
  | _, _, 0, _, .cons h _, e => by simp at e; subst e; exact ⟨_, rfl, h⟩
  | _, _, i + 1, d, .cons _ t, e => by
    obtain ⟨x, h1, h2⟩ := RDs.get' (i := i) t (by simpa using e)
    exact ⟨x, by simpa using h1, h2⟩
theorem RDs.append : ∀ {xs ys : List V} {ds es : List D}, RDs K F xs ds → RDs K F ys es → RDs K F (xs ++ ys) (ds ++ es)
  | _, _, _, _, .nil, s => s
  | _, _, _, _, .cons h t, s => .cons h (RDs.append t s)
theorem RDs.set {x : V} {d : D} (r : RD K F x d) : ∀ {xs : List V} {ds : List D} (i : Nat), RDs K F xs ds → RDs K F (xs.set i x) (ds.set i d)
  | _, _, _, .nil => .nil
  | _, _, 0, .cons _ t => .cons r t
  | _, _, i + 1, .cons q t => .cons q (RDs.set r i t)
theorem RDs.take : ∀ {xs : List V} {ds : List D} (n : Nat), RDs K F xs ds → RDs K F (xs.take n) (ds.take n)
  | _, _, 0, _ => .nil
  | _, _, _ + 1, .nil => .nil
  | _, _, n + 1, .cons r t => .cons r (RDs.take n t)
theorem RDs.drop : ∀ {xs : List V} {ds : List D} (n : Nat), RDs K F xs ds → RDs K F (xs.drop n) (ds.drop n)
  | _, _, 0, r => r
  | _, _, _ + 1, .nil => .nil
  | _, _, n + 1, .cons _ t => RDs.drop n t
theorem RDs.reverse : ∀ {xs : List V} {ds : List D}, RDs K F xs ds → RDs K F xs.reverse ds.reverse
  | _, _, .nil => .nil
  | _, _, .cons r t => by
    rw [List.reverse_cons, List.reverse_cons]
    exact (RDs.reverse t).append (.cons r .nil)
theorem RDs.one' {xs : List V} {d : D} (r : RDs K F xs [d]) : ∃ x, xs = [x] ∧ RD K F x d := by
  cases r with | cons h t => cases t; exact ⟨_, rfl, h⟩
theorem RDs.nil' {xs : List V} (r : RDs K F xs []) : xs = [] := by cases r; rfl
theorem RDs.two' {xs : List V} {d e : D} (r : RDs K F xs [d, e]) : ∃ x y, xs = [x, y] ∧ RD K F x d ∧ RD K F y e := by
  cases r with | cons h t => obtain ⟨y, rfl, hy⟩ := t.one'; exact ⟨_, _, rfl, h, hy⟩
end


inductive MO where
  | lst (ds : List D) | dic (kvs : List (Key × D)) | ins (C : Addr) (fs : List (Str × D)) | exc (cls : Value) | raw (u : HO)
noncomputable abbrev Mem := Addr → Option MO
noncomputable def put (M : Mem) (p : Addr) (o : MO) : Mem := fun b => if b = p then some o else M b
noncomputable def del (M : Mem) (p : Addr) : Mem := fun b => if b = p then none else M b
theorem put_same {M : Mem} {p : Addr} {o : MO} : put M p o p = some o := by unfold put; rw [if_pos rfl]
theorem put_ne {M : Mem} {p q : Addr} {o : MO} (h : q ≠ p) : put M p o q = M q := by unfold put; rw [if_neg h]
theorem put_put {M : Mem} {p : Addr} {o u : MO} : put (put M p o) p u = put M p u := by funext b; unfold put; split <;> rfl
theorem del_same {M : Mem} {p : Addr} : del M p p = none := by unfold del; rw [if_pos rfl]
theorem del_ne {M : Mem} {p q : Addr} (h : q ≠ p) : del M p q = M q := by unfold del; rw [if_neg h]
theorem del_put {M : Mem} {p : Addr} {o : MO} (h : M p = none) : del (put M p o) p = M := by
  funext b; unfold del put
  by_cases hb : b = p
  · rw [if_pos hb, hb, h]
  · rw [if_neg hb, if_neg hb]
theorem put_comm {M : Mem} {p q : Addr} {o u : MO} (h : p ≠ q) : put (put M p o) q u = put (put M q u) p o := by
  funext b; unfold put
  by_cases h1 : b = p
  · subst h1; rw [if_neg h, if_pos rfl, if_pos rfl]
  · by_cases h2 : b = q
    · rw [if_pos h2, if_neg h1, if_pos h2]
    · rw [if_neg h2, if_neg h1, if_neg h1, if_neg h2]
noncomputable def Sub (M M' : Mem) : Prop := ∀ p o, M p = some o → M' p = some o
theorem Sub.refl (M : Mem) : Sub M M := fun _ _ h => h
theorem Sub.put {M : Mem} {p : Addr} {o : MO} (h : M p = none) : Sub M (put M p o) := fun q u e => by
  rw [put_ne (by rintro rfl; rw [h] at e; cases e)]; exact e
theorem Sub.trans {M M1 M2 : Mem} (a : Sub M M1) (b : Sub M1 M2) : Sub M M2 := fun p o h => b p o (a p o h)

noncomputable def PF {κ : Type} (K : PySem.W.Frag) (F : Hp) : List (κ × V) → List (κ × D) → Prop := Paired fun p q => p.1 = q.1 ∧ RD K F p.2 q.2
theorem PF.up {κ : Type} {K : PySem.W.Frag} {F F' : Hp} (e : Same F F') {a : List (κ × V)} {b : List (κ × D)} (h : PF K F a b) : PF K F' a b := Paired.mapP h fun _ _ q => ⟨q.1, q.2.up e⟩
noncomputable def RO (K : PySem.W.Frag) (F : Hp) (a : Addr) : MO → HO → Prop
  | .lst ds, .lst vs => RDs K F vs ds
  | .dic kvs, .dK ws => PF K F ws kvs
  | .ins C fs, .ins C' _ ws => C' = C ∧ PF K F ws fs
  | .exc c, .ext φ => φ = excφ a c
  | .raw u, u' => u' = u
  | _, _ => False
theorem RO.up {K : PySem.W.Frag} {F F' : Hp} (e : Same F F') {a : Addr} : ∀ {o : MO} {u : HO}, RO K F a o u → RO K F' a o u := by
  intro o u h
  cases o <;> cases u <;> first
    | exact (False.elim h)
    | exact RDs.up e h
    | exact PF.up e h
    | exact ⟨h.1, PF.up e h.2⟩
    | exact h
section
variable {K : PySem.W.Frag} {F : Hp} {a : Addr} {u : HO}
theorem RO.isL {ds : List D} (h : RO K F a (.lst ds) u) : ∃ vs, u = .lst vs ∧ RDs K F vs ds := by
  cases u <;> first | exact (False.elim h) | exact ⟨_, rfl, h⟩
theorem RO.isD {kvs : List (Key × D)} (h : RO K F a (.dic kvs) u) : ∃ ws, u = .dK ws ∧ PF K F ws kvs := by
  cases u <;> first | exact (False.elim h) | exact ⟨_, rfl, h⟩
theorem RO.isI {C : Addr} {fs : List (Str × D)} (h : RO K F a (.ins C fs) u) : ∃ dx ws, u = .ins C dx ws ∧ PF K F ws fs := by
  cases u <;> first | exact (False.elim h) | (obtain ⟨rfl, h⟩ := h; exact ⟨_, _, rfl, h⟩)
end

structure AM (K : PySem.W.Frag) (F : Hp) (M : Mem) (H : Hp) : Prop where
  sub : Same F H
  dj : ∀ p o, M p = some o → F p = none
  mem : ∀ p o, M p = some o → ∃ u, H p = some u ∧ RO K F p o u
theorem same_upd {F : Hp} {p : Addr} {u : HO} (h : F p = none) : Same F (upd F p u) := fun b o e => by
  rw [upd_ne (by rintro rfl; rw [h] at e; cases e)]; exact e
section
variable {K : PySem.W.Frag} {F : Hp} {M : Mem} {H : Hp} {p : Addr} {o : MO} {u : HO}
theorem AM.fF (m : AM K F M H) (h : H p = none) : F p = none := m.sub.free h
theorem AM.fM (m : AM K F M H) (h : H p = none) : M p = none := by
  cases q : M p with
  | none => rfl
  | some o => obtain ⟨u, e, _⟩ := m.mem p o q; rw [h] at e; cases e
theorem AM.new (m : AM K F M H) (h : H p = none) (r : RO K F p o u) : AM K F (put M p o) (upd H p u) := by
  refine ⟨fun b x e => ?_, fun b x e => ?_, fun b x e => ?_⟩
  · exact same_upd h b x (m.sub b x e)
  · by_cases hb : b = p
    · subst hb; exact m.fF h
    · rw [put_ne hb] at e; exact m.dj b x e
  · by_cases hb : b = p
    · subst hb; rw [put_same] at e; cases e; exact ⟨u, upd_same, r⟩
    · rw [put_ne hb] at e
      obtain ⟨y, e1, r1⟩ := m.mem b x e
      exact ⟨y, by rw [upd_ne hb]; exact e1, r1⟩
theorem AM.frz (m : AM K F M H) (h : H p = none) : AM K (upd F p u) M (upd H p u) := by
  have hs := same_upd (u := u) (m.fF h)
  refine ⟨fun b x e => ?_, fun b x e => ?_, fun b x e => ?_⟩
  · by_cases hb : b = p
    · subst hb; rw [upd_same] at e ⊢; exact e
    · rw [upd_ne hb] at e ⊢; exact m.sub b x e
  · have hb : b ≠ p := by rintro rfl; rw [m.fM h] at e; cases e
    rw [upd_ne hb]; exact m.dj b x e
  · have hb : b ≠ p := by rintro rfl; rw [m.fM h] at e; cases e
    obtain ⟨y, e1, r1⟩ := m.mem b x e
    exact ⟨y, by rw [upd_ne hb]; exact e1, r1.up hs⟩
theorem AM.more (m : AM K F M H) (h : H p = none) : AM K F M (upd H p u) := by
  refine ⟨fun b x e => same_upd h b x (m.sub b x e), m.dj, fun b x e => ?_⟩
  have hb : b ≠ p := by rintro rfl; rw [m.fM h] at e; cases e
  obtain ⟨y, e1, r1⟩ := m.mem b x e
  exact ⟨y, by rw [upd_ne hb]; exact e1, r1⟩
theorem AM.set {o' : MO} (m : AM K F M H) (h : M p = some o) (r : RO K F p o' u) : AM K F (put M p o') (upd H p u) := by
  refine ⟨fun b x e => ?_, fun b x e => ?_, fun b x e => ?_⟩
  · have hb : b ≠ p := by rintro rfl; rw [m.dj _ _ h] at e; cases e
    rw [upd_ne hb]; exact m.sub b x e
  · by_cases hb : b = p
    · subst hb; exact m.dj _ _ h
    · rw [put_ne hb] at e; exact m.dj b x e
  · by_cases hb : b = p
    · subst hb; rw [put_same] at e; cases e; exact ⟨u, upd_same, r⟩
    · rw [put_ne hb] at e
      obtain ⟨y, e1, r1⟩ := m.mem b x e
      exact ⟨y, by rw [upd_ne hb]; exact e1, r1⟩
theorem AM.freeze {ds : List D} (m : AM K F M H) (h : M p = some (.lst ds)) : ∃ F', Same F F' ∧ AM K F' (del M p) H ∧ RD K F' (.ref p) (.lst ds) := by
  obtain ⟨y, e, r⟩ := m.mem p _ h
  obtain ⟨vs, rfl, r⟩ := r.isL
  have hs := same_upd (u := .lst vs) (m.dj _ _ h)
  refine ⟨upd F p (.lst vs), hs, ⟨fun b x q => ?_, fun b x q => ?_, fun b x q => ?_⟩, .lst upd_same (r.up hs)⟩
  · by_cases hb : b = p
    · subst hb; rw [upd_same] at q; cases q; exact e
    · rw [upd_ne hb] at q; exact m.sub b x q
  · have hb : b ≠ p := by rintro rfl; rw [del_same] at q; cases q
    rw [del_ne hb] at q
    rw [upd_ne hb]; exact m.dj b x q
  · have hb : b ≠ p := by rintro rfl; rw [del_same] at q; cases q
    rw [del_ne hb] at q
    obtain ⟨y, e1, r1⟩ := m.mem b x q
    exact ⟨y, e1, r1.up hs⟩
theorem AM.less {M' : Mem} (m : AM K F M H) (h : Sub M' M) : AM K F M' H := ⟨m.sub, fun p o e => m.dj p o (h p o e), fun p o e => m.mem p o (h p o e)⟩
end


noncomputable abbrev G := List (Option D)
structure AG (K : PySem.W.Frag) (F : Hp) (Γ : G) (σ : St) : Prop where
  len : Γ.length = σ.length
  at' : ∀ (i : Nat) (d : D), Γ[i]? = some (some d) → ∃ v, σ[i]? = some (some v) ∧ RD K F v d
theorem AG.up {K : PySem.W.Frag} {F F' : Hp} {Γ : G} {σ : St} (a : AG K F Γ σ) (e : Same F F') : AG K F' Γ σ := ⟨a.len, fun i d h => let ⟨v, h1, h2⟩ := a.at' i d h; ⟨v, h1, h2.up e⟩⟩
theorem AG.set {K : PySem.W.Frag} {F : Hp} {Γ : G} {σ : St} {v : V} {d : D} (a : AG K F Γ σ) (r : RD K F v d) (i : Nat) : AG K F (Γ.set i (some d)) (σ.set i (some v)) := by
  refine ⟨by simp [a.len], fun j e h => ?_⟩
  by_cases hj : i = j
  · subst hj
    rw [List.getElem?_set] at h
    simp only [if_true] at h
    split at h
    · rename_i hl
      cases h
      refine ⟨v, ?_, r⟩
      rw [List.getElem?_set, if_pos rfl, if_pos (by rw [← a.len]; exact hl)]
    · cases h
  · rw [List.getElem?_set_ne hj] at h ⊢
    exact a.at' j e h

noncomputable abbrev AK := D → Mem → Prop
noncomputable abbrev AE := G → Mem → AK → Prop
noncomputable abbrev AT := G → Mem → (Bool → Mem → Prop) → Prop
noncomputable abbrev AA := G → Mem → (List D → Mem → Prop) → Prop
structure AEnds where
  nx : G → Mem → Prop
  rt : AK
  bk : G → Mem → Prop := fun _ _ => False
  ct : G → Mem → Prop := fun _ _ => False
noncomputable abbrev AS := AEnds → G → Mem → Prop

noncomputable def selfE (X : Cx) (e : Expr) : TE := fun σ H Q => ∀ pins s, Inv X pins σ H s → wpAny (model X.prog X.w) X.A (eval e X.env) (EP X pins σ Q) X.xe s
noncomputable def selfT (X : Cx) (e : Expr) : TT := fun σ H Q => ∀ pins s, Inv X pins σ H s → wpAny (model X.prog X.w) X.A (isTrue e X.env (eval e X.env)) (TP X pins σ Q) X.xe s
noncomputable def selfW (X : Cx) (e : Expr) : TT := fun σ H Q => ∀ whole pins s, Inv X pins σ H s → wpAny (model X.prog X.w) X.A (isTrue e X.env whole) (TP X pins σ Q) X.xe s
noncomputable def selfA (X : Cx) (es : List Expr) : TA := fun σ H Q => ∀ pos pins s, Inv X pins σ H s → wpAny (model X.prog X.w) X.A (spliced (backTo pos (starEach es X.env))) (AP X pins σ Q) X.xe s
noncomputable def selfS (X : Cx) (st : Stmt) : TS := fun D σ H => ∀ pins s, Inv X pins σ H s → wpAny (model X.prog X.w) X.A (exec st X.env) (SP X pins D) X.xe s
noncomputable def selfSs (X : Cx) (st : List Stmt) : TS := fun D σ H => ∀ pins s, Inv X pins σ H s → wpAny (model X.prog X.w) X.A (execs st X.env) (SP X pins D) X.xe s
noncomputable def selfG (X : Cx) (tg : Expr) : TG := fun v σ H Q => ∀ pins s u, Inv X pins σ H s → RelV v u → wpAny (model X.prog X.w) X.A (assign tg X.env u) (fun _ s' => ∃ σ' H', Inv X pins σ' H' s' ∧ Q σ' H') X.xe s
noncomputable def selfGs (X : Cx) (ts : List Expr) : TGs := fun vs σ H Q => ∀ pins s us, Inv X pins σ H s → Vals vs us → wpAny (model X.prog X.w) X.A (assignInOrder ((assignEach ts X.env).map (·.2)) us) (fun _ s' => ∃ σ' H', Inv X pins σ' H' s' ∧ Q σ' H') X.xe s
section
variable {X : Cx} {e : Expr} {es : List Expr} {st : Stmt} {sts : List Stmt} {σ : St} {H : Hp}
theorem pe_self : PE X e (selfE X e) := fun pins s _ _ _ I h => h pins s I
theorem pt_self : PT X e (selfT X e) := fun pins s _ _ _ I h => h pins s I
theorem pw_self : PW X e (selfW X e) := fun w pins s _ _ _ I h => h w pins s I
theorem pa_self : PA X es (selfA X es) := fun pos pins s _ _ _ I h => h pos pins s I
theorem ps_self : PS X st (selfS X st) := fun pins s _ _ _ I h => h pins s I
theorem pss_self : PSs X sts (selfSs X sts) := fun pins s _ _ _ I h => h pins s I
theorem pg_self : PG X e (selfG X e) := fun pins s _ _ _ u _ I r h => h pins s u I r
theorem pgs_self : PGs X es (selfGs X es) := fun pins s _ _ _ us _ I r h => h pins s us I r
theorem PE.to {t : TE} {Q : VK} (h : PE X e t) (hw : t σ H Q) : selfE X e σ H Q := fun pins s I => h pins s σ H Q I hw
theorem PT.to {t : TT} {Q : Bool → Hp → Prop} (h : PT X e t) (hw : t σ H Q) : selfT X e σ H Q := fun pins s I => h pins s σ H Q I hw
theorem PW.to {t : TT} {Q : Bool → Hp → Prop} (h : PW X e t) (hw : t σ H Q) : selfW X e σ H Q := fun w pins s I => h w pins s σ H Q I hw
theorem PA.to {t : TA} {Q : List V → Hp → Prop} (h : PA X es t) (hw : t σ H Q) : selfA X es σ H Q := fun pos pins s I => h pos pins s σ H Q I hw
theorem PS.to {t : TS} {D : Ends} (h : PS X st t) (hw : t D σ H) : selfS X st D σ H := fun pins s I => h pins s σ H D I hw
theorem PSs.to {t : TS} {D : Ends} (h : PSs X sts t) (hw : t D σ H) : selfSs X sts D σ H := fun pins s I => h pins s σ H D I hw
theorem PG.to {t : TG} {v : V} {Q : St → Hp → Prop} (h : PG X e t) (hw : t v σ H Q) : selfG X e v σ H Q := fun pins s u I r => h pins s σ H v u Q I r hw
theorem PGs.to {t : TGs} {vs : List V} {Q : St → Hp → Prop} (h : PGs X es t) (hw : t vs σ H Q) : selfGs X es vs σ H Q := fun pins s us I r => h pins s σ H vs us Q I r hw
theorem selfE.mono {Q Q' : VK} (h : selfE X e σ H Q) (k : ∀ v H', Q v H' → Q' v H') : selfE X e σ H Q' := fun pins s I => thn (h pins s I) fun _ _ ⟨v, H', J, r, q⟩ => ⟨v, H', J, r, k v H' q⟩
theorem selfT.mono {Q Q' : Bool → Hp → Prop} (h : selfT X e σ H Q) (k : ∀ v H', Q v H' → Q' v H') : selfT X e σ H Q' := fun pins s I => thn (h pins s I) fun b _ ⟨H', J, q⟩ => ⟨H', J, k b H' q⟩
theorem selfW.mono {Q Q' : Bool → Hp → Prop} (h : selfW X e σ H Q) (k : ∀ v H', Q v H' → Q' v H') : selfW X e σ H Q' := fun w pins s I => thn (h w pins s I) fun b _ ⟨H', J, q⟩ => ⟨H', J, k b H' q⟩
theorem selfA.mono {Q Q' : List V → Hp → Prop} (h : selfA X es σ H Q) (k : ∀ v H', Q v H' → Q' v H') : selfA X es σ H Q' := fun pos pins s I => thn (h pos pins s I) fun _ _ ⟨v, H', J, r, q⟩ => ⟨v, H', J, r, k v H' q⟩
theorem selfG.mono {v : V} {Q Q' : St → Hp → Prop} (h : selfG X e v σ H Q) (k : ∀ σ' H', Q σ' H' → Q' σ' H') : selfG X e v σ H Q' := fun pins s u I r => thn (h pins s u I r) fun _ _ ⟨σ', H', J, q⟩ => ⟨σ', H', J, k σ' H' q⟩
theorem selfGs.mono {vs : List V} {Q Q' : St → Hp → Prop} (h : selfGs X es vs σ H Q) (k : ∀ σ' H', Q σ' H' → Q' σ' H') : selfGs X es vs σ H Q' := fun pins s u I r => thn (h pins s u I r) fun _ _ ⟨σ', H', J, q⟩ => ⟨σ', H', J, k σ' H' q⟩

structure EndsTo (D D' : Ends) : Prop where
  nx : ∀ σ H, D.nx σ H → D'.nx σ H
  rt : ∀ v H, D.rt v H → D'.rt v H
  bk : ∀ σ H, D.bk σ H → D'.bk σ H
  ct : ∀ σ H, D.ct σ H → D'.ct σ H
theorem SP.to {pins : List (Addr × Obj)} {D D' : Ends} (k : EndsTo D D') {f : Flow} {s : Shared} (h : SP X pins D f s) : SP X pins D' f s := by
  cases f with
  | next => obtain ⟨σ', H', I, q⟩ := h; exact ⟨σ', H', I, k.nx _ _ q⟩
  | brk => obtain ⟨σ', H', I, q⟩ := h; exact ⟨σ', H', I, k.bk _ _ q⟩
  | cont => obtain ⟨σ', H', I, q⟩ := h; exact ⟨σ', H', I, k.ct _ _ q⟩
  | ret u => obtain ⟨v, σ', H', I, r, q⟩ := h; exact ⟨v, σ', H', I, r, k.rt _ _ q⟩
theorem selfS.mono {D D' : Ends} (h : selfS X st D σ H) (k : EndsTo D D') : selfS X st D' σ H := fun pins s I => thn (h pins s I) fun _ _ q => q.to k
theorem selfSs.mono {D D' : Ends} (h : selfSs X sts D σ H) (k : EndsTo D D') : selfSs X sts D' σ H := fun pins s I => thn (h pins s I) fun _ _ q => q.to k
end

noncomputable def PQ (K : PySem.W.Frag) (F : Hp) (Q : AK) : VK := fun v H' => ∃ d F' M', Same F F' ∧ AM K F' M' H' ∧ RD K F' v d ∧ Q d M'
noncomputable def PQb (K : PySem.W.Frag) (F : Hp) (Q : Bool → Mem → Prop) : Bool → Hp → Prop := fun b H' => ∃ F' M', Same F F' ∧ AM K F' M' H' ∧ Q b M'
noncomputable def PQs (K : PySem.W.Frag) (F : Hp) (Q : List D → Mem → Prop) : List V → Hp → Prop := fun vs H' => ∃ ds F' M', Same F F' ∧ AM K F' M' H' ∧ RDs K F' vs ds ∧ Q ds M'
noncomputable def PQg (K : PySem.W.Frag) (F : Hp) (Q : G → Mem → Prop) : St → Hp → Prop := fun σ' H' => ∃ F' Γ' M', Same F F' ∧ AG K F' Γ' σ' ∧ AM K F' M' H' ∧ Q Γ' M'
noncomputable def PQD (K : PySem.W.Frag) (F : Hp) (E : AEnds) : Ends := ⟨PQg K F E.nx, PQ K F E.rt, PQg K F E.bk, PQg K F E.ct⟩
section
variable {K : PySem.W.Frag} {F F1 : Hp}
theorem PQ.dn {Q : AK} (e : Same F F1) {v : V} {H : Hp} (h : PQ K F1 Q v H) : PQ K F Q v H := let ⟨d, F', M', a, b, c, q⟩ := h; ⟨d, F', M', e.trans a, b, c, q⟩
theorem PQb.dn {Q : Bool → Mem → Prop} (e : Same F F1) {v : Bool} {H : Hp} (h : PQb K F1 Q v H) : PQb K F Q v H := let ⟨F', M', a, b, q⟩ := h; ⟨F', M', e.trans a, b, q⟩
theorem PQg.dn {Q : G → Mem → Prop} (e : Same F F1) {v : St} {H : Hp} (h : PQg K F1 Q v H) : PQg K F Q v H := let ⟨d, F', M', a, b, c, q⟩ := h; ⟨d, F', M', e.trans a, b, c, q⟩
theorem PQD.dn {E : AEnds} (e : Same F F1) : EndsTo (PQD K F1 E) (PQD K F E) := ⟨fun _ _ h => PQg.dn e h, fun _ _ h => PQ.dn e h, fun _ _ h => PQg.dn e h, fun _ _ h => PQg.dn e h⟩
end

structure PEA (X : Cx) (F0 : Hp) (e : Expr) (t : AE)  : Prop where
  run : ∀ F Γ M σ H Q, Same F0 F → AG X.K F Γ σ → AM X.K F M H → t Γ M Q → selfE X e σ H (PQ X.K F Q)
structure PTA (X : Cx) (F0 : Hp) (e : Expr) (t : AT)  : Prop where
  run : ∀ F Γ M σ H Q, Same F0 F → AG X.K F Γ σ → AM X.K F M H → t Γ M Q → selfT X e σ H (PQb X.K F Q)
structure PWA (X : Cx) (F0 : Hp) (e : Expr) (t : AT)  : Prop where
  run : ∀ F Γ M σ H Q, Same F0 F → AG X.K F Γ σ → AM X.K F M H → t Γ M Q → selfW X e σ H (PQb X.K F Q)
structure PAA (X : Cx) (F0 : Hp) (es : List Expr) (t : AA)  : Prop where
  run : ∀ F Γ M σ H Q, Same F0 F → AG X.K F Γ σ → AM X.K F M H → t Γ M Q → selfA X es σ H (PQs X.K F Q)
structure PSA (X : Cx) (F0 : Hp) (st : Stmt) (t : AS)  : Prop where
  run : ∀ F Γ M σ H E, Same F0 F → AG X.K F Γ σ → AM X.K F M H → t E Γ M → selfS X st (PQD X.K F E) σ H
structure PSsA (X : Cx) (F0 : Hp) (sts : List Stmt) (t : AS)  : Prop where
  run : ∀ F Γ M σ H E, Same F0 F → AG X.K F Γ σ → AM X.K F M H → t E Γ M → selfSs X sts (PQD X.K F E) σ H
noncomputable abbrev AGt := D → G → Mem → (G → Mem → Prop) → Prop
noncomputable abbrev AGts := List D → G → Mem → (G → Mem → Prop) → Prop
structure PGA (X : Cx) (F0 : Hp) (tg : Expr) (t : AGt)  : Prop where
  run : ∀ F Γ M σ H v d Q, Same F0 F → AG X.K F Γ σ → AM X.K F M H → RD X.K F v d → t d Γ M Q → selfG X tg v σ H (PQg X.K F Q)
structure PGsA (X : Cx) (F0 : Hp) (ts : List Expr) (t : AGts)  : Prop where
  run : ∀ F Γ M σ H vs ds Q, Same F0 F → AG X.K F Γ σ → AM X.K F M H → RDs X.K F vs ds → t ds Γ M Q → selfGs X ts vs σ H (PQg X.K F Q)
end L2

set_option Elab.async false
set_option linter.all false
set_option maxRecDepth 100000
namespace L2
open PySem PySem.Spec PySem.Calls PyProof.Rows


noncomputable def aV (i : Nat) : AE := fun Γ M Q => match Γ[i]? with | some (some d) => Q d M | _ => False
noncomputable def aC (d : D) : AE := fun _ M Q => Q d M
theorem PQ.here {K : PySem.W.Frag} {F : Hp} {M : Mem} {H : Hp} {Q : AK} {v : V} {d : D} (m : AM K F M H) (r : RD K F v d) (q : Q d M) : PQ K F Q v H := ⟨d, F, M, .refl F, m, r, q⟩
theorem PQb.here {K : PySem.W.Frag} {F : Hp} {M : Mem} {H : Hp} {Q : Bool → Mem → Prop} {v : Bool} (m : AM K F M H) (q : Q v M) : PQb K F Q v H := ⟨F, M, .refl F, m, q⟩
theorem PQg.here {K : PySem.W.Frag} {F : Hp} {M : Mem} {H : Hp} {Q : G → Mem → Prop} {Γ : G} {σ : St} (m : AM K F M H) (g : AG K F Γ σ) (q : Q Γ M) : PQg K F Q σ H := ⟨F, Γ, M, .refl F, g, m, q⟩
section
variable {X : Cx} {F0 : Hp} {a b e : Expr} {es : List Expr} {pos : Pos} {ta tb te : AE} {i : Nat} {x : Str}
theorem paV (h : PE X e (tVar i)) : PEA X F0 e (aV i) := by
  refine ⟨?_⟩
  intro F Γ M σ H Q f0 g m hw
  unfold aV at hw
  split at hw
  · rename_i d hd
    obtain ⟨v, e1, r⟩ := g.at' i d hd
    exact h.to ⟨v, e1, .here m r hw⟩
  · exact hw.elim
theorem paC {v : V} {d : D} (h : PE X e (tC v)) (r : ∀ F, RD X.K F v d) : PEA X F0 e (aC d) := ⟨fun F Γ M σ H Q _ _ m hw => h.to (PQ.here m (r F) hw)⟩
theorem paI {n : Int} {j} : PEA X F0 (.Constant (.int n) j pos) (aC (.int n)) := paC pe_int fun _ => .int _
theorem paB {n : Bool} {j} : PEA X F0 (.Constant (.bool n) j pos) (aC (.bl n)) := paC pe_bl fun _ => .bl _
theorem paN {j} : PEA X F0 (.Constant .none j pos) (aC .non) := paC pe_non fun _ => .non
theorem paS {n : Str} {j} : PEA X F0 (.Constant (.str n) j pos) (aC (.str n)) := paC pe_str fun _ => .str _

theorem two (ha : PEA X F0 a ta) (hb : PEA X F0 b tb) {F : Hp} {Γ : G} {M : Mem} {σ : St} {H : Hp} {R : D → D → Mem → Prop} (f0 : Same F0 F) (g : AG X.K F Γ σ) (m : AM X.K F M H) (h : ta Γ M fun x M1 => tb Γ M1 fun y M2 => R x y M2)
    {Q : V → V → Hp → Prop} (k : ∀ F2 M2 H2 v u x y, Same F F2 → AM X.K F2 M2 H2 → RD X.K F2 v x → RD X.K F2 u y → R x y M2 → Q v u H2) : selfE X a σ H fun v H1 => selfE X b σ H1 fun u H2 => Q v u H2 := by
  refine (ha.run F Γ M σ H _ f0 g m h).mono fun v H1 zz9 => ?_
  obtain ⟨x, F1, M1, s1, m1, r1, q1⟩ := zz9
  refine (hb.run F1 Γ M1 σ H1 _ (f0.trans s1) (g.up s1) m1 q1).mono fun u H2 zz9 => ?_
  obtain ⟨y, F2, M2, s2, m2, r2, q2⟩ := zz9
  exact k F2 M2 H2 v u x y (s1.trans s2) m2 (r1.up s2) r2 q2


noncomputable abbrev A2 := D → D → Mem → AK → Prop
noncomputable def aOp (r : A2) (ta tb : AE) : AE := fun Γ M Q => ta Γ M fun x M1 => tb Γ M1 fun y M2 => r x y M2 Q
noncomputable def LO (K : PySem.W.Frag) (r : R2) (a : A2) : Prop := ∀ (F : Hp) (M : Mem) (H : Hp) (x y : V) (dx dy : D) (Q : AK) (R : VK), AM K F M H → RD K F x dx → RD K F y dy → a dx dy M Q → (∀ v H', PQ K F Q v H' → R v H') → r x y H R
theorem paOp {op : Operator} {r : R2} {o : A2} (ho : OpR X (binaryOp op) r) (l : LO X.K r o) (ha : PEA X F0 a ta) (hb : PEA X F0 b tb) : PEA X F0 (.BinOp a op b pos) (aOp o ta tb) := by
  refine ⟨?_⟩
  intro F Γ M σ H Q f0 g m h
  exact (pe_op ho pe_self pe_self).to (two ha hb f0 g m h fun F2 M2 H2 v u x y s m2 r1 r2 q => l F2 M2 H2 v u x y Q _ m2 r1 r2 q fun _ _ z => z.dn s)
theorem paCmp {op : CmpOp} {r : R2} {o : A2} (ho : OpR X (compareOp op) r) (l : LO X.K r o) (ha : PEA X F0 a ta) (hb : PEA X F0 b tb) (hm : behindInMarks op b = false) : PEA X F0 (.Compare a [op] [b] pos) (aOp o ta tb) := by
  refine ⟨?_⟩
  intro F Γ M σ H Q f0 g m h
  exact (pe_cmpR ho pe_self pe_self hm).to (two ha hb f0 g m h fun F2 M2 H2 v u x y s m2 r1 r2 q => l F2 M2 H2 v u x y Q _ m2 r1 r2 q fun _ _ z => z.dn s)
noncomputable def aT (t : AE) : AT := fun Γ M Q => t Γ M fun d M' => match d with | .bl b => Q b M' | _ => False
theorem PQ.bool {K : PySem.W.Frag} {F : Hp} {Q : Bool → Mem → Prop} {v : V} {H : Hp} (h : PQ K F (fun d M' => match d with | .bl b => Q b M' | _ => False) v H) : ∃ k, v = .bl k ∧ PQb K F Q k H := by
  obtain ⟨d, F', M', s, m, r, q⟩ := h
  cases r <;> first
    | exact ⟨_, rfl, F', M', s, m, q⟩
    | exact q.elim
theorem ptCmp {op : CmpOp} {r : R2} {o : A2} (ho : OpR X (compareOp op) r) (l : LO X.K r o) (ha : PEA X F0 a ta) (hb : PEA X F0 b tb) (hm : behindInMarks op b = false) : PTA X F0 (.Compare a [op] [b] pos) (aT (aOp o ta tb)) := by
  refine ⟨?_⟩
  intro F Γ M σ H Q f0 g m h
  refine (pt_cmpR ho pe_self pe_self hm).to (two ha hb f0 g m h fun F2 M2 H2 v u x y s m2 r1 r2 q => l F2 M2 H2 v u x y _ _ m2 r1 r2 q fun _ _ z => ?_)
  exact PQ.bool (z.dn s)
theorem ptV (h : PEA X F0 e te) (he : ∀ whole, isTrue e X.env whole = (do let v ← whole; standAt e.pos; holding [v] (truthy v)) := by intro _; rfl) : PTA X F0 e (aT te) := by
  refine ⟨?_⟩
  intro F Γ M σ H Q f0 g m hw
  refine (pt_val pe_self he).to ((h.run F Γ M σ H _ f0 g m hw).mono fun v H1 z => PQ.bool z)
noncomputable def aAnd (t u : AT) : AT := fun Γ M Q => t Γ M fun c M1 => if c = true then u Γ M1 Q else Q false M1
noncomputable def aOr (t u : AT) : AT := fun Γ M Q => t Γ M fun c M1 => if c = true then Q true M1 else u Γ M1 Q
noncomputable def aNot (t : AT) : AT := fun Γ M Q => t Γ M fun c M1 => Q (!c) M1
variable {tA tB : AT} {rest : List Expr}
theorem ptNot (ha : PTA X F0 a tA) : PTA X F0 (.UnaryOp .Not a pos) (aNot tA) := by
  refine ⟨?_⟩
  intro F Γ M σ H Q f0 g m h
  exact (pt_not pt_self).to ((ha.run F Γ M σ H _ f0 g m h).mono fun c H1 z => z)
theorem pwAnd1 (ha : PTA X F0 a tA) : PWA X F0 (.BoolOp .And [a] pos) tA := ⟨fun F Γ M σ H Q f0 g m h => (pw_and1 pt_self).to (ha.run F Γ M σ H Q f0 g m h)⟩
theorem pwOr1 (ha : PTA X F0 a tA) : PWA X F0 (.BoolOp .Or [a] pos) tA := ⟨fun F Γ M σ H Q f0 g m h => (pw_or1 pt_self).to (ha.run F Γ M σ H Q f0 g m h)⟩
theorem pwAnd (ha : PTA X F0 a tA) (hb : PWA X F0 (.BoolOp .And (b :: rest) pos) tB) : PWA X F0 (.BoolOp .And (a :: b :: rest) pos) (aAnd tA tB) := by
  refine ⟨?_⟩
  intro F Γ M σ H Q f0 g m h
  refine (pw_and pt_self pw_self).to ((ha.run F Γ M σ H _ f0 g m h).mono fun c H1 zz9 => ?_)
  obtain ⟨F1, M1, s1, m1, q1⟩ := zz9
  cases c with
  | true =>
    rw [if_pos rfl] at q1 ⊢
    exact (hb.run F1 Γ M1 σ H1 Q (f0.trans s1) (g.up s1) m1 q1).mono fun _ _ z => z.dn s1
  | false =>
    rw [if_neg Bool.false_ne_true] at q1 ⊢
    exact ⟨F1, M1, s1, m1, q1⟩
theorem pwOr (ha : PTA X F0 a tA) (hb : PWA X F0 (.BoolOp .Or (b :: rest) pos) tB) : PWA X F0 (.BoolOp .Or (a :: b :: rest) pos) (aOr tA tB) := by
  refine ⟨?_⟩
  intro F Γ M σ H Q f0 g m h
  refine (pw_or pt_self pw_self).to ((ha.run F Γ M σ H _ f0 g m h).mono fun c H1 zz9 => ?_)
  obtain ⟨F1, M1, s1, m1, q1⟩ := zz9
  cases c with
  | true =>
    rw [if_pos rfl] at q1 ⊢
    exact ⟨F1, M1, s1, m1, q1⟩
  | false =>
    rw [if_neg Bool.false_ne_true] at q1 ⊢
    exact (hb.run F1 Γ M1 σ H1 Q (f0.trans s1) (g.up s1) m1 q1).mono fun _ _ z => z.dn s1
theorem PWA.pt {t : AT} (h : PWA X F0 e t) : PTA X F0 e t := ⟨fun F Γ M σ H Q f0 g m hw pins s I => h.run F Γ M σ H Q f0 g m hw _ pins s I⟩
noncomputable def aAndV (ta tb : AE) : AE := fun Γ M Q => aT ta Γ M fun c M1 => if c = true then tb Γ M1 Q else Q (.bl false) M1
noncomputable def aOrV (ta tb : AE) : AE := fun Γ M Q => aT ta Γ M fun c M1 => if c = true then Q (.bl true) M1 else tb Γ M1 Q
noncomputable def aNotV (ta : AE) : AE := fun Γ M Q => aT ta Γ M fun c M1 => Q (.bl (!c)) M1
theorem paOne {op} (h : PEA X F0 a ta) : PEA X F0 (.BoolOp op [a] pos) ta := ⟨fun F Γ M σ H Q f0 g m hw => (pe_one pe_self).to (h.run F Γ M σ H Q f0 g m hw)⟩
theorem paAnd (ha : PEA X F0 a ta) (hb : PEA X F0 (.BoolOp .And (b :: rest) pos) tb) : PEA X F0 (.BoolOp .And (a :: b :: rest) pos) (aAndV ta tb) := by
  refine ⟨?_⟩
  intro F Γ M σ H Q f0 g m h
  refine (pe_and pe_self pe_self).to ((ha.run F Γ M σ H _ f0 g m h).mono fun v H1 z => ?_)
  obtain ⟨c, rfl, F1, M1, s1, m1, q1⟩ := PQ.bool z
  refine ⟨c, rfl, ?_⟩
  cases c with
  | true =>
    rw [if_pos rfl] at q1 ⊢
    exact (hb.run F1 Γ M1 σ H1 Q (f0.trans s1) (g.up s1) m1 q1).mono fun _ _ z => z.dn s1
  | false =>
    rw [if_neg Bool.false_ne_true] at q1 ⊢
    exact ⟨_, F1, M1, s1, m1, .bl _, q1⟩
theorem paNot (ha : PEA X F0 a ta) : PEA X F0 (.UnaryOp .Not a pos) (aNotV ta) := by
  refine ⟨?_⟩
  intro F Γ M σ H Q f0 g m h
  refine (pe_not pe_self).to ((ha.run F Γ M σ H _ f0 g m h).mono fun v H1 z => ?_)
  obtain ⟨c, rfl, F1, M1, s1, m1, q1⟩ := PQ.bool z
  exact ⟨c, rfl, _, F1, M1, s1, m1, .bl _, q1⟩
noncomputable def aUn (r : D → Mem → AK → Prop) (ta : AE) : AE := fun Γ M Q => ta Γ M fun x M1 => r x M1 Q
noncomputable def LU (K : PySem.W.Frag) (r : V → Hp → VK → Prop) (a : D → Mem → AK → Prop) : Prop := ∀ (F : Hp) (M : Mem) (H : Hp) (x : V) (dx : D) (Q : AK) (R : VK), AM K F M H → RD K F x dx → a dx M Q → (∀ v H', PQ K F Q v H' → R v H') → r x H R
theorem paUn {op : UnaryOp} {r : V → Hp → VK → Prop} {o : D → Mem → AK → Prop} (ho : UnR X (unaryOp op) r) (l : LU X.K r o) (ha : PEA X F0 a ta) : PEA X F0 (.UnaryOp op a pos) (aUn o ta) := by
  refine ⟨?_⟩
  intro F Γ M σ H Q f0 g m h
  exact (pe_un ho pe_self).to ((ha.run F Γ M σ H _ f0 g m h).mono fun v H1 ⟨x, F1, M1, s1, m1, r1, q1⟩ => l F1 M1 H1 v x Q _ m1 r1 q1 fun _ _ z => z.dn s1)
theorem paIx {r : R2} {o : A2} (ho : IxR X r) (l : LO X.K r o) (ha : PEA X F0 a ta) (hb : PEA X F0 b tb) (hs : PlainIx b) : PEA X F0 (.Subscript a b pos) (aOp o ta tb) := by
  refine ⟨?_⟩
  intro F Γ M σ H Q f0 g m h
  exact (pe_ix ho pe_self pe_self hs).to (two ha hb f0 g m h fun F2 M2 H2 v u x y s m2 r1 r2 q => l F2 M2 H2 v u x y Q _ m2 r1 r2 q fun _ _ z => z.dn s)


noncomputable def aNil : AA := fun _ M Q => Q [] M
noncomputable def aCons (ta : AE) (tr : AA) : AA := fun Γ M Q => ta Γ M fun x M1 => tr Γ M1 fun xs M2 => Q (x :: xs) M2
variable {tt : AA}
theorem aaNil : PAA X F0 [] aNil := ⟨fun F Γ M σ H Q _ _ m h => pa_nil.to ⟨[], F, M, .refl F, m, .nil, h⟩⟩
theorem aaCons (ha : PEA X F0 e te) (hr : PAA X F0 es tt) (hs : starEach (e :: es) X.env = (false, eval e X.env) :: starEach es X.env := by rfl) : PAA X F0 (e :: es) (aCons te tt) := by
  refine ⟨?_⟩
  intro F Γ M σ H Q f0 g m h
  refine (pa_cons pe_self pa_self hs).to ((ha.run F Γ M σ H _ f0 g m h).mono fun v H1 zz9 => ?_)
  obtain ⟨x, F1, M1, s1, m1, r1, q1⟩ := zz9
  exact (hr.run F1 Γ M1 σ H1 _ (f0.trans s1) (g.up s1) m1 q1).mono fun vs H2 ⟨xs, F2, M2, s2, m2, r2, q2⟩ => ⟨x :: xs, F2, M2, s1.trans s2, m2, .cons (r1.up s2) r2, q2⟩
noncomputable def aTup (t : AA) : AE := fun Γ M Q => t Γ M fun ds M1 => ds.length ≤ 1000 ∧ Q (.tup ds) M1
noncomputable def aLst (t : AA) : AE := fun Γ M Q => t Γ M fun ds M1 => ds.length ≤ 1000 ∧ Q (.lst ds) M1
noncomputable def aLstM (t : AA) : AE := fun Γ M Q => t Γ M fun ds M1 => ds.length ≤ 1000 ∧ ∀ p, M1 p = none → Q (.obj p) (put M1 p (.lst ds))
theorem k1000 {n : Nat} (h : n ≤ 1000) : n ≤ sizeLine := Nat.le_of_lt (small1000 h)
theorem paTup {x1} (h : PAA X F0 es tt) : PEA X F0 (.Tuple es x1 pos) (aTup tt) := by
  refine ⟨?_⟩
  intro F Γ M σ H Q f0 g m hw
  refine (pe_tup pa_self).to ((h.run F Γ M σ H _ f0 g m hw).mono fun vs H1 zz9 => ?_)
  obtain ⟨ds, F1, M1, s1, m1, r1, hl, q1⟩ := zz9
  refine ⟨by rw [r1.length]; exact k1000 hl, fun p hp => ⟨.tup ds, upd F1 p (.tup vs), M1, s1.trans (same_upd (m1.fF hp)), m1.frz hp, .tup upd_same (r1.up (same_upd (m1.fF hp))), q1⟩⟩
theorem paLst (h : PAA X F0 es tt) : PEA X F0 (.List es pos) (aLst tt) := by
  refine ⟨?_⟩
  intro F Γ M σ H Q f0 g m hw
  refine (pe_lst pa_self).to ((h.run F Γ M σ H _ f0 g m hw).mono fun vs H1 zz9 => ?_)
  obtain ⟨ds, F1, M1, s1, m1, r1, hl, q1⟩ := zz9
  refine ⟨by rw [r1.length]; exact k1000 hl, fun p hp => ⟨.lst ds, upd F1 p (.lst vs), M1, s1.trans (same_upd (m1.fF hp)), m1.frz hp, .lst upd_same (r1.up (same_upd (m1.fF hp))), q1⟩⟩
theorem paLstM (h : PAA X F0 es tt) : PEA X F0 (.List es pos) (aLstM tt) := by
  refine ⟨?_⟩
  intro F Γ M σ H Q f0 g m hw
  refine (pe_lst pa_self).to ((h.run F Γ M σ H _ f0 g m hw).mono fun vs H1 zz9 => ?_)
  obtain ⟨ds, F1, M1, s1, m1, r1, hl, q1⟩ := zz9
  exact ⟨by rw [r1.length]; exact k1000 hl, fun p hp => ⟨.obj p, F1, _, s1, m1.new (o := .lst ds) hp r1, .obj p, q1 p (m1.fM hp)⟩⟩
noncomputable def aFz (t : AE) : AE := fun Γ M Q => t Γ M fun d M' => match d with | .obj p => (match M' p with | some (.lst ds) => Q (.lst ds) (del M' p) | _ => False) | _ => False
theorem paFz (h : PEA X F0 e te) : PEA X F0 e (aFz te) := by
  refine ⟨?_⟩
  intro F Γ M σ H Q f0 g m hw
  refine (h.run F Γ M σ H _ f0 g m hw).mono fun v H1 zz9 => ?_
  obtain ⟨d, F1, M1, s1, m1, r1, q1⟩ := zz9
  cases r1 with
  | obj p =>
    try dsimp only at q1
    split at q1
    · rename_i ds hd
      obtain ⟨F2, s2, m2, r2⟩ := m1.freeze hd
      exact ⟨_, F2, _, s1.trans s2, m2, r2, q1⟩
    · exact q1.elim
  | _ => exact q1.elim


noncomputable abbrev A1s := List D → Mem → AK → Prop
noncomputable def aCall (r : A1s) (t : AA) : AE := fun Γ M Q => t Γ M fun ds M1 => r ds M1 Q
noncomputable def LC (K : PySem.W.Frag) (r : List V → Hp → VK → Prop) (a : A1s) : Prop := ∀ (F : Hp) (M : Mem) (H : Hp) (xs : List V) (ds : List D) (Q : AK) (R : VK), AM K F M H → RDs K F xs ds → a ds M Q → (∀ v H', PQ K F Q v H' → R v H') → r xs H R
variable {p : Pos} {id T : String} {r : List V → Hp → VK → Prop} {o : A1s}
theorem paCallB (hc : CallR X (.builtin id) r) (l : LC X.K r o) (hg : Gl X x) (hm : X.mg x = none) (hv : bootBuiltins x = some (.builtin id)) (ha : PAA X F0 (e :: es) tt) (hn : x ≠ "__name__" := by decide) (hdb : (x == ("__debug__" : Str)) = false := by decide)
    (he : starEach (e :: es) X.env = (false, eval e X.env) :: starEach es X.env := by rfl) (hpl : (backTo pos (starEach es X.env)).any (·.1) = false := by rfl) : PEA X F0 (.Call (.Name x p) (e :: es) [] pos) (aCall o tt) := by
  refine ⟨?_⟩
  intro F Γ M σ H Q f0 g m hw
  exact (pe_callB hc hg hm hv pa_self hn hdb he hpl).to ((ha.run F Γ M σ H _ f0 g m hw).mono fun vs H1 ⟨ds, F1, M1, s1, m1, r1, q1⟩ => l F1 M1 H1 vs ds Q _ m1 r1 q1 fun _ _ z => z.dn s1)
theorem paCallTy (hc : CallR X (.type T) r) (l : LC X.K r o) (hg : Gl X x) (hm : X.mg x = none) (hv : bootBuiltins x = some (.type T)) (ha : PAA X F0 (e :: es) tt) (hn : x ≠ "__name__" := by decide) (hdb : (x == ("__debug__" : Str)) = false := by decide)
    (he : starEach (e :: es) X.env = (false, eval e X.env) :: starEach es X.env := by rfl) (hpl : (backTo pos (starEach es X.env)).any (·.1) = false := by rfl) : PEA X F0 (.Call (.Name x p) (e :: es) [] pos) (aCall o tt) := by
  refine ⟨?_⟩
  intro F Γ M σ H Q f0 g m hw
  exact (pe_callTy hc hg hm hv pa_self hn hdb he hpl).to ((ha.run F Γ M σ H _ f0 g m hw).mono fun vs H1 ⟨ds, F1, M1, s1, m1, r1, q1⟩ => l F1 M1 H1 vs ds Q _ m1 r1 q1 fun _ _ z => z.dn s1)

noncomputable abbrev A1m := D → List D → Mem → AK → Prop
noncomputable def LM (K : PySem.W.Frag) (r : V → List V → Hp → VK → Prop) (a : A1m) : Prop := ∀ (F : Hp) (M : Mem) (H : Hp) (x : V) (d : D) (xs : List V) (ds : List D) (Q : AK) (R : VK), AM K F M H → RD K F x d → RDs K F xs ds → a d ds M Q → (∀ v H', PQ K F Q v H' → R v H') → r x xs H R
noncomputable def kindD (M : Mem) : D → String
  | .lst _ => "list" | .scr _ => "list" | .str _ => "str" | .tup _ => "tuple"
  | .obj p => (match M p with | some (.lst _) => "list" | some (.dic _) => "dict" | _ => "")
  | _ => ""
noncomputable def aBM0 (T : String) (r : A1m) (to : AE) : AE := fun Γ M Q => to Γ M fun x M1 => kindD M1 x = T ∧ r x [] M1 Q
noncomputable def aBM (T : String) (r : A1m) (to : AE) (t : AA) : AE := fun Γ M Q => to Γ M fun x M1 => kindD M1 x = T ∧ t Γ M1 fun xs M2 => r x xs M2 Q
end
end L2

set_option Elab.async false
set_option linter.all false
set_option maxRecDepth 100000
namespace L2
open PySem PySem.Spec PySem.Calls PyProof.Rows

noncomputable def both {α β : Type} (a : Option α) (b : Option β) (R : α → β → Prop) : Prop := match a, b with | some x, some y => R x y | _, _ => False
noncomputable def opt {α : Type} (a : Option α) (R : α → Prop) : Prop := match a with | some x => R x | none => False
theorem both_some {α β : Type} {x : α} {y : β} {R : α → β → Prop} : both (some x) (some y) R = R x y := rfl
theorem opt_some {α : Type} {x : α} {R : α → Prop} : opt (some x) R = R x := rfl
theorem two_ex {α β : Type} {a : Option α} {b : Option β} {R : α → β → Prop} (h : both a b R) : ∃ x y, a = some x ∧ b = some y ∧ R x y := by
  unfold both at h
  split at h
  · exact ⟨_, _, rfl, rfl, h⟩
  · exact h.elim
theorem some_ex {α : Type} {a : Option α} {R : α → Prop} (h : opt a R) : ∃ x, a = some x ∧ R x := by
  unfold opt at h
  split at h
  · exact ⟨_, rfl, h⟩
  · exact h.elim

noncomputable def dl (M : Mem) : D → Option (List D)
  | .lst ds => some ds
  | .obj p => (match M p with | some (.lst ds) => some ds | _ => none)
  | _ => none
noncomputable def dr (M : Mem) : D → Option (List D)
  | .lst ds => some ds
  | .scr ds => some ds
  | .obj p => (match M p with | some (.lst ds) => some ds | _ => none)
  | _ => none
noncomputable def dq (M : Mem) : D → Option (List D)
  | .lst ds => some ds
  | .scr ds => some ds
  | .tup ds => some ds
  | .ctp ds => some ds
  | .obj p => (match M p with | some (.lst ds) => some ds | _ => none)
  | _ => none
noncomputable def dd (M : Mem) : D → Option (List (Key × D))
  | .obj p => (match M p with | some (.dic kvs) => some kvs | _ => none)
  | _ => none
section
variable {K : PySem.W.Frag} {F : Hp} {M : Mem} {H : Hp} {x : V} {d : D} {ds : List D}
theorem dr_rep (m : AM K F M H) (r : RD K F x d) (h : dr M d = some ds) : ∃ p vs, x = .ref p ∧ SqL K H p vs ∧ RDs K F vs ds := by
  cases r <;> first
    | (unfold dr at h; cases h; done)
    | skip
  · rename_i a xs es e r
    cases h
    exact ⟨a, xs, rfl, .of (m.sub _ _ e), r⟩
  · rename_i a xs es e r
    cases h
    exact ⟨a, xs, rfl, m.sub.seq e, r⟩
  · rename_i p
    unfold dr at h
    dsimp only at h
    split at h
    · rename_i ds' hd
      cases h
      obtain ⟨u, e, r⟩ := m.mem _ _ hd
      obtain ⟨vs, rfl, r⟩ := r.isL
      exact ⟨p, vs, rfl, .of e, r⟩
    · cases h
theorem dq_rep (m : AM K F M H) (r : RD K F x d) (h : dq M d = some ds) : ∃ p vs, x = .ref p ∧ (SqL K H p vs ∨ SqT K H p vs) ∧ RDs K F vs ds := by
  cases r <;> first
    | (unfold dq at h; cases h; done)
    | skip
  · rename_i a xs es e r
    cases h
    exact ⟨a, xs, rfl, .inl (.of (m.sub _ _ e)), r⟩
  · rename_i a xs es e r
    cases h
    exact ⟨a, xs, rfl, .inl (m.sub.seq e), r⟩
  · rename_i a xs es e r
    cases h
    exact ⟨a, xs, rfl, .inr (.of (m.sub _ _ e)), r⟩
  · rename_i a xs es e r
    cases h
    exact ⟨a, xs, rfl, .inr (m.sub.seqT e), r⟩
  · rename_i p
    unfold dq at h
    dsimp only at h
    split at h
    · rename_i ds' hd
      cases h
      obtain ⟨u, e, r⟩ := m.mem _ _ hd
      obtain ⟨vs, rfl, r⟩ := r.isL
      exact ⟨p, vs, rfl, .inl (.of e), r⟩
    · cases h
theorem dd_rep {kvs : List (Key × D)} (m : AM K F M H) (r : RD K F x d) (h : dd M d = some kvs) : ∃ p ws, x = .ref p ∧ d = .obj p ∧ M p = some (.dic kvs) ∧ H p = some (.dK ws) ∧ PF K F ws kvs := by
  cases r <;> first
    | (unfold dd at h; cases h; done)
    | skip
  rename_i p
  unfold dd at h
  dsimp only at h
  split at h
  · rename_i ds' hd
    cases h
    obtain ⟨u, e, r⟩ := m.mem _ _ hd
    obtain ⟨vs, rfl, r⟩ := r.isD
    exact ⟨p, vs, rfl, rfl, hd, e, r⟩
  · cases h
end


noncomputable def addF : D → D → Option D
  | .int i, .int j => some (.int (i + j))
  | .str s, .str t => some (.str (s ++ t))
  | _, _ => none
noncomputable def addC : D → D → Prop
  | .str s, .str t => s.length + t.length ≤ sizeLine
  | _, _ => True
noncomputable def oAdd : A2 := fun x y M Q => addC x y ∧ opt (addF x y) fun d => Q d M
noncomputable def rAdds : R2 := fun x y H Q => rI0 (fun i j => .int (i + j)) x y H Q ∨ (∃ i j, x = .str i ∧ y = .str j ∧ i.length + j.length ≤ sizeLine ∧ Q (.str (i ++ j)) H)
noncomputable def oCatM : A2 := fun x y M Q => both (dl M x) (dl M y) fun xs ys => xs.length + ys.length ≤ 1000 ∧ ∀ p, M p = none → Q (.obj p) (put M p (.lst (xs ++ ys)))
noncomputable def oCat : A2 := fun x y M Q => both (dl M x) (dl M y) fun xs ys => xs.length + ys.length ≤ 1000 ∧ Q (.lst (xs ++ ys)) M
noncomputable def oI (g : Int → Int → D) : A2 := fun x y M Q => match x, y with | .int i, .int j => Q (g i j) M | _, _ => False
noncomputable def oIc (C : Int → Int → Prop) (g : Int → Int → D) : A2 := fun x y M Q => match x, y with | .int i, .int j => C i j ∧ Q (g i j) M | _, _ => False
section
variable {X : Cx} {K : PySem.W.Frag}
theorem op_adds : OpR X (binaryOp .Add) rAdds := op_add.or op_add_str
theorem lAdd : LO K rAdds oAdd := by
  intro F M H x y dx dy Q R m rx ry h k
  obtain ⟨hc, h⟩ := h
  cases rx <;> cases ry <;> first
    | exact h.elim
    | exact .inl ⟨_, _, rfl, rfl, k _ _ (.here m (.int _) h)⟩
    | exact .inr ⟨_, _, rfl, rfl, hc, k _ _ (.here m (.str _) h)⟩
theorem lI {g : Int → Int → V} {g' : Int → Int → D} (e : ∀ i j F, RD K F (g i j) (g' i j)) : LO K (rI0 g) (oI g') := by
  intro F M H x y dx dy Q R m rx ry h k
  cases rx <;> cases ry <;> first
    | exact h.elim
    | exact ⟨_, _, rfl, rfl, k _ _ (.here m (e _ _ F) h)⟩
theorem lIc {C : Int → Int → Prop} {g : Int → Int → V} {g' : Int → Int → D} (e : ∀ i j F, RD K F (g i j) (g' i j)) : LO K (rI C g) (oIc C g') := by
  intro F M H x y dx dy Q R m rx ry h k
  cases rx <;> cases ry <;> first
    | exact h.elim
    | exact ⟨_, _, rfl, rfl, h.1, k _ _ (.here m (e _ _ F) h.2)⟩
noncomputable abbrev oSub : A2 := oI fun i j => .int (i - j)
noncomputable abbrev oMul : A2 := oIc IntMulOk fun i j => .int (i * j)
noncomputable abbrev oMod : A2 := oIc (fun _ j => 0 < j) fun i j => .int (i % j)
noncomputable abbrev oPow : A2 := oIc CPow fun i j => .int (i ^ j.toNat)
noncomputable abbrev oLt : A2 := oI fun i j => .bl (decide (i < j))
noncomputable abbrev oGt : A2 := oI fun i j => .bl (decide (j < i))
noncomputable abbrev oGe : A2 := oI fun i j => .bl (decide (j ≤ i))
noncomputable abbrev oDiv : A2 := oIc CDiv fun i j => .int (i / j)
theorem lSub : LO K (rI0 fun i j => .int (i - j)) oSub := lI fun _ _ _ => .int _
theorem lMul : LO K (rI IntMulOk fun i j => .int (i * j)) oMul := lIc fun _ _ _ => .int _
theorem lMod : LO K (rI (fun _ j => 0 < j) fun i j => .int (i % j)) oMod := lIc fun _ _ _ => .int _
theorem lPow : LO K (rI CPow fun i j => .int (i ^ j.toNat)) oPow := lIc fun _ _ _ => .int _
theorem lLt : LO K (rI0 fun i j => .bl (decide (i < j))) oLt := lI fun _ _ _ => .bl _
theorem lGt : LO K (rI0 fun i j => .bl (decide (j < i))) oGt := lI fun _ _ _ => .bl _
theorem lGe : LO K (rI0 fun i j => .bl (decide (j ≤ i))) oGe := lI fun _ _ _ => .bl _
theorem lDiv : LO K (rI CDiv fun i j => .int (i / j)) oDiv := lIc fun _ _ _ => .int _
noncomputable def oNeg : D → Mem → AK → Prop := fun x M Q => match x with | .int i => Q (.int (-i)) M | _ => False
theorem lNeg : LU K (rU fun i => .int (-i)) oNeg := by
  intro F M H x dx Q R m rx h k
  cases rx <;> first
    | exact h.elim
    | exact ⟨_, rfl, k _ _ (.here m (.int _) h)⟩


mutual
noncomputable def D.py : D → PyData
  | .non => .none | .bl b => .bool b | .int i => .int i | .str x => .str x
  | .lst ds => .list (D.pys ds) | .scr ds => .list (D.pys ds) | .tup ds => .tuple (D.pys ds) | .ctp ds => .tuple (D.pys ds) | .obj _ => .none
noncomputable def D.pys : List D → List PyData
  | [] => []
  | d :: ds => D.py d :: D.pys ds
end
mutual
/-- no thing of the store in it -/
noncomputable def D.flat : D → Bool
  | .lst ds => D.flats ds | .scr ds => D.flats ds | .tup ds => D.flats ds | .ctp ds => D.flats ds | .obj _ => false
  | _ => true
noncomputable def D.flats : List D → Bool
  | [] => true
  | d :: ds => D.flat d && D.flats ds
end
mutual
theorem RD.rep {F H : Hp} (s : Same F H) : ∀ {x : V} {d : D}, RD K F x d → d.flat = true → Rep K H x d.py
  | _, _, .non, _ => by simp only [D.py]; exact .non
  | _, _, .bl b, _ => by simp only [D.py]; exact .bl b
  | _, _, .int i, _ => by simp only [D.py]; exact .int i
  | _, _, .str x, _ => by simp only [D.py]; exact .str x
  | _, _, .lst q rs, h => by simp only [D.py]; exact .lst (.of (s _ _ q)) (RDs.rep s rs (by simpa only [D.flat] using h))
  | _, _, .scr q rs, h => by simp only [D.py]; exact .lst (s.seq q) (RDs.rep s rs (by simpa only [D.flat] using h))
  | _, _, .tup q rs, h => by simp only [D.py]; exact .tup (.of (s _ _ q)) (RDs.rep s rs (by simpa only [D.flat] using h))
  | _, _, .ctp q rs, h => by simp only [D.py]; exact .tup (s.seqT q) (RDs.rep s rs (by simpa only [D.flat] using h))
  | _, _, .obj p, h => by simp [D.flat] at h
theorem RDs.rep {F H : Hp} (s : Same F H) : ∀ {xs : List V} {ds : List D}, RDs K F xs ds → D.flats ds = true → Reps K H xs (D.pys ds)
  | _, _, .nil, _ => by simp only [D.pys]; exact .nil
  | _, _, .cons h t, e => by
    simp only [D.flats, Bool.and_eq_true] at e
    simp only [D.pys]
    exact .cons (RD.rep s h e.1) (RDs.rep s t e.2)
end
noncomputable def drf (M : Mem) : D → D
  | .obj p => (match M p with | some (.lst ds) => .lst ds | _ => .obj p)
  | d => d
theorem drf_rep {F : Hp} {M : Mem} {H : Hp} {x : V} {d : D} (m : AM K F M H) (r : RD K F x d) (h : (drf M d).flat = true) : Rep K H x (drf M d).py := by
  cases d with
  | obj p =>
    unfold drf at h ⊢
    dsimp only at h ⊢
    cases r
    split at h
    · rename_i ds hd
      obtain ⟨u, e, r⟩ := m.mem _ _ hd
      obtain ⟨vs, rfl, r⟩ := r.isL
      simp only [D.py]
      exact .lst (.of e) (r.rep m.sub (by simpa only [D.flat] using h))
    · simp [D.flat] at h
  | _ => exact r.rep m.sub h
noncomputable def scalD : D → D → Bool
  | .non, .non => true | .non, .int _ => true | .int _, .non => true | .non, .bl _ => true | .bl _, .non => true | .non, .str _ => true | .str _, .non => true
  | .int _, .int _ => true | .bl _, .bl _ => true | .str _, .str _ => true
  | .int _, .str _ => true | .str _, .int _ => true | .bl _, .str _ => true | .str _, .bl _ => true
  | _, _ => false
noncomputable def eqS : D → D → Bool
  | .non, .non => true
  | .int a, .int b => decide (a = b)
  | .bl a, .bl b => decide (a = b)
  | .str a, .str b => decide (a = b)
  | _, _ => false
noncomputable def eqD (x y : D) : Bool := PyData.eqv x.py y.py
noncomputable def shD (d : D) : Bool := d.flat && SeqAt.shaped d.py
noncomputable def eqB (M : Mem) (x y : D) : Bool := if scalD x y = true then eqS x y else eqD (drf M x) (drf M y)
noncomputable def eqC (M : Mem) (x y : D) : Prop := scalD x y = true ∨ (shD (drf M x) = true ∧ shD (drf M y) = true)
noncomputable def oEq (neg : Bool) : A2 := fun x y M Q => eqC M x y ∧ Q (.bl (if neg then !eqB M x y else eqB M x y)) M
noncomputable def rEqs (K : PySem.W.Frag) : R2 := fun x y H Q => rEq x y H Q ∨ rEqD K false x y H Q
noncomputable def rNes (K : PySem.W.Frag) : R2 := fun x y H Q => rNe x y H Q ∨ rEqD K true x y H Q
theorem op_eqs (hu : X.A.units + 64 < cLine) : OpR X (compareOp .Eq) (rEqs X.K) := op_eq.or (op_eqD hu)
theorem op_nes (hu : X.A.units + 64 < cLine) : OpR X (compareOp .NotEq) (rNes X.K) := op_ne.or (op_neD hu)
theorem scal_of {F : Hp} {x y : V} {dx dy : D} (rx : RD K F x dx) (ry : RD K F y dy) (h : scalD dx dy = true) : scal x y = true ∧ decide (x = y) = eqS dx dy := by
  cases rx <;> cases ry <;> first
    | (simp [scalD] at h; done)
    | exact ⟨rfl, by simp [eqS]⟩
theorem lEq : LO K (rEqs K) (oEq false) := by
  intro F M H x y dx dy Q R m rx ry h k
  obtain ⟨hc, h⟩ := h
  by_cases hs : scalD dx dy = true
  · obtain ⟨h1, h2⟩ := scal_of rx ry hs
    refine .inl ⟨h1, k _ _ (.here m (.bl _) ?_)⟩
    rw [h2]
    simpa [eqB, hs] using h
  · rcases hc with hc | ⟨h1, h2⟩
    · exact absurd hc hs
    unfold shD at h1 h2
    simp only [Bool.and_eq_true] at h1 h2
    exact .inr ⟨_, _, drf_rep m rx h1.1, drf_rep m ry h2.1, h1.2, h2.2, k _ _ (.here m (.bl _) (by simpa [eqB, hs, eqD] using h))⟩
theorem lNe : LO K (rNes K) (oEq true) := by
  intro F M H x y dx dy Q R m rx ry h k
  obtain ⟨hc, h⟩ := h
  by_cases hs : scalD dx dy = true
  · obtain ⟨h1, h2⟩ := scal_of rx ry hs
    refine .inl ⟨h1, k _ _ (.here m (.bl _) ?_)⟩
    rw [h2]
    simpa [eqB, hs] using h
  · rcases hc with hc | ⟨h1, h2⟩
    · exact absurd hc hs
    unfold shD at h1 h2
    simp only [Bool.and_eq_true] at h1 h2
    exact .inr ⟨_, _, drf_rep m rx h1.1, drf_rep m ry h2.1, h1.2, h2.2, k _ _ (.here m (.bl _) (by simpa [eqB, hs, eqD] using h))⟩

noncomputable def isNon : D → Bool | .non => true | _ => false
noncomputable def oIsN (neg : Bool) : A2 := fun x y M Q => match y with | .non => Q (.bl (if neg then !isNon x else isNon x)) M | _ => False
theorem non_of {F : Hp} {x : V} {d : D} (r : RD K F x d) : decide (x = .non) = isNon d := by cases r <;> simp [isNon]
theorem lIs : LO K (fun x y H Q => y = .non ∧ Q (.bl (decide (x = .non))) H) (oIsN false) := by
  intro F M H x y dx dy Q R m rx ry h k
  cases ry <;> first
    | exact h.elim
    | exact ⟨rfl, k _ _ (.here m (.bl _) (by rw [non_of rx]; simpa [oIsN] using h))⟩
theorem lIsNot : LO K (fun x y H Q => y = .non ∧ Q (.bl (!decide (x = .non))) H) (oIsN true) := by
  intro F M H x y dx dy Q R m rx ry h k
  cases ry <;> first
    | exact h.elim
    | exact ⟨rfl, k _ _ (.here m (.bl _) (by rw [non_of rx]; simpa [oIsN] using h))⟩

noncomputable def flD : D → Bool | .non => true | .bl _ => true | .int _ => true | .str _ => true | _ => false
noncomputable def eqF : D → D → Bool
  | .non, .non => true
  | .bl a, .bl b => a == b
  | .bl a, .int b => (if a then 1 else 0) == b
  | .int a, .bl b => a == (if b then 1 else 0)
  | .int a, .int b => a == b
  | .str a, .str b => a == b
  | _, _ => false
noncomputable def inD (x : D) (ds : List D) : Bool := ds.any fun y => eqF y x
theorem flat_of {F : Hp} {x : V} {d : D} (r : RD K F x d) : flatV x = flD d := by cases r <;> rfl
theorem flats_of {F : Hp} : ∀ {xs : List V} {ds : List D}, RDs K F xs ds → xs.all flatV = ds.all flD
  | _, _, .nil => rfl
  | _, _, .cons h t => by simp only [List.all_cons, flat_of h, flats_of t]
theorem eqF_of {F : Hp} {x y : V} {d e : D} (r : RD K F x d) (q : RD K F y e) (h : flD d = true) (h' : flD e = true) : eqV x y = eqF d e := by
  cases r <;> cases q <;> first | rfl | (simp [flD] at h; done) | (simp [flD] at h'; done)
theorem inD_of {F : Hp} {x : V} {d : D} (r : RD K F x d) (h : flD d = true) : ∀ {xs : List V} {ds : List D}, RDs K F xs ds → ds.all flD = true → inV x xs = inD d ds
  | _, _, .nil, _ => rfl
  | _, _, .cons q t, e => by
    simp only [List.all_cons, Bool.and_eq_true] at e
    have ih := inD_of r h t e.2
    unfold inV inD at ih ⊢
    rw [List.any_cons, List.any_cons, eqF_of q r e.1 h, ih]
noncomputable def hasS (j i : Str) : Bool := !(Builtin.Str.occurrences j i 0 j.length 1).isEmpty
noncomputable def inB (M : Mem) : D → D → Option Bool
  | .str i, .str j => some (hasS j i)
  | x, y => (dq M y).bind fun ds => if (flD x && ds.all flD) = true then some (inD x ds) else none
noncomputable def oIn (neg : Bool) : A2 := fun x y M Q => opt (inB M x y) fun b => Q (.bl (if neg then !b else b)) M
noncomputable def rIns (K : PySem.W.Frag) : R2 := fun x y H Q => rIn K false x y H Q ∨ (∃ i j, x = .str i ∧ y = .str j ∧ Q (.bl (hasS j i)) H)
noncomputable def rNotIns (K : PySem.W.Frag) : R2 := fun x y H Q => rIn K true x y H Q ∨ (∃ i j, x = .str i ∧ y = .str j ∧ Q (.bl (!hasS j i)) H)
theorem op_ins : OpR X (compareOp .In) (rIns X.K) := op_in_seq.or op_in_str
theorem op_notIns : OpR X (compareOp .NotIn) (rNotIns X.K) := op_notIn_seq.or op_notin_str
theorem lInG {neg : Bool} {r : R2} (hs : ∀ i j H R, R (.bl (if neg then !hasS j i else hasS j i)) H → r (.str i) (.str j) H R) (hq : ∀ x p vs H R, (SqL K H p vs ∨ SqT K H p vs) → flatV x = true → vs.all flatV = true → R (.bl (if neg then !inV x vs else inV x vs)) H → r x (.ref p) H R) : LO K r (oIn neg) := by
  intro F M H x y dx dy Q R m rx ry h k
  obtain ⟨b, hb, h⟩ := some_ex h
  unfold inB at hb
  split at hb
  · cases rx; cases ry; cases hb
    exact hs _ _ _ _ (k _ _ (.here m (.bl _) h))
  · cases hd : dq M dy with
    | none => rw [hd] at hb; cases hb
    | some ds =>
      rw [hd] at hb
      simp only [Option.bind_some] at hb
      split at hb
      · rename_i hf
        cases hb
        simp only [Bool.and_eq_true] at hf
        obtain ⟨p, vs, rfl, e, r'⟩ := dq_rep m ry hd
        refine hq _ _ _ _ _ e (by rw [flat_of rx]; exact hf.1) (by rw [flats_of r']; exact hf.2) ?_
        rw [inD_of rx hf.1 r' hf.2]
        exact k _ _ (.here m (.bl _) h)
      · cases hb
theorem lIn : LO K (rIns K) (oIn false) := lInG (fun i j H R h => .inr ⟨i, j, rfl, rfl, by simpa using h⟩) fun x p vs H R e h1 h2 h => .inl ⟨p, vs, rfl, e, h1, h2, by simpa using h⟩
theorem lNotIn : LO K (rNotIns K) (oIn true) := lInG (fun i j H R h => .inr ⟨i, j, rfl, rfl, by simpa using h⟩) fun x p vs H R e h1 h2 h => .inl ⟨p, vs, rfl, e, h1, h2, by simpa using h⟩

theorem RDs.atI {F : Hp} {xs : List V} {ds : List D} {i : Int} {d : D} (r : RDs K F xs ds) (h : L2.atI ds i = some d) : ∃ x, L2.atI xs i = some x ∧ RD K F x d := by
  unfold L2.atI at h ⊢
  rw [r.length]
  cases q : ixN ds.length i with
  | none => rw [q] at h; cases h
  | some j =>
    rw [q] at h
    exact r.get h
noncomputable def ixF (M : Mem) : D → D → Option D
  | .str z, .int i => (atI z.cps.toList i).map fun c => .str ⟨#[c]⟩
  | x, .int i => (dq M x).bind fun ds => atI ds i
  | _, _ => none
noncomputable def ixC : D → D → Prop
  | .str z, .int _ => z.length ≤ sizeLine
  | _, _ => True
noncomputable def oIx : A2 := fun x y M Q => ixC x y ∧ opt (ixF M x y) fun d => Q d M
theorem lIx : LO K (rIx K) oIx := by
  intro F M H x y dx dy Q R m rx ry h k
  obtain ⟨hc, h⟩ := h
  obtain ⟨d, hd, hz⟩ := some_ex h
  unfold ixF at hd
  split at hd
  · rename_i z i
    cases rx; cases ry
    cases ha : atI z.cps.toList i with
    | none => rw [ha] at hd; cases hd
    | some c =>
      rw [ha] at hd
      cases hd
      exact .inr (.inr ⟨_, _, c, rfl, rfl, hc, ha, k _ _ (.here m (.str _) hz)⟩)
  · rename_i i _
    cases hq : dq M dx with
    | none => rw [hq] at hd; cases hd
    | some ds =>
      rw [hq] at hd
      have hd : atI ds i = some d := hd
      obtain ⟨p, vs, rfl, e, r⟩ := dq_rep m rx hq
      obtain ⟨v, hv, rv⟩ := r.atI hd
      cases ry
      rcases e with e | e
      · exact .inl ⟨p, vs, _, v, rfl, rfl, e, hv, k _ _ (.here m rv hz)⟩
      · exact .inr (.inl ⟨p, vs, _, v, rfl, rfl, e, hv, k _ _ (.here m rv hz)⟩)
  · cases hd
end
end L2

set_option Elab.async false
set_option linter.all false
set_option maxRecDepth 100000
namespace L2
open PySem PySem.Spec PySem.Calls PyProof.Rows


noncomputable abbrev AO := G → Mem → (Option Int → Mem → Prop) → Prop
noncomputable def selfO (X : Cx) (e : Option Expr) : TO := fun σ H Q => ∀ pins s, Inv X pins σ H s → wpAny (model X.prog X.w) X.A (evalPart e X.env) (fun u s' => ∃ o H', Inv X pins σ H' s' ∧ IsPart u o ∧ Q o H') X.xe s
theorem po_self {X : Cx} {e : Option Expr} : PO X e (selfO X e) := fun pins s _ _ _ I h => h pins s I
theorem PO.to {X : Cx} {e : Option Expr} {σ : St} {H : Hp} {t : TO} {Q : Option Int → Hp → Prop} (h : PO X e t) (hw : t σ H Q) : selfO X e σ H Q := fun pins s I => h pins s σ H Q I hw
theorem selfO.mono {X : Cx} {e : Option Expr} {σ : St} {H : Hp} {Q Q' : Option Int → Hp → Prop} (h : selfO X e σ H Q) (k : ∀ v H', Q v H' → Q' v H') : selfO X e σ H Q' := fun pins s I => thn (h pins s I) fun _ _ ⟨o, H', J, r, q⟩ => ⟨o, H', J, r, k o H' q⟩
noncomputable def PQo (K : PySem.W.Frag) (F : Hp) (Q : Option Int → Mem → Prop) : Option Int → Hp → Prop := fun o H' => ∃ F' M', Same F F' ∧ AM K F' M' H' ∧ Q o M'
structure POA (X : Cx) (F0 : Hp) (e : Option Expr) (t : AO)  : Prop where
  run : ∀ F Γ M σ H Q, Same F0 F → AG X.K F Γ σ → AM X.K F M H → t Γ M Q → selfO X e σ H (PQo X.K F Q)
noncomputable def aNoPart : AO := fun _ M Q => Q none M
noncomputable def aPart (t : AE) : AO := fun Γ M Q => t Γ M fun d M1 => match d with | .int i => Q (some i) M1 | _ => False
noncomputable def aSl (r : D → Option Int → Option Int → Mem → AK → Prop) (te : AE) (tl th : AO) : AE := fun Γ M Q => te Γ M fun x M1 => tl Γ M1 fun l M2 => th Γ M2 fun u M3 => r x l u M3 Q
noncomputable def LS (K : PySem.W.Frag) (r : V → Option Int → Option Int → Hp → VK → Prop) (a : D → Option Int → Option Int → Mem → AK → Prop) : Prop :=
  ∀ (F : Hp) (M : Mem) (H : Hp) (x : V) (d : D) (lo hi : Option Int) (Q : AK) (R : VK), AM K F M H → RD K F x d → a d lo hi M Q → (∀ v H', PQ K F Q v H' → R v H') → r x lo hi H R
noncomputable def cut (ds : List D) (lo hi : Option Int) : List D := (ds.drop (HT.sIx ds.length 0 lo)).take (HT.sIx ds.length ds.length hi - HT.sIx ds.length 0 lo)
noncomputable def slF (M : Mem) (lo hi : Option Int) : D → Option D
  | .str z => some (.str (Txt.slice z lo hi))
  | x => (dr M x).map fun ds => .lst (cut ds lo hi)
noncomputable def slC : D → Prop
  | .str z => z.length ≤ sizeLine
  | _ => True
noncomputable def oSl : D → Option Int → Option Int → Mem → AK → Prop := fun x lo hi M Q => slC x ∧ opt (slF M lo hi x) fun d => Q d M
noncomputable def oSlM : D → Option Int → Option Int → Mem → AK → Prop := fun x lo hi M Q => (match dr M x with | some ds => ∀ p, M p = none → Q (.obj p) (put M p (.lst (cut ds lo hi))) | none => False)
noncomputable def rSls (K : PySem.W.Frag) : V → Option Int → Option Int → Hp → VK → Prop := fun x lo hi H Q => rSlS x lo hi H Q ∨ rSlL K x lo hi H Q
section
variable {X : Cx} {F0 : Hp} {e : Expr} {pos p2 : Pos} {te : AE} {lo hi : Option Expr} {tl th : AO} {K : PySem.W.Frag}
theorem poN : POA X F0 none aNoPart := ⟨fun F Γ M σ H Q _ _ m h => po_none.to ⟨F, M, .refl F, m, h⟩⟩
theorem poS (h : PEA X F0 e te) : POA X F0 (some e) (aPart te) := by
  refine ⟨?_⟩
  intro F Γ M σ H Q f0 g m hw
  refine (po_some pe_self).to ((h.run F Γ M σ H _ f0 g m hw).mono fun v H1 zz9 => ?_)
  obtain ⟨d, F1, M1, s1, m1, r1, q1⟩ := zz9
  cases r1 <;> first
    | exact q1.elim
    | exact ⟨_, rfl, F1, M1, s1, m1, q1⟩
theorem paSl {r : V → Option Int → Option Int → Hp → VK → Prop} {o : D → Option Int → Option Int → Mem → AK → Prop} (hr : SlR X r) (l : LS X.K r o) (he : PEA X F0 e te) (hl : POA X F0 lo tl) (hh : POA X F0 hi th) :
    PEA X F0 (.Subscript e (.Slice lo hi none p2) pos) (aSl o te tl th) := by
  refine ⟨?_⟩
  intro F Γ M σ H Q f0 g m hw
  refine (pe_slice hr pe_self po_self po_self).to ((he.run F Γ M σ H _ f0 g m hw).mono fun v H1 zz9 => ?_)
  obtain ⟨d, F1, M1, s1, m1, r1, q1⟩ := zz9
  refine (hl.run F1 Γ M1 σ H1 _ (f0.trans s1) (g.up s1) m1 q1).mono fun l1 H2 zz9 => ?_
  obtain ⟨F2, M2, s2, m2, q2⟩ := zz9
  refine (hh.run F2 Γ M2 σ H2 _ (f0.trans (s1.trans s2)) (g.up (s1.trans s2)) m2 q2).mono fun u1 H3 zz9 => ?_
  obtain ⟨F3, M3, s3, m3, q3⟩ := zz9
  exact l F3 M3 H3 v d l1 u1 Q _ m3 (r1.up (s2.trans s3)) q3 fun _ _ z => z.dn (s1.trans (s2.trans s3))
theorem cut_rep {F : Hp} {vs : List V} {ds : List D} (r : RDs K F vs ds) (lo hi : Option Int) : RDs K F (cutV vs lo hi) (cut ds lo hi) := by
  unfold cutV cut
  rw [r.length]
  exact (r.drop _).take _
theorem sl_all : SlR X (rSls X.K) := sl_str.or sl_list
theorem lSl : LS K (rSls K) oSl := by
  intro F M H x d lo hi Q R m rx h k
  obtain ⟨hc, h⟩ := h
  obtain ⟨d', hd, hz⟩ := some_ex h
  unfold slF at hd
  split at hd
  · cases rx; cases hd
    exact .inl ⟨_, rfl, hc, k _ _ (.here m (.str _) hz)⟩
  · cases hq : dr M d with
    | none => rw [hq] at hd; cases hd
    | some ds =>
      rw [hq] at hd
      cases hd
      obtain ⟨p, vs, rfl, e, r⟩ := dr_rep m rx hq
      exact .inr ⟨p, vs, rfl, e, fun l hn => k _ _ ⟨_, _, M, same_upd (m.fF hn), m.frz hn, .lst upd_same ((cut_rep r lo hi).up (same_upd (m.fF hn))), hz⟩⟩
end


section
variable {X : Cx} {K : PySem.W.Frag}
noncomputable def lenF (M : Mem) : D → Option Nat
  | .str z => some z.length
  | d => (match dd M d with | some kvs => some kvs.length | none => (dq M d).map List.length)
noncomputable def lenC : D → Prop
  | .str z => z.length ≤ sizeLine
  | _ => True
noncomputable def oLen : A1s := fun ds M Q => match ds with
  | [d] => lenC d ∧ opt (lenF M d) fun n => Q (.int n) M
  | _ => False
noncomputable def rLens (K : PySem.W.Frag) : List V → Hp → VK → Prop := fun xs H Q => (∃ x n, xs = [x] ∧ LenV K x H n ∧ Q (.int n) H) ∨ (∃ a kvs, xs = [V.ref a] ∧ H a = some (.dK kvs) ∧ Q (.int kvs.length) H)
theorem call_lens : CallR X (.builtin "len") (rLens X.K) := call_len.or call_lenD
theorem PF.length {κ : Type} {F : Hp} {a : List (κ × V)} {b : List (κ × D)} (h : PF K F a b) : a.length = b.length := Paired.length h
theorem lLen : LC K (rLens K) oLen := by
  intro F M H xs ds Q R m r h k
  unfold oLen at h
  split at h
  · rename_i d
    obtain ⟨x, rfl, rx⟩ := r.one'
    obtain ⟨hc, h⟩ := h
    obtain ⟨n, hn, hz⟩ := some_ex h
    unfold lenF at hn
    split at hn
    · cases rx; cases hn
      exact .inl ⟨_, _, rfl, ⟨hc, rfl⟩, k _ _ (.here m (.int _) hz)⟩
    · split at hn
      · rename_i kvs hd
        cases hn
        obtain ⟨p, ws, rfl, rfl, _, e, pf⟩ := dd_rep m rx hd
        exact .inr ⟨p, ws, rfl, e, k _ _ (.here m (.int _) (by rw [pf.length]; exact hz))⟩
      · cases hq : dq M d with
        | none => rw [hq] at hn; cases hn
        | some ds =>
          rw [hq] at hn
          cases hn
          obtain ⟨p, vs, rfl, e, r⟩ := dq_rep m rx hq
          refine .inl ⟨_, vs.length, rfl, ?_, k _ _ (.here m (.int _) (by rw [r.length]; exact hz))⟩
          rcases e with e | e
          · exact .inl ⟨vs, e, rfl⟩
          · exact .inr ⟨vs, e, rfl⟩
  · exact h.elim
noncomputable def oMax : A1s := fun ds M Q => match ds with | [.int i, .int j] => Q (.int (if j > i then j else i)) M | _ => False
theorem lMax : LC K (fun xs H Q => ∃ i j, xs = [.int i, .int j] ∧ Q (.int (if j > i then j else i)) H) oMax := by
  intro F M H xs ds Q R m r h k
  unfold oMax at h
  split at h
  · obtain ⟨x, y, rfl, rx, ry⟩ := r.two'
    cases rx; cases ry
    exact ⟨_, _, rfl, k _ _ (.here m (.int _) h)⟩
  · exact h.elim
noncomputable def oList : A1s := fun ds M Q => match ds with | [d] => (match dq M d with | some xs => Q (.lst xs) M | none => False) | _ => False
theorem lList : LC K (fun xs H Q => ∃ p ys, xs = [.ref p] ∧ (SqL K H p ys ∨ SqT K H p ys) ∧ ∀ l, H l = none → Q (.ref l) (upd H l (.lst ys))) oList := by
  intro F M H xs ds Q R m r h k
  unfold oList at h
  split at h
  · obtain ⟨x, rfl, rx⟩ := r.one'
    split at h
    · rename_i ds hd
      obtain ⟨p, vs, rfl, e, r⟩ := dq_rep m rx hd
      exact ⟨p, vs, rfl, e, fun l hn => k _ _ ⟨_, _, M, same_upd (m.fF hn), m.frz hn, .lst upd_same (r.up (same_upd (m.fF hn))), h⟩⟩
    · exact h.elim
  · exact h.elim
end


section
variable {X : Cx} {F0 : Hp} {e o : Expr} {es : List Expr} {apos cpos : Pos} {to : AE} {tt : AA} {K : PySem.W.Frag} {T id : String} {name : Str} {r : V → List V → Hp → VK → Prop} {q : A1m}
theorem kindD_ty {F : Hp} {M : Mem} {H : Hp} {x : V} {d : D} (m : AM K F M H) (rx : RD K F x d) (h : kindD M d = T) (hT : T = "list" ∨ T = "dict" ∨ T = "str") : tyV K T x H := by
  cases rx <;> (unfold kindD at h; dsimp only at h) <;> first
    | (subst h; exact absurd hT (by decide))
    | (subst h; rfl)
    | skip
  · rename_i a xs ds e r
    subst h; exact .inl ⟨rfl, xs, .of (m.sub _ _ e)⟩
  · rename_i a xs ds e r
    subst h; exact .inl ⟨rfl, xs, m.sub.seq e⟩
  · rename_i p
    split at h
    · rename_i ds hd
      subst h
      obtain ⟨u, e, r⟩ := m.mem _ _ hd
      obtain ⟨vs, rfl, r⟩ := r.isL
      exact .inl ⟨rfl, vs, .of e⟩
    · rename_i ds hd
      subst h
      obtain ⟨u, e, r⟩ := m.mem _ _ hd
      obtain ⟨vs, rfl, r⟩ := r.isD
      exact .inr (.inr (.inl ⟨rfl, .inl ⟨vs, e⟩⟩))
    · subst h; exact absurd hT (by decide)
theorem paBM0 (pa : PlainAttrs T) (slot : Slot T name id) (hty : typeOf (.builtin id) = pure (.type "method_descriptor")) (hm : MtR X id r) (l : LM X.K r q) (ho : PEA X F0 o to) (hT : T = "list" ∨ T = "dict" ∨ T = "str" := by decide)
    (hbase : attributeBase o name X.env (eval o X.env) = eval o X.env := by rfl) (hline : (apos.endLine == cpos.line) = true := by rfl) : PEA X F0 (.Call (.Attribute o name apos) [] [] cpos) (aBM0 T q to) := by
  refine ⟨?_⟩
  intro F Γ M σ H Q f0 g m hw
  refine (pe_bm0 pa slot hty hm pe_self hbase hline).to ((ho.run F Γ M σ H _ f0 g m hw).mono fun v H1 zz9 => ?_)
  obtain ⟨d, F1, M1, s1, m1, r1, hk, q1⟩ := zz9
  exact ⟨kindD_ty m1 r1 hk hT, l F1 M1 H1 v d [] [] Q _ m1 r1 .nil q1 fun _ _ z => z.dn s1⟩
theorem paBM (pa : PlainAttrs T) (slot : Slot T name id) (hty : typeOf (.builtin id) = pure (.type "method_descriptor")) (hm : MtR X id r) (l : LM X.K r q) (ho : PEA X F0 o to) (ha : PAA X F0 (e :: es) tt) (hT : T = "list" ∨ T = "dict" ∨ T = "str" := by decide)
    (hbase : attributeBase o name X.env (eval o X.env) = eval o X.env := by rfl)
    (hfew : ((backTo cpos (starEach (e :: es) X.env)).all (fun x => !x.1) && (backToKw cpos (keywordEach [] X.env)).all (fun x => x.1.isSome)
      && decide ((e :: es).length + ([] : List Keyword).length + (if ([] : List Keyword).isEmpty then 0 else 1) < 30)) = true := by rfl)
    (hline : (apos.endLine == cpos.line) = true := by rfl) (hs : starEach (e :: es) X.env = (false, eval e X.env) :: starEach es X.env := by rfl) (hplain : (backTo cpos (starEach es X.env)).any (·.1) = false := by rfl) :
    PEA X F0 (.Call (.Attribute o name apos) (e :: es) [] cpos) (aBM T q to tt) := by
  refine ⟨?_⟩
  intro F Γ M σ H Q f0 g m hw
  refine (pe_bm pa slot hty hm pe_self pa_self hbase hfew hline hs hplain).to ((ho.run F Γ M σ H _ f0 g m hw).mono fun v H1 ⟨d, F1, M1, s1, m1, r1, hk, q1⟩ => ⟨kindD_ty m1 r1 hk hT, ?_⟩)
  refine (ha.run F1 Γ M1 σ H1 _ (f0.trans s1) (g.up s1) m1 q1).mono fun vs H2 zz9 => ?_
  obtain ⟨ds, F2, M2, s2, m2, r2, q2⟩ := zz9
  exact l F2 M2 H2 v d vs ds Q _ m2 (r1.up s2) r2 q2 fun _ _ z => z.dn (s1.trans s2)
theorem obj_lst {F : Hp} {M : Mem} {H : Hp} {p : Addr} {ds : List D} (m : AM K F M H) (h : M p = some (.lst ds)) : ∃ vs, H p = some (.lst vs) ∧ RDs K F vs ds := by
  obtain ⟨u, e, r⟩ := m.mem _ _ h
  obtain ⟨vs, rfl, r⟩ := r.isL
  exact ⟨vs, e, r⟩
noncomputable def oAppend : A1m := fun x vs M Q => match x, vs with
  | .obj p, [y] => (match M p with | some (.lst ds) => ds.length < 1000 ∧ Q .non (put M p (.lst (ds ++ [y]))) | _ => False)
  | _, _ => False
theorem lAppend : LM K rAppend oAppend := by
  intro F M H x d xs ds Q R m rx r h k
  unfold oAppend at h
  split at h
  · cases rx
    rename_i p y
    split at h
    · rename_i es hd
      obtain ⟨vs, e, rr⟩ := obj_lst m hd
      obtain ⟨w, rfl, rw'⟩ := r.one'
      exact ⟨p, vs, w, rfl, rfl, e, by rw [rr.length]; exact small1000 (Nat.le_of_lt h.1), k _ _ (.here (m.set hd (u := .lst (vs ++ [w])) (o' := .lst (es ++ [y])) (rr.append (.cons rw' .nil))) .non h.2)⟩
    · exact h.elim
  · exact h.elim
noncomputable def oClear : A1m := fun x vs M Q => match x, vs with
  | .obj p, [] => (match M p with | some (.lst _) => Q .non (put M p (.lst [])) | _ => False)
  | _, _ => False
theorem lClear : LM K rClear oClear := by
  intro F M H x d xs ds Q R m rx r h k
  unfold oClear at h
  split at h
  · cases rx
    rename_i p
    split at h
    · rename_i es hd
      obtain ⟨vs, e, rr⟩ := obj_lst m hd
      cases r.nil'
      exact ⟨p, vs, rfl, rfl, e, k _ _ (.here (m.set hd (u := .lst []) (o' := .lst []) .nil) .non h)⟩
    · exact h.elim
  · exact h.elim
noncomputable def oReverse : A1m := fun x vs M Q => match x, vs with
  | .obj p, [] => (match M p with | some (.lst ds) => Q .non (put M p (.lst ds.reverse)) | _ => False)
  | _, _ => False
theorem lReverse : LM K rReverse oReverse := by
  intro F M H x d xs ds Q R m rx r h k
  unfold oReverse at h
  split at h
  · cases rx
    rename_i p
    split at h
    · rename_i es hd
      obtain ⟨vs, e, rr⟩ := obj_lst m hd
      cases r.nil'
      exact ⟨p, vs, rfl, rfl, e, k _ _ (.here (m.set hd (u := .lst vs.reverse) (o' := .lst es.reverse) rr.reverse) .non h)⟩
    · exact h.elim
  · exact h.elim
noncomputable def oPop0 : A1m := fun x vs M Q => match x, vs with
  | .obj p, [.int 0] => (match M p with | some (.lst (d :: ds)) => Q d (put M p (.lst ds)) | _ => False)
  | _, _ => False
theorem lPop0 : LM K rPopAt oPop0 := by
  intro F M H x d xs ds Q R m rx r h k
  unfold oPop0 at h
  split at h
  · cases rx
    rename_i p
    split at h
    · rename_i d1 es hd
      obtain ⟨vs, e, rr⟩ := obj_lst m hd
      obtain ⟨w, rfl, rw'⟩ := r.one'
      cases rw'
      cases rr with
      | cons r1 r2 =>
        rename_i v1 vs1
        refine ⟨p, v1 :: vs1, 0, 0, v1, rfl, rfl, e, by decide, by decide, ?_, rfl, ?_⟩
        · unfold seqIndex?; simp
        · exact k _ _ (.here (m.set hd (u := .lst vs1) (o' := .lst es) r2) r1 h)
    · exact h.elim
  · exact h.elim
noncomputable def idxD (y : D) : List D → Option Nat
  | [] => none
  | d :: ds => if eqF d y = true then some 0 else (idxD y ds).map (· + 1)
theorem idxD_spec {y : D} : ∀ {ds : List D} {j : Nat}, idxD y ds = some j → j < ds.length ∧ (∀ z, ds[j]? = some z → eqF z y = true) ∧ ∀ m z, m < j → ds[m]? = some z → eqF z y = false
  | [], _, h => by cases h
  | d :: ds, j, h => by
    unfold idxD at h
    split at h
    · rename_i he
      cases h
      exact ⟨by simp, fun z hz => by simp at hz; subst hz; exact he, fun m z hm => absurd hm (Nat.not_lt_zero _)⟩
    · rename_i he
      cases q : idxD y ds with
      | none => rw [q] at h; cases h
      | some i =>
        rw [q] at h
        cases h
        obtain ⟨h1, h2, h3⟩ := idxD_spec q
        refine ⟨by simp; omega, fun z hz => h2 z (by simpa using hz), fun m z hm hz => ?_⟩
        cases m with
        | zero => simp at hz; subst hz; simpa using he
        | succ m => exact h3 m z (by have hm : m + 1 < i + 1 := hm; omega) (by simpa using hz)
noncomputable def oIndex : A1m := fun x vs M Q => match vs with
  | [y] => (match dr M x with | some ds => ds.all flD = true ∧ flD y = true ∧ (match idxD y ds with | some j => Q (.int j) M | none => False) | none => False)
  | _ => False
theorem lIndex : LM K (rIndex K) oIndex := by
  intro F M H x d xs ds Q R m rx r h k
  unfold oIndex at h
  split at h
  · split at h
    · rename_i es hd
      obtain ⟨p, vs, rfl, e, rr⟩ := dr_rep m rx hd
      obtain ⟨w, rfl, rw'⟩ := r.one'
      obtain ⟨h1, h2, h⟩ := h
      split at h
      · rename_i j hj
        obtain ⟨g1, g2, g3⟩ := idxD_spec hj
        refine ⟨p, vs, w, j, rfl, rfl, e, by rw [flats_of rr]; exact h1, by rw [flat_of rw']; exact h2, by rw [rr.length]; exact g1, fun z hz => ?_, fun m' z hm hz => ?_, k _ _ (.here m (.int _) h)⟩
        · obtain ⟨dz, e1, e2⟩ := rr.get' hz
          rw [eqF_of e2 rw' (List.all_eq_true.mp h1 _ (List.mem_of_getElem? e1)) h2]
          exact g2 _ e1
        · obtain ⟨dz, e1, e2⟩ := rr.get' hz
          rw [eqF_of e2 rw' (List.all_eq_true.mp h1 _ (List.mem_of_getElem? e1)) h2]
          exact g3 _ _ hm e1
      · exact h.elim
    · exact h.elim
  · exact h.elim
end
end L2

set_option Elab.async false
set_option linter.all false
set_option maxRecDepth 100000
namespace L2
open PySem PySem.Spec PySem.Calls PyProof.Rows


noncomputable abbrev AX := G → Mem → Value → Prop
noncomputable def liftR (K : PySem.W.Frag) (F0 : Hp) (R : AX) : RX := fun σ H cls _ => ∃ F Γ M, Same F0 F ∧ AG K F Γ σ ∧ AM K F M H ∧ R Γ M cls
theorem XS.imp {X : Cx} {R R' : RX} (h : ∀ σ H cls a, R σ H cls a → R' σ H cls a) {e : Value} {s' : Shared} (x : XS X R e s') : XS X R' e s' := by
  obtain ⟨a, σ, H, B, cls, a0, m, e1, I, ex, r⟩ := x
  exact ⟨a, σ, H, B, cls, a0, m, e1, I, ex, h _ _ _ _ r⟩
theorem Thr.imp {X : Cx} {R R' : RX} (T : Thr X R') (h : ∀ σ H cls a, R σ H cls a → R' σ H cls a) : Thr X R := fun e s' x => T e s' (x.imp h)

structure Cat (X : Cx) (F0 : Hp) (R : AX) : Prop where
  thr : Thr X (liftR X.K F0 R)
  pl : Plain X
  calm : X.calm = true
  pass : X.A.frames = some X.stack → PassesOwn (model X.prog X.w) X.A X.env X.xe
  un : X.A.units + 64 < cLine

theorem un64 {X : Cx} {F0 : Hp} {R : AX} (c : Cat X F0 R) : X.A.units + 64 < cLine := c.un
theorem un1 {X : Cx} {F0 : Hp} {R : AX} (c : Cat X F0 R) : X.A.units + 1 < cLine := Nat.lt_of_le_of_lt (Nat.add_le_add_left (by decide : 1 ≤ 64) _) c.un

noncomputable abbrev SpA := List D → Mem → AK → (Value → Mem → Prop) → Prop
noncomputable def liftS (K : PySem.W.Frag) (sa : SpA) : Sp := fun vs H Q E => ∃ F ds M Qa Ea, AM K F M H ∧ RDs K F vs ds ∧ sa ds M Qa Ea ∧ (∀ v H', PQ K F Qa v H' → Q v H') ∧ ∀ cls H', (∃ F' M', Same F F' ∧ AM K F' M' H' ∧ Ea cls M') → E cls none H'
noncomputable def Rt (Q : AK) : AK := fun d M => (∃ M', Sub M' M ∧ Q d M') ∨ ∃ p ds M', d = .obj p ∧ M p = some (.lst ds) ∧ Sub M' (del M p) ∧ Q (.lst ds) M'
theorem Rt.now {Q : AK} {d : D} {M : Mem} (h : Q d M) : Rt Q d M := .inl ⟨M, .refl M, h⟩
theorem Rt.sub {Q : AK} {d : D} {M M' : Mem} (s : Sub M' M) (h : Q d M') : Rt Q d M := .inl ⟨M', s, h⟩
theorem Sub.del {M : Mem} {p : Addr} {o : MO} (h : M p = none) : Sub M (del (L2.put M p o) p) := by rw [del_put h]; exact .refl M
theorem Rt.fz {Q : AK} {p : Addr} {M : Mem} {ds : List D} (hp : M p = none) (h : Q (.lst ds) M) : Rt Q (.obj p) (put M p (.lst ds)) := .inr ⟨p, ds, M, rfl, put_same, .del hp, h⟩
theorem PQ.rt {K : PySem.W.Frag} {F : Hp} {Q : AK} {v : V} {H : Hp} (h : PQ K F (Rt Q) v H) : PQ K F Q v H := by
  obtain ⟨d, F', M', s, m, r, q⟩ := h
  rcases q with ⟨M2, hs, q⟩ | ⟨p, ds, M2, rfl, hp, hs, q⟩
  · exact ⟨d, F', M2, s, m.less hs, r, q⟩
  · obtain ⟨F2, s2, m2, r2⟩ := m.freeze hp
    cases r
    exact ⟨_, F2, M2, s.trans s2, m2.less hs, r2, q⟩
section
variable {X : Cx} {F0 : Hp} {R : AX} {k : Nat} {x : Str} {ps : List Str} {sa : SpA} {p pos apos : Pos} {e o : Expr} {es : List Expr} {tt : AA} {to : AE} {C : Addr} {m : Str}
noncomputable def aFun (sa : SpA) (R : AX) (t : AA) : AE := fun Γ M Q => t Γ M fun ds M1 => sa ds M1 Q fun cls M' => R Γ M' cls
theorem paFun (h : Has X.prog X.w X.K X.mg X.base (CXE X.prog X.w) k x ps (liftS X.K sa)) (hr : Room k X.A) (hg : Gl X x) (c : Cat X F0 R) (ha : PAA X F0 (e :: es) tt)
    (hdb : (x == ("__debug__" : Str)) = false := by decide) (he : starEach (e :: es) X.env = (false, eval e X.env) :: starEach es X.env := by rfl) (hpl : (backTo pos (starEach es X.env)).any (·.1) = false := by rfl) :
    PEA X F0 (.Call (.Name x p) (e :: es) [] pos) (aFun sa R tt) := by
  refine ⟨?_⟩
  intro F Γ M σ H Q f0 g mm hw
  refine (pe_callX h hr hg c.thr c.pl pa_self hdb he hpl).to ((ha.run F Γ M σ H _ f0 g mm hw).mono fun vs H1 zz9 => ?_)
  obtain ⟨ds, F1, M1, s1, m1, r1, q1⟩ := zz9
  exact ⟨F1, ds, M1, _, _, m1, r1, q1, fun v H' z => z.dn s1, fun cls H' ⟨F', M', s', m', q'⟩ a => ⟨F', Γ, M', f0.trans (s1.trans s'), g.up (s1.trans s'), m', q'⟩⟩
noncomputable def insAt (o : Option MO) (C : Addr) (R : List (Str × D) → Prop) : Prop := match o with | some (.ins C' fs) => C' = C ∧ R fs | _ => False
theorem insAt_some {C : Addr} {fs : List (Str × D)} {R : List (Str × D) → Prop} : insAt (some (.ins C fs)) C R = R fs := by
  unfold insAt; simp
theorem ins_ex {o : Option MO} {C : Addr} {R : List (Str × D) → Prop} (h : insAt o C R) : ∃ fs, o = some (.ins C fs) ∧ R fs := by
  unfold insAt at h
  split at h
  · obtain ⟨rfl, h⟩ := h; exact ⟨_, rfl, h⟩
  · exact h.elim
noncomputable def aMeth (C : Addr) (m : Str) (sa : SpA) (R : AX) (to : AE) (t : AA) : AE := fun Γ M Q => to Γ M fun x M1 => match x with
  | .obj p => insAt (M1 p) C fun fs => fs.lookup m = none ∧ t Γ M1 fun ds M2 => sa (.obj p :: ds) M2 Q fun cls M' => R Γ M' cls
  | _ => False
theorem PF.lookup {K : PySem.W.Frag} {F : Hp} {f : Str} : ∀ {a : List (Str × V)} {b : List (Str × D)}, PF K F a b → (b.lookup f = none → a.lookup f = none) ∧ ∀ d, b.lookup f = some d → ∃ v, a.lookup f = some v ∧ RD K F v d
  | _, _, .nil => ⟨fun _ => rfl, fun d h => by cases h⟩
  | (n, v) :: a, (n', d) :: b, .cons ⟨h1, h2⟩ t => by
    dsimp only at h1 h2
    subst h1
    simp only [List.lookup_cons]
    split
    · refine ⟨fun h => ?_, fun d' h => ?_⟩
      · cases h
      · cases h; exact ⟨_, rfl, h2⟩
    · exact PF.lookup t
theorem pe_methX0 {pl : Sem Bool} {sp : Sp} {R : RX} {ta : TE} (h : HasM X.prog X.w X.K X.mg X.base (CXE X.prog X.w) k C m ps sp) (hr : Room k X.A) (T : Thr X R) (Pl : Plain X) (ho : PE X o ta)
    (ht : eval (.Call (.Attribute o m apos) [] [] pos) X.env = (do
      let ov ← eval o X.env
      standAt apos.atName
      let (f, first) ← holding [ov] (getMethod ov m pl)
      callWith pos f first (backTo pos (starEach [] X.env)) (backToKw pos (keywordEach [] X.env))) := by rfl) :
    PE X (.Call (.Attribute o m apos) [] [] pos) (tMethX C m sp R ta tNil) := by
  intro pins s σ H Q I hw
  obtain ⟨f, fd, F, hm, hb⟩ := h.ex
  refine PySem.W.methodCall_KW (pl := pl) (thn (ho pins s σ H _ I hw) fun u s1 ⟨x, H1, I1, rx, a, dx, fs, ex, ea, l, q⟩ => ?_) ht
  subst ex
  obtain rfl : u = Value.ref a := rx
  refine getmeth_ok I1 ea h.cl hm l ?_
  exact PySem.W.callWith_K0 (first := [.ref a]) I1.kIn hm.kp (run_fnX (us := [.ref a]) (vs := [.ref a]) F hr hb T Pl I1 (.cons rfl .nil) q)
theorem paMeth {pl : Sem Bool} (h : HasM X.prog X.w X.K X.mg X.base (CXE X.prog X.w) k C m ps (liftS X.K sa)) (hr : Room k X.A) (c : Cat X F0 R) (ho : PEA X F0 o to) (ha : PAA X F0 (e :: es) tt)
    (hst : starEach (e :: es) X.env = (false, eval e X.env) :: starEach es X.env := by rfl) (hpl : (backTo pos (starEach es X.env)).any (·.1) = false := by rfl)
    (ht : eval (.Call (.Attribute o m apos) (e :: es) [] pos) X.env = (do
      let ov ← eval o X.env
      standAt apos.atName
      let (f, first) ← holding [ov] (getMethod ov m pl)
      callWith pos f first (backTo pos (starEach (e :: es) X.env)) (backToKw pos (keywordEach [] X.env))) := by rfl) :
    PEA X F0 (.Call (.Attribute o m apos) (e :: es) [] pos) (aMeth C m sa R to tt) := by
  refine ⟨?_⟩
  intro F Γ M σ H Q f0 g mm hw
  refine (pe_methX h hr c.thr c.pl pe_self pa_self hst hpl ht).to ((ho.run F Γ M σ H _ f0 g mm hw).mono fun v H1 zz9 => ?_)
  obtain ⟨d, F1, M1, s1, m1, r1, q1⟩ := zz9
  obtain ⟨pp, rfl, rfl⟩ : ∃ pp, v = .ref pp ∧ d = .obj pp := by cases r1 <;> first | exact q1.elim | exact ⟨_, rfl, rfl⟩
  obtain ⟨fs, hp, hl, q1⟩ := ins_ex q1
  obtain ⟨u, e1, ro⟩ := m1.mem _ _ hp
  obtain ⟨dx, ws, rfl, pf⟩ := ro.isI
  refine ⟨pp, dx, ws, rfl, e1, pf.lookup.1 hl, ?_⟩
  refine (ha.run F1 Γ M1 σ H1 _ (f0.trans s1) (g.up s1) m1 q1).mono fun vs H2 zz9 => ?_
  obtain ⟨ds, F2, M2, s2, m2, r2, q2⟩ := zz9
  exact ⟨F2, .obj pp :: ds, M2, _, _, m2, .cons (.obj pp) r2, q2, fun v H' z => z.dn (s1.trans s2), fun cls H' ⟨F', M', s', m', q'⟩ a => ⟨F', Γ, M', f0.trans (s1.trans (s2.trans s')), g.up (s1.trans (s2.trans s')), m', q'⟩⟩
theorem paMeth0 {pl : Sem Bool} (h : HasM X.prog X.w X.K X.mg X.base (CXE X.prog X.w) k C m ps (liftS X.K sa)) (hr : Room k X.A) (c : Cat X F0 R) (ho : PEA X F0 o to)
    (ht : eval (.Call (.Attribute o m apos) [] [] pos) X.env = (do
      let ov ← eval o X.env
      standAt apos.atName
      let (f, first) ← holding [ov] (getMethod ov m pl)
      callWith pos f first (backTo pos (starEach [] X.env)) (backToKw pos (keywordEach [] X.env))) := by rfl) :
    PEA X F0 (.Call (.Attribute o m apos) [] [] pos) (aMeth C m sa R to aNil) := by
  refine ⟨?_⟩
  intro F Γ M σ H Q f0 g mm hw
  refine (pe_methX0 h hr c.thr c.pl pe_self ht).to ((ho.run F Γ M σ H _ f0 g mm hw).mono fun v H1 zz9 => ?_)
  obtain ⟨d, F1, M1, s1, m1, r1, q1⟩ := zz9
  obtain ⟨pp, rfl, rfl⟩ : ∃ pp, v = .ref pp ∧ d = .obj pp := by cases r1 <;> first | exact q1.elim | exact ⟨_, rfl, rfl⟩
  obtain ⟨fs, hp, hl, q1⟩ := ins_ex q1
  obtain ⟨u, e1, ro⟩ := m1.mem _ _ hp
  obtain ⟨dx, ws, rfl, pf⟩ := ro.isI
  refine ⟨pp, dx, ws, rfl, e1, pf.lookup.1 hl, ?_⟩
  exact ⟨F1, [.obj pp], M1, _, _, m1, .cons (.obj pp) .nil, q1, fun v H' z => z.dn s1, fun cls H' ⟨F', M', s', m', q'⟩ a => ⟨F', Γ, M', f0.trans (s1.trans s'), g.up (s1.trans s'), m', q'⟩⟩

structure Pln (K : PySem.W.Frag) (C : Addr) (f : Str) : Prop where
  cl : Cls K C
  no : NoAttr K C f
noncomputable def aFldC (C : Addr) (f : Str) (to : AE) : AE := fun Γ M Q => to Γ M fun x M1 => match x with
  | .obj p => insAt (M1 p) C fun fs => opt (fs.lookup f) fun d => Q d M1
  | _ => False
theorem paFld {f : Str} (P : Pln X.K C f) (ho : PEA X F0 e to) (hb : attributeBase e f X.env (eval e X.env) = eval e X.env) : PEA X F0 (.Attribute e f pos) (aFldC C f to) := by
  refine ⟨?_⟩
  intro F Γ M σ H Q f0 g mm hw
  refine (pe_fld pe_self hb).to ((ho.run F Γ M σ H _ f0 g mm hw).mono fun v H1 zz9 => ?_)
  obtain ⟨d, F1, M1, s1, m1, r1, q1⟩ := zz9
  obtain ⟨pp, rfl, rfl⟩ : ∃ pp, v = .ref pp ∧ d = .obj pp := by cases r1 <;> first | exact q1.elim | exact ⟨_, rfl, rfl⟩
  obtain ⟨fs, hp, q1⟩ := ins_ex q1
  obtain ⟨d, hl, q⟩ := some_ex q1
  obtain ⟨u, e1, ro⟩ := m1.mem _ _ hp
  obtain ⟨dx, ws, rfl, pf⟩ := ro.isI
  obtain ⟨v, lv, rv⟩ := pf.lookup.2 d hl
  exact ⟨pp, C, dx, ws, v, rfl, e1, P.cl, P.no, lv, d, F1, M1, s1, m1, rv, q⟩
noncomputable def putD (f : Str) (v : D) : List (Str × D) → List (Str × D)
  | [] => [(f, v)]
  | (g, x) :: r => if g = f then (g, v) :: r else (g, x) :: putD f v r
end
end L2

set_option Elab.async false
set_option linter.all false
set_option maxRecDepth 100000
namespace L2
open PySem PySem.Spec PySem.Calls PyProof.Rows

section
variable {X : Cx} {F0 : Hp} {R : AX} {e o c : Expr} {es : List Expr} {pos pos' : Pos} {te t_o : AE} {tt : AA} {t u : AS} {st : Stmt} {rest a b : List Stmt} {tc : AT}

noncomputable def aNext : AS := fun E Γ M => E.nx Γ M
noncomputable def aSeq (t u : AS) : AS := fun E Γ M => t { E with nx := u E } Γ M
theorem ssNil : PSsA X F0 [] aNext := ⟨fun F Γ M σ H E _ g m h => pss_nil.to (PQg.here m g h)⟩
theorem ssCons (h1 : PSA X F0 st t) (h2 : PSsA X F0 rest u) : PSsA X F0 (st :: rest) (aSeq t u) := by
  refine ⟨?_⟩
  intro F Γ M σ H E f0 g m h
  refine (pss_cons ps_self pss_self).to ((h1.run F Γ M σ H _ f0 g m h).mono ⟨fun σ1 H1 ⟨F1, Γ1, M1, s1, g1, m1, q1⟩ => ?_, fun _ _ z => z, fun _ _ z => z, fun _ _ z => z⟩)
  exact (h2.run F1 Γ1 M1 σ1 H1 E (f0.trans s1) g1 m1 q1).mono (PQD.dn s1)
theorem ssOne (h1 : PSA X F0 st t) : PSsA X F0 [st] t := ⟨fun F Γ M σ H E f0 g m h => (pss_one ps_self).to (h1.run F Γ M σ H E f0 g m h)⟩
noncomputable def aDrop (te : AE) : AS := fun E Γ M => te Γ M fun _ M1 => E.nx Γ M1
theorem sExpr (he : PEA X F0 e te) (hs : swapsWith e none pos.line X.env = pure false := by rfl) : PSA X F0 (.Expr e pos) (aDrop te) := by
  refine ⟨?_⟩
  intro F Γ M σ H E f0 g m h
  exact (ps_expr pe_self hs).to ((he.run F Γ M σ H _ f0 g m h).mono fun v H1 ⟨d, F1, M1, s1, m1, _, q1⟩ => ⟨F1, Γ, M1, s1, g.up s1, m1, q1⟩)
noncomputable def aRet (te : AE) : AS := fun E Γ M => te Γ M E.rt
theorem sRet (he : PEA X F0 e te) : PSA X F0 (.Return (some e) pos) (aRet te) := ⟨fun F Γ M σ H E f0 g m h => (ps_ret pe_self).to (he.run F Γ M σ H _ f0 g m h)⟩
noncomputable def aRetN : AS := fun E _ M => E.rt .non M
noncomputable def aIf (c : AT) (t u : AS) : AS := fun E Γ M => c Γ M fun b M1 => if b = true then t E Γ M1 else u E Γ M1
theorem sIf (hc : PTA X F0 c tc) (ha : PSsA X F0 a t) (hb : PSsA X F0 b u) : PSA X F0 (.If c a b pos) (aIf tc t u) := by
  refine ⟨?_⟩
  intro F Γ M σ H E f0 g m h
  refine (ps_if pt_self pss_self pss_self).to ((hc.run F Γ M σ H _ f0 g m h).mono fun k H1 zz9 => ?_)
  obtain ⟨F1, M1, s1, m1, q1⟩ := zz9
  cases k with
  | true =>
    rw [if_pos rfl] at q1 ⊢
    exact (ha.run F1 Γ M1 σ H1 E (f0.trans s1) (g.up s1) m1 q1).mono (PQD.dn s1)
  | false =>
    rw [if_neg Bool.false_ne_true] at q1 ⊢
    exact (hb.run F1 Γ M1 σ H1 E (f0.trans s1) (g.up s1) m1 q1).mono (PQD.dn s1)

noncomputable def gaN (i : Nat) : AGt := fun d Γ M Q => Q (Γ.set i (some d)) M
theorem tgName {i : Nat} {x : Str} (hN : X.N.Nodup) (hi : X.N[i]? = some x) (hx : Loc X.env.scope x) (hf : X.fn x = true ∨ X.env.scope.names.lookup x = some .local := by first | exact .inl rfl | exact .inr rfl | assumption) : PGA X F0 (.Name x pos) (gaN i) :=
  ⟨fun F Γ M σ H v d Q _ g m r h => (pg_name hN hi hx hf).to (PQg.here m (g.set r i) h)⟩
noncomputable def gaNil : AGts := fun ds Γ M Q => ds = [] ∧ Q Γ M
noncomputable def gaCons (t : AGt) (u : AGts) : AGts := fun ds Γ M Q => match ds with | d :: r => t d Γ M fun Γ' M' => u r Γ' M' Q | [] => False
theorem tgsNil : PGsA X F0 [] gaNil := by
  refine ⟨?_⟩
  intro F Γ M σ H vs ds Q _ g m r h
  obtain ⟨rfl, h⟩ := h
  cases r
  exact pgs_nil.to ⟨rfl, PQg.here m g h⟩
theorem tgsCons {gt : AGt} {gu : AGts} (h1 : PGA X F0 e gt) (h2 : PGsA X F0 es gu) (hs : (assignEach (e :: es) X.env).map (·.2) = assign e X.env :: (assignEach es X.env).map (·.2) := by rfl) : PGsA X F0 (e :: es) (gaCons gt gu) := by
  refine ⟨?_⟩
  intro F Γ M σ H vs ds Q f0 g m r h
  cases r with
  | nil => exact h.elim
  | cons r1 r2 =>
    refine (pgs_cons pg_self pgs_self hs).to ⟨_, _, rfl, ?_⟩
    refine (h1.run F Γ M σ H _ _ _ f0 g m r1 h).mono fun σ1 H1 zz9 => ?_
    obtain ⟨F1, Γ1, M1, s1, g1, m1, q1⟩ := zz9
    exact (h2.run F1 Γ1 M1 σ1 H1 _ _ Q (f0.trans s1) g1 m1 (r2.up s1) q1).mono fun _ _ z => z.dn s1
noncomputable def gaTup (n : Nat) (t : AGts) : AGt := fun d Γ M Q => match d with | .tup ds => ds.length = n ∧ t ds Γ M Q | _ => False
theorem tgTup {k : Nat} {gu : AGts} {n : Nat} (hc : X.calm = true) (h : PGsA X F0 es gu)
    (hn : (assignEach es X.env).length = n := by rfl) (hst : (assignEach es X.env).findIdx? (·.1) = none := by rfl) : PGA X F0 (.Tuple es k pos) (gaTup n gu) := by
  refine ⟨?_⟩
  intro F Γ M σ H v d Q f0 g m r hw
  cases r <;> first | exact hw.elim | skip
  rename_i a xs ds e r
  exact (pg_tup hc pgs_self hn hst).to ⟨a, xs, rfl, .of (m.sub _ _ e), by rw [r.length]; exact hw.1, h.run F Γ M σ H xs ds Q f0 g m r hw.2⟩
noncomputable def gaLst (n : Nat) (t : AGts) : AGt := fun d Γ M Q => match dr M d with | some ds => ds.length = n ∧ t ds Γ M Q | none => False
theorem tgLst {k : Nat} {gu : AGts} {n : Nat} (hc : X.calm = true) (h : PGsA X F0 es gu)
    (hn : (assignEach es X.env).length = n := by rfl) (hst : (assignEach es X.env).findIdx? (·.1) = none := by rfl) : PGA X F0 (.Tuple es k pos) (gaLst n gu) := by
  refine ⟨?_⟩
  intro F Γ M σ H v d Q f0 g m r hw
  unfold gaLst at hw
  split at hw
  · rename_i ds hd
    obtain ⟨p, vs, rfl, e, rr⟩ := dr_rep m r hd
    exact (pg_lst hc pgs_self hn hst).to ⟨p, vs, rfl, e, by rw [rr.length]; exact hw.1, h.run F Γ M σ H vs ds Q f0 g m rr hw.2⟩
  · exact hw.elim
noncomputable def gaSub (to ti : AE) : AGt := fun d Γ M Q => to Γ M fun x M1 => ti Γ M1 fun y M2 => match x, y with
  | .obj p, .int k => (match M2 p with | some (.lst ds) => (match ixN ds.length k with | some j => Q Γ (put M2 p (.lst (ds.set j d))) | none => False) | _ => False)
  | _, _ => False
theorem tgSub {i : Expr} {ti : AE} (ho : PEA X F0 o t_o) (hi : PEA X F0 i ti) 
    (ha : ∀ v, assign (.Subscript o i pos) X.env v = (do
      let ov ← holding [v] (eval o X.env)
      let iv ← holding [v, ov] (eval i X.env)
      standAt pos
      holding [v, ov, iv] (setItem ov iv v)
      release [v, ov, iv] []) := by intro _; rfl) : PGA X F0 (.Subscript o i pos) (gaSub t_o ti) := by
  refine ⟨?_⟩
  intro F Γ M σ H v d Q f0 g m r hw
  refine (pg_sub pe_self pe_self set_list ha).to (two ho hi f0 g m hw fun F2 M2 H2 v1 u1 x y s m2 r1 r2 q => ?_)
  cases r1 <;> first | exact q.elim | skip
  cases r2 <;> first | exact q.elim | skip
  rename_i p k
  dsimp only at q
  split at q
  · rename_i ds hd
    split at q
    · rename_i j hj
      obtain ⟨vs, e, rr⟩ := obj_lst m2 hd
      exact ⟨p, vs, k, j, rfl, rfl, e, by rw [rr.length]; exact hj, F2, Γ, _, s, g.up s, m2.set hd (u := .lst (vs.set j v)) (o' := .lst (ds.set j d)) (RDs.set (r.up s) j rr), q⟩
    · exact q.elim
  · exact q.elim
noncomputable def aAsg (te : AE) (gt : AGt) : AS := fun E Γ M => te Γ M fun d M1 => gt d Γ M1 E.nx
theorem sAsg {tg : Expr} {gt : AGt} (he : PEA X F0 e te) (hg : PGA X F0 tg gt) (hs : swapsWithSole [tg] e pos.line X.env = pure false := by rfl) (hw : swappedStores [tg] e X.env = pure none := by rfl)
    (h1 : (assignEach [tg] X.env).map (·.2) = [assign tg X.env] := by rfl) : PSA X F0 (.Assign [tg] e pos) (aAsg te gt) := by
  refine ⟨?_⟩
  intro F Γ M σ H E f0 g m h
  refine (ps_asg pe_self pg_self hs hw h1).to ((he.run F Γ M σ H _ f0 g m h).mono fun v H1 zz9 => ?_)
  obtain ⟨d, F1, M1, s1, m1, r1, q1⟩ := zz9
  exact (hg.run F1 Γ M1 σ H1 v d _ (f0.trans s1) (g.up s1) m1 r1 q1).mono fun _ _ z => PQg.dn s1 z
noncomputable def aSet (i : Nat) (te : AE) : AS := fun E Γ M => te Γ M fun d M1 => E.nx (Γ.set i (some d)) M1
theorem sSet {i : Nat} {x : Str} (hN : X.N.Nodup) (hi : X.N[i]? = some x) (hx : Loc X.env.scope x) (he : PEA X F0 e te) (hs : swapsWith e (some (.Name x pos')) pos.line X.env = pure false := by rfl) (hf : X.fn x = true ∨ X.env.scope.names.lookup x = some .local := by first | exact .inl rfl | exact .inr rfl | assumption) :
    PSA X F0 (.Assign [.Name x pos'] e pos) (aSet i te) := by
  refine ⟨?_⟩
  intro F Γ M σ H E f0 g m h
  exact (ps_set hN hi hx pe_self hs hf).to ((he.run F Γ M σ H _ f0 g m h).mono fun v H1 ⟨d, F1, M1, s1, m1, r1, q1⟩ => ⟨F1, _, M1, s1, (g.up s1).set r1 i, m1, q1⟩)
noncomputable def aPar (i j : Nat) (t : AA) : AS := fun E Γ M => t Γ M fun ds M1 => match ds with | [v, w] => E.nx ((Γ.set i (some v)).set j (some w)) M1 | _ => False
noncomputable def aSetF (C : Addr) (f : Str) (to te : AE) : AS := fun E Γ M => te Γ M fun y M1 => to Γ M1 fun x M2 => match x with
  | .obj p => insAt (M2 p) C fun fs => fs.length < 1000 ∧ E.nx Γ (put M2 p (.ins C (putD f y fs)))
  | _ => False
theorem PF.put {K : PySem.W.Frag} {F : Hp} {f : Str} {v : V} {d : D} (r : RD K F v d) : ∀ {a : List (Str × V)} {b : List (Str × D)}, PF K F a b → PF K F (putF f v a) (putD f d b)
  | _, _, .nil => .cons ⟨rfl, r⟩ .nil
  | (n, _) :: _, (n', _) :: _, .cons ⟨h1, h2⟩ t => by
    dsimp only at h1 h2
    subst h1
    unfold putF putD
    split
    · exact .cons ⟨rfl, r⟩ t
    · exact .cons ⟨rfl, h2⟩ (PF.put r t)
theorem sSetF {C : Addr} {f : Str} (P : Pln X.K C f) (ho : PEA X F0 o t_o) (he : PEA X F0 e te) (hs : swapsWith e (some (.Attribute o f pos')) pos.line X.env = pure false) : PSA X F0 (.Assign [.Attribute o f pos'] e pos) (aSetF C f t_o te) := by
  refine ⟨?_⟩
  intro F Γ M σ H E f0 g m h
  refine (ps_fld pe_self pe_self hs).to (two he ho f0 g m h fun F2 M2 H2 v u x y s m2 r1 r2 q => ?_)
  cases r2 <;> first | exact q.elim | skip
  rename_i p
  obtain ⟨fs, hp, hl, q⟩ := ins_ex q
  obtain ⟨w, e1, ro⟩ := m2.mem _ _ hp
  obtain ⟨dx, ws, rfl, pf⟩ := ro.isI
  exact ⟨p, C, dx, ws, rfl, e1, P.cl, P.no, by rw [pf.length]; exact hl, F2, Γ, _, s, g.up s, m2.set hp (u := .ins C dx (putF f v ws)) (o' := .ins C (putD f x fs)) ⟨rfl, pf.put r1⟩, q⟩
noncomputable def aRaise (R : AX) (C : Addr) (t : AA) : AS := fun _ Γ M => t Γ M fun ds M1 => ds.length ≤ 1000 ∧ R Γ M1 (.ref C)
theorem sRaise {x : Str} {C : Addr} {np cpos : Pos} (k : Cat X F0 R) (O : ExCls X.K X.mg x C) (hg : Gl X x) (ha : PAA X F0 (e :: es) tt)
    (hd : (x == ("__debug__" : Str)) = false := by decide) (he : starEach (e :: es) X.env = (false, eval e X.env) :: starEach es X.env := by rfl) (hpl : (backTo cpos (starEach es X.env)).any (·.1) = false := by rfl) :
    PSA X F0 (.Raise (some (.Call (.Name x np) (e :: es) [] cpos)) none pos) (aRaise R C tt) := by
  refine ⟨?_⟩
  intro F Γ M σ H E f0 g m h
  refine (ps_raise k.thr k.pl O k.calm hg pa_self hd he hpl).to ((ha.run F Γ M σ H _ f0 g m h).mono fun vs H1 zz9 => ?_)
  obtain ⟨ds, F1, M1, s1, m1, r1, hl, q1⟩ := zz9
  exact ⟨by rw [r1.length]; exact k1000 hl, fun a => ⟨F1, Γ, M1, f0.trans s1, g.up s1, m1, q1⟩⟩

noncomputable def aWhile (c : AT) (tb : AS) : AS := fun E Γ M => ∃ W : Nat → G → Mem → Prop, (∃ m, W m Γ M) ∧ ∀ m Γ M, W m Γ M →
  c Γ M fun b M1 => if b = true then tb { E with nx := fun Γ' M' => ∃ m', m' < m ∧ W m' Γ' M', ct := fun Γ' M' => ∃ m', m' < m ∧ W m' Γ' M', bk := E.nx } Γ M1 else E.nx Γ M1
theorem sWhile {tb : AS} {body : List Stmt} (k : Cat X F0 R) (hc : PTA X F0 c tc) (hb : PSsA X F0 body tb) : PSA X F0 (.While c body [] pos) (aWhile tc tb) := by
  refine ⟨?_⟩
  intro F Γ M σ H E f0 g m h
  obtain ⟨W, ⟨m0, w0⟩, turn⟩ := h
  intro pins s I
  refine (ps_while (k.pass I.ok.frames) pt_self pss_self).to ⟨fun n σ' H' => ∃ F' Γ' M', Same F F' ∧ AG X.K F' Γ' σ' ∧ AM X.K F' M' H' ∧ W n Γ' M', ⟨m0, F, Γ, M, .refl F, g, m, w0⟩, ?_⟩ pins s I
  rintro n σ1 H1 ⟨F1, Γ1, M1, s1, g1, m1, w1⟩
  refine (hc.run F1 Γ1 M1 σ1 H1 _ (f0.trans s1) g1 m1 (turn n Γ1 M1 w1)).mono fun b H2 zz9 => ?_
  obtain ⟨F2, M2, s2, m2, q2⟩ := zz9
  cases b with
  | true =>
    rw [if_pos rfl] at q2 ⊢
    refine ⟨PQg X.K F (fun Γ' M' => ∃ m', m' < n ∧ W m' Γ' M'), fun σ' H' ⟨F', Γ', M', s', g', m', n'⟩ => ?_, ?_⟩
    · obtain ⟨k', hm, w'⟩ := n'
      exact ⟨k', hm, F', Γ', M', s', g', m', w'⟩
    · exact (hb.run F2 Γ1 M2 σ1 H2 _ (f0.trans (s1.trans s2)) (g1.up s2) m2 q2).mono ⟨fun _ _ z => PQg.dn (s1.trans s2) z, fun _ _ z => PQ.dn (s1.trans s2) z, fun _ _ z => PQg.dn (s1.trans s2) z, fun _ _ z => PQg.dn (s1.trans s2) z⟩
  | false =>
    rw [if_neg Bool.false_ne_true] at q2 ⊢
    exact ⟨F2, Γ1, M2, s1.trans s2, g1.up s2, m2, q2⟩

structure Src where
  n : Nat
  item : Nat → D
  held : Mem → Prop
noncomputable abbrev AI := G → Mem → (Src → Mem → Prop) → Prop
noncomputable def selfI (X : Cx) (tg iter : Expr) : TI := fun σ H Rr => ∀ pins s, Inv X pins σ H s → wpAny (model X.prog X.w) X.A (eval iter X.env) (fun v s1 => wpAny (model X.prog X.w) X.A (pyIter v) (PIE X pins σ tg Rr) X.xe s1) X.xe s
theorem pi_self {tg iter : Expr} : PI X tg iter (selfI X tg iter) := fun pins s _ _ _ I h => h pins s I
theorem PI.to {tg iter : Expr} {σ : St} {H : Hp} {wi : TI} {Rr : It → Hp → Prop} (h : PI X tg iter wi) (hw : wi σ H Rr) : selfI X tg iter σ H Rr := fun pins s I => h pins s σ H Rr I hw

structure ItS (K : PySem.W.Frag) (F : Hp) (J : It) (S : Src) : Prop where
  go : ∀ i F' M H, Same F F' → AM K F' M H → S.held M → i < S.n → J.go i H
  yld : ∀ i F' M H x H', Same F F' → AM K F' M H → S.held M → i < S.n → J.yld i H x H' → ∃ F2, Same F' F2 ∧ AM K F2 M H' ∧ RD K F2 x (S.item i)
  stop : ∀ F' M H, Same F F' → AM K F' M H → S.held M → J.stop S.n H
structure PIA (X : Cx) (F0 : Hp) (tg iter : Expr) (t : AI)  : Prop where
  run : ∀ F Γ M σ H Q, Same F0 F → AG X.K F Γ σ → AM X.K F M H → t Γ M Q → selfI X tg iter σ H fun J H1 => ∃ S F1 M1, Same F F1 ∧ AM X.K F1 M1 H1 ∧ ItS X.K F1 J S ∧ Q S M1
noncomputable def LoopP (S : Src) (gt : AGt) (tb : AS) : AS := fun E Γ M => ∃ W : Nat → G → Mem → Prop, W 0 Γ M ∧ ∀ i Γ M, W i Γ M → S.held M ∧ if i < S.n then gt (S.item i) Γ M fun Γ2 M2 => tb { E with nx := W (i + 1), ct := W (i + 1), bk := E.nx } Γ2 M2 else E.nx Γ M
theorem LoopP.by {S : Src} {gt : AGt} {tb : AS} {E : AEnds} {Γ : G} {M : Mem} (W : Nat → G → Mem → Prop) (h0 : W 0 Γ M) (hl : ∀ i Γ M, W i Γ M → S.held M)
    (step : ∀ i Γ M, i < S.n → W i Γ M → gt (S.item i) Γ M fun Γ2 M2 => tb { E with nx := fun Γ' M' => i + 1 ≤ S.n ∧ W (i + 1) Γ' M', ct := fun Γ' M' => i + 1 ≤ S.n ∧ W (i + 1) Γ' M', bk := E.nx } Γ2 M2) (done : ∀ Γ M, W S.n Γ M → E.nx Γ M) : LoopP S gt tb E Γ M := by
  refine ⟨fun i Γ M => i ≤ S.n ∧ W i Γ M, ⟨Nat.zero_le _, h0⟩, fun i Γ M ⟨hi, w⟩ => ⟨hl i Γ M w, ?_⟩⟩
  by_cases h : i < S.n
  · rw [if_pos h]; exact step i Γ M h w
  · rw [if_neg h]
    have e : i = S.n := by omega
    subst e
    exact done Γ M w
noncomputable def aFor (wi : AI) (gt : AGt) (tb : AS) : AS := fun E Γ M => wi Γ M fun S M1 => LoopP S gt tb E Γ M1
theorem sFor {tg iter : Expr} {body : List Stmt} {wi : AI} {gt : AGt} {tb : AS} (k : Cat X F0 R) (hi : PIA X F0 tg iter wi) (hg : PGA X F0 tg gt) (hb : PSsA X F0 body tb)
    (hs : ∀ x, foldedSetIterable iter X.env x = pure x := by intro _; rfl) : PSA X F0 (.For tg iter body [] pos) (aFor wi gt tb) := by
  refine ⟨?_⟩
  intro F Γ M σ H E f0 g m h
  intro pins0 s0 I0
  refine (ps_for (k.pass I0.ok.frames) k.calm pi_self pg_self pss_self hs).to ?_ pins0 s0 I0
  intro pins s I
  refine thn (hi.run F Γ M σ H _ f0 g m h pins s I) fun v s1 h1 => thn h1 fun itv s2 zz9 => ?_
  obtain ⟨it, fp, tn, J, H2, e1, I2, T, st, fo, S, F1, M1, s1, m1, iS, W, w0, turn⟩ := zz9
  refine ⟨it, fp, tn, J, H2, e1, I2, T, st, fo, fun i n σ' H' => n = S.n - i ∧ i ≤ S.n ∧ ∃ F' Γ' M', Same F1 F' ∧ AG X.K F' Γ' σ' ∧ AM X.K F' M' H' ∧ W i Γ' M', ⟨S.n, rfl, Nat.zero_le _, F1, Γ, M1, .refl _, g.up s1, m1, w0⟩, ?_⟩
  rintro i n σ3 H3 ⟨rfl, hle, F3, Γ3, M3, s3, g3, m3, w3⟩
  obtain ⟨hh, w3⟩ := turn i Γ3 M3 w3
  by_cases hlt : i < S.n
  · rw [if_pos hlt] at w3
    refine .inr ⟨iS.go i F3 M3 H3 s3 m3 hh hlt, PQg X.K F1 (W (i + 1)), fun σ' H' ⟨F', Γ', M', s', g', m', w'⟩ => ⟨S.n - (i + 1), by omega, rfl, hlt, F', Γ', M', s', g', m', w'⟩, fun x H' y => ?_⟩
    obtain ⟨F4, s4, m4, r4⟩ := iS.yld i F3 M3 H3 x H' s3 m3 hh hlt y
    refine (hg.run F4 Γ3 M3 σ3 H' x _ _ (f0.trans (s1.trans (s3.trans s4))) (g3.up s4) m4 r4 w3).mono fun σ5 H5 zz9 => ?_
    obtain ⟨F5, Γ5, M5, s5, g5, m5, q5⟩ := zz9
    have sx := s3.trans (s4.trans s5)
    refine (hb.run F5 Γ5 M5 σ5 H5 _ (f0.trans (s1.trans sx)) g5 m5 q5).mono ⟨fun _ _ z => PQg.dn sx z, fun _ _ z => PQ.dn (s1.trans sx) z, fun _ _ z => PQg.dn (s1.trans sx) z, fun _ _ z => PQg.dn sx z⟩
  · rw [if_neg hlt] at w3
    have hin : i = S.n := by omega
    have w3 : E.nx Γ3 M3 := w3
    exact .inl ⟨by rw [hin]; exact iS.stop F3 M3 H3 s3 m3 hh, F3, Γ3, M3, s1.trans s3, g3, m3, w3⟩
noncomputable def iaL (tl : AE) : AI := fun Γ M Q => tl Γ M fun d M1 => match dr M1 d with
  | some ds => Q ⟨ds.length, fun i => ds.getD i .non, fun M => dr M d = some ds⟩ M1
  | none => False
theorem iList' {tg l : Expr} {tl : AE} (hl : PEA X F0 l tl) : PIA X F0 tg l (iaL tl) := by
  refine ⟨?_⟩
  intro F Γ M σ H Q f0 g m h
  refine (pi_list pe_self).to ((hl.run F Γ M σ H _ f0 g m h).mono fun v H1 zz9 => ?_)
  obtain ⟨d, F1, M1, s1, m1, r1, q1⟩ := zz9
  try dsimp only at q1
  split at q1
  · rename_i ds hd
    obtain ⟨p, vs, rfl, e, rr⟩ := dr_rep m1 r1 hd
    refine ⟨p, rfl, ⟨vs, e⟩, _, F1, M1, s1, m1, ⟨fun i F' M' H' s' m' hh hi => ?_, fun i F' M' H' x H'' s' m' hh hi y => ?_, fun F' M' H' s' m' hh => ?_⟩, q1⟩
    · obtain ⟨p', ws, e1, e2, r2⟩ := dr_rep m' (r1.up s') hh
      cases e1
      obtain ⟨w, e3, _⟩ := r2.get (i := i) (d := ds[i]) (by simp [hi])
      exact ⟨ws, w, e2, e3⟩
    · obtain ⟨p', ws, e1, e2, r2⟩ := dr_rep m' (r1.up s') hh
      cases e1
      obtain ⟨rfl, y⟩ := y
      obtain ⟨w, e3, r3⟩ := r2.get (i := i) (d := ds[i]) (by simp [hi])
      have hx := y ws e2
      rw [e3] at hx
      have hx := Option.some.inj hx
      subst hx
      refine ⟨F', .refl _, m', ?_⟩
      have e4 : ds.getD i .non = ds[i] := by simp [List.getD, List.getElem?_eq_getElem hi]
      show RD X.K F' _ (ds.getD i .non)
      rw [e4]; exact r3
    · obtain ⟨p', ws, e1, e2, r2⟩ := dr_rep m' (r1.up s') hh
      cases e1
      exact ⟨ws, e2, by rw [r2.length]; exact Nat.le_refl _⟩
  · exact q1.elim
noncomputable def iaR1 (tt : AA) : AI := fun Γ M Q => tt Γ M fun ds M1 => match ds with
  | [.int j] => -(2 ^ 62) ≤ j ∧ j < 2 ^ 62 ∧ Q ⟨j.toNat, fun i => .int i, fun _ => True⟩ M1
  | _ => False
theorem itr_src {K : PySem.W.Frag} {F : Hp} {lo : Int} {n : Nat} : ItS K F (Itr lo n) ⟨n, fun i => .int (lo + i), fun _ => True⟩ :=
  ⟨fun i _ _ _ _ _ _ h => h, fun i F' M H x H' _ m _ _ ⟨e1, e2⟩ => by subst e1 e2; exact ⟨F', .refl _, m, .int _⟩, fun _ _ _ _ _ _ => Nat.le_refl _⟩
theorem iRange1 {tg a : Expr} {p : Pos} (hg : Gl X "range") (hm : X.mg "range" = none) (ha : PAA X F0 [a] tt) (hs : starEach [a] X.env = [(false, eval a X.env)] := by rfl) : PIA X F0 tg (.Call (.Name "range" p) [a] [] pos) (iaR1 tt) := by
  refine ⟨?_⟩
  intro F Γ M σ H Q f0 g m h
  refine (pi_range1 hg hm pa_self hs).to ((ha.run F Γ M σ H _ f0 g m h).mono fun vs H1 zz9 => ?_)
  obtain ⟨ds, F1, M1, s1, m1, r1, q1⟩ := zz9
  try dsimp only at q1
  split at q1
  · rename_i j
    obtain ⟨x, rfl, rx⟩ := r1.one'
    obtain rfl : x = .int j := by cases rx; rfl
    refine ⟨j, rfl, q1.1, q1.2.1, ⟨j.toNat, fun i => .int i, fun _ => True⟩, F1, M1, s1, m1, ?_, q1.2.2⟩
    have := itr_src (K := X.K) (F := F1) (lo := 0) (n := j.toNat)
    simpa using this
  · exact q1.elim
noncomputable def iaR2 (tt : AA) : AI := fun Γ M Q => tt Γ M fun ds M1 => match ds with
  | [.int i, .int j] => (-(2 ^ 62) ≤ i ∧ i < 2 ^ 62 ∧ -(2 ^ 62) ≤ j ∧ j < 2 ^ 62) ∧ Q ⟨(j - i).toNat, fun k => .int (i + k), fun _ => True⟩ M1
  | _ => False
theorem iRange2 {tg a b : Expr} {p : Pos} (hg : Gl X "range") (hm : X.mg "range" = none) (ha : PAA X F0 [a, b] tt) (hs : starEach [a, b] X.env = [(false, eval a X.env), (false, eval b X.env)] := by rfl) (hs2 : starEach [b] X.env = [(false, eval b X.env)] := by rfl) : PIA X F0 tg (.Call (.Name "range" p) [a, b] [] pos) (iaR2 tt) := by
  refine ⟨?_⟩
  intro F Γ M σ H Q f0 g m h
  refine (pi_range2 hg hm pa_self hs hs2).to ((ha.run F Γ M σ H _ f0 g m h).mono fun vs H1 zz9 => ?_)
  obtain ⟨ds, F1, M1, s1, m1, r1, q1⟩ := zz9
  try dsimp only at q1
  split at q1
  · rename_i i j
    obtain ⟨x, y, rfl, rx, ry⟩ := r1.two'
    obtain rfl : x = .int i := by cases rx; rfl
    obtain rfl : y = .int j := by cases ry; rfl
    exact ⟨i, j, rfl, q1.1, ⟨(j - i).toNat, fun k => .int (i + k), fun _ => True⟩, F1, M1, s1, m1, itr_src, q1.2⟩
  · exact q1.elim
noncomputable def iaS (tl : AE) : AI := fun Γ M Q => tl Γ M fun d M1 => match d with
  | .str x => Q ⟨x.cps.size, fun i => .str ⟨#[x.cps.getD i 0]⟩, fun _ => True⟩ M1
  | _ => False
theorem iStr' {tg l : Expr} {tl : AE} (hl : PEA X F0 l tl) : PIA X F0 tg l (iaS tl) := by
  refine ⟨?_⟩
  intro F Γ M σ H Q f0 g m h
  refine (pi_str pe_self).to ((hl.run F Γ M σ H _ f0 g m h).mono fun v H1 zz9 => ?_)
  obtain ⟨d, F1, M1, s1, m1, r1, q1⟩ := zz9
  obtain ⟨x, rfl, rfl⟩ : ∃ x, v = .str x ∧ d = .str x := by cases r1 <;> first | exact q1.elim | exact ⟨_, rfl, rfl⟩
  exact ⟨x, rfl, ⟨x.cps.size, fun i => .str ⟨#[x.cps.getD i 0]⟩, fun _ => True⟩, F1, M1, s1, m1, ⟨fun i _ _ _ _ _ _ h => h, fun i F' M H x H' _ m _ _ ⟨e1, e2⟩ => by subst e1 e2; exact ⟨F', .refl _, m, .str _⟩, fun _ _ _ _ _ _ => rfl⟩, q1⟩
end
end L2

set_option Elab.async false
set_option linter.all false
set_option maxRecDepth 100000
namespace L2
open PySem PySem.Spec PySem.Calls PyProof.Rows


noncomputable def startA (N : List Str) (ds : List D) : G := ds.map some ++ List.replicate (N.length - ds.length) none
theorem start_at {K : PySem.W.Frag} {F : Hp} : ∀ {vs : List V} {ds : List D} {n i : Nat} {d : D}, RDs K F vs ds → (ds.map some ++ List.replicate n none : G)[i]? = some (some d) → ∃ v, (vs.map some ++ List.replicate n none : St)[i]? = some (some v) ∧ RD K F v d
  | _, _, n, i, d, .nil, h => by
    simp only [List.map_nil, List.nil_append, List.getElem?_replicate] at h
    split at h <;> cases h
  | _, _, n, 0, d, .cons r _, h => by simp at h; subst h; exact ⟨_, by simp, r⟩
  | _, _, n, i + 1, d, .cons _ t, h => by
    obtain ⟨v, e, r⟩ := start_at (i := i) t (by simpa using h)
    exact ⟨v, by simpa using e, r⟩
theorem start_ok {K : PySem.W.Frag} {F : Hp} {N : List Str} {vs : List V} {ds : List D} (r : RDs K F vs ds) : AG K F (startA N ds) (start N vs) := by
  refine ⟨by simp [startA, start, r.length], fun i d h => ?_⟩
  unfold start
  rw [r.length]
  exact start_at r h
theorem Cat.of {P : Program} {w : World} {K : PySem.W.Frag} {mg : Str → Option Value} {base : Heap} {N : List Str} {qual : Str} {scope : Scope} {f : Addr} {cd : Value} {A : Around} {outer : List Env} {s : Shared} {H : Hp} {E : XK} {F : Hp} {Ea : Value → Mem → Prop}
    (hE : ∀ cls H', (∃ F' M', Same F F' ∧ AM K F' M' H' ∧ Ea cls M') → E cls none H') (hu : (A.deeper (envOfC qual scope s.heap.objs.size f cd)).units + 64 < cLine) : Cat ((cxOf (CXE P w) P w K mg base N qual scope f cd A outer s H E).by (rE E)) F (fun _ M cls => Ea cls M) :=
  ⟨Thr.imp thr_self fun _ H' cls _ ⟨F', _, M', s', _, m', q⟩ => hE cls H' ⟨F', M', s', m', q⟩, plain_cx.wish _, rfl, fun fr => passes_XS plain_cx fr, hu⟩
theorem Fun.okA {P : Program} {w : World} {K : PySem.W.Frag} {mg : Str → Option Value} {base : Heap} {x qual : Str} {st : Stmt} {f : Addr} {fd : FuncData} {N ps : List Str} {k : Nat} {sa : SpA} (Fn : Fun K x qual st f fd) (S : FnScope N ps (defScope st)) (len : ∀ ds M Q E, sa ds M Q E → ds.length = ps.length)
    (hbody : ∀ (cdv : Value) (A : Around) (outer : List Env) (s : Shared) (H : Hp) (E : XK) (F0 : Hp) (ds : List D) (M : Mem) (Q : AK) (Ea : Value → Mem → Prop), Room k (A.deeper (envOfC qual (defScope st) s.heap.objs.size f cdv)) →
      Cat ((cxOf (CXE P w) P w K mg base N qual (defScope st) f cdv A outer s H E).by (rE E)) F0 (fun _ M cls => Ea cls M) → sa ds M Q Ea →
      ∃ t, PSsA ((cxOf (CXE P w) P w K mg base N qual (defScope st) f cdv A outer s H E).by (rE E)) F0 (defBody st) t ∧ t { nx := fun _ M' => Rt Q .non M', rt := Rt Q } (startA N ds) M) : FnOk P w K mg base (CXE P w) (k + 1) f fd ps (liftS K sa) := by
  refine Fn.okX S (fun vs H Q E ⟨F, ds, M, Qa, Ea, m, r, h, _⟩ => by rw [r.length]; exact len _ _ _ _ h) ?_
  intro cdv A outer s H vs Q E hr ⟨F, ds, M, Qa, Ea, m, r, h, hQ, hE⟩
  obtain ⟨t, ht, q⟩ := hbody cdv A outer s H E F ds M Qa Ea hr (Cat.of hE hr.units) h
  refine ⟨_, pss_self, ?_⟩
  refine (ht.run F _ M _ H _ (.refl F) (start_ok r) m q).mono ⟨fun σ' H' ⟨F', Γ', M', s', g', m', q'⟩ => ?_, fun v H' z => ?_, fun _ _ ⟨_, _, _, _, _, _, q'⟩ => q'.elim, fun _ _ ⟨_, _, _, _, _, _, q'⟩ => q'.elim⟩
  · exact hQ _ _ (PQ.rt ⟨.non, F', M', s', m', .non, q'⟩)
  · exact hQ _ _ (PQ.rt z)


theorem passE {X : Cx} : Passes (CXE X.prog X.w) X E0 := fun _ _ _ _ _ _ _ ⟨_, _, _, _, _, _, _, _, _, _, _, _, _, _, q⟩ => q.elim
section
variable {X : Cx} {F0 : Hp} {R : AX} {k : Nat} {x : Str} {sa : SpA} {p pos : Pos} {C : Addr}
structure HasC (P : Program) (w : World) (K : PySem.W.Frag) (mg : Str → Option Value) (base : Heap) (k : Nat) (x : Str) (C : Addr) (sa : SpA) : Prop where
  bound : mg x = some (.ref C)
  ex : ∃ f fd, FnOk P w K mg base (CXE P w) k f fd ["self"] (liftS K sa) ∧ Mk K C f ∧ Binds K fd ["self"] []
noncomputable def aMake (C : Addr) (sa : SpA) : AE := fun _ M Q => ∀ p, M p = none → sa [.obj p] (put M p (.ins C [])) (fun d M' => d = .non ∧ Q (.obj p) M') fun _ _ => False
theorem paMake (h : HasC X.prog X.w X.K X.mg X.base k x C sa) (hr : Room (k + 1) X.A) (hg : Gl X x) (hdb : (x == ("__debug__" : Str)) = false := by decide) : PEA X F0 (.Call (.Name x p) [] [] pos) (aMake C sa) := by
  refine ⟨?_⟩
  intro F Γ M σ H Q f0 g m hw
  obtain ⟨f, fd, Fn, mk, hb⟩ := h.ex
  refine (pe_make0 mk Fn hr hg h.bound hb .nil passE hdb).to ?_
  intro q dx hq hdx hne
  have hs := hw q (m.fM hq)
  have hq2 : upd H dx (.own q) q = none := by rw [upd_ne (Ne.symm hne)]; exact hq
  refine ⟨F, [.obj q], put M q (.ins C []), _, _, (m.more (u := .own q) hdx).new (o := .ins C []) hq2 ⟨rfl, .nil⟩, .cons (.obj q) .nil, hs, fun v H' ⟨d, F', M', s', m', r', hd, q'⟩ => ?_, fun _ _ ⟨_, _, _, _, z⟩ => z.elim⟩
  subst hd
  cases r'
  exact ⟨rfl, .obj q, F', M', s', m', .obj q, q'⟩
end


noncomputable def keyD : D → Option Key
  | .int i => some (.inl i)
  | .str x => some (.inr x)
  | _ => none
noncomputable def getK (kvs : List (Key × D)) (k : Key) : Option D := (kvs.find? fun kv => decide (kv.1 = k)).map (·.2)
noncomputable def putKD (kvs : List (Key × D)) (k : Key) (v : D) : List (Key × D) := if (getK kvs k).isSome then kvs.map fun kv => if kv.1 = k then (kv.1, v) else kv else kvs ++ [(k, v)]
noncomputable def dropKD (kvs : List (Key × D)) (k : Key) : List (Key × D) := kvs.filter fun kv => decide (kv.1 ≠ k)
section
variable {K : PySem.W.Frag} {F : Hp}
theorem key_rd {x : V} {d : D} {k : Key} (r : RD K F x d) (h : keyD d = some k) : x = kV k := by
  cases r <;> first | (cases h; done) | (cases h; rfl)
theorem PF.get (k : Key) : ∀ {a : List (Key × V)} {b : List (Key × D)}, PF K F a b → (getK b k = none → valV a k = none) ∧ ∀ d, getK b k = some d → ∃ v, valV a k = some v ∧ RD K F v d
  | _, _, .nil => ⟨fun _ => rfl, fun d h => by cases h⟩
  | (n, v) :: a, (n', d) :: b, .cons ⟨h1, h2⟩ t => by
    dsimp only at h1 h2
    subst h1
    obtain ⟨i1, i2⟩ := PF.get k t
    by_cases hn : n = k
    · rw [valV_pos (p := (n, v)) hn]
      have : getK ((n, d) :: b) k = some d := by simp [getK, List.find?_cons, hn]
      rw [this]
      refine ⟨fun h => ?_, fun d' h => ?_⟩
      · cases h
      · cases h; exact ⟨v, rfl, h2⟩
    · rw [valV_neg (p := (n, v)) hn]
      have : getK ((n, d) :: b) k = getK b k := by simp [getK, List.find?_cons, hn]
      rw [this]
      exact ⟨i1, i2⟩
theorem PF.append {κ : Type} : ∀ {a a' : List (κ × V)} {b b' : List (κ × D)}, PF K F a b → PF K F a' b' → PF K F (a ++ a') (b ++ b')
  | _, _, _, _, .nil, s => s
  | _, _, _, _, .cons h t, s => .cons h (PF.append t s)
theorem PF.mapK {k : Key} {v : V} {d : D} (r : RD K F v d) : ∀ {a : List (Key × V)} {b : List (Key × D)}, PF K F a b → PF K F (a.map fun kv => if kv.1 = k then (kv.1, v) else kv) (b.map fun kv => if kv.1 = k then (kv.1, d) else kv)
  | _, _, .nil => .nil
  | (n, _) :: _, (n', _) :: _, .cons ⟨h1, h2⟩ t => by
    dsimp only at h1 h2
    subst h1
    simp only [List.map_cons]
    refine .cons ?_ (PF.mapK r t)
    split
    · exact ⟨rfl, r⟩
    · exact ⟨rfl, h2⟩
theorem PF.putK {k : Key} {v : V} {d : D} (r : RD K F v d) {a : List (Key × V)} {b : List (Key × D)} (h : PF K F a b) : PF K F (L2.putK a k v) (putKD b k d) := by
  unfold L2.putK putKD
  rw [valV_any]
  cases q : getK b k with
  | none =>
    rw [(h.get k).1 q]
    simp only [Option.isSome_none, Bool.false_eq_true, if_false]
    exact h.append (.cons ⟨rfl, r⟩ .nil)
  | some d' =>
    obtain ⟨v', e, _⟩ := (h.get k).2 d' q
    rw [e]
    simp only [Option.isSome_some, if_true]
    exact PF.mapK r h
theorem PF.dropK {k : Key} : ∀ {a : List (Key × V)} {b : List (Key × D)}, PF K F a b → PF K F (L2.dropK a k) (dropKD b k)
  | _, _, .nil => .nil
  | (n, _) :: _, (n', _) :: _, .cons ⟨h1, h2⟩ t => by
    dsimp only at h1 h2
    subst h1
    unfold L2.dropK dropKD
    simp only [List.filter_cons]
    split
    · exact .cons ⟨rfl, h2⟩ (PF.dropK t)
    · exact PF.dropK t
end
section
variable {X : Cx} {F0 : Hp} {e o i : Expr} {pos pos' : Pos} {td ti tv : AE}
noncomputable def aDGet (td ti : AE) : AE := fun Γ M Q => td Γ M fun x M1 => ti Γ M1 fun y M2 => both (dd M2 x) (keyD y) fun kvs k => opt (getK kvs k) fun d => Q d M2
theorem paDGet (hu : X.A.units + 1 < cLine) (ho : PEA X F0 o td) (hi : PEA X F0 i ti) (hs : NoSl i) : PEA X F0 (.Subscript o i pos) (aDGet td ti) := by
  refine ⟨?_⟩
  intro F Γ M σ H Q f0 g m hw
  refine (pe_dget hu pe_self pe_self hs).to (two ho hi f0 g m hw fun F2 M2 H2 v u x y s m2 r1 r2 q0 => ?_)
  obtain ⟨kvs, k, h1, h2, q0⟩ := two_ex q0
  obtain ⟨d, h3, q⟩ := some_ex q0
  obtain ⟨p, ws, rfl, rfl, _, e1, pf⟩ := dd_rep m2 r1 h1
  obtain ⟨w, e2, rw'⟩ := (pf.get k).2 d h3
  refine ⟨p, w, rfl, ?_, d, F2, M2, s, m2, rw', q⟩
  rw [key_rd r2 h2, ← e2]
  exact DGet.k e1
noncomputable def oDIn (neg : Bool) : A2 := fun y x M Q => both (dd M x) (keyD y) fun kvs k => Q (.bl (if neg then !(getK kvs k).isSome else (getK kvs k).isSome)) M
theorem PF.some {K : PySem.W.Frag} {F : Hp} {a : List (Key × V)} {b : List (Key × D)} (h : PF K F a b) (k : Key) : (valV a k).isSome = (getK b k).isSome := by
  cases q : getK b k with
  | none => rw [(h.get k).1 q]; rfl
  | some d => obtain ⟨v, e, _⟩ := (h.get k).2 d q; rw [e]; rfl
structure PCA (X : Cx) (F0 : Hp) (op : CmpOp) (a b : Expr) (t : AE)  : Prop where
  run : ∀ F Γ M σ H Q, Same F0 F → AG X.K F Γ σ → AM X.K F M H → t Γ M Q → ∃ tc : TE, PC X op a b tc ∧ ∀ Rv : VK, (∀ v H', PQ X.K F Q v H' → Rv v H') → tc σ H Rv
theorem pcDIn (hu : X.A.units + 1 < cLine) (hi : PEA X F0 i ti) (ho : PEA X F0 o td) : PCA X F0 .In i o (aOp (oDIn false) ti td) := by
  refine ⟨?_⟩
  intro F Γ M σ H Q f0 g m hw
  refine ⟨_, pc_din hu pe_self pe_self, fun Rv kk => two hi ho f0 g m hw fun F2 M2 H2 v u y x s m2 r1 r2 q0 => ?_⟩
  obtain ⟨kvs, k, h1, h2, q⟩ := two_ex q0
  obtain ⟨p, ws, rfl, rfl, _, e1, pf⟩ := dd_rep m2 r2 h1
  refine ⟨p, _, rfl, by rw [key_rd r1 h2]; exact DGet.k e1, kk _ _ ⟨_, F2, M2, s, m2, .bl _, ?_⟩⟩
  rw [pf.some k]; simpa using q
theorem pcDNotIn (hu : X.A.units + 1 < cLine) (hi : PEA X F0 i ti) (ho : PEA X F0 o td) : PCA X F0 .NotIn i o (aOp (oDIn true) ti td) := by
  refine ⟨?_⟩
  intro F Γ M σ H Q f0 g m hw
  refine ⟨_, pc_dnotin hu pe_self pe_self, fun Rv kk => two hi ho f0 g m hw fun F2 M2 H2 v u y x s m2 r1 r2 q0 => ?_⟩
  obtain ⟨kvs, k, h1, h2, q⟩ := two_ex q0
  obtain ⟨p, ws, rfl, rfl, _, e1, pf⟩ := dd_rep m2 r2 h1
  refine ⟨p, _, rfl, by rw [key_rd r1 h2]; exact DGet.k e1, kk _ _ ⟨_, F2, M2, s, m2, .bl _, ?_⟩⟩
  rw [pf.some k]; simpa using q
theorem ptPC {op : CmpOp} {a b : Expr} {t : AE} (h : PCA X F0 op a b t) (h1 : behindInMarks op b = false := by first | exact nobehind _ (by decide) (by decide) | rfl) : PTA X F0 (.Compare a [op] [b] pos) (aT t) := by
  refine ⟨?_⟩
  intro F Γ M σ H Q f0 g m hw
  obtain ⟨tc, pc, k⟩ := h.run F Γ M σ H _ f0 g m hw
  refine (pt_cmp pc h1).to (k _ fun v H' z => ?_)
  exact PQ.bool z
noncomputable def aDPut (td ti tv : AE) : AS := fun E Γ M => tv Γ M fun v M1 => td Γ M1 fun x M2 => ti Γ M2 fun y M3 => match x with
  | .obj p => both (dd M3 (.obj p)) (keyD y) fun kvs k => kvs.length < 1000 ∧ E.nx Γ (put M3 p (.dic (putKD kvs k v)))
  | _ => False
theorem dd_obj {M : Mem} {p : Addr} {kvs : List (Key × D)} (h : dd M (.obj p) = some kvs) : M p = some (.dic kvs) := by
  unfold dd at h
  dsimp only at h
  split at h
  · rename_i h'; cases h; exact h'
  · cases h
theorem sPutD (hu : X.A.units + 1 < cLine) (ho : PEA X F0 o td) (hi : PEA X F0 i ti) (hv : PEA X F0 e tv) (hs : swapsWith e (some (.Subscript o i pos')) pos.line X.env = pure false) : PSA X F0 (.Assign [.Subscript o i pos'] e pos) (aDPut td ti tv) := by
  refine ⟨?_⟩
  intro F Γ M σ H E f0 g m hw
  refine (ps_dput hu pe_self pe_self pe_self hs).to ?_
  refine (hv.run F Γ M σ H _ f0 g m hw).mono fun v H1 zz9 => ?_
  obtain ⟨dv, F1, M1, s1, m1, r1, q1⟩ := zz9
  refine two ho hi (f0.trans s1) (g.up s1) m1 q1 fun F2 M2 H2 u w x y s m2 r2 r3 q => ?_
  cases r2 <;> first | exact q.elim | skip
  rename_i p
  obtain ⟨kvs, k, hp, hk, hl, q⟩ := two_ex q
  have hp := dd_obj hp
  obtain ⟨u', e1, ro⟩ := m2.mem _ _ hp
  obtain ⟨ws, rfl, pf⟩ := ro.isD
  refine ⟨p, _, rfl, ?_, F2, Γ, put M2 p (.dic (putKD kvs k dv)), s1.trans s, g.up (s1.trans s), m2.set hp (u := .dK (putK ws k v)) (o' := .dic (putKD kvs k dv)) (pf.putK (r1.up s)), q⟩
  rw [key_rd r3 hk]
  exact DPut.k e1 (by rw [pf.length]; exact small1000 (Nat.le_of_lt hl))
noncomputable def aDNew : AE := fun _ M Q => ∀ p, M p = none → Q (.obj p) (put M p (.dic []))
theorem paDNew : PEA X F0 (.Dict [] [] pos) aDNew := by
  refine ⟨?_⟩
  intro F Γ M σ H Q f0 g m hw
  exact pe_dnewK.to fun p hp => ⟨.obj p, F, _, .refl F, m.new (o := .dic []) hp .nil, .obj p, hw p (m.fM hp)⟩
variable {apos cpos : Pos}
noncomputable def aDPop (td ti : AE) : AE := fun Γ M Q => td Γ M fun x M1 => (dd M1 x).isSome = true ∧ ti Γ M1 fun y M2 => match x with
  | .obj p => both (dd M2 (.obj p)) (keyD y) fun kvs k => opt (getK kvs k) fun d => Q d (put M2 p (.dic (dropKD kvs k)))
  | _ => False
theorem paDPop (ho : PEA X F0 o td) (he : PEA X F0 e ti) (mm : M1 X o "pop" apos e cpos) : PEA X F0 (.Call (.Attribute o "pop" apos) [e] [] cpos) (aDPop td ti) := by
  refine ⟨?_⟩
  intro F Γ M σ H Q f0 g m hw
  refine (pe_dpop1 pe_self pe_self mm).to ((ho.run F Γ M σ H _ f0 g m hw).mono fun v H1 zz9 => ?_)
  obtain ⟨x, F1, M1, s1, m1, r1, hd, q1⟩ := zz9
  cases hdd : dd M1 x with
  | none => rw [hdd] at hd; cases hd
  | some kvs0 =>
    obtain ⟨p, ws, rfl, rfl, hp, e1, pf⟩ := dd_rep m1 r1 hdd
    refine ⟨p, rfl, .inl ⟨ws, .inl e1⟩, (he.run F1 Γ M1 σ H1 _ (f0.trans s1) (g.up s1) m1 q1).mono fun u H2 zz9 => ?_⟩
    obtain ⟨y, F2, M2, s2, m2, r2, q2⟩ := zz9
    obtain ⟨kvs, k, hp2, hk, q2⟩ := two_ex q2
    obtain ⟨d, hg, q⟩ := some_ex q2
    have hp2 := dd_obj hp2
    obtain ⟨u', e2, ro⟩ := m2.mem _ _ hp2
    obtain ⟨ws2, rfl, pf2⟩ := ro.isD
    obtain ⟨w, e3, rw'⟩ := (pf2.get k).2 d hg
    exact ⟨ws2, k, w, e2, key_rd r2 hk, e3, d, F2, _, s1.trans s2, m2.set hp2 (u := .dK (dropK ws2 k)) (o' := .dic (dropKD kvs k)) pf2.dropK, rw', q⟩
noncomputable def aDGet1 (td ti : AE) : AE := fun Γ M Q => td Γ M fun x M1 => (dd M1 x).isSome = true ∧ ti Γ M1 fun y M2 => both (dd M2 x) (keyD y) fun kvs k => Q ((getK kvs k).getD .non) M2
end
end L2

set_option Elab.async false
set_option linter.all false
set_option maxRecDepth 100000
namespace L2
open PySem PySem.Spec PySem.Calls PyProof.Rows


noncomputable def jsOf (n : Nat) (fs : List Nat) : List (Option Nat) := List.replicate n none ++ fs.map some
noncomputable def frG (fs : List Nat) (Γ : G) : G := fs.map fun j => (Γ[j]?).join
noncomputable def outs (f : Nat → Option D) (n : Nat) : List D := (List.range n).filterMap f
theorem outs_succ (f : Nat → Option D) (n : Nat) : outs f (n + 1) = outs f n ++ (f n).toList := by
  unfold outs
  rw [List.range_succ, List.filterMap_append]
  cases h : f n <;> simp [h]
theorem outs_le (f : Nat → Option D) (n : Nat) : (outs f n).length ≤ n := by
  unfold outs
  exact Nat.le_trans (List.length_filterMap_le _ _) (by simp)
noncomputable def aCompM (n : Nat) (fs : List Nat) (wi : AI) (gt : AGt) (ti : AT) (te : AE) : AE := fun Γ M Q => wi Γ M fun S M1 => ∃ out : Nat → Option D, S.n ≤ 1000 ∧
  (∀ M', Sub M1 M' → S.held M' ∧ ∀ i, i < S.n → ∀ own : G, own.length = n → gt (S.item i) (own ++ frG fs Γ) M' fun Γ2 M2 => M2 = M' ∧ (∃ own', own'.length = n ∧ Γ2 = own' ++ frG fs Γ) ∧
    ti Γ2 M' fun b M3 => M3 = M' ∧ if b = true then te Γ2 M' fun y M4 => M4 = M' ∧ out i = some y else out i = none) ∧
  ∀ p, M1 p = none → Q (.obj p) (put M1 p (.lst (outs out S.n)))
noncomputable def aYes : AT := fun _ M Q => Q true M
section
variable {X : Cx} {F0 : Hp} {Nc : List Str} {scope : Scope} {cl : List (Str × Addr)} {n : Nat} {fs : List Nat} {tg iter elt : Expr} {ifs : List Expr} {gt : AGt} {ti : AT} {te : AE} {wi : AI} {pos : Pos}
structure PIfsA (X : Cx) (F0 : Hp) (ifs : List Expr) (t : AT)  : Prop where
  run : ∀ F Γ M σ H Q, Same F0 F → AG X.K F Γ σ → AM X.K F M H → t Γ M Q → ∀ pins s, Inv X pins σ H s → wpAny (model X.prog X.w) X.A (ifsRun X.env ifs) (TP X pins σ (PQb X.K F Q)) X.xe s
theorem fiNil : PIfsA X F0 [] aYes := ⟨fun F Γ M σ H Q _ _ m h pins s I => pif_nil pins s σ H _ I (PQb.here m h)⟩
theorem frG_ok {K : PySem.W.Frag} {F : Hp} {Γ : G} {σ : St} (g : AG K F Γ σ) (n : Nat) (fs : List Nat) : AG K F (List.replicate n none ++ frG fs Γ) (sigC (jsOf n fs) σ) := by
  have e : sigC (jsOf n fs) σ = List.replicate n none ++ fs.map fun j => (σ[j]?).join := by
    unfold sigC jsOf
    rw [List.map_append, List.map_replicate, List.map_map]
    rfl
  rw [e]
  refine ⟨by simp [frG], fun i d h => ?_⟩
  by_cases hi : i < n
  · rw [List.getElem?_append_left (by simpa using hi), List.getElem?_replicate, if_pos hi] at h
    cases h
  · rw [List.getElem?_append_right (by simp; omega)] at h ⊢
    simp only [List.length_replicate, frG, List.getElem?_map] at h ⊢
    cases q : fs[i - n]? with
    | none => rw [q] at h; cases h
    | some j =>
      rw [q] at h
      simp only [Option.map_some, Option.some.injEq] at h ⊢
      have h2 : Γ[j]? = some (some d) := by
        cases q2 : Γ[j]? with
        | none => rw [q2] at h; cases h
        | some z => rw [q2] at h; cases z <;> cases h; rfl
      obtain ⟨v, e1, r⟩ := g.at' j d h2
      exact ⟨v, by rw [e1]; rfl, r⟩
theorem comp_read {σ : St} {H : Hp} {F : Hp} {Γ : G} {M : Mem} {Q : AK} {Rv : VK} (f0 : Same F0 F) (g : AG X.K F Γ σ) (m : AM X.K F M H) (hi : PIA X F0 tg iter wi)
    (hg : ∀ pins C fp s H, PGA (cxComp X pins Nc scope cl C fp s H) F0 tg gt) (hti : ∀ pins C fp s H, PIfsA (cxComp X pins Nc scope cl C fp s H) F0 ifs ti) (he : ∀ pins C fp s H, PEA (cxComp X pins Nc scope cl C fp s H) F0 elt te)
    (hw : aCompM n fs wi gt ti te Γ M Q) (hR : ∀ v H', PQ X.K F Q v H' → Rv v H') :
    tComp (jsOf n fs) (selfI X tg iter) (fun v σ H Q => ∀ pins C fp s H0, selfG (cxComp X pins Nc scope cl C fp s H0) tg v σ H Q)
      (fun σ H Q => ∀ pins C fp s H0 pins' s', Inv (cxComp X pins Nc scope cl C fp s H0) pins' σ H s' → wpAny (model X.prog X.w) X.A (ifsRun (cxComp X pins Nc scope cl C fp s H0).env ifs) (TP (cxComp X pins Nc scope cl C fp s H0) pins' σ Q) (fun _ _ => False) s')
      (fun σ H Q => ∀ pins C fp s H0, selfE (cxComp X pins Nc scope cl C fp s H0) elt σ H Q) σ H Rv := by
  intro pins s I
  refine thn (hi.run F Γ M σ H _ f0 g m hw pins s I) fun v s1 h1 => thn h1 fun itv s2 zz9 => ?_
  obtain ⟨it, fp, tn, J, H2, e1, I2, T, st, fo, S, F1, M1, s1, m1, iS, out, hn, turn, q⟩ := zz9
  refine ⟨it, fp, tn, J, H2, e1, I2, T, st, fo, fun l hl => ?_⟩
  have hMl := m1.fM hl
  refine ⟨fun i k ys σ' H' => k = S.n - i ∧ i ≤ S.n ∧ ∃ F' own, Same F1 F' ∧ own.length = n ∧ AG X.K F' (own ++ frG fs Γ) σ' ∧ AM X.K F' (put M1 l (.raw (.lst ys))) H' ∧ RDs X.K F' ys (outs out i), ⟨S.n, rfl, Nat.zero_le _, F1, List.replicate n none, .refl _, by simp, frG_ok (g.up s1) n fs, m1.new (o := .raw (.lst [])) hl rfl, .nil⟩, ?_⟩
  rintro i k ys σ3 H3 ⟨rfl, hle, F3, own, s3, ho, g3, m3, hys⟩
  have hs3 : Sub M1 (put M1 l (.raw (.lst ys))) := .put hMl
  obtain ⟨hh, turn⟩ := turn _ hs3
  have at_l : ∀ {F5 : Hp} {H5 : Hp}, AM X.K F5 (put M1 l (.raw (.lst ys))) H5 → H5 l = some (.lst ys) := fun m5 => by
    obtain ⟨u, e, r⟩ := m5.mem l _ put_same
    rw [e]; exact congrArg some r
  refine ⟨at_l m3, ?_⟩
  by_cases hlt : i < S.n
  · refine .inr ⟨iS.go i F3 _ H3 s3 m3 hh hlt, by rw [hys.length]; exact small1000 (Nat.le_trans (outs_le out i) (by omega)), fun x H' y pins C fp s H0 => ?_⟩
    obtain ⟨F4, s4, m4, r4⟩ := iS.yld i F3 _ H3 x H' s3 m3 hh hlt y
    have ft := f0.trans (s1.trans (s3.trans s4))
    refine ((hg pins C fp s H0).run F4 _ _ σ3 H' x _ _ ft (g3.up s4) m4 r4 (turn i hlt own ho)).mono fun σ5 H5 zz9 => ?_
    obtain ⟨F5, Γ5, M5, s5, g5, m5, e5, ⟨own5, ho5, eΓ5⟩, q5⟩ := zz9
    subst e5 eΓ5
    intro pinsb Cb fpb sb H0b pins' s' I'
    refine thn ((hti pinsb Cb fpb sb H0b).run F5 _ _ σ5 H5 _ (ft.trans s5) g5 m5 q5 pins' s' I') fun b s6 ⟨H6, I6, F6, M6, s6', m6, e6, q6⟩ => ⟨H6, I6, ?_⟩
    subst e6
    have sx := s4.trans (s5.trans s6')
    cases b with
    | true =>
      rw [if_pos rfl] at q6 ⊢
      intro pinsc Cc fpc sc H0c
      refine ((he pinsc Cc fpc sc H0c).run F6 _ _ σ5 H6 _ (ft.trans (s5.trans s6')) (g5.up s6') m6 q6).mono fun vy H7 zz9 => ?_
      obtain ⟨y7, F7, M7, s7, m7, r7, e7, q7⟩ := zz9
      subst e7
      refine ⟨at_l m7, S.n - (i + 1), by omega, rfl, hlt, F7, own5, s3.trans (sx.trans s7), ho5, g5.up (s6'.trans s7), ?_, ?_⟩
      · have := m7.set (p := l) (o' := .raw (.lst (ys ++ [vy]))) (u := .lst (ys ++ [vy])) put_same rfl
        rw [put_put] at this
        exact this
      · rw [outs_succ, q7]
        exact (hys.up (sx.trans s7)).append (.cons r7 .nil)
    | false =>
      rw [if_neg Bool.false_ne_true] at q6 ⊢
      refine ⟨S.n - (i + 1), by omega, rfl, hlt, F6, own5, s3.trans sx, ho5, g5.up s6', m6, ?_⟩
      rw [outs_succ, q6]
      simpa using hys.up sx
  · have hin : i = S.n := by omega
    subst hin
    have m4 : AM X.K F3 (put M1 l (.lst (outs out S.n))) H3 := by
      have := m3.set (p := l) (o' := .lst (outs out S.n)) (u := .lst ys) put_same hys
      rw [put_put] at this
      have e : upd H3 l (.lst ys) = H3 := by
        funext b
        by_cases hb : b = l
        · subst hb; rw [upd_same, at_l m3]
        · rw [upd_ne hb]
      rw [e] at this
      exact this
    exact .inl ⟨iS.stop F3 _ H3 s3 m3 hh, hR _ _ ⟨.obj l, F3, _, s1.trans s3, m4, .obj l, q l hMl⟩⟩
theorem paCompM (O : CompOk X scope cl Nc (jsOf n fs)) (hc : X.calm = true) (hi : PIA X F0 tg iter wi) (hg : ∀ pins C fp s H, PGA (cxComp X pins Nc scope cl C fp s H) F0 tg gt) (hti : ∀ pins C fp s H, PIfsA (cxComp X pins Nc scope cl C fp s H) F0 ifs ti)
    (he : ∀ pins C fp s H, PEA (cxComp X pins Nc scope cl C fp s H) F0 elt te) (hs : ∀ x, foldedSetIterable iter X.env x = pure x := by intro _; rfl) :
    PEA X F0 (.ListComp elt [⟨tg, iter, ifs, 0⟩] scope pos) (aCompM n fs wi gt ti te) := by
  refine ⟨?_⟩
  intro F Γ M σ H Q f0 g m hw
  refine (pe_comp O hc pi_self (g := fun v σ H Q => ∀ pins C fp s H0, selfG (cxComp X pins Nc scope cl C fp s H0) tg v σ H Q)
    (ti := fun σ H Q => ∀ pins C fp s H0 pins' s', Inv (cxComp X pins Nc scope cl C fp s H0) pins' σ H s' → wpAny (model X.prog X.w) X.A (ifsRun (cxComp X pins Nc scope cl C fp s H0).env ifs) (TP (cxComp X pins Nc scope cl C fp s H0) pins' σ Q) (fun _ _ => False) s')
    (te := fun σ H Q => ∀ pins C fp s H0, selfE (cxComp X pins Nc scope cl C fp s H0) elt σ H Q)
    (fun pins C fp s H => fun pins' s' _ _ _ u _ I r h => h pins C fp s H pins' s' u I r) (fun pins C fp s H => fun pins' s' _ _ _ I h => h pins C fp s H pins' s' I) (fun pins C fp s H => fun pins' s' _ _ _ I h => h pins C fp s H pins' s' I) hs).to ?_
  exact comp_read f0 g m hi hg hti he hw fun _ _ z => z
theorem sCompM {i : Nat} {y : Str} {py spos : Pos} (hN : X.N.Nodup) (hiN : X.N[i]? = some y) (hyl : X.env.scope.names.lookup y = some .local) (O : CompOk X scope cl Nc (jsOf n fs)) (hc : X.calm = true) (hi : PIA X F0 tg iter wi) (hg : ∀ pins C fp s H, PGA (cxComp X pins Nc scope cl C fp s H) F0 tg gt)
    (hti : ∀ pins C fp s H, PIfsA (cxComp X pins Nc scope cl C fp s H) F0 ifs ti) (he : ∀ pins C fp s H, PEA (cxComp X pins Nc scope cl C fp s H) F0 elt te)
    (hsw : swapsWith (.ListComp elt [⟨tg, iter, ifs, 0⟩] scope pos) (some (.Name y py)) spos.line X.env = pure true) (hs : ∀ x, foldedSetIterable iter X.env x = pure x := by intro _; rfl) :
    PSA X F0 (.Assign [.Name y py] (.ListComp elt [⟨tg, iter, ifs, 0⟩] scope pos) spos) (aSet i (aCompM n fs wi gt ti te)) := by
  refine ⟨?_⟩
  intro F Γ M σ H E f0 g m hw
  refine (ps_comp hN hiN hyl O hc pi_self (g := fun v σ H Q => ∀ pins C fp s H0, selfG (cxComp X pins Nc scope cl C fp s H0) tg v σ H Q)
    (ti := fun σ H Q => ∀ pins C fp s H0 pins' s', Inv (cxComp X pins Nc scope cl C fp s H0) pins' σ H s' → wpAny (model X.prog X.w) X.A (ifsRun (cxComp X pins Nc scope cl C fp s H0).env ifs) (TP (cxComp X pins Nc scope cl C fp s H0) pins' σ Q) (fun _ _ => False) s')
    (te := fun σ H Q => ∀ pins C fp s H0, selfE (cxComp X pins Nc scope cl C fp s H0) elt σ H Q)
    (fun pins C fp s H => fun pins' s' _ _ _ u _ I r h => h pins C fp s H pins' s' u I r) (fun pins C fp s H => fun pins' s' _ _ _ I h => h pins C fp s H pins' s' I) (fun pins C fp s H => fun pins' s' _ _ _ I h => h pins C fp s H pins' s' I) hsw hs).to ?_
  refine comp_read f0 g m hi hg hti he hw fun v H1 zz9 => ?_
  obtain ⟨d, F1, M1, s1, m1, r1, q1⟩ := zz9
  exact ⟨F1, _, M1, s1, (g.up s1).set r1 i, m1, q1⟩
theorem sCompZ {i : Nat} {y : Str} {py spos : Pos} (hN : X.N.Nodup) (hiN : X.N[i]? = some y) (hyl : X.env.scope.names.lookup y = some .local) (O : CompOk X scope cl Nc (jsOf n fs)) (hc : X.calm = true) (hi : PIA X F0 tg iter wi) (hg : ∀ pins C fp s H, PGA (cxComp X pins Nc scope cl C fp s H) F0 tg gt)
    (hti : ∀ pins C fp s H, PIfsA (cxComp X pins Nc scope cl C fp s H) F0 ifs ti) (he : ∀ pins C fp s H, PEA (cxComp X pins Nc scope cl C fp s H) F0 elt te)
    (hsw : swapsWith (.ListComp elt [⟨tg, iter, ifs, 0⟩] scope pos) (some (.Name y py)) spos.line X.env = pure true) (hs : ∀ x, foldedSetIterable iter X.env x = pure x := by intro _; rfl) :
    PSA X F0 (.Assign [.Name y py] (.ListComp elt [⟨tg, iter, ifs, 0⟩] scope pos) spos) (aSet i (aFz (aCompM n fs wi gt ti te))) := by
  refine ⟨?_⟩
  intro F Γ M σ H E f0 g m hw
  refine (ps_comp hN hiN hyl O hc pi_self (g := fun v σ H Q => ∀ pins C fp s H0, selfG (cxComp X pins Nc scope cl C fp s H0) tg v σ H Q)
    (ti := fun σ H Q => ∀ pins C fp s H0 pins' s', Inv (cxComp X pins Nc scope cl C fp s H0) pins' σ H s' → wpAny (model X.prog X.w) X.A (ifsRun (cxComp X pins Nc scope cl C fp s H0).env ifs) (TP (cxComp X pins Nc scope cl C fp s H0) pins' σ Q) (fun _ _ => False) s')
    (te := fun σ H Q => ∀ pins C fp s H0, selfE (cxComp X pins Nc scope cl C fp s H0) elt σ H Q)
    (fun pins C fp s H => fun pins' s' _ _ _ u _ I r h => h pins C fp s H pins' s' u I r) (fun pins C fp s H => fun pins' s' _ _ _ I h => h pins C fp s H pins' s' I) (fun pins C fp s H => fun pins' s' _ _ _ I h => h pins C fp s H pins' s' I) hsw hs).to ?_
  refine comp_read f0 g m hi hg hti he (Q := fun d M' => match d with | .obj p => (match M' p with | some (.lst ds) => E.nx (Γ.set i (some (.lst ds))) (del M' p) | _ => False) | _ => False) hw fun v H1 zz9 => ?_
  obtain ⟨d, F1, M1, s1, m1, r1, q1⟩ := zz9
  cases r1 with
  | obj p =>
    try dsimp only at q1
    split at q1
    · rename_i ds hd
      obtain ⟨F2, s2, m2, r2⟩ := m1.freeze hd
      exact ⟨F2, _, _, s1.trans s2, (g.up (s1.trans s2)).set r2 i, m2, q1⟩
    · exact q1.elim
  | _ => exact q1.elim

noncomputable def oAll : A1s := fun ds M Q => match ds with
  | [d] => (match dr M d with | some xs => ∃ bs : List Bool, xs = bs.map D.bl ∧ Q (.bl (bs.all id)) M | none => False)
  | _ => False
theorem bools_of {K : PySem.W.Frag} {F : Hp} : ∀ {vs : List V} {bs : List Bool} {us : List Value}, RDs K F vs (bs.map D.bl) → Vals vs us → us = bs.map Value.bool
  | _, [], _, r, v => by cases r; cases v; rfl
  | _, b :: bs, _, r, v => by
    cases r with
    | cons r1 r2 =>
      cases r1
      cases v with
      | cons v1 v2 =>
        cases (show _ = Value.bool b from v1)
        rw [bools_of r2 v2]; rfl
theorem paAll {tt : AA} {e : Expr} {p : Pos} (hg : Gl X "all") (hm : X.mg "all" = none) (hc : X.calm = true) (ha : PAA X F0 [e] tt)
    (he : starEach [e] X.env = (false, eval e X.env) :: starEach [] X.env := by rfl) : PEA X F0 (.Call (.Name "all" p) [e] [] pos) (aCall oAll tt) := by
  refine ⟨?_⟩
  intro F Γ M σ H Q f0 g m hw
  have base : CallR X (.builtin "all") (fun vs H Rv => ∃ F1 M1 ds, AM X.K F1 M1 H ∧ RDs X.K F1 vs ds ∧ oAll ds M1 (fun d M' => ∀ v, RD X.K F1 v d → AM X.K F1 M' H → Rv v H)) := by
    intro pins s σ H vs us Rv I rv ⟨F1, M1, ds, m1, r1, h⟩
    unfold oAll at h
    split at h
    · obtain ⟨x, rfl, rx⟩ := r1.one'
      split at h
      · rename_i xs hd
        obtain ⟨bs, rfl, q⟩ := h
        obtain ⟨a, ws, rfl, e, rr⟩ := dr_rep m1 rx hd
        obtain ⟨u, rfl, ru⟩ := rv.one
        cases ru
        obtain ⟨its, ri, pl, hz⟩ := I.list e
        have hits := bools_of rr ri
        subst hits
        have hl := pl.isList
        have hlt : a < s.heap.objs.size := by obtain ⟨_, e, _⟩ := hl; exact Heap.lt_size e
        refine call_all_walk (wpAny_pyIter_list hl ?_)
        refine ⟨s.heap.objs.size, [s.heap.objs.size, a], [s.heap.objs.size], (bs.map Value.bool).toArray.size, _, _, fun i => (bs[i]?).getD true, rfl, Walks.list (prog := X.prog) (w := X.w) (A := X.A.in1) (I.ok.hd hc) s.heap.objs.size a (Nat.ne_of_lt hlt) (bs.map Value.bool).toArray, ⟨⟨_, Heap.get?_push_size _ rfl, rfl, rfl⟩, hl.push _⟩, fun i v s' Q' E' hP hQ => ?_, fun h' tk hk => ?_⟩
        · have hP' : (bs.map Value.bool)[i]? = some v := by simpa using hP
          rw [List.getElem?_map] at hP'
          cases hb : bs[i]? with
          | none => rw [hb] at hP'; cases hP'
          | some b =>
            rw [hb] at hP'
            cases hP'
            have hQ : Q' ((bs[i]?).getD true) s' := hQ
            rw [hb] at hQ
            exact wpAny_truthy_bool hQ
        · have e2 : ((List.range bs.length).all fun i => (bs[i]?).getD true) = bs.all id := by
            rw [Bool.eq_iff_iff, List.all_eq_true, List.all_eq_true]
            constructor
            · intro h b hb
              obtain ⟨i, hi, rfl⟩ := List.getElem_of_mem hb
              have := h i (List.mem_range.mpr hi)
              simpa [List.getElem?_eq_getElem hi] using this
            · intro h i hi
              have hi' := List.mem_range.mp hi
              simpa [List.getElem?_eq_getElem hi'] using h _ (List.getElem_mem hi')
          rw [show (bs.map Value.bool).toArray.size = bs.length by simp, e2]
          refine ⟨.bl _, H, ?_, rfl, q _ (.bl _) m1⟩
          exact I.kept (t' := tk) fun b o e => hk b o (fun hm => by rw [List.mem_singleton.mp hm] at e; exact Nat.lt_irrefl _ (Heap.lt_size e)) (Heap.get?_push_of_some _ e)
      · exact h.elim
    · exact h.elim
  refine (pe_callB base hg hm boot_all pa_self (by decide) (by decide) he rfl).to ((ha.run F Γ M σ H _ f0 g m hw).mono fun vs H1 ⟨ds, F1, M1, s1, m1, r1, q1⟩ => ⟨F1, M1, ds, m1, r1, ?_⟩)
  unfold oAll at q1 ⊢
  try dsimp only at q1
  split at q1
  · rename_i d
    dsimp only
    cases hd : dr M1 d with
    | none => rw [hd] at q1; exact q1.elim
    | some xs =>
      rw [hd] at q1
      obtain ⟨bs, e, q⟩ := q1
      exact ⟨bs, e, fun v rv m' => ⟨_, F1, M1, s1, m1, rv, q⟩⟩
  · exact q1.elim
end
end L2

namespace L2
open PySem PySem.Spec PySem.Calls PyProof.Rows

theorem FnOk.noX {P : Program} {w : World} {K : PySem.W.Frag} {mg : Str → Option Value} {base : Heap} {k : Nat} {f : Addr} {fd : FuncData} {ps : List Str} {sp sp' : Sp} (Fn : FnOk P w K mg base (CXE P w) k f fd ps sp)
    (h : ∀ vs H Q E, sp' vs H Q E → sp vs H Q fun _ _ _ => False) : FnOk P w K mg base CX0 k f fd ps sp' := by
  refine ⟨fun vs H Q E q => Fn.len vs H Q _ (h _ _ _ _ q), fun A outer s H args us vs Q E hr he hb hv hs => codeAny_mono (Fn.run A outer s H args us vs Q _ hr he hb hv (h _ _ _ _ hs)) fun r s' q => ?_⟩
  cases r with
  | error e => obtain ⟨_, _, _, _, _, _, _, _, _, _, _, _, _, _, z⟩ := q; exact z.elim
  | ok fl =>
    cases fl with
    | ret u => exact q
    | _ => exact q
noncomputable def spScript (K : PySem.W.Frag) : Sp := fun vs H Q _ => ∃ (a : Addr) (ns : List Int), vs = [.ref a] ∧ SqL K H a (ns.map V.int) ∧ Script 63 ns ∧ ∀ H', Q (.bl true) H'
noncomputable def spTrue : SpA := fun ds _ Q _ => ∃ ns : List Int, ds = [.scr (ns.map D.int)] ∧ Script 63 ns ∧ ∀ M', Q (.bl true) M'
theorem ints_rd {K : PySem.W.Frag} {F : Hp} : ∀ ns : List Int, RDs K F (ns.map V.int) (ns.map D.int)
  | [] => .nil
  | _ :: ns => .cons (.int _) (ints_rd ns)
theorem law_ok {P : Program} {w : World} {K : PySem.W.Frag} {mg : Str → Option Value} {base : Heap} {k : Nat} {f : Addr} {fd : FuncData} {ps : List Str} (Fn : FnOk P w K mg base (CXE P w) k f fd ps (liftS K spTrue)) : FnOk P w K mg base CX0 k f fd ps (spScript K) := by
  refine Fn.noX fun vs H Q E zz9 => ?_
  obtain ⟨a, ns, e, hS, hsc, q⟩ := zz9
  subst e
  refine ⟨fun b => if b = a then H b else none, [.scr (ns.map D.int)], fun _ => none, fun d _ => d = .bl true, fun _ _ => False, ⟨fun b o e => ?_, fun b o e => ?_, fun b o e => ?_⟩, .cons (.scr ?_ (ints_rd ns)) .nil, ⟨ns, rfl, hsc, fun _ => rfl⟩, fun v H' ⟨d, _, _, _, _, r, hd⟩ => ?_, fun _ _ ⟨_, _, _, _, z⟩ => z.elim⟩
  · split at e
    · exact e
    · cases e
  · cases e
  · cases e
  · rcases hS with (h | ⟨o, h⟩) | h
    · exact .inl (.inl (by simpa using h))
    · exact .inl (.inr ⟨o, by simpa using h⟩)
    · exact .inr h
  · subst hd
    cases r
    exact q H'
end L2
namespace L2
open PySem PySem.Spec PySem.Calls PyProof.Rows
theorem compL {fs : List Nat} {tl te : AE} {Γ : G} {M : Mem} {Q : AK} (ds : List D) (f : D → D) (htl : ∀ R : AK, R (.lst ds) M → tl Γ M R) (hn : ds.length ≤ 1000) (he : ∀ x ∈ ds, ∀ (M' : Mem) (R : AK), R (f x) M' → te (some x :: frG fs Γ) M' R)
    (q : Q (.lst (ds.map f)) M) : aFz (aCompM 1 fs (iaL tl) (gaN 0) aYes te) Γ M Q := by
  refine htl _ ?_
  refine ⟨fun i => some (f (ds.getD i .non)), hn, fun M' _ => ⟨rfl, fun i hi own ho => ?_⟩, fun p hp => ?_⟩
  · obtain ⟨o, rfl⟩ : ∃ o, own = [o] := by
      cases own with
      | nil => cases ho
      | cons o l => cases l with
        | nil => exact ⟨o, rfl⟩
        | cons _ _ => simp at ho
    refine ⟨rfl, ⟨[some _], rfl, rfl⟩, rfl, ?_⟩
    rw [if_pos rfl]
    have hi' : i < ds.length := hi
    have e : ds.getD i .non = ds[i] := by simp [List.getD, List.getElem?_eq_getElem hi']
    show te (some (ds.getD i .non) :: frG fs Γ) M' _
    rw [e]
    exact he _ (List.getElem_mem hi') M' _ ⟨rfl, by dsimp only; rw [e]⟩
  · dsimp only
    rw [put_same]
    dsimp only
    rw [del_put hp]
    have e : outs (fun i => some (f (ds.getD i .non))) ds.length = ds.map f := by
      apply List.ext_getElem?
      intro i
      have : outs (fun i => some (f (ds.getD i .non))) ds.length = (List.range ds.length).map fun i => f (ds.getD i .non) := by
        unfold outs
        induction List.range ds.length with
        | nil => rfl
        | cons a l ih => simp only [List.filterMap_cons, List.map_cons, ih]
      rw [this]
      simp only [List.getElem?_map]
      by_cases hi : i < ds.length
      · simp [List.getElem?_range hi, List.getElem?_eq_getElem hi, List.getD]
      · simp [List.getElem?_eq_none (show (List.range ds.length).length ≤ i by simp; omega), List.getElem?_eq_none (show ds.length ≤ i by omega)]
    rw [e]
    exact q
theorem at_map {α : Type} (f : α → D) (xs : List α) (j : Int) (h0 : 0 ≤ j) (h1 : j < xs.length) : ∃ x, atI (xs.map f) j = some (f x) ∧ x ∈ xs := by
  obtain ⟨k, rfl⟩ := Int.eq_ofNat_of_zero_le h0
  have hk : k < xs.length := by omega
  exact ⟨xs[k], atI_nat (by simp [List.getElem?_eq_getElem hk]), List.getElem_mem hk⟩
theorem at0 {a : D} {l : List D} : atI (a :: l) 0 = some a := atI_nat (j := 0) rfl
theorem at1 {a b : D} {l : List D} : atI (a :: b :: l) 1 = some b := atI_nat (j := 1) rfl
theorem at2 {a b c : D} {l : List D} : atI (a :: b :: c :: l) 2 = some c := atI_nat (j := 2) rfl
theorem at3 {a b c d : D} {l : List D} : atI (a :: b :: c :: d :: l) 3 = some d := atI_nat (j := 3) rfl
end L2
namespace L2
open PySem PySem.Spec PySem.Calls PyProof.Rows
end L2
namespace L2
section
variable {M : Mem} {Q : AK}
theorem eqq_int {i j : Int} : oEq false (.int i) (.int j) M Q = Q (.bl (decide (i = j))) M := by unfold oEq eqC eqB; simp [scalD, eqS]
theorem eqq_str {i j : PySem.Str} : oEq false (.str i) (.str j) M Q = Q (.bl (decide (i = j))) M := by unfold oEq eqC eqB; simp [scalD, eqS]
theorem eqq_bl {i j : Bool} : oEq false (.bl i) (.bl j) M Q = Q (.bl (decide (i = j))) M := by unfold oEq eqC eqB; simp [scalD, eqS]
theorem neq_int {i j : Int} : oEq true (.int i) (.int j) M Q = Q (.bl (!decide (i = j))) M := by unfold oEq eqC eqB; simp [scalD, eqS]
theorem neq_str {i j : PySem.Str} : oEq true (.str i) (.str j) M Q = Q (.bl (!decide (i = j))) M := by unfold oEq eqC eqB; simp [scalD, eqS]
theorem neq_bl {i j : Bool} : oEq true (.bl i) (.bl j) M Q = Q (.bl (!decide (i = j))) M := by unfold oEq eqC eqB; simp [scalD, eqS]
end
end L2
namespace L2
theorem seqIfF {c : AT} {t rest : AS} {E : AEnds} {Γ : G} {M : Mem} (h : ∀ R : Bool → Mem → Prop, R false M → c Γ M R) (h2 : rest E Γ M) : aSeq (aIf c t aNext) rest E Γ M := h _ (by rw [if_neg Bool.false_ne_true]; exact h2)
theorem seqIfT {c : AT} {t u rest : AS} {E : AEnds} {Γ : G} {M : Mem} (h : ∀ R : Bool → Mem → Prop, R true M → c Γ M R) (h2 : t { E with nx := rest E } Γ M) : aSeq (aIf c t u) rest E Γ M := h _ (by rw [if_pos rfl]; exact h2)
end L2
namespace L2
theorem eqB_refl {d : D} {M : Mem} (h : shD (drf M d) = true) : eqB M d d = true := by
  unfold eqB
  split
  · rename_i hs
    cases d <;> first
      | (simp [scalD] at hs; done)
      | simp [eqS]
  · unfold shD at h
    simp only [Bool.and_eq_true] at h
    exact eqv_refl _ (PySem.SeqAt.canLay_of_shaped h.2)
theorem eq_self' {d : D} {M : Mem} {Q : AK} (h : shD (drf M d) = true) (q : Q (.bl true) M) : oEq false d d M Q := ⟨.inr ⟨h, h⟩, by rw [eqB_refl h]; exact q⟩
theorem ne_self' {d : D} {M : Mem} {Q : AK} (h : shD (drf M d) = true) (q : Q (.bl false) M) : oEq true d d M Q := ⟨.inr ⟨h, h⟩, by rw [eqB_refl h]; exact q⟩
end L2
namespace L2
open PySem

inductive Gd : Nat → D → Prop where
  | non (n : Nat) : Gd n .non
  | bl (n : Nat) (b : Bool) : Gd n (.bl b)
  | int (n : Nat) (i : Int) : Gd n (.int i)
  | str (n : Nat) (x : Str) (h : PyData.strOk x = true) : Gd n (.str x)
  | lst (n : Nat) (ds : List D) (h : ∀ d ∈ ds, Gd n d) : Gd (n + 1) (.lst ds)
  | tup (n : Nat) (ds : List D) (h : ∀ d ∈ ds, Gd n d) : Gd (n + 1) (.tup ds)
theorem gd_all {n : Nat} : ∀ {ds : List D}, (∀ d ∈ ds, d.flat = true ∧ d.py.canLay0 = true ∧ d.py.depth ≤ n) → D.flats ds = true ∧ PyData.canLayAll0 (D.pys ds) = true ∧ PyData.depthAll (D.pys ds) ≤ n
  | [], _ => ⟨by simp [D.flats], by simp [D.pys, PyData.canLayAll0], by simp [D.pys, PyData.depthAll]⟩
  | d :: ds, h => by
    obtain ⟨h1, h2, h3⟩ := h d List.mem_cons_self
    obtain ⟨g1, g2, g3⟩ := gd_all fun e he => h e (List.mem_cons_of_mem _ he)
    refine ⟨by simp [D.flats, h1, g1], by simp [D.pys, PyData.canLayAll0, h2, g2], ?_⟩
    simp only [D.pys, PyData.depthAll]
    omega
theorem Gd.ok {n : Nat} {d : D} (h : Gd n d) : d.flat = true ∧ d.py.canLay0 = true ∧ d.py.depth ≤ n := by
  induction h with
  | non n => simp [D.flat, D.py, PyData.canLay0, PyData.depth]
  | bl n b => simp [D.flat, D.py, PyData.canLay0, PyData.depth]
  | int n i => simp [D.flat, D.py, PyData.canLay0, PyData.depth]
  | str n x h => simp [D.flat, D.py, PyData.canLay0, PyData.depth, h]
  | lst n ds _ ih =>
    obtain ⟨h1, h2, h3⟩ := gd_all ih
    exact ⟨by simpa [D.flat] using h1, by simpa [D.py, PyData.canLay0] using h2, by simp only [D.py, PyData.depth]; omega⟩
  | tup n ds _ ih =>
    obtain ⟨h1, h2, h3⟩ := gd_all ih
    exact ⟨by simpa [D.flat] using h1, by simpa [D.py, PyData.canLay0] using h2, by simp only [D.py, PyData.depth]; omega⟩
theorem Gd.sh {n : Nat} {d : D} (h : Gd n d) (hn : n ≤ 64 := by decide) : shD d = true := by
  obtain ⟨h1, h2, h3⟩ := h.ok
  unfold shD SeqAt.shaped
  rw [h1, h2]
  simp; omega
end L2

set_option Elab.async false
set_option linter.all false
set_option maxRecDepth 100000
namespace L2
open PySem PySem.Spec PySem.Calls PyProof.Rows


noncomputable def keyOf : Key → D
  | .inl i => .int i
  | .inr x => .str x
section
variable {X : Cx} {F0 : Hp} {o : Expr} {td : AE} {p q pos apos cpos : Pos} {K : PySem.W.Frag}
noncomputable def aVals (td : AE) : AE := fun Γ M Q => td Γ M fun x M1 => opt (dd M1 x) fun kvs => ∀ p, M1 p = none → Q (.obj p) (put M1 p (.lst (kvs.map fun kv => kv.2)))
noncomputable def aItems (td : AE) : AE := fun Γ M Q => td Γ M fun x M1 => opt (dd M1 x) fun kvs => ∀ p, M1 p = none → Q (.obj p) (put M1 p (.lst (kvs.map fun kv => .tup [keyOf kv.1, kv.2])))
theorem PF.vals {F : Hp} : ∀ {ws : List (Key × V)} {kvs : List (Key × D)}, PF K F ws kvs → RDs K F (ws.map (·.2)) (kvs.map (·.2))
  | _, _, .nil => .nil
  | _, _, .cons h t => .cons h.2 (PF.vals t)
theorem key_of_rd {F : Hp} : ∀ k : Key, RD K F (kV k) (keyOf k)
  | .inl _ => .int _
  | .inr _ => .str _
theorem paVals (hm : X.mg "list" = none) (hc : X.calm = true) (hg : Gl X "list") (ho : PEA X F0 o td)
    (hbase : attributeBase o "values" X.env (eval o X.env) = eval o X.env := by rfl) (hline : (apos.endLine == cpos.line) = true := by rfl)
    (he : starEach [.Call (.Attribute o "values" apos) [] [] cpos] X.env = (false, eval (.Call (.Attribute o "values" apos) [] [] cpos) X.env) :: starEach [] X.env := by rfl) (hpl : (backTo pos (starEach [] X.env)).any (·.1) = false := by rfl) :
    PEA X F0 (.Call (.Name "list" p) [.Call (.Attribute o "values" apos) [] [] cpos] [] pos) (aVals td) := by
  refine ⟨?_⟩
  intro F Γ M σ H Q f0 g m hw
  refine (pe_callTy (call_list_values hc) hg hm boot_list (pa_cons (pe_bm0 PySem.F.plainAttrs_dict PySem.F.slot_dict_values PySem.F.type_dict_values mt_values pe_self hbase hline) pa_nil he) (by decide) (by decide) he hpl).to
    ((ho.run F Γ M σ H _ f0 g m hw).mono fun v H1 ⟨d, F1, M1, s1, m1, r1, q1⟩ => ?_)
  obtain ⟨kvs, hd, q2⟩ := some_ex q1
  obtain ⟨a, ws, rfl, rfl, hM, e1, pf⟩ := dd_rep m1 r1 hd
  refine ⟨.inr (.inr (.inl ⟨rfl, .inl ⟨ws, e1⟩⟩)), a, ws, rfl, rfl, .inl e1, fun vw hvw => ?_⟩
  have ha : a ≠ vw := fun z => by rw [z, hvw] at e1; cases e1
  refine ⟨vw, a, ws, rfl, upd_same, .inl (by rw [upd_ne ha]; exact e1), fun l hl => ?_⟩
  exact ⟨.obj l, F1, _, s1, (m1.more (u := .ext (viewφ "dict_values" vw a)) hvw).new (o := .lst (kvs.map fun kv : Key × D => kv.2)) hl (PF.vals pf), .obj l, q2 l ((m1.more (u := .ext (viewφ "dict_values" vw a)) hvw).fM hl)⟩
theorem items_rd {F : Hp} {M : Mem} {H H1 : Hp} {l : Addr} {as : List Addr} {ws : List (Key × V)} {kvs : List (Key × D)} (m : AM K F M H) (hl : H l = none) (ha : ∀ a ∈ as, H a = none ∧ a ≠ l)
    (hb : ∀ b, (∀ a ∈ as, b ≠ a) → H1 b = upd H l (.lst (as.map V.ref)) b) (hp : Prs H1 as ws) (pf : PF K F ws kvs) :
    ∃ F', Same F F' ∧ AM K F' (put M l (.lst (kvs.map fun kv => .tup [keyOf kv.1, kv.2]))) H1 := by
  have hs : Same F fun b => if b ∈ as then H1 b else F b := fun b x e => by
    have : b ∉ as := fun hm => by rw [m.sub.free (ha b hm).1] at e; cases e
    dsimp only; rw [if_neg this]; exact e
  have out : ∀ b, b ∉ as → H1 b = upd H l (.lst (as.map V.ref)) b := fun b hn => hb b fun a hm z => hn (z ▸ hm)
  have hll : l ∉ as := fun hm => (ha l hm).2 rfl
  refine ⟨_, hs, ⟨fun b x e => ?_, fun b x e => ?_, fun b x e => ?_⟩⟩
  · split at e
    · exact e
    · rename_i hn
      have hbl : b ≠ l := by rintro rfl; rw [m.fF hl] at e; cases e
      rw [out b hn, upd_ne hbl]; exact m.sub b x e
  · have hn : b ∉ as := by
      by_cases hbl : b = l
      · subst hbl; exact hll
      · rw [put_ne hbl] at e
        intro hm
        rw [m.fM (ha b hm).1] at e; cases e
    rw [if_neg hn]
    by_cases hbl : b = l
    · subst hbl; exact m.fF hl
    · rw [put_ne hbl] at e; exact m.dj b x e
  · by_cases hbl : b = l
    · subst hbl
      rw [put_same] at e
      cases e
      refine ⟨.lst (as.map V.ref), by rw [out b hll, upd_same], ?_⟩
      show RDs K _ (as.map V.ref) (kvs.map fun kv => .tup [keyOf kv.1, kv.2])
      have key : ∀ {as' : List Addr} {ws' : List (Key × V)} {kvs' : List (Key × D)}, (∀ a ∈ as', a ∈ as) → Prs H1 as' ws' → PF K F ws' kvs' → RDs K (fun b => if b ∈ as then H1 b else F b) (as'.map V.ref) (kvs'.map fun kv => .tup [keyOf kv.1, kv.2]) := by
        intro as' ws' kvs' hin hp' pf'
        induction hp' generalizing kvs' with
        | nil => cases pf'; exact .nil
        | cons h t ih =>
          cases pf' with
          | cons h2 t2 =>
            refine .cons (.tup (by rw [if_pos (hin _ List.mem_cons_self)]; exact h) ?_) (ih (fun a hm => hin a (List.mem_cons_of_mem _ hm)) t2)
            refine .cons ?_ (.cons (h2.2.up hs) .nil)
            rw [h2.1]; exact key_of_rd _
      exact key (fun _ h => h) hp pf
    · rw [put_ne hbl] at e
      obtain ⟨y, e1, r1⟩ := m.mem b x e
      have hn : b ∉ as := fun hm => by rw [(ha b hm).1] at e1; cases e1
      exact ⟨y, by rw [out b hn, upd_ne hbl]; exact e1, r1.up hs⟩
theorem paItems (hm : X.mg "list" = none) (hc : X.calm = true) (hg : Gl X "list") (ho : PEA X F0 o td)
    (hbase : attributeBase o "items" X.env (eval o X.env) = eval o X.env := by rfl) (hline : (apos.endLine == cpos.line) = true := by rfl)
    (he : starEach [.Call (.Attribute o "items" apos) [] [] cpos] X.env = (false, eval (.Call (.Attribute o "items" apos) [] [] cpos) X.env) :: starEach [] X.env := by rfl) (hpl : (backTo pos (starEach [] X.env)).any (·.1) = false := by rfl) :
    PEA X F0 (.Call (.Name "list" p) [.Call (.Attribute o "items" apos) [] [] cpos] [] pos) (aItems td) := by
  refine ⟨?_⟩
  intro F Γ M σ H Q f0 g m hw
  refine (pe_callTy (call_list_items hc) hg hm boot_list (pa_cons (pe_bm0 PySem.F.plainAttrs_dict PySem.F.slot_dict_items PySem.F.type_dict_items mt_items pe_self hbase hline) pa_nil he) (by decide) (by decide) he hpl).to
    ((ho.run F Γ M σ H _ f0 g m hw).mono fun v H1 ⟨d, F1, M1, s1, m1, r1, q1⟩ => ?_)
  obtain ⟨kvs, hd, q2⟩ := some_ex q1
  obtain ⟨a, ws, rfl, rfl, hM, e1, pf⟩ := dd_rep m1 r1 hd
  refine ⟨.inr (.inr (.inl ⟨rfl, .inl ⟨ws, e1⟩⟩)), a, ws, rfl, rfl, .inl e1, fun vw hvw => ?_⟩
  have ha : a ≠ vw := fun z => by rw [z, hvw] at e1; cases e1
  refine ⟨vw, a, ws, rfl, upd_same, .inl (by rw [upd_ne ha]; exact e1), fun l as H2 hl has hH2 hp => ?_⟩
  have m2 := m1.more (u := .ext (viewφ "dict_items" vw a)) hvw
  obtain ⟨F', s', m'⟩ := items_rd m2 hl has hH2 hp pf
  exact ⟨.obj l, F', _, s1.trans s', m', .obj l, q2 l (m2.fM hl)⟩
end


noncomputable def instD (M : Mem) (T : String) : D → Bool
  | .int _ => T == "int"
  | .bl _ => T == "bool" || T == "int"
  | .str _ => T == "str"
  | .lst _ => T == "list"
  | .tup _ => T == "tuple"
  | .obj p => (match M p with | some (.lst _) => T == "list" | some (.dic _) => T == "dict" | _ => false)
  | _ => false
noncomputable def instOk (M : Mem) : D → Bool
  | .scr _ => false | .ctp _ => false
  | .obj p => (match M p with | some (.lst _) => true | some (.dic _) => true | _ => false)
  | _ => true
section
variable {X : Cx} {F0 : Hp} {e : Expr} {te : AE} {p q pos : Pos} {K : PySem.W.Frag} {T : String} {x : Str}
theorem ty_of {F : Hp} {M : Mem} {H : Hp} {v : V} {d : D} (m : AM K F M H) (r : RD K F v d) (h : instOk M d = true) (hT : T = "int" ∨ T = "bool" ∨ T = "str" ∨ T = "list" ∨ T = "tuple") :
    ∃ t, TyOf K H v t ∧ PySem.W.kitOne K t (.type T) = some (instD M T d) := by
  cases r <;> first
    | (simp [instOk] at h; done)
    | skip
  · exact ⟨_, .non, by rcases hT with rfl | rfl | rfl | rfl | rfl <;> rfl⟩
  · exact ⟨_, .bl _, by rcases hT with rfl | rfl | rfl | rfl | rfl <;> rfl⟩
  · exact ⟨_, .int _, by rcases hT with rfl | rfl | rfl | rfl | rfl <;> rfl⟩
  · exact ⟨_, .str _, by rcases hT with rfl | rfl | rfl | rfl | rfl <;> rfl⟩
  · rename_i e r
    exact ⟨_, .lst (m.sub _ _ e), by rcases hT with rfl | rfl | rfl | rfl | rfl <;> rfl⟩
  · rename_i e r
    exact ⟨_, .tup (m.sub _ _ e), by rcases hT with rfl | rfl | rfl | rfl | rfl <;> rfl⟩
  · rename_i pp
    unfold instOk at h
    dsimp only at h
    unfold instD
    dsimp only
    split at h
    · rename_i ds hd
      obtain ⟨u, e, r⟩ := m.mem _ _ hd
      obtain ⟨vs, rfl, r⟩ := r.isL
      exact ⟨_, .lst e, by rcases hT with rfl | rfl | rfl | rfl | rfl <;> rfl⟩
    · rename_i ds hd
      obtain ⟨u, e, r⟩ := m.mem _ _ hd
      obtain ⟨vs, rfl, r⟩ := r.isD
      exact ⟨_, .dK e, by rcases hT with rfl | rfl | rfl | rfl | rfl <;> rfl⟩
    · cases h
noncomputable def aInst (T : String) (te : AE) : AE := fun Γ M Q => te Γ M fun d M1 => instOk M1 d = true ∧ Q (.bl (instD M1 T d)) M1
theorem paInst (hT : T = "int" ∨ T = "bool" ∨ T = "str" ∨ T = "list" ∨ T = "tuple") (hg : Gl X "isinstance") (hm : X.mg "isinstance" = none) (hx : Gl X x) (hmx : X.mg x = none) (hv : bootBuiltins x = some (.type T)) (ha : PEA X F0 e te)
    (hn : x ≠ "__name__" := by decide) (hdb : (x == ("__debug__" : Str)) = false := by decide)
    (he : starEach [e, .Name x q] X.env = (false, eval e X.env) :: starEach [.Name x q] X.env := by rfl) (he2 : starEach [.Name x q] X.env = (false, eval (.Name x q) X.env) :: starEach [] X.env := by rfl) (hpl : (backTo pos (starEach [.Name x q] X.env)).any (·.1) = false := by rfl) :
    PEA X F0 (.Call (.Name "isinstance" p) [e, .Name x q] [] pos) (aInst T te) := by
  refine ⟨?_⟩
  intro F Γ M σ H Q f0 g m hw
  refine (pe_callB call_isinstC hg hm boot_isinstance (pa_cons pe_self (pa_cons (pe_bltn (v := .ty T) hx hmx hv rfl hn hdb) pa_nil he2) he) (by decide) (by decide) he hpl).to ((ha.run F Γ M σ H _ f0 g m hw).mono fun v H1 zz9 => ?_)
  obtain ⟨d, F1, M1, s1, m1, r1, hok, q1⟩ := zz9
  obtain ⟨t, h1, h2⟩ := ty_of m1 r1 hok hT
  exact ⟨v, .ty T, t, .type T, _, rfl, h1, rfl, h2, _, F1, M1, s1, m1, .bl _, q1⟩
end
end L2

set_option Elab.async false
set_option linter.all false
set_option maxRecDepth 100000
namespace L2
open PySem PySem.Spec PySem.Calls PyProof.Rows


noncomputable abbrev ATh := AEnds → Value → G → Mem → Prop
noncomputable def selfH (X : Cx) (hs : List ExceptHandler) : TH := fun D cls a σ H => ∀ s B a0, Inv X [] σ H s → Exn X H B a cls a0 (some .none) s.heap → wpAny (model X.prog X.w) X.A (handleBy (.ref a) X.env hs) (SP X [] D) X.xe s
theorem ph_self {X : Cx} {hs : List ExceptHandler} : PH X hs (selfH X hs) := fun s σ H D B a cls a0 I ex h => h s B a0 I ex
theorem PH.to {X : Cx} {hs : List ExceptHandler} {t : TH} {D : Ends} {cls : Value} {a : Addr} {σ : St} {H : Hp} (h : PH X hs t) (hw : t D cls a σ H) : selfH X hs D cls a σ H := fun s B a0 I ex => h s σ H D B a cls a0 I ex hw
theorem selfH.mono {X : Cx} {hs : List ExceptHandler} {D D' : Ends} {cls : Value} {a : Addr} {σ : St} {H : Hp} (h : selfH X hs D cls a σ H) (k : EndsTo D D') : selfH X hs D' cls a σ H := fun s B a0 I ex => thn (h s B a0 I ex) fun _ _ q => q.to k
structure PHA (X : Cx) (F0 : Hp) (hs : List ExceptHandler) (t : ATh)  : Prop where
  run : ∀ F Γ M σ H E cls a, Same F0 F → AG X.K F Γ σ → AM X.K F M H → t E cls Γ M → selfH X hs (PQD X.K F E) cls a σ H
noncomputable def aTry (tb : AX → AS) (th : ATh) (to : AS) : AS := fun E Γ M => tb (fun Γ' M' cls => th E cls Γ' M') { E with nx := to E } Γ M
section
variable {X : Cx} {F0 : Hp} {R : AX}
theorem selfSs.byImp {R R' : RX} {sts : List Stmt} {D : Ends} {σ : St} {H : Hp} (h : selfSs (X.by R) sts D σ H) (k : ∀ σ H cls a, R σ H cls a → R' σ H cls a) : selfSs (X.by R') sts D σ H := fun pins s I =>
  wpAny_mono (h pins s (I.unwish.wish _)) (fun _ _ q => by
    cases ‹Flow› with
    | next => obtain ⟨σ', H', J, q⟩ := q; exact ⟨σ', H', J.unwish.wish _, q⟩
    | brk => obtain ⟨σ', H', J, q⟩ := q; exact ⟨σ', H', J.unwish.wish _, q⟩
    | cont => obtain ⟨σ', H', J, q⟩ := q; exact ⟨σ', H', J.unwish.wish _, q⟩
    | ret u => obtain ⟨v, σ', H', J, r, q⟩ := q; exact ⟨v, σ', H', J.unwish.wish _, r, q⟩) fun e s' x => x.imp k
theorem Cat.by {R' : AX} (pl : Plain X) (calm : X.calm = true) (hu : X.A.units + 64 < cLine) : Cat (X.by (liftR X.K F0 R')) F0 R' := ⟨thr_self, pl.wish _, calm, fun fr => passes_XS pl fr, hu⟩
theorem sTry {body orelse : List Stmt} {h₀ : ExceptHandler} {hs : List ExceptHandler} {pos : Pos} {tb : AX → AS} {th : ATh} {t_o : AS} (k : Cat X F0 R)
    (hb : ∀ pn F1 R', Cat ((X.pin pn).by (liftR X.K F1 R')) F1 R' → PSsA ((X.pin pn).by (liftR X.K F1 R')) F1 body (tb R')) (hh : ∀ pn, PHA (X.pin pn) F0 (h₀ :: hs) th) (ho : PSsA X F0 orelse t_o) :
    PSA X F0 (.Try body (h₀ :: hs) orelse [] pos) (aTry tb th t_o) := by
  refine ⟨?_⟩
  intro F Γ M σ H E f0 g m hw
  refine (ps_try k.pl (tb := fun R D σ H => ∀ pn, selfSs ((X.pin pn).by R) body D σ H) (th := fun D cls a σ H => ∀ pn, selfH (X.pin pn) (h₀ :: hs) D cls a σ H) (to := selfSs X orelse)
    (fun pn R pins s σ H D I h => h pn pins s I) (fun pn s σ H D B a cls a0 I ex h => h pn s B a0 I ex) pss_self).to ?_
  intro pn
  have b := (hb pn F (fun Γ' M' cls => th E cls Γ' M') (Cat.by (k.pl.pin pn) k.calm k.un)).run F Γ M σ H _ (.refl F) g m hw
  refine (b.byImp fun σ' H' cls a ⟨F', Γ', M', s', g', m', q'⟩ pn' => ?_).mono ⟨fun σ' H' ⟨F', Γ', M', s', g', m', q'⟩ => ?_, fun _ _ z => z, fun _ _ z => z, fun _ _ z => z⟩
  · exact (ho.run F' Γ' M' σ' H' E (f0.trans s') g' m' q').mono (PQD.dn s')
  · exact ((hh pn').run F' Γ' M' σ' H' E cls a (f0.trans s') g' m' q').mono (PQD.dn s')
theorem Cat.pin (k : Cat X F0 R) (h : X.pn = []) (pn : List (Addr × Obj)) : Thr (X.pin pn) (liftR X.K F0 R) := by
  rintro e s' ⟨a, σ, H, B, cls, a0, m, rfl, I, ex, r⟩
  have J : Inv X [] σ H s' := ⟨I.ok.unpin, I.os, I.bare, I.base, I.loc, I.cell, I.free, I.freeC, fun p hp => by rw [h] at hp; simp at hp, I.hok, I.len⟩
  refine k.thr _ _ ⟨a, σ, H, B, cls, a0, m, rfl, J, ⟨ex.air, ex.tr, ex.md, fun b o e q n => ex.cov b o e ?_ n, ex.nd⟩, r⟩
  rcases q with q | q | q | ⟨p, hp, e⟩ | q
  · exact .inl q
  · exact .inr (.inl q)
  · exact .inr (.inr (.inl q))
  · rw [h] at hp; simp at hp
  · exact .inr (.inr (.inr (.inr q)))
theorem haNil (k : Cat X F0 R) (h : X.pn = []) (pn : List (Addr × Obj)) : PHA (X.pin pn) F0 [] (fun _ cls Γ M => R Γ M cls) := by
  refine ⟨?_⟩
  intro F Γ M σ H E cls a f0 g m hw
  exact (ph_nil (k.pin h pn) (k.pl.pin pn)).to ⟨F, Γ, M, f0, g, m, hw⟩
variable {x n : Str} {C : Addr} {np hp : Pos} {b₀ : Stmt} {suite : List Stmt} {rest : List ExceptHandler} {ts : Addr → AS} {tr : ATh} {K' : PySem.W.Frag}
theorem haCons (hK : X.K = K') (Pl : Plain X) (hm : X.mg x = some (.ref C)) (hg : Gl X x) (hs : ∀ a, PSsA (X.hand a) F0 (b₀ :: suite) (ts a)) (hr : PHA X F0 rest tr) (hd : (x == ("__debug__" : Str)) = false := by decide) :
    PHA X F0 (.ExceptHandler (some (.Name x np)) none (b₀ :: suite) hp :: rest) (fun E cls Γ M => ∃ b, PySem.W.exmOne K' cls (.ref C) = some b ∧ if b = true then ∀ a, ts a E Γ M else tr E cls Γ M) := by
  refine ⟨?_⟩
  intro F Γ M σ H E cls a f0 g m hw
  subst hK
  refine (ph_cons Pl hm hg (ts := fun a D σ H => selfSs (X.hand a) (b₀ :: suite) D σ H) (fun a pins s σ H D I h => h pins s I) ph_self hd).to ?_
  obtain ⟨b, hx, hw⟩ := hw
  refine ⟨b, hx, ?_⟩
  cases b with
  | true => rw [if_pos rfl] at hw ⊢; exact (hs a).run F Γ M σ H E f0 g m (hw a)
  | false => rw [if_neg Bool.false_ne_true] at hw ⊢; exact hr.run F Γ M σ H E cls a f0 g m hw
end


section
variable {X : Cx} {F0 : Hp} {k : Nat} {x : Str} {ps : List Str} {sa : Addr → SpA} {p pos : Pos} {e : Expr} {es : List Expr} {tt : AA} {a : Addr}
end

section
variable {X : Cx} {F0 : Hp} {e : Expr} {te : AE} {p q pos : Pos} {x : Str} {C : Addr}
end
end L2

set_option Elab.async false
set_option linter.all false
set_option maxRecDepth 100000

namespace L2
open PySem PySem.Spec PySem.Calls PyProof.Rows
section
variable {X : Cx} {tg : Expr} {F0 : Hp} {tt : AA} {pos : Pos}
noncomputable def size2 (a b : Int) : Nat := ((b - a + 1) / 2).toNat
noncomputable def iaR3 (tt : AA) : AI := fun Γ M Q => tt Γ M fun ds M1 => match ds with
  | [.int i, .int j, .int c] => c = 2 ∧ (-(2 ^ 61) ≤ i ∧ i < 2 ^ 61 ∧ -(2 ^ 61) ≤ j ∧ j < 2 ^ 61) ∧ Q ⟨size2 i j, fun k => .int (i + k * 2), fun _ => True⟩ M1
  | _ => False
end
end L2

set_option Elab.async false
set_option linter.all false
set_option maxRecDepth 100000

namespace L2
open PySem PySem.Spec PySem.Calls PyProof.Rows
section
variable {X : Cx} {F0 : Hp} {pos : Pos} {k v : Expr} {tk tv : AE}
noncomputable def aDict1 (tk tv : AE) : AE := fun Γ M Q => ∀ p, M p = none → tk Γ (put M p (.dic [])) fun x M1 => tv Γ M1 fun y M2 => M2 p = some (.dic []) ∧ opt (keyD x) fun kk => Q (.obj p) (put M2 p (.dic [(kk, y)]))
theorem paDict1 (hk : PEA X F0 k tk) (hv : PEA X F0 v tv) : PEA X F0 (.Dict [some k] [v] pos) (aDict1 tk tv) := by
  refine ⟨?_⟩
  intro F Γ M σ H Q f0 g m hw
  refine (pe_disp (trs := [(selfE X k, selfE X v)]) (pps_cons pe_self pe_self pps_nil) rfl rfl (by simp) (Nat.le_of_ble_eq_true rfl)).to ?_
  intro p hp
  have hq := hw p (m.fM hp)
  have m1 := m.new (o := .dic []) hp (u := .dK []) .nil
  refine two hk hv f0 g m1 hq fun F2 M2 H2 a b x y s m2 r1 r2 q => ?_
  obtain ⟨e1, q⟩ := q
  obtain ⟨kk, hkk, q⟩ := some_ex q
  obtain ⟨u, e2, ro⟩ := m2.mem _ _ e1
  obtain ⟨ws, rfl, pf⟩ := ro.isD
  cases pf
  refine ⟨e2, [(kk, b)], ?_, Nat.le_of_ble_eq_true rfl, .obj p, F2, put M2 p (.dic [(kk, y)]), s, ?_, .obj p, q⟩
  · rw [key_rd r1 hkk]; rfl
  · exact m2.set e1 (u := .dK (mergeK [] [(kk, b)])) (o' := .dic [(kk, y)]) (.cons ⟨rfl, r2⟩ .nil)
end
end L2

set_option Elab.async false
set_option linter.all false
set_option maxRecDepth 100000

namespace L2
open PySem PySem.Spec PySem.Calls PyProof.Rows
section
variable {X : Cx} {F0 : Hp} {e : Expr} {te : AE}
noncomputable def aFzN (t : AE) : AE := fun Γ M Q => t Γ M fun d M' => match d with | .obj p => (match M' p with | some (.lst ds) => Q (.lst ds) (del M' p) | _ => False) | .non => Q .non M' | _ => False
theorem paFzN (h : PEA X F0 e te) : PEA X F0 e (aFzN te) := by
  refine ⟨?_⟩
  intro F Γ M σ H Q f0 g m hw
  refine (h.run F Γ M σ H _ f0 g m hw).mono fun v H1 zz9 => ?_
  obtain ⟨d, F1, M1, s1, m1, r1, q1⟩ := zz9
  cases r1 with
  | obj p =>
    try dsimp only at q1
    split at q1
    · rename_i ds hd
      obtain ⟨F2, s2, m2, r2⟩ := m1.freeze hd
      exact ⟨_, F2, _, s1.trans s2, m2, r2, q1⟩
    · exact q1.elim
  | non => exact ⟨_, F1, _, s1, m1, .non, q1⟩
  | _ => exact q1.elim
end
theorem ixN_nat {n j : Nat} (h : j < n) : ixN n (j : Int) = some j := by
  unfold ixN
  rw [if_pos (by omega), if_pos (by omega)]; rfl
end L2

set_option Elab.async false
set_option linter.all false
set_option maxRecDepth 100000
namespace K5
open PySem PySem.Spec PySem.Calls PyProof.Rows L2

noncomputable def letters : List Nat := ("abcdefghijklmnopqrstuvwxyz" : Str).cps.toList
noncomputable def isName (x : Str) : Bool := !(decide (x.length < 1) || decide (8 < x.length)) && x.cps.toList.all fun c => decide (c ∈ letters)
structure TS where
  ws : List (Str × Int)
  js : List (Int × Str × Str × Str)
  nx : Int
noncomputable def dW (ws : List (Str × Int)) : List (Key × D) := ws.map fun w => (Sum.inr w.1, .int w.2)
noncomputable def eJ (j : Int × Str × Str × Str) : D := .tup [.int j.1, .str j.2.1, .str j.2.2.1, .str j.2.2.2]
noncomputable def eW (w : Str × Int) : D := .tup [.str w.1, .int w.2]
noncomputable def dJ (js : List (Int × Str × Str × Str)) : List (Key × D) := js.map fun j => (Sum.inl j.1, eJ j)
noncomputable def fsT (d1 d2 : Addr) (n : Int) : List (Str × D) := [("teeth_of", .obj d1), ("join_of", .obj d2), ("next_number", .int n)]

structure Tr (C : Addr) (M : Mem) (p d1 d2 : Addr) (S : TS) : Prop where
  self : M p = some (.ins C (fsT d1 d2 S.nx))
  teeth : M d1 = some (.dic (dW S.ws))
  join : M d2 = some (.dic (dJ S.js))
  ne : d1 ≠ d2
  lt : ∀ j ∈ S.js, j.1 < S.nx

inductive Rk where
  | noName | twice | noTeeth | full | noWheel | noJoin
noncomputable def TS.has (S : TS) (n : Str) : Bool := S.ws.any fun w => decide (w.1 = n)
noncomputable def refW (S : TS) (n : Str) (t : Int) : Option Rk :=
  if isName n = false then some .noName else if S.has n = true then some .twice else if t < 1 ∨ 1000000000 ≤ t then some .noTeeth else if 100 ≤ S.ws.length then some .full else none
noncomputable def isKind (k : Str) : Bool := decide (k = "mesh") || decide (k = "pin") || decide (k = "band") || decide (k = "cross")
noncomputable def refJ (S : TS) (k a b : Str) : Option Rk :=
  if isKind k = false then some .noJoin else if S.has a = false ∨ S.has b = false then some .noWheel else if a = b then some .noJoin else if 200 ≤ S.js.length then some .full else none
noncomputable def TS.hasJ (S : TS) (n : Int) : Bool := S.js.any fun j => decide (j.1 = n)
noncomputable def refL (S : TS) (n : Int) : Option Rk := if S.hasJ n = false then some .noJoin else none
theorem getK_dW (ws : List (Str × Int)) (n : Str) : (getK (dW ws) (Sum.inr n)).isSome = ws.any fun w => decide (w.1 = n) := by
  induction ws with
  | nil => rfl
  | cons w ws ih =>
    unfold dW getK at ih ⊢
    simp only [List.map_cons, List.find?_cons, List.any_cons, Sum.inr.injEq]
    by_cases h : w.1 = n
    · simp [h]
    · simp only [h, decide_false, Bool.false_or]; exact ih
theorem getK_dJ (js : List (Int × Str × Str × Str)) (n : Int) : (getK (dJ js) (Sum.inl n)).isSome = js.any fun j => decide (j.1 = n) := by
  induction js with
  | nil => rfl
  | cons w ws ih =>
    unfold dJ getK at ih ⊢
    simp only [List.map_cons, List.find?_cons, List.any_cons, Sum.inl.injEq]
    by_cases h : w.1 = n
    · simp [h]
    · simp only [h, decide_false, Bool.false_or]; exact ih
theorem putKD_new {kvs : List (Key × D)} {k : Key} {v : D} (h : (getK kvs k).isSome = false) : putKD kvs k v = kvs ++ [(k, v)] := by
  unfold putKD; rw [h]; rfl
theorem dropKD_dJ (js : List (Int × Str × Str × Str)) (n : Int) : dropKD (dJ js) (Sum.inl n) = dJ (js.filter fun j => decide (j.1 ≠ n)) := by
  unfold dropKD dJ
  rw [List.filter_map]
  congr 1
  apply List.filter_congr
  intro j _
  simp [Function.comp]


inductive Deed where
  | wheel (n : Str) (t : Int) | join (k a b : Str) | less (n : Int)
noncomputable def Deed.ok : Deed → Prop
  | .wheel n _ => n.length ≤ 1000
  | _ => True
noncomputable def wordOf : Rk → Str
  | .noName => "no name" | .twice => "twice" | .noTeeth => "no teeth" | .full => "full" | .noWheel => "no wheel" | .noJoin => "no join"
noncomputable def refD (S : TS) : Deed → Option Rk
  | .wheel n t => refW S n t
  | .join k a b => refJ S k a b
  | .less n => refL S n
noncomputable def gives (S : TS) : Deed → D
  | .join _ _ _ => .int S.nx
  | _ => .non
noncomputable def behind (S : TS) : Deed → TS
  | .wheel n t => { S with ws := S.ws ++ [(n, t)] }
  | .join k a b => { S with js := S.js ++ [(S.nx, k, a, b)], nx := S.nx + 1 }
  | .less n => { S with js := S.js.filter fun j => decide (j.1 ≠ n) }
noncomputable def due (S : TS) (d : Deed) : D := match refD S d with
  | some r => .tup [.str "refused", .str (wordOf r)]
  | none => .tup [.str "done", gives S d]


noncomputable abbrev Jn := Int × Str × Str × Str
noncomputable abbrev Ld := Int × Str × Str
noncomputable abbrev TT := List (Str × Option Ld)
noncomputable def lead1 (here : Str) (j : Jn) : List Ld := (if j.2.2.1 = here then [(j.1, j.2.1, j.2.2.2)] else []) ++ (if j.2.2.2 = here then [(j.1, j.2.1, j.2.2.1)] else [])
noncomputable def lead (js : List Jn) (here : Str) : List Ld := js.flatMap (lead1 here)
noncomputable def eL (l : Ld) : D := .tup [.int l.1, .str l.2.1, .str l.2.2]
noncomputable def names (t : TT) : List Str := t.map Prod.fst
noncomputable def eE : Option Ld → D
  | none => .non
  | some l => eL l
noncomputable def encT (t : TT) : List (Key × D) := t.map fun e => (Sum.inr e.1, eE e.2)
noncomputable def ends (js : List Jn) : List Str := js.flatMap fun j => [j.2.2.1, j.2.2.2]
noncomputable def unseen (js : List Jn) (t : TT) : Nat := ((ends js).filter fun n => decide (n ∉ names t)).length
inductive Grown (js : List Jn) (start : Str) : TT → Prop where
  | root : Grown js start [(start, none)]
  | more (t : TT) (n : Str) (e : Ld) (g : Grown js start t) (new : n ∉ names t) (old : e.2.2 ∈ names t) (by_ : (e.1, e.2.1, n) ∈ lead js e.2.2) : Grown js start (t ++ [(n, some e)])
noncomputable def Closed (js : List Jn) (t : TT) : Prop := ∀ n ∈ names t, ∀ l ∈ lead js n, l.2.2 ∈ names t
inductive Reach (js : List Jn) (a : Str) : Str → Prop where
  | refl : Reach js a a
  | step {b : Str} {l : Ld} (h : Reach js a b) (hl : l ∈ lead js b) : Reach js a l.2.2
inductive Way (js : List Jn) : Str → List (Int × Str) → Str → Prop where
  | nil (a : Str) : Way js a [] a
  | cons {a b : Str} {l : Ld} {st : List (Int × Str)} (hl : l ∈ lead js a) (h : Way js l.2.2 st b) : Way js a ((l.1, l.2.2) :: st) b
theorem names_app (t : TT) (n : Str) (e : Option Ld) : names (t ++ [(n, e)]) = names t ++ [n] := by simp [names]
theorem lead1_len (here : Str) (j : Jn) : (lead1 here j).length ≤ 2 := by
  unfold lead1; rw [List.length_append]
  split <;> split <;> simp
theorem lead_len (js : List Jn) (here : Str) : (lead js here).length ≤ 2 * js.length := by
  induction js with
  | nil => simp [lead]
  | cons j js ih =>
    have := lead1_len here j
    unfold lead at ih ⊢
    rw [List.flatMap_cons, List.length_append, List.length_cons]; omega
theorem lead_ends {js : List Jn} {here : Str} {l : Ld} (h : l ∈ lead js here) : l.2.2 ∈ ends js := by
  unfold lead at h
  obtain ⟨j, hj, h⟩ := List.mem_flatMap.mp h
  unfold ends
  refine List.mem_flatMap.mpr ⟨j, hj, ?_⟩
  unfold lead1 at h
  rcases List.mem_append.mp h with h | h
  · split at h
    · have : l = (j.1, j.2.1, j.2.2.2) := by simpa using h
      subst this; simp
    · cases h
  · split at h
    · have : l = (j.1, j.2.1, j.2.2.1) := by simpa using h
      subst this; simp
    · cases h
theorem ends_len (js : List Jn) : (ends js).length = 2 * js.length := by
  induction js with
  | nil => rfl
  | cons j js ih =>
    unfold ends at ih ⊢
    rw [List.flatMap_cons, List.length_append, List.length_cons, ih]; simp; omega
theorem filter_less {α : Type} {p q : α → Bool} {l : List α} {x : α} (hx : x ∈ l) (hp : p x = true) (hq : q x = false) (h : ∀ y, q y = true → p y = true) : (l.filter q).length + 1 ≤ (l.filter p).length := by
  induction l with
  | nil => cases hx
  | cons y l ih =>
    have all : ∀ l : List α, (l.filter q).length ≤ (l.filter p).length := by
      intro l
      induction l with
      | nil => exact Nat.le_refl _
      | cons z l ih2 =>
        rw [List.filter_cons, List.filter_cons]
        cases hz : q z with
        | true => rw [if_pos (h z hz), if_pos rfl, List.length_cons, List.length_cons]; omega
        | false =>
          rw [if_neg Bool.false_ne_true]
          split
          · rw [List.length_cons]; omega
          · exact ih2
    rw [List.filter_cons, List.filter_cons]
    rcases List.mem_cons.mp hx with rfl | hx
    · rw [if_pos hp, hq, if_neg Bool.false_ne_true, List.length_cons]
      have := all l; omega
    · have := ih hx
      cases hz : q y with
      | true => rw [if_pos (h y hz), if_pos rfl, List.length_cons, List.length_cons]; omega
      | false =>
        rw [if_neg Bool.false_ne_true]
        split
        · rw [List.length_cons]; omega
        · exact this
theorem unseen_less {js : List Jn} {t : TT} {n : Str} {e : Option Ld} (h : n ∈ ends js) (hn : n ∉ names t) : unseen js (t ++ [(n, e)]) + 1 ≤ unseen js t := by
  unfold unseen
  refine filter_less h (decide_eq_true hn) (decide_eq_false fun z => z ?_) fun y hy => ?_
  · rw [names_app]; simp
  · have hy := of_decide_eq_true hy
    rw [names_app] at hy
    exact decide_eq_true fun z => hy (List.mem_append_left _ z)
theorem Grown.start {js : List Jn} {s : Str} {t : TT} (g : Grown js s t) : s ∈ names t := by
  induction g with
  | root => simp [names]
  | more t n e g new old by_ ih => rw [names_app]; exact List.mem_append_left _ ih
theorem Grown.all {js : List Jn} {s : Str} {t : TT} (g : Grown js s t) (c : Closed js t) {n : Str} (h : Reach js s n) : n ∈ names t := by
  induction h with
  | refl => exact g.start
  | step h hl ih => exact c _ ih _ hl
theorem Grown.came {js : List Jn} {s : Str} {t : TT} (g : Grown js s t) {n : Str} (hn : n ∈ names t) (ne : n ≠ s) :
    ∃ t0 e t2, Grown js s t0 ∧ t = t0 ++ (n, some e) :: t2 ∧ n ∉ names t0 ∧ e.2.2 ∈ names t0 ∧ (e.1, e.2.1, n) ∈ lead js e.2.2 := by
  induction g with
  | root => exact absurd (by simpa [names] using hn) ne
  | more t m e g new old by_ ih =>
    rw [names_app] at hn
    rcases List.mem_append.mp hn with hn | hn
    · obtain ⟨t0, e0, t2, h1, h2, h3, h4, h5⟩ := ih hn
      exact ⟨t0, e0, t2 ++ [(m, some e)], h1, by rw [h2]; simp, h3, h4, h5⟩
    · have : n = m := by simpa using hn
      subst this
      exact ⟨t, e, [], g, rfl, new, old, by_⟩
theorem getK_encT (t0 t2 : TT) (n : Str) (e : Option Ld) (h : n ∉ names t0) : getK (encT (t0 ++ (n, e) :: t2)) (Sum.inr n) = some (eE e) := by
  induction t0 with
  | nil => unfold encT getK; simp
  | cons x t0 ih =>
    have hx : x.1 ≠ n := fun z => h (by simp [names, z])
    have ht : n ∉ names t0 := fun z => h (by unfold names at z ⊢; simp only [List.map_cons, List.mem_cons]; exact .inr z)
    have := ih ht
    unfold encT getK at this ⊢
    simp only [List.cons_append, List.map_cons, List.find?_cons, Sum.inr.injEq]
    rw [decide_eq_false hx]
    exact this
theorem getK_names (t : TT) (n : Str) : (getK (encT t) (Sum.inr n)).isSome = decide (n ∈ names t) := by
  induction t with
  | nil => rfl
  | cons x t ih =>
    unfold encT getK names at ih ⊢
    simp only [List.map_cons, List.find?_cons, List.mem_cons, Sum.inr.injEq]
    by_cases h : x.1 = n
    · simp [h]
    · rw [decide_eq_false h]
      have h' : ¬ n = x.1 := fun z => h z.symm
      simp only [h', false_or]
      exact ih
theorem putK_encT {t : TT} {n : Str} {l : Ld} (h : n ∉ names t) : putKD (encT t) (Sum.inr n) (eL l) = encT (t ++ [(n, some l)]) := by
  rw [putKD_new (by rw [getK_names, decide_eq_false h])]
  simp [encT, eE]


noncomputable def chF (s k : Nat) : Nat := 97 + (k / 26 + s) % 26
noncomputable def chL (s k : Nat) : Nat := 97 + (k + s) % 26
noncomputable def wNameL (s k : Nat) : List Nat :=
  if s % 3 = 0 then (if k < 26 then [chL s k] else [chF s k, chL s k]) else if s % 3 = 1 then List.replicate (s % 7) 97 ++ [chF s k, chL s k] else [chF s k, chL s k] ++ List.replicate ((s + k) % 7) 113
noncomputable def wName (s k : Nat) : Str := ⟨(wNameL s k).toArray⟩
theorem wName_inj {s k k' : Nat} (h : k < 676) (h' : k' < 676) (e : wName s k = wName s k') : k = k' := by
  have e : wNameL s k = wNameL s k' := by
    have := congrArg (fun x : Str => x.cps.toList) e
    exact this
  have both : chF s k = chF s k' → chL s k = chL s k' → k = k' := fun e1 e2 => by unfold chF at e1; unfold chL at e2; omega
  unfold wNameL at e
  split at e
  · split at e <;> split at e
    · have := (List.cons.inj e).1
      unfold chL at this; omega
    · simp at e
    · simp at e
    · obtain ⟨e1, e2⟩ := List.cons.inj e
      exact both e1 (List.cons.inj e2).1
  · split at e
    · have := List.append_cancel_left e
      obtain ⟨e1, e2⟩ := List.cons.inj this
      exact both e1 (List.cons.inj e2).1
    · obtain ⟨e1, e2⟩ := List.cons.inj e
      exact both e1 (List.cons.inj e2).1
theorem letter_in {c : Nat} (h1 : 97 ≤ c) (h2 : c < 123) : c ∈ letters := by
  have : ∀ i, i < 26 → 97 + i ∈ letters := by decide +kernel
  have := this (c - 97) (by omega)
  rwa [show 97 + (c - 97) = c by omega] at this
theorem wNameL_mem {s k c : Nat} (h : c ∈ wNameL s k) : 97 ≤ c ∧ c < 123 := by
  have l : 97 ≤ chL s k ∧ chL s k < 123 := by unfold chL; omega
  have f : 97 ≤ chF s k ∧ chF s k < 123 := by unfold chF; omega
  have two : c ∈ [chF s k, chL s k] → 97 ≤ c ∧ c < 123 := fun h => by
    rcases List.mem_cons.mp h with h | h
    · rw [h]; exact f
    · rw [List.mem_singleton.mp h]; exact l
  unfold wNameL at h
  split at h
  · split at h
    · rw [List.mem_singleton.mp h]; exact l
    · exact two h
  · split at h
    · rcases List.mem_append.mp h with h | h
      · rw [(List.mem_replicate.mp h).2]; omega
      · exact two h
    · rcases List.mem_append.mp h with h | h
      · exact two h
      · rw [(List.mem_replicate.mp h).2]; omega
theorem wNameL_len (s k : Nat) : 1 ≤ (wNameL s k).length ∧ (wNameL s k).length ≤ 8 := by
  unfold wNameL
  split
  · split <;> simp
  · split <;> simp <;> omega
theorem isName_wName (s k : Nat) : isName (wName s k) = true := by
  have hl := wNameL_len s k
  have e : (wName s k).length = (wNameL s k).length := rfl
  unfold isName
  rw [decide_eq_false (by rw [e]; omega), decide_eq_false (by rw [e]; omega)]
  show (wNameL s k).all _ = true
  rw [List.all_eq_true]
  intro c hc
  have := wNameL_mem hc
  exact decide_eq_true (letter_in this.1 this.2)
noncomputable def noNames : List Str := ["", "zzzzzzzz", "A", "a b"]
theorem wName_no (s k : Nat) : wName s k ∉ noNames := by
  intro h
  have hl := wNameL_len s k
  have key : ∀ x : Str, wName s k = x → wNameL s k = x.cps.toList := fun x e => congrArg (fun x : Str => x.cps.toList) e
  simp only [noNames, List.mem_cons, List.not_mem_nil, or_false] at h
  rcases h with h | h | h | h
  · have e := key _ h
    have e2 : ("" : Str).cps.toList = [] := by decide +kernel
    rw [e2] at e; rw [e] at hl; simp at hl
  · have e := key _ h
    have e2 : ("zzzzzzzz" : Str).cps.toList = List.replicate 8 122 := by decide +kernel
    rw [e2] at e
    unfold wNameL at e
    split at e
    · split at e
      · have := congrArg List.length e; simp at this
      · have := congrArg List.length e; simp at this
    · split at e
      · have hlen := congrArg List.length e
        simp at hlen
        have : (97 : Nat) ∈ List.replicate 8 122 := by
          rw [← e]
          exact List.mem_append_left _ (List.mem_replicate.mpr ⟨by omega, rfl⟩)
        simp at this
      · have hlen := congrArg List.length e
        simp at hlen
        have : (113 : Nat) ∈ List.replicate 8 122 := by
          rw [← e]
          exact List.mem_append_right _ (List.mem_replicate.mpr ⟨by omega, rfl⟩)
        simp at this
  · have e := key _ h
    have e2 : ("A" : Str).cps.toList = [65] := by decide +kernel
    rw [e2] at e
    have := wNameL_mem (s := s) (k := k) (c := 65) (by rw [e]; simp)
    omega
  · have e := key _ h
    have e2 : ("a b" : Str).cps.toList = [97, 32, 98] := by decide +kernel
    rw [e2] at e
    have := wNameL_mem (s := s) (k := k) (c := 32) (by rw [e]; simp)
    omega
theorem wNames_nodup (s : Nat) {n : Nat} (h : n ≤ 676) : ((List.range n).map (wName s)).Nodup := by
  refine List.pairwise_map.mpr (List.Pairwise.imp_of_mem (fun {a b} ha hb hab e => ?_) List.pairwise_lt_range)
  have ha := List.mem_range.mp ha
  have hb := List.mem_range.mp hb
  have := wName_inj (by omega) (by omega) e
  omega

noncomputable abbrev En := Int × Nat × Nat
inductive Hung (es : List En) (a : Nat) : Nat → Prop where
  | refl : Hung es a a
  | to {e : En} (h : Hung es a e.2.1) (he : e ∈ es) : Hung es a e.2.2
  | fro {e : En} (h : Hung es a e.2.2) (he : e ∈ es) : Hung es a e.2.1
noncomputable def at_ (ns : List Str) (i : Nat) : Str := ns.getD i ""
noncomputable def jE (j : Jn) : Int × Str × Str := (j.1, j.2.2.1, j.2.2.2)
noncomputable def eN (ns : List Str) (e : En) : Int × Str × Str := (e.1, at_ ns e.2.1, at_ ns e.2.2)
structure Net (ns : List Str) (js : List Jn) (es : List En) : Prop where
  same : js.map jE = es.map (eN ns)
  inn : ∀ e ∈ es, e.2.1 < ns.length ∧ e.2.2 < ns.length ∧ e.2.1 ≠ e.2.2
  nd : ns.Nodup
  keys : (es.map Prod.fst).Nodup
theorem at_inj {ns : List Str} (nd : ns.Nodup) {i j : Nat} (hi : i < ns.length) (hj : j < ns.length) (e : at_ ns i = at_ ns j) : i = j := by
  unfold at_ at e
  rw [List.getD_eq_getElem?_getD, List.getD_eq_getElem?_getD, List.getElem?_eq_getElem hi, List.getElem?_eq_getElem hj] at e
  have e : ns[i] = ns[j] := e
  have P := List.pairwise_iff_getElem.mp nd
  rcases Nat.lt_trichotomy i j with h | h | h
  · exact absurd e (P i j hi hj h)
  · exact h
  · exact absurd e.symm (P j i hj hi h)
theorem mem_lead {js : List Jn} {x : Str} {l : Ld} (h : l ∈ lead js x) : ∃ j ∈ js, j.1 = l.1 ∧ ((j.2.2.1 = x ∧ j.2.2.2 = l.2.2) ∨ (j.2.2.2 = x ∧ j.2.2.1 = l.2.2)) := by
  unfold lead at h
  obtain ⟨j, hj, h⟩ := List.mem_flatMap.mp h
  refine ⟨j, hj, ?_⟩
  unfold lead1 at h
  rcases List.mem_append.mp h with h | h <;> split at h
  · rename_i e
    rw [List.mem_singleton.mp h]; exact ⟨rfl, .inl ⟨e, rfl⟩⟩
  · cases h
  · rename_i e
    rw [List.mem_singleton.mp h]; exact ⟨rfl, .inr ⟨e, rfl⟩⟩
  · cases h
theorem Net.ofLead {ns : List Str} {js : List Jn} {es : List En} (N : Net ns js es) {a : Nat} (ha : a < ns.length) {l : Ld} (h : l ∈ lead js (at_ ns a)) :
    ∃ e ∈ es, e.1 = l.1 ∧ ((e.2.1 = a ∧ at_ ns e.2.2 = l.2.2) ∨ (e.2.2 = a ∧ at_ ns e.2.1 = l.2.2)) := by
  obtain ⟨j, hj, h1, h2⟩ := mem_lead h
  have hm : jE j ∈ es.map (eN ns) := by rw [← N.same]; exact List.mem_map.mpr ⟨j, hj, rfl⟩
  obtain ⟨e, he, e1⟩ := List.mem_map.mp hm
  unfold eN jE at e1
  simp only [Prod.mk.injEq] at e1
  obtain ⟨e1, e2, e3⟩ := e1
  obtain ⟨i1, i2, _⟩ := N.inn e he
  refine ⟨e, he, by rw [e1, h1], ?_⟩
  rcases h2 with ⟨h2, h3⟩ | ⟨h2, h3⟩
  · exact .inl ⟨at_inj N.nd i1 ha (by rw [e2, h2]), by rw [e3, h3]⟩
  · exact .inr ⟨at_inj N.nd i2 ha (by rw [e3, h2]), by rw [e2, h3]⟩
theorem Net.toLead {ns : List Str} {js : List Jn} {es : List En} (N : Net ns js es) {e : En} (h : e ∈ es) : (∃ k, (e.1, k, at_ ns e.2.2) ∈ lead js (at_ ns e.2.1)) ∧ ∃ k, (e.1, k, at_ ns e.2.1) ∈ lead js (at_ ns e.2.2) := by
  have hm : eN ns e ∈ js.map jE := by rw [N.same]; exact List.mem_map.mpr ⟨e, h, rfl⟩
  obtain ⟨j, hj, e1⟩ := List.mem_map.mp hm
  unfold eN jE at e1
  simp only [Prod.mk.injEq] at e1
  obtain ⟨e1, e2, e3⟩ := e1
  refine ⟨⟨j.2.1, List.mem_flatMap.mpr ⟨j, hj, ?_⟩⟩, ⟨j.2.1, List.mem_flatMap.mpr ⟨j, hj, ?_⟩⟩⟩
  · unfold lead1
    rw [if_pos e2]
    refine List.mem_append_left _ ?_
    rw [e1, e3]; exact List.mem_singleton.mpr rfl
  · unfold lead1
    rw [if_pos e3]
    refine List.mem_append_right _ ?_
    rw [e1, e2]; exact List.mem_singleton.mpr rfl
theorem Net.hung {ns : List Str} {js : List Jn} {es : List En} (N : Net ns js es) {a : Nat} (ha : a < ns.length) {x : Str} (h : Reach js (at_ ns a) x) : ∃ b, b < ns.length ∧ x = at_ ns b ∧ Hung es a b := by
  induction h with
  | refl => exact ⟨a, ha, rfl, .refl⟩
  | step h hl ih =>
    obtain ⟨b, hb, rfl, hh⟩ := ih
    obtain ⟨e, he, _, h2⟩ := N.ofLead hb hl
    obtain ⟨i1, i2, _⟩ := N.inn e he
    rcases h2 with ⟨rfl, h3⟩ | ⟨rfl, h3⟩
    · exact ⟨_, i2, h3.symm, .to hh he⟩
    · exact ⟨_, i1, h3.symm, .fro hh he⟩
theorem Net.reach {ns : List Str} {js : List Jn} {es : List En} (N : Net ns js es) {a b : Nat} (h : Hung es a b) : Reach js (at_ ns a) (at_ ns b) := by
  induction h with
  | refl => exact .refl
  | to h he ih => obtain ⟨⟨k, hk⟩, _⟩ := N.toLead he; exact .step ih hk
  | fro h he ih => obtain ⟨_, ⟨k, hk⟩⟩ := N.toLead he; exact .step ih hk
theorem Net.reach_iff {ns : List Str} {js : List Jn} {es : List En} (N : Net ns js es) {a b : Nat} (ha : a < ns.length) (hb : b < ns.length) : Reach js (at_ ns a) (at_ ns b) ↔ Hung es a b := by
  refine ⟨fun h => ?_, N.reach⟩
  obtain ⟨c, hc, e, hh⟩ := N.hung ha h
  rw [at_inj N.nd hb hc e]; exact hh
theorem Net.less {ns : List Str} {js : List Jn} {es : List En} (N : Net ns js es) (n : Int) : Net ns (js.filter fun j => decide (j.1 ≠ n)) (es.filter fun e => decide (e.1 ≠ n)) := by
  refine ⟨?_, fun e he => N.inn e (List.mem_filter.mp he).1, N.nd, ?_⟩
  · have a1 : (js.filter fun j => decide (j.1 ≠ n)).map jE = (js.map jE).filter fun x => decide (x.1 ≠ n) := by rw [List.filter_map]; rfl
    have a2 : (es.filter fun j => decide (j.1 ≠ n)).map (eN ns) = (es.map (eN ns)).filter fun x => decide (x.1 ≠ n) := by rw [List.filter_map]; rfl
    rw [a1, a2, N.same]
  · exact N.keys.sublist (List.Sublist.map _ List.filter_sublist)
theorem Net.more {ns : List Str} {js : List Jn} {es : List En} (N : Net ns js es) {n : Int} {k : Str} {a b : Nat} (ha : a < ns.length) (hb : b < ns.length) (ne : a ≠ b) (hn : ∀ j ∈ js, j.1 < n) : Net ns (js ++ [(n, k, at_ ns a, at_ ns b)]) (es ++ [(n, a, b)]) := by
  refine ⟨?_, fun e he => ?_, N.nd, ?_⟩
  · rw [List.map_append, List.map_append, N.same]; rfl
  · rcases List.mem_append.mp he with he | he
    · exact N.inn e he
    · rw [List.mem_singleton.mp he]; exact ⟨ha, hb, ne⟩
  · rw [List.map_append, List.nodup_append]
    refine ⟨N.keys, by simp, fun x hx y hy => ?_⟩
    obtain ⟨e, he, rfl⟩ := List.mem_map.mp hx
    have hy : y = n := by simpa using hy
    have hm : eN ns e ∈ js.map jE := by rw [N.same]; exact List.mem_map.mpr ⟨e, he, rfl⟩
    obtain ⟨j, hj, e1⟩ := List.mem_map.mp hm
    have := hn j hj
    have e1 : j.1 = e.1 := congrArg Prod.fst e1
    omega
theorem Net.keyOf {ns : List Str} {js : List Jn} {es : List En} (N : Net ns js es) : js.map Prod.fst = es.map Prod.fst := by
  have := congrArg (List.map Prod.fst) N.same
  rw [List.map_map, List.map_map] at this
  exact this
theorem Net.len {ns : List Str} {js : List Jn} {es : List En} (N : Net ns js es) : js.length = es.length := by
  have := congrArg List.length N.same
  simpa using this
noncomputable def loose (bs : List Bool) : Nat := (bs.filter fun b => !b).length
theorem loose_set {bs : List Bool} {i : Nat} (h : i < bs.length) : loose (bs.set i true) + (if bs[i] = true then 0 else 1) = loose bs := by
  unfold loose
  induction bs generalizing i with
  | nil => cases h
  | cons b bs ih =>
    cases i with
    | zero => cases b <;> simp
    | succ i =>
      have := ih (i := i) (by simpa using h)
      cases b <;> simp [List.filter_cons] at this ⊢ <;> omega
theorem loose_two {bs : List Bool} {i j : Nat} (hi : i < bs.length) (hj : j < bs.length) (h : bs.getD i false ≠ bs.getD j false) : loose ((bs.set i true).set j true) + 1 = loose bs := by
  have gi : bs.getD i false = bs[i] := by simp [List.getD, List.getElem?_eq_getElem hi]
  have gj : bs.getD j false = bs[j] := by simp [List.getD, List.getElem?_eq_getElem hj]
  rw [gi, gj] at h
  have hij : i ≠ j := by rintro rfl; exact h rfl
  have l1 := loose_set hi
  have hj' : j < (bs.set i true).length := by simpa using hj
  have l2 := loose_set hj'
  have e : (bs.set i true)[j] = bs[j] := List.getElem_set_ne hij hj'
  rw [e] at l2
  cases h1 : bs[i] <;> cases h2 : bs[j]
  · rw [h1, h2] at h; exact absurd rfl h
  · rw [h1] at l1; rw [h2] at l2; simp at l1 l2; omega
  · rw [h1] at l1; rw [h2] at l2; simp at l1 l2; omega
  · rw [h1, h2] at h; exact absurd rfl h

structure Hg (es : List En) (a n : Nat) (bs : List Bool) : Prop where
  len : bs.length = n
  sound : ∀ b, bs.getD b false = true → Hung es a b
  first : bs.getD a false = true
theorem getD_set2 {bs : List Bool} {i j b : Nat} (h : ((bs.set i true).set j true).getD b false = true) : b = i ∨ b = j ∨ bs.getD b false = true := by
  by_cases h1 : b = i
  · exact .inl h1
  by_cases h2 : b = j
  · exact .inr (.inl h2)
  refine .inr (.inr ?_)
  simp only [List.getD_eq_getElem?_getD] at h ⊢
  rw [List.getElem?_set_ne (fun z => h2 z.symm), List.getElem?_set_ne (fun z => h1 z.symm)] at h
  exact h
theorem set2_mono {bs : List Bool} {i j b : Nat} (hb : bs.getD b false = true) : ((bs.set i true).set j true).getD b false = true := by
  have one : ∀ (bs : List Bool) (i : Nat), bs.getD b false = true → (bs.set i true).getD b false = true := by
    intro bs i hb
    simp only [List.getD_eq_getElem?_getD] at hb ⊢
    by_cases h : i = b
    · subst h
      cases hx : bs[i]? with
      | none => rw [hx] at hb; cases hb
      | some x =>
        have : i < bs.length := by
          by_cases hlt : i < bs.length
          · exact hlt
          · rw [List.getElem?_eq_none (by omega)] at hx; cases hx
        rw [List.getElem?_set_self this]; rfl
    · rw [List.getElem?_set_ne h]; exact hb
  exact one _ j (one _ i hb)
theorem Hg.edge {es : List En} {a n : Nat} {bs : List Bool} (h : Hg es a n bs) {e : En} (he : e ∈ es) (i1 : e.2.1 < n) (i2 : e.2.2 < n) (d : bs.getD e.2.1 false ≠ bs.getD e.2.2 false) :
    Hg es a n ((bs.set e.2.1 true).set e.2.2 true) ∧ loose ((bs.set e.2.1 true).set e.2.2 true) + 1 = loose bs := by
  have i1' : e.2.1 < bs.length := by rw [h.len]; exact i1
  have i2' : e.2.2 < bs.length := by rw [h.len]; exact i2
  have both : Hung es a e.2.1 ∧ Hung es a e.2.2 := by
    cases h1 : bs.getD e.2.1 false with
    | true => exact ⟨h.sound _ h1, .to (h.sound _ h1) he⟩
    | false =>
      have h2 : bs.getD e.2.2 false = true := by
        cases h2 : bs.getD e.2.2 false with
        | true => rfl
        | false => rw [h1, h2] at d; exact absurd rfl d
      exact ⟨.fro (h.sound _ h2) he, h.sound _ h2⟩
  refine ⟨⟨by simp [h.len], fun b hb => ?_, set2_mono h.first⟩, loose_two i1' i2' d⟩
  rcases getD_set2 hb with rfl | rfl | hb
  · exact both.1
  · exact both.2
  · exact h.sound b hb
theorem Hg.all {es : List En} {a n : Nat} {bs : List Bool} (h : Hg es a n bs) (cl : ∀ e ∈ es, bs.getD e.2.1 false = bs.getD e.2.2 false) {b : Nat} (hb : Hung es a b) : bs.getD b false = true := by
  induction hb with
  | refl => exact h.first
  | to _ he ih => rw [← cl _ he]; exact ih
  | fro _ he ih => rw [cl _ he]; exact ih
theorem Way.reach {js : List Jn} {a b : Str} {st : List (Int × Str)} (h : Way js a st b) : Reach js a b := by
  have tail : ∀ {a c b : Str}, Reach js a c → Reach js c b → Reach js a b := by
    intro a c b h1 h2
    induction h2 with
    | refl => exact h1
    | step _ hl ih => exact .step ih hl
  induction h with
  | nil a => exact .refl
  | cons hl h ih => exact tail (.step .refl hl) ih

structure Rw (s : Nat) (ws : List (Str × Int)) (js : List (Str × Nat × Nat)) : Prop where
  names : ws.map Prod.fst = (List.range ws.length).map (wName s)
  teeth : ∀ w ∈ ws, 1 ≤ w.2 ∧ w.2 < 1000000000
  kinds : ∀ j ∈ js, isKind j.1 = true ∧ j.2.1 < ws.length ∧ j.2.2 < ws.length ∧ j.2.1 ≠ j.2.2
theorem Rw.wheel {s : Nat} {ws : List (Str × Int)} {js : List (Str × Nat × Nat)} (r : Rw s ws js) {t : Int} (h1 : 1 ≤ t) (h2 : t < 1000000000) : Rw s (ws ++ [(wName s ws.length, t)]) js := by
  refine ⟨?_, fun w hw => ?_, fun j hj => ?_⟩
  · rw [List.map_append, r.names, List.length_append]
    simp [List.range_succ]
  · rcases List.mem_append.mp hw with hw | hw
    · exact r.teeth w hw
    · rw [List.mem_singleton.mp hw]; exact ⟨h1, h2⟩
  · obtain ⟨a, b, c, d⟩ := r.kinds j hj
    rw [List.length_append]
    exact ⟨a, by omega, by omega, d⟩
theorem Rw.join {s : Nat} {ws : List (Str × Int)} {js : List (Str × Nat × Nat)} (r : Rw s ws js) {k : Str} {a b : Nat} (hk : isKind k = true) (ha : a < ws.length) (hb : b < ws.length) (ne : a ≠ b) : Rw s ws (js ++ [(k, a, b)]) := by
  refine ⟨r.names, r.teeth, fun j hj => ?_⟩
  rcases List.mem_append.mp hj with hj | hj
  · exact r.kinds j hj
  · rw [List.mem_singleton.mp hj]; exact ⟨hk, ha, hb, ne⟩
theorem Rw.nil (s : Nat) : Rw s [] [] := ⟨rfl, fun _ h => (List.not_mem_nil h).elim, fun _ h => (List.not_mem_nil h).elim⟩
theorem Rw.nodup {s : Nat} {ws : List (Str × Int)} {js : List (Str × Nat × Nat)} (r : Rw s ws js) (h : ws.length ≤ 676) : (ws.map Prod.fst).Nodup := by
  rw [r.names]; exact wNames_nodup s h
theorem Rw.name {s : Nat} {ws : List (Str × Int)} {js : List (Str × Nat × Nat)} (r : Rw s ws js) {x : Str} (h : x ∈ ws.map Prod.fst) : ∃ k, k < ws.length ∧ x = wName s k := by
  rw [r.names] at h
  obtain ⟨k, hk, rfl⟩ := List.mem_map.mp h
  exact ⟨k, List.mem_range.mp hk, rfl⟩
noncomputable def jsRow (ns : List Str) (i : Nat) (j : Str × Nat × Nat) : Jn := ((i : Int), j.1, at_ ns j.2.1, at_ ns j.2.2)
noncomputable def jsOf' (ns : List Str) (js : List (Str × Nat × Nat)) : List Jn := js.mapIdx (jsRow ns)
noncomputable def esRow (i : Nat) (j : Str × Nat × Nat) : En := ((i : Int), j.2.1, j.2.2)
noncomputable def esOf (js : List (Str × Nat × Nat)) : List En := js.mapIdx esRow
theorem jsOf_snoc (ns : List Str) (js : List (Str × Nat × Nat)) (j : Str × Nat × Nat) : jsOf' ns (js ++ [j]) = jsOf' ns js ++ [jsRow ns js.length j] := by
  unfold jsOf'; rw [List.mapIdx_append]; simp
theorem esOf_snoc (js : List (Str × Nat × Nat)) (j : Str × Nat × Nat) : esOf (js ++ [j]) = esOf js ++ [esRow js.length j] := by
  unfold esOf; rw [List.mapIdx_append]; simp
theorem jsOf_lt {ns : List Str} {js : List (Str × Nat × Nat)} : ∀ j ∈ jsOf' ns js, j.1 < (js.length : Int) := by
  intro j hj
  unfold jsOf' at hj
  obtain ⟨i, hi, e⟩ := List.mem_mapIdx.mp hj
  rw [← e]
  show (i : Int) < _
  omega
theorem Rw.net {s : Nat} {ws : List (Str × Int)} : ∀ {js : List (Str × Nat × Nat)}, Rw s ws js → ws.length ≤ 676 → Net (ws.map Prod.fst) (jsOf' (ws.map Prod.fst) js) (esOf js) := by
  intro js
  suffices ∀ (n : Nat) (js : List (Str × Nat × Nat)), js.length = n → Rw s ws js → ws.length ≤ 676 → Net (ws.map Prod.fst) (jsOf' (ws.map Prod.fst) js) (esOf js) from this _ js rfl
  intro n
  induction n with
  | zero =>
    intro js hn r hw
    have : js = [] := List.eq_nil_of_length_eq_zero hn
    subst this
    exact ⟨rfl, fun _ h => (List.not_mem_nil h).elim, r.nodup hw, by simp [esOf]⟩
  | succ n ih =>
    intro js hn r hw
    have hne : js ≠ [] := by rintro rfl; cases hn
    obtain ⟨l, j, rfl⟩ : ∃ l j, js = l ++ [j] := ⟨js.dropLast, js.getLast hne, (List.dropLast_concat_getLast hne).symm⟩
    have r' : Rw s ws l := ⟨r.names, r.teeth, fun x hx => r.kinds x (List.mem_append_left _ hx)⟩
    have N := ih l (by simpa using hn) r' hw
    obtain ⟨_, k1, k2, k3⟩ := r.kinds j (List.mem_append_right _ (List.mem_singleton.mpr rfl))
    rw [jsOf_snoc, esOf_snoc]
    exact N.more (by simpa using k1) (by simpa using k2) k3 jsOf_lt


noncomputable def top (i : Nat) : Stmt := PySem.Challenge.pw_cogtrain_k05_roads.main.body.getD i (.Pass ⟨0, 0, 0, 0⟩)
structure Txt (K : PySem.W.Frag) (mg : Str → Option Value) : Prop where
  len : mg "len" = none
  all : mg "all" = none
  list : mg "list" = none
  range : mg "range" = none
  isinstance : mg "isinstance" = none
  int : mg "int" = none
  bool : mg "bool" = none
  str : mg "str" = none
  max : mg "max" = none
  tuple : mg "tuple" = none
  LONGEST_NAME : ∃ t, mg "LONGEST_NAME" = some (.int 8 t)
  TEETH_BOUND : ∃ t, mg "TEETH_BOUND" = some (.int 1000000000 t)
  MOST_WHEELS : ∃ t, mg "MOST_WHEELS" = some (.int 100 t)
  MOST_JOINS : ∃ t, mg "MOST_JOINS" = some (.int 200 t)
  LETTERS : ∃ t, mg "LETTERS" = some (.str "abcdefghijklmnopqrstuvwxyz" t)
  KINDS : ∃ a, mg "KINDS" = some (.ref a) ∧ ∀ H, SqT K H a ([.str "mesh", .str "pin", .str "band", .str "cross"])
noncomputable abbrev s_refuse_unknown : Stmt := top 9
theorem sc_refuse_unknown : FnScope ["names", "name"] ["names", "name"] (defScope s_refuse_unknown) := ⟨rfl, rfl, rfl, by decide +kernel, rfl, by decide +kernel, by decide +kernel⟩
noncomputable abbrev s_joins_from : Stmt := top 10
theorem sc_joins_from : FnScope ["joins", "here", "leading", "number", "kind", "one", "other"] ["joins", "here"] (defScope s_joins_from) := ⟨rfl, rfl, rfl, by decide +kernel, rfl, by decide +kernel, by decide +kernel⟩
noncomputable abbrev s_tree_from : Stmt := top 11
theorem sc_tree_from : FnScope ["joins", "start", "tree", "waiting", "here", "number", "kind", "there"] ["joins", "start"] (defScope s_tree_from) := ⟨rfl, rfl, rfl, by decide +kernel, rfl, by decide +kernel, by decide +kernel⟩
noncomputable abbrev s_road_by : Stmt := top 12
theorem sc_road_by : FnScope ["joins", "one", "other", "tree", "steps", "there", "entry"] ["joins", "one", "other"] (defScope s_road_by) := ⟨rfl, rfl, rfl, by decide +kernel, rfl, by decide +kernel, by decide +kernel⟩
noncomputable abbrev s_road : Stmt := top 13
theorem sc_road : FnScope ["train", "one", "other", "names"] ["train", "one", "other"] (defScope s_road) := ⟨rfl, rfl, rfl, by decide +kernel, rfl, by decide +kernel, by decide +kernel⟩
noncomputable abbrev s_is_name : Stmt := top 21
theorem sc_is_name : FnScope ["text"] ["text"] (defScope s_is_name) := ⟨rfl, rfl, rfl, by decide +kernel, rfl, by decide +kernel, by decide +kernel⟩
noncomputable abbrev s_Train___init__ : Stmt := inClass (top 22) 0
theorem sc_Train___init__ : FnScope ["self"] ["self"] (defScope s_Train___init__) := ⟨rfl, rfl, rfl, by decide +kernel, rfl, by decide +kernel, by decide +kernel⟩
noncomputable abbrev s_Train_put_wheel : Stmt := inClass (top 22) 1
theorem sc_Train_put_wheel : FnScope ["self", "name", "teeth"] ["self", "name", "teeth"] (defScope s_Train_put_wheel) := ⟨rfl, rfl, rfl, by decide +kernel, rfl, by decide +kernel, by decide +kernel⟩
noncomputable abbrev s_Train_put_join : Stmt := inClass (top 22) 2
theorem sc_Train_put_join : FnScope ["self", "kind", "one", "other", "number"] ["self", "kind", "one", "other"] (defScope s_Train_put_join) := ⟨rfl, rfl, rfl, by decide +kernel, rfl, by decide +kernel, by decide +kernel⟩
noncomputable abbrev s_Train_take_join : Stmt := inClass (top 22) 3
theorem sc_Train_take_join : FnScope ["self", "number"] ["self", "number"] (defScope s_Train_take_join) := ⟨rfl, rfl, rfl, by decide +kernel, rfl, by decide +kernel, by decide +kernel⟩
noncomputable abbrev s_Train_wheels : Stmt := inClass (top 22) 4
theorem sc_Train_wheels : FnScope ["self"] ["self"] (defScope s_Train_wheels) := ⟨rfl, rfl, rfl, by decide +kernel, rfl, by decide +kernel, by decide +kernel⟩
noncomputable abbrev s_Train_joins : Stmt := inClass (top 22) 5
theorem sc_Train_joins : FnScope ["self"] ["self"] (defScope s_Train_joins) := ⟨rfl, rfl, rfl, by decide +kernel, rfl, by decide +kernel, by decide +kernel⟩
noncomputable abbrev s_law_cell_at : Stmt := top 24
theorem sc_law_cell_at : FnScope ["_law_script", "_law_k"] ["_law_script", "_law_k"] (defScope s_law_cell_at) := ⟨rfl, rfl, rfl, by decide +kernel, rfl, by decide +kernel, by decide +kernel⟩
noncomputable abbrev s_law_whole : Stmt := top 25
theorem sc_law_whole : FnScope ["_law_found"] ["_law_found"] (defScope s_law_whole) := ⟨rfl, rfl, rfl, by decide +kernel, rfl, by decide +kernel, by decide +kernel⟩
noncomputable abbrev s_law_name : Stmt := top 26
theorem sc_law_name : FnScope ["_law_k", "_law_spin", "_law_letters", "_law_first", "_law_last"] ["_law_k", "_law_spin"] (defScope s_law_name) := ⟨rfl, rfl, rfl, by decide +kernel, rfl, by decide +kernel, by decide +kernel⟩
noncomputable abbrev s_law_teeth : Stmt := top 27
theorem sc_law_teeth : FnScope ["_law_number", "_law_way"] ["_law_number", "_law_way"] (defScope s_law_teeth) := ⟨rfl, rfl, rfl, by decide +kernel, rfl, by decide +kernel, by decide +kernel⟩
noncomputable abbrev s_law_rows : Stmt := top 28
theorem sc_law_rows : FnScope ["_law_script", "_law_wheels", "_law_joins", "_law_start", "_law_kinds", "_law_k", "_law_way", "_law_rest", "_law_many", "_law_at", "_law_to"] ["_law_script"] (defScope s_law_rows) := ⟨rfl, rfl, rfl, by decide +kernel, rfl, by decide +kernel, by decide +kernel⟩
noncomputable abbrev s_law_train : Stmt := top 29
theorem sc_law_train : FnScope ["_law_wheels", "_law_joins", "_law_train_here", "_law_name_here", "_law_teeth_here", "_law_kind", "_law_one", "_law_other"] ["_law_wheels", "_law_joins"] (defScope s_law_train) := ⟨rfl, rfl, rfl, by decide +kernel, rfl, by decide +kernel, by decide +kernel⟩
noncomputable abbrev s_law_hung : Stmt := top 30
theorem sc_law_hung : FnScope ["_law_many", "_law_ends", "_law_start", "_law_hung_here", "_law_again", "_law_one", "_law_other"] ["_law_many", "_law_ends", "_law_start"] (defScope s_law_hung) := ⟨rfl, rfl, rfl, by decide +kernel, rfl, by decide +kernel, by decide +kernel⟩
noncomputable abbrev s_law_walked : Stmt := top 31
theorem sc_law_walked : FnScope ["_law_told", "_law_ends", "_law_names", "_law_one", "_law_other", "_law_at", "_law_seen", "_law_step", "_law_to"] ["_law_told", "_law_ends", "_law_names", "_law_one", "_law_other"] (defScope s_law_walked) := ⟨rfl, rfl, rfl, by decide +kernel, rfl, by decide +kernel, by decide +kernel⟩
noncomputable abbrev s_law_asked : Stmt := top 32
theorem sc_law_asked : FnScope ["_law_train_here", "_law_ends", "_law_names", "_law_pair", "_law_first", "_law_told", "_law_hung_here"] ["_law_train_here", "_law_ends", "_law_names", "_law_pair"] (defScope s_law_asked) := ⟨rfl, rfl, rfl, by decide +kernel, rfl, by decide +kernel, by decide +kernel⟩
noncomputable abbrev s_law_refused : Stmt := top 33
theorem sc_law_refused : FnScope ["_law_train_here", "_law_one", "_law_other"] ["_law_train_here", "_law_one", "_law_other"] (defScope s_law_refused) := ⟨rfl, rfl, rfl, by decide +kernel, rfl, by decide +kernel, by decide +kernel⟩
noncomputable abbrev s_law_pairs : Stmt := top 34
theorem sc_law_pairs : FnScope ["_law_script", "_law_many", "_law_pairs_here", "_law_k", "_law_at", "_law_to"] ["_law_script", "_law_many"] (defScope s_law_pairs) := ⟨rfl, rfl, rfl, by decide +kernel, rfl, by decide +kernel, by decide +kernel⟩
noncomputable abbrev s_law_all_asked : Stmt := top 35
theorem sc_law_all_asked : FnScope ["_law_train_here", "_law_ends", "_law_names", "_law_script", "_law_held", "_law_pair", "_law_good", "_law_told", "_law_number", "_law_at", "_law_to", "_law_kept"] ["_law_train_here", "_law_ends", "_law_names", "_law_script"] (defScope s_law_all_asked) := ⟨rfl, rfl, rfl, by decide +kernel, rfl, by decide +kernel, by decide +kernel⟩
noncomputable abbrev s_law : Stmt := top 36
theorem sc_law : FnScope ["_law_script", "_law_wheels", "_law_joins", "_law_train_here", "_law_names", "_law_ends", "_law_k", "_law_none", "_law_left"] ["_law_script"] (defScope s_law) := ⟨rfl, rfl, rfl, by decide +kernel, rfl, by decide +kernel, by decide +kernel⟩
section
variable {P : Program} {w : World} {K : PySem.W.Frag} {mg : Str → Option Value} {base : Heap}
theorem pa_LONGEST_NAME {X : Cx} {F0 : Hp} {pos : Pos} (T : Txt X.K X.mg) (hg : Gl X "LONGEST_NAME" := by rfl) : PEA X F0 (.Name "LONGEST_NAME" pos) (aC (.int 8)) := by
  obtain ⟨t, h⟩ := T.LONGEST_NAME
  exact paC (pe_glob (v := .int 8) hg h ⟨t, rfl⟩) fun _ => .int _
theorem pa_TEETH_BOUND {X : Cx} {F0 : Hp} {pos : Pos} (T : Txt X.K X.mg) (hg : Gl X "TEETH_BOUND" := by rfl) : PEA X F0 (.Name "TEETH_BOUND" pos) (aC (.int 1000000000)) := by
  obtain ⟨t, h⟩ := T.TEETH_BOUND
  exact paC (pe_glob (v := .int 1000000000) hg h ⟨t, rfl⟩) fun _ => .int _
theorem pa_MOST_WHEELS {X : Cx} {F0 : Hp} {pos : Pos} (T : Txt X.K X.mg) (hg : Gl X "MOST_WHEELS" := by rfl) : PEA X F0 (.Name "MOST_WHEELS" pos) (aC (.int 100)) := by
  obtain ⟨t, h⟩ := T.MOST_WHEELS
  exact paC (pe_glob (v := .int 100) hg h ⟨t, rfl⟩) fun _ => .int _
theorem pa_MOST_JOINS {X : Cx} {F0 : Hp} {pos : Pos} (T : Txt X.K X.mg) (hg : Gl X "MOST_JOINS" := by rfl) : PEA X F0 (.Name "MOST_JOINS" pos) (aC (.int 200)) := by
  obtain ⟨t, h⟩ := T.MOST_JOINS
  exact paC (pe_glob (v := .int 200) hg h ⟨t, rfl⟩) fun _ => .int _
theorem pa_LETTERS {X : Cx} {F0 : Hp} {pos : Pos} (T : Txt X.K X.mg) (hg : Gl X "LETTERS" := by rfl) : PEA X F0 (.Name "LETTERS" pos) (aC (.str "abcdefghijklmnopqrstuvwxyz")) := by
  obtain ⟨t, h⟩ := T.LETTERS
  exact paC (pe_glob (v := .str "abcdefghijklmnopqrstuvwxyz") hg h ⟨t, rfl⟩) fun _ => .str _
theorem pa_KINDS {X : Cx} {F0 : Hp} {pos : Pos} (T : Txt X.K X.mg) (hg : Gl X "KINDS" := by rfl) : PEA X F0 (.Name "KINDS" pos) (aC (.ctp [.str "mesh", .str "pin", .str "band", .str "cross"])) := by
  obtain ⟨a, h, hs⟩ := T.KINDS
  exact paC (pe_glob (v := .ref a) hg h rfl) fun _ => .ctp (hs _) (.cons (.str _) (.cons (.str _) (.cons (.str _) (.cons (.str _) .nil))))

noncomputable def cell (ns : List Int) (k : Int) : Int := (ns[k.toNat]?).getD 0
noncomputable def spCell : SpA := fun ds M Q _ => ∃ (ns : List Int) (k : Int), ds = [.scr (ns.map D.int), .int k] ∧ 0 ≤ k ∧ Q (.int (cell ns k)) M
theorem ok_cell {f : Addr} {fd : FuncData} (Fn : Fun K "_law_cell_at" "_law_cell_at" s_law_cell_at f fd) (T : Txt K mg) : FnOk P w K mg base (CXE P w) 1 f fd ["_law_script", "_law_k"] (liftS K spCell) := by
  refine Fn.okA sc_law_cell_at (fun ds M Q E h => ?_) ?_
  · obtain ⟨a, b, rfl, _⟩ := h; rfl
  intro cdv A outer s H E F0 ds M Q Ea hr ct hsp
  obtain ⟨ns, k, rfl, hk, q⟩ := hsp
  refine ⟨_, (ssCons (sIf (ptCmp op_lt lLt (paV (pv 1)) (paCallB call_lens lLen (by rfl) T.len PySem.boot_len (aaCons (paV (pv 0)) aaNil)) (nomark _))
        (ssOne (sRet (paIx ix_seq lIx (paV (pv 0)) (paV (pv 1)) (fun _ _ => rfl))))
        ssNil)
      (ssOne (sRet paI))), ?_⟩
  simp only [aYes, Bool.and_self, at0, at1, at2, at3, aSeq, aNext, aIf, aFor, iaR1, iaR2, iaR3, iaS, iaL, gaN, aSl, aPart, aNoPart, aT, aOp, aV, aC, aRet, aRetN, aTup, aLst, aLstM, aCons, aNil, aAnd, aOr, aNot, aAndV, aOrV, aNotV, aSet, aAsg, aDrop, aCall, aFun, aUn, oAdd, addF, addC, oI, oIc, eqq_int, eqq_str, eqq_bl, neq_int, neq_str, neq_bl, oIsN, isNon, oNeg, oLen, lenF, lenC, oIx, ixF, ixC, oIn, inB, oSl, slF, slC, Option.bind_some, Option.map_some, true_and, L2.dq, L2.dr, L2.dl, L2.dd, both_some, opt_some, insAt_some, keyD, aFldC, aDPut, oDIn, aDGet, aDPop, aDGet1, aSetF, aDNew, aRaise, aMeth, oCat, oCatM, startA, List.map_cons, List.map_nil, List.length_cons, List.length_nil, List.replicate, List.cons_append, List.nil_append, List.getElem?_cons_zero, List.getElem?_cons_succ, List.set_cons_zero, List.set_cons_succ, Nat.reduceAdd, Nat.reduceSub, if_true, Bool.false_eq_true, if_false, List.length_map]
  obtain ⟨n, rfl⟩ := Int.eq_ofNat_of_zero_le hk
  refine ite2 (fun h => ?_) fun h => ?_
  · have h := of_decide_eq_true h
    have hn : n < ns.length := by omega
    rw [atI_nat (v := D.int ns[n]) (by simp [List.getElem?_eq_getElem hn])]
    have e : cell ns (n : Int) = ns[n] := by simp [cell, List.getElem?_eq_getElem hn]
    rw [e] at q
    exact .now q
  · have hn : ¬ n < ns.length := fun z => h (decide_eq_true (by omega))
    have e : cell ns (n : Int) = 0 := by simp [cell, List.getElem?_eq_none (Nat.le_of_not_lt hn)]
    rw [e] at q
    exact .now q
noncomputable def isInt : D → Bool | .int _ => true | _ => false
noncomputable def spWhole : SpA := fun ds M Q _ => ∃ d, ds = [d] ∧ instOk M d = true ∧ Q (.bl (isInt d)) M
theorem ok_whole {f : Addr} {fd : FuncData} (Fn : Fun K "_law_whole" "_law_whole" s_law_whole f fd) (T : Txt K mg) : FnOk P w K mg base (CXE P w) 1 f fd ["_law_found"] (liftS K spWhole) := by
  refine Fn.okA sc_law_whole (fun ds M Q E h => ?_) ?_
  · obtain ⟨a, rfl, _⟩ := h; rfl
  intro cdv A outer s H E F0 ds M Q Ea hr ct hsp
  obtain ⟨d, rfl, hk, q⟩ := hsp
  refine ⟨_, (ssOne (sRet (paAnd (paInst (T := "int") (x := "int") (by decide) (by rfl) T.isinstance (by rfl) T.int boot_int (paV (pv 0))) (paOne (paNot (paInst (T := "bool") (x := "bool") (by decide) (by rfl) T.isinstance (by rfl) T.bool boot_bool (paV (pv 0)))))))), ?_⟩
  simp only [aYes, Bool.and_self, at0, at1, at2, at3, aSeq, aNext, aIf, aFor, iaR1, iaR2, iaR3, iaS, iaL, gaN, aSl, aPart, aNoPart, aT, aOp, aV, aC, aRet, aRetN, aTup, aLst, aLstM, aCons, aNil, aAnd, aOr, aNot, aAndV, aOrV, aNotV, aSet, aAsg, aDrop, aCall, aFun, aUn, oAdd, addF, addC, oI, oIc, eqq_int, eqq_str, eqq_bl, neq_int, neq_str, neq_bl, oIsN, isNon, oNeg, oLen, lenF, lenC, oIx, ixF, ixC, oIn, inB, oSl, slF, slC, Option.bind_some, Option.map_some, true_and, L2.dq, L2.dr, L2.dl, L2.dd, both_some, opt_some, insAt_some, keyD, aFldC, aDPut, oDIn, aDGet, aDPop, aDGet1, aSetF, aDNew, aRaise, aMeth, oCat, oCatM, startA, List.map_cons, List.map_nil, List.length_cons, List.length_nil, List.replicate, List.cons_append, List.nil_append, List.getElem?_cons_zero, List.getElem?_cons_succ, List.set_cons_zero, List.set_cons_succ, Nat.reduceAdd, Nat.reduceSub, if_true, Bool.false_eq_true, if_false, aInst]
  refine ⟨hk, ite2 (fun h => ⟨hk, ?_⟩) fun h => ?_⟩
  · cases d <;> first
      | exact .now q
      | (simp [instD] at h; done)
      | skip
    rename_i p
    unfold instD at h
    dsimp only at h
    split at h <;> simp at h
  · cases d <;> first
      | exact .now q
      | (exact absurd rfl h)

theorem comp0 {X : Cx} {scope : Scope} {Nc : List Str} {n : Nat} (clos : closureFor scope X.env = pure [] := by rfl) (cell : ∀ y ∈ scope.names, y.2 ≠ .cell := by decide +kernel) (kind : scope.kind = .function := by rfl)
    (names : ∀ x ∈ scope.names, x.2 = .local → scope.names.lookup x.1 = some .local := by decide +kernel) (nof : ∀ y ∈ scope.names, y.2 ≠ .free := by decide +kernel) (rl : (relabel scope X.env).names = scope.names := by rfl) (len : n = Nc.length := by rfl) : CompOk X scope [] Nc (jsOf n []) := by
  have look : ∀ {x : Str} {k : NameKind}, scope.names.lookup x = some k → ∃ y ∈ scope.names, y.2 = k := by
    intro x k
    generalize scope.names = l
    intro h
    induction l with
    | nil => cases h
    | cons a l ih =>
      rw [List.lookup_cons] at h
      split at h
      · cases h; exact ⟨a, List.mem_cons_self, rfl⟩
      · obtain ⟨y, h1, h2⟩ := ih h; exact ⟨y, List.mem_cons_of_mem _ h1, h2⟩
  refine ⟨clos, (fun _ _ h => by cases h), cell, kind, names, fun x h => ?_, by simp [jsOf, len], fun k j h => ?_⟩
  · rw [rl] at h
    rcases h with h | h
    · obtain ⟨y, h1, h2⟩ := look h; exact absurd h2 (cell y h1)
    · obtain ⟨y, h1, h2⟩ := look h; exact absurd h2 (nof y h1)
  · unfold jsOf at h
    simp only [List.map_nil, List.append_nil, List.getElem?_replicate] at h
    split at h <;> cases h
theorem outs_map (f : Nat → D) (n : Nat) : outs (fun i => some (f i)) n = (List.range n).map f := by
  unfold outs
  induction List.range n with
  | nil => rfl
  | cons a l ih => simp only [List.filterMap_cons, List.map_cons, ih]
theorem all_cps (x : Str) (q : Nat → Bool) : ((List.range x.cps.size).map fun i => q (x.cps.getD i 0)).all id = x.cps.toList.all q := by
  rw [Bool.eq_iff_iff, List.all_eq_true, List.all_eq_true]
  constructor
  · intro h c hc
    obtain ⟨i, hi, rfl⟩ := List.getElem_of_mem hc
    have hi' : i < x.cps.size := by simpa using hi
    have := h _ (List.mem_map.mpr ⟨i, List.mem_range.mpr hi', rfl⟩)
    simpa [Array.getD, hi'] using this
  · intro h b hb
    obtain ⟨i, hi, rfl⟩ := List.mem_map.mp hb
    have hi' := List.mem_range.mp hi
    have := h (x.cps.toList[i]'(by simpa using hi')) (List.getElem_mem _)
    simpa [Array.getD, hi'] using this
theorem own1 {own : G} (h : own.length = 1) : ∃ o, own = [o] := by
  cases own with
  | nil => cases h
  | cons o l => cases l with
    | nil => exact ⟨o, rfl⟩
    | cons _ _ => simp at h
noncomputable def spIsName : SpA := fun ds M Q _ => ∃ x : Str, ds = [.str x] ∧ x.length ≤ 1000 ∧ Q (.bl (isName x)) M
theorem ok_is_name {f : Addr} {fd : FuncData} (Fn : Fun K "is_name" "is_name" s_is_name f fd) (T : Txt K mg) : FnOk P w K mg base (CXE P w) 1 f fd ["text"] (liftS K spIsName) := by
  refine Fn.okA sc_is_name (fun ds M Q E h => ?_) ?_
  · obtain ⟨x, rfl, _⟩ := h; rfl
  intro cdv A outer s H E F0 ds M Q Ea hr ct hsp
  obtain ⟨x, rfl, hx, q⟩ := hsp
  refine ⟨_, (ssCons (sIf ((pwOr (ptCmp op_lt lLt (paCallB call_lens lLen (by rfl) T.len PySem.boot_len (aaCons (paV (pv 0)) aaNil)) paI (nomark _)) (pwOr1 (ptCmp op_gt lGt (paCallB call_lens lLen (by rfl) T.len PySem.boot_len (aaCons (paV (pv 0)) aaNil)) (pa_LONGEST_NAME T) (nomark _))))).pt
        (ssOne (sRet paB))
        ssNil)
      (ssOne (sRet (paAll (by rfl) T.all rfl (aaCons (paFz (paCompM (Nc := ["sign"]) (n := 1) (fs := []) comp0 rfl (iStr' (paV (pv 0))) (fun _ _ _ _ _ => (tgName (i := 0) (show List.Nodup (["sign"] : List Str) by decide +kernel) rfl (Or.inl rfl))) (fun _ _ _ _ _ => fiNil) (fun _ _ _ _ _ => (paCmp op_ins lIn (paV (pv 0)) (pa_LETTERS T) (by with_unfolding_all rfl))))) aaNil))))), ?_⟩
  have hl : x.length ≤ sizeLine := k1000 hx
  simp only [aYes, Bool.and_self, at0, at1, at2, at3, aSeq, aNext, aIf, aFor, iaR1, iaR2, iaR3, iaS, iaL, gaN, aSl, aPart, aNoPart, aT, aOp, aV, aC, aRet, aRetN, aTup, aLst, aLstM, aCons, aNil, aAnd, aOr, aNot, aAndV, aOrV, aNotV, aSet, aAsg, aDrop, aCall, aFun, aUn, oAdd, addF, addC, oI, oIc, eqq_int, eqq_str, eqq_bl, neq_int, neq_str, neq_bl, oIsN, isNon, oNeg, oLen, lenF, lenC, oIx, ixF, ixC, oIn, inB, oSl, slF, slC, Option.bind_some, Option.map_some, true_and, L2.dq, L2.dr, L2.dl, L2.dd, both_some, opt_some, insAt_some, keyD, aFldC, aDPut, oDIn, aDGet, aDPop, aDGet1, aSetF, aDNew, aRaise, aMeth, oCat, oCatM, startA, List.map_cons, List.map_nil, List.length_cons, List.length_nil, List.replicate, List.cons_append, List.nil_append, List.getElem?_cons_zero, List.getElem?_cons_succ, List.set_cons_zero, List.set_cons_succ, Nat.reduceAdd, Nat.reduceSub, if_true, Bool.false_eq_true, if_false]
  refine ⟨hl, ite2 (fun h1 => ?_) (fun h1 => ⟨hl, ite2 (fun h2 => ?_) (fun h2 => ?_)⟩)⟩
  · have h1 := of_decide_eq_true h1
    have e : isName x = false := by
      unfold isName
      rw [decide_eq_true (show x.length < 1 by omega)]; rfl
    rw [e] at q
    exact .now q
  · have h2 := of_decide_eq_true h2
    have e : isName x = false := by
      unfold isName
      rw [decide_eq_true (show 8 < x.length by omega), Bool.or_true]; rfl
    rw [e] at q
    exact .now q
  · have h1 : ¬ (x.length < 1) := fun z => h1 (decide_eq_true (by omega))
    have h2 : ¬ (8 < x.length) := fun z => h2 (decide_eq_true (by omega))
    have e : isName x = x.cps.toList.all fun c => decide (c ∈ letters) := by
      unfold isName
      rw [decide_eq_false h1, decide_eq_false h2]; rfl
    rw [e, ← all_cps] at q
    simp only [aFz, aCompM, aYes, Bool.and_self, at0, at1, at2, at3, aSeq, aNext, aIf, aFor, iaR1, iaR2, iaR3, iaS, iaL, gaN, aSl, aPart, aNoPart, aT, aOp, aV, aC, aRet, aRetN, aTup, aLst, aLstM, aCons, aNil, aAnd, aOr, aNot, aAndV, aOrV, aNotV, aSet, aAsg, aDrop, aCall, aFun, aUn, oAdd, addF, addC, oI, oIc, eqq_int, eqq_str, eqq_bl, neq_int, neq_str, neq_bl, oIsN, isNon, oNeg, oLen, lenF, lenC, oIx, ixF, ixC, oIn, inB, oSl, slF, slC, Option.bind_some, Option.map_some, true_and, L2.dq, L2.dr, L2.dl, L2.dd, both_some, opt_some, insAt_some, keyD, aFldC, aDPut, oDIn, aDGet, aDPop, aDGet1, aSetF, aDNew, aRaise, aMeth, oCat, oCatM, startA, List.map_cons, List.map_nil, List.length_cons, List.length_nil, List.replicate, List.cons_append, List.nil_append, List.getElem?_cons_zero, List.getElem?_cons_succ, List.set_cons_zero, List.set_cons_succ, Nat.reduceAdd, Nat.reduceSub, if_true, Bool.false_eq_true, if_false, frG, oIn]
    refine ⟨fun i => some (.bl (decide (x.cps.getD i 0 ∈ letters))), by show x.cps.size ≤ 1000; exact hx, fun M' _ i hi own ho => ?_, fun p hp => ?_⟩
    · obtain ⟨o, rfl⟩ := own1 ho
      refine ⟨⟨[some _], rfl, rfl⟩, ?_⟩
      simp only [aYes, Bool.and_self, at0, at1, at2, at3, aSeq, aNext, aIf, aFor, iaR1, iaR2, iaR3, iaS, iaL, gaN, aSl, aPart, aNoPart, aT, aOp, aV, aC, aRet, aRetN, aTup, aLst, aLstM, aCons, aNil, aAnd, aOr, aNot, aAndV, aOrV, aNotV, aSet, aAsg, aDrop, aCall, aFun, aUn, oAdd, addF, addC, oI, oIc, eqq_int, eqq_str, eqq_bl, neq_int, neq_str, neq_bl, oIsN, isNon, oNeg, oLen, lenF, lenC, oIx, ixF, ixC, oIn, inB, oSl, slF, slC, Option.bind_some, Option.map_some, true_and, L2.dq, L2.dr, L2.dl, L2.dd, both_some, opt_some, insAt_some, keyD, aFldC, aDPut, oDIn, aDGet, aDPop, aDGet1, aSetF, aDNew, aRaise, aMeth, oCat, oCatM, startA, List.map_cons, List.map_nil, List.length_cons, List.length_nil, List.replicate, List.cons_append, List.nil_append, List.getElem?_cons_zero, List.getElem?_cons_succ, List.set_cons_zero, List.set_cons_succ, Nat.reduceAdd, Nat.reduceSub, if_true, Bool.false_eq_true, if_false]
      exact (congrArg (fun b => some (D.bl b)) (PySem.StrLaws.found_one ("abcdefghijklmnopqrstuvwxyz" : Str) (x.cps.getD i 0)).symm)
    · simp only [put_same, del_put hp, oAll, L2.dr]
      refine ⟨_, ?_, .now q⟩
      rw [outs_map, List.map_map]; rfl


theorem look_teeth {d1 d2 : Addr} {n : Int} : (fsT d1 d2 n).lookup ("teeth_of" : Str) = some (.obj d1) := rfl
theorem look_join {d1 d2 : Addr} {n : Int} : (fsT d1 d2 n).lookup ("join_of" : Str) = some (.obj d2) := rfl
theorem look_next {d1 d2 : Addr} {n : Int} : (fsT d1 d2 n).lookup ("next_number" : Str) = some (.int n) := rfl
noncomputable def spInit (C : Addr) : SpA := fun ds M Q _ => ∃ p, ds = [.obj p] ∧ M p = some (.ins C []) ∧ ∀ d1 d2, M d1 = none → M d2 = none → d1 ≠ d2 → d1 ≠ p → d2 ≠ p → Q .non (put (put (put M d1 (.dic [])) d2 (.dic [])) p (.ins C (fsT d1 d2 0)))
theorem ok_init {f C : Addr} {fd : FuncData} (Fn : Fun K "__init__" "Train.__init__" s_Train___init__ f fd) (pl_teeth_of : Pln K C "teeth_of") (pl_join_of : Pln K C "join_of") (pl_next_number : Pln K C "next_number") :
    FnOk P w K mg base (CXE P w) 1 f fd ["self"] (liftS K (spInit C)) := by
  refine Fn.okA sc_Train___init__ (fun ds M Q E h => ?_) ?_
  · obtain ⟨x, rfl, _⟩ := h; rfl
  intro cdv A outer s H E F0 ds M Q Ea hr ct hsp
  obtain ⟨p, rfl, hp, q⟩ := hsp
  refine ⟨_, (ssCons (sSetF pl_teeth_of (paV (pv 0)) paDNew rfl)
      (ssCons (sSetF pl_join_of (paV (pv 0)) paDNew rfl)
      (ssOne (sSetF pl_next_number (paV (pv 0)) paI rfl)))), ?_⟩
  simp only [aYes, Bool.and_self, at0, at1, at2, at3, aSeq, aNext, aIf, aFor, iaR1, iaR2, iaR3, iaS, iaL, gaN, aSl, aPart, aNoPart, aT, aOp, aV, aC, aRet, aRetN, aTup, aLst, aLstM, aCons, aNil, aAnd, aOr, aNot, aAndV, aOrV, aNotV, aSet, aAsg, aDrop, aCall, aFun, aUn, oAdd, addF, addC, oI, oIc, eqq_int, eqq_str, eqq_bl, neq_int, neq_str, neq_bl, oIsN, isNon, oNeg, oLen, lenF, lenC, oIx, ixF, ixC, oIn, inB, oSl, slF, slC, Option.bind_some, Option.map_some, true_and, L2.dq, L2.dr, L2.dl, L2.dd, both_some, opt_some, insAt_some, keyD, aFldC, aDPut, oDIn, aDGet, aDPop, aDGet1, aSetF, aDNew, aRaise, aMeth, oCat, oCatM, startA, List.map_cons, List.map_nil, List.length_cons, List.length_nil, List.replicate, List.cons_append, List.nil_append, List.getElem?_cons_zero, List.getElem?_cons_succ, List.set_cons_zero, List.set_cons_succ, Nat.reduceAdd, Nat.reduceSub, if_true, Bool.false_eq_true, if_false]
  intro d1 h1
  have n1 : p ≠ d1 := by rintro rfl; rw [hp] at h1; cases h1
  simp only [put_ne n1, hp, insAt_some, put_same]
  refine ⟨by decide, fun d2 h2 => ?_⟩
  have n2 : p ≠ d2 := by rintro rfl; rw [put_same] at h2; cases h2
  rw [put_ne n2.symm] at h2
  have n3 : d1 ≠ d2 := by rintro rfl; rw [put_same] at h2; cases h2
  rw [put_ne n3.symm] at h2
  simp only [put_ne n2, insAt_some, put_same]
  refine ⟨by show 1 < 1000; decide, by show 2 < 1000; decide, ?_⟩
  rw [put_put, put_comm n2, put_put]
  exact .now (q d1 d2 h1 h2 n3 n1.symm n2.symm)

structure ExK (K : PySem.W.Frag) (mg : Str → Option Value) (EC : Rk → Addr) : Prop where
  noName : ExCls K mg "NoName" (EC .noName)
  twice : ExCls K mg "Twice" (EC .twice)
  noTeeth : ExCls K mg "NoTeeth" (EC .noTeeth)
  full : ExCls K mg "Full" (EC .full)
  noWheel : ExCls K mg "NoWheel" (EC .noWheel)
  noJoin : ExCls K mg "NoJoin" (EC .noJoin)
noncomputable def spPutW (C : Addr) (EC : Rk → Addr) : SpA := fun ds M Q E => ∃ p d1 d2 S n t, ds = [.obj p, .str n, .int t] ∧ Tr C M p d1 d2 S ∧ n.length ≤ 1000 ∧
  match refW S n t with | some r => E (.ref (EC r)) M | none => Q .non (put M d1 (.dic (dW (S.ws ++ [(n, t)]))))
theorem ok_put_wheel {f C : Addr} {fd : FuncData} {EC : Rk → Addr} (Fn : Fun K "put_wheel" "Train.put_wheel" s_Train_put_wheel f fd) (T : Txt K mg) (XK : ExK K mg EC) (pl_teeth_of : Pln K C "teeth_of")
    (h_is_name : Has P w K mg base (CXE P w) 1 "is_name" ["text"] (liftS K spIsName)) : FnOk P w K mg base (CXE P w) 2 f fd ["self", "name", "teeth"] (liftS K (spPutW C EC)) := by
  refine Fn.okA sc_Train_put_wheel (fun ds M Q E h => ?_) ?_
  · obtain ⟨p, d1, d2, S, n, t, rfl, _⟩ := h; rfl
  intro cdv A outer s H E F0 ds M Q Ea hr ct hsp
  obtain ⟨p, d1, d2, S, n, t, rfl, tr, hn, q⟩ := hsp
  have hu := hu_of hr
  have X_NoName := XK.noName
  have X_Twice := XK.twice
  have X_NoTeeth := XK.noTeeth
  have X_Full := XK.full
  refine ⟨_, (ssCons (sIf (ptNot (ptV (paFun h_is_name (hr.mono (by decide)) (by rfl) ct (aaCons (paV (pv 1)) aaNil))))
        (ssOne (sRaise ct X_NoName (by rfl) (aaCons paS aaNil)))
        ssNil)
      (ssCons (sIf (ptPC (pcDIn (un1 ct) (paV (pv 1)) (paFld pl_teeth_of (paV (pv 0)) rfl)))
        (ssOne (sRaise ct X_Twice (by rfl) (aaCons paS aaNil)))
        ssNil)
      (ssCons (sIf ((pwOr (ptCmp op_lt lLt (paV (pv 2)) paI (nomark _)) (pwOr1 (ptCmp op_ge lGe (paV (pv 2)) (pa_TEETH_BOUND T) (nomark _))))).pt
        (ssOne (sRaise ct X_NoTeeth (by rfl) (aaCons paS aaNil)))
        ssNil)
      (ssCons (sIf (ptCmp op_ge lGe (paCallB call_lens lLen (by rfl) T.len PySem.boot_len (aaCons (paFld pl_teeth_of (paV (pv 0)) rfl) aaNil)) (pa_MOST_WHEELS T) (nomark _))
        (ssOne (sRaise ct X_Full (by rfl) (aaCons paS aaNil)))
        ssNil)
      (ssOne (sPutD (un1 ct) (paFld pl_teeth_of (paV (pv 0)) rfl) (paV (pv 1)) (paV (pv 2)) rfl)))))), ?_⟩
  simp only [aYes, Bool.and_self, at0, at1, at2, at3, aSeq, aNext, aIf, aFor, iaR1, iaR2, iaR3, iaS, iaL, gaN, aSl, aPart, aNoPart, aT, aOp, aV, aC, aRet, aRetN, aTup, aLst, aLstM, aCons, aNil, aAnd, aOr, aNot, aAndV, aOrV, aNotV, aSet, aAsg, aDrop, aCall, aFun, aUn, oAdd, addF, addC, oI, oIc, eqq_int, eqq_str, eqq_bl, neq_int, neq_str, neq_bl, oIsN, isNon, oNeg, oLen, lenF, lenC, oIx, ixF, ixC, oIn, inB, oSl, slF, slC, Option.bind_some, Option.map_some, true_and, L2.dq, L2.dr, L2.dl, L2.dd, both_some, opt_some, insAt_some, keyD, aFldC, aDPut, oDIn, aDGet, aDPop, aDGet1, aSetF, aDNew, aRaise, aMeth, oCat, oCatM, startA, List.map_cons, List.map_nil, List.length_cons, List.length_nil, List.replicate, List.cons_append, List.nil_append, List.getElem?_cons_zero, List.getElem?_cons_succ, List.set_cons_zero, List.set_cons_succ, Nat.reduceAdd, Nat.reduceSub, if_true, Bool.false_eq_true, if_false, spIsName]
  refine ⟨n, rfl, hn, ?_⟩
  simp only [aYes, Bool.and_self, at0, at1, at2, at3, aSeq, aNext, aIf, aFor, iaR1, iaR2, iaR3, iaS, iaL, gaN, aSl, aPart, aNoPart, aT, aOp, aV, aC, aRet, aRetN, aTup, aLst, aLstM, aCons, aNil, aAnd, aOr, aNot, aAndV, aOrV, aNotV, aSet, aAsg, aDrop, aCall, aFun, aUn, oAdd, addF, addC, oI, oIc, eqq_int, eqq_str, eqq_bl, neq_int, neq_str, neq_bl, oIsN, isNon, oNeg, oLen, lenF, lenC, oIx, ixF, ixC, oIn, inB, oSl, slF, slC, Option.bind_some, Option.map_some, true_and, L2.dq, L2.dr, L2.dl, L2.dd, both_some, opt_some, insAt_some, keyD, aFldC, aDPut, oDIn, aDGet, aDPop, aDGet1, aSetF, aDNew, aRaise, aMeth, oCat, oCatM, startA, List.map_cons, List.map_nil, List.length_cons, List.length_nil, List.replicate, List.cons_append, List.nil_append, List.getElem?_cons_zero, List.getElem?_cons_succ, List.set_cons_zero, List.set_cons_succ, Nat.reduceAdd, Nat.reduceSub, if_true, Bool.false_eq_true, if_false, tr.self, look_teeth, tr.teeth, getK_dW]
  have hh : (S.ws.any fun w => decide (w.1 = n)) = S.has n := rfl
  rw [hh]
  cases h1 : isName n with
  | false => simpa [refW, h1] using q
  | true =>
    cases h2 : S.has n with
    | true => simpa [refW, h1, h2] using q
    | false =>
      by_cases h3 : t < 1
      · simpa [refW, h1, h2, h3] using q
      · by_cases h4 : 1000000000 ≤ t
        · simpa [refW, h1, h2, h3, h4] using q
        · by_cases h5 : 100 ≤ S.ws.length
          · have e5 : (100 : Int) ≤ ((dW S.ws).length : Nat) := by simp [dW]; omega
            simpa [refW, h1, h2, h3, h4, h5, e5] using q
          · have e5 : ¬ (100 : Int) ≤ ((dW S.ws).length : Nat) := by simp [dW]; omega
            have e6 : putKD (dW S.ws) (Sum.inr n) (.int t) = dW (S.ws ++ [(n, t)]) := by
              rw [putKD_new (by rw [getK_dW]; exact h2)]
              simp [dW]
            have e7 : (dW S.ws).length < 1000 := by simp [dW]; omega
            simp [h3, h4, e5, e7, e6]
            simp [refW, h1, h2, h3, h4, h5] at q
            exact .now q
theorem str_beq (a k : Str) : (a == k) = decide (k = a) := by
  rw [← dec_str]
  by_cases h : a = k
  · subst h; rw [decide_eq_true rfl, decide_eq_true rfl]
  · rw [decide_eq_false fun z => h (V.str.inj z), decide_eq_false fun z => h z.symm]
theorem kinds_in (k : Str) : inD (.str k) [.str "mesh", .str "pin", .str "band", .str "cross"] = isKind k := by
  unfold inD isKind
  simp only [List.any_cons, List.any_nil, eqF, Bool.or_false]
  rw [str_beq, str_beq, str_beq, str_beq]
  simp only [Bool.or_assoc]
theorem kindsB (k : Str) : (if (flD (.str k) && ([.str "mesh", .str "pin", .str "band", .str "cross"] : List D).all flD) = true then some (inD (.str k) [.str "mesh", .str "pin", .str "band", .str "cross"]) else none) = some (isKind k) := by
  rw [if_pos (show (flD (.str k) && ([.str "mesh", .str "pin", .str "band", .str "cross"] : List D).all flD) = true from rfl), kinds_in]
noncomputable def spPutJ (C : Addr) (EC : Rk → Addr) : SpA := fun ds M Q E => ∃ p d1 d2 S k a b, ds = [.obj p, .str k, .str a, .str b] ∧ Tr C M p d1 d2 S ∧
  match refJ S k a b with | some r => E (.ref (EC r)) M | none => Q (.int S.nx) (put (put M d2 (.dic (dJ (S.js ++ [(S.nx, k, a, b)])))) p (.ins C (fsT d1 d2 (S.nx + 1))))
theorem ok_put_join {f C : Addr} {fd : FuncData} {EC : Rk → Addr} (Fn : Fun K "put_join" "Train.put_join" s_Train_put_join f fd) (T : Txt K mg) (XK : ExK K mg EC) (pl_teeth_of : Pln K C "teeth_of") (pl_join_of : Pln K C "join_of") (pl_next_number : Pln K C "next_number") :
    FnOk P w K mg base (CXE P w) 2 f fd ["self", "kind", "one", "other"] (liftS K (spPutJ C EC)) := by
  refine Fn.okA sc_Train_put_join (fun ds M Q E h => ?_) ?_
  · obtain ⟨p, d1, d2, S, k, a, b, rfl, _⟩ := h; rfl
  intro cdv A outer s H E F0 ds M Q Ea hr ct hsp
  obtain ⟨p, d1, d2, S, k, a, b, rfl, tr, q⟩ := hsp
  have hu := hu_of hr
  have hu64 := hr.units
  have X_NoJoin := XK.noJoin
  have X_NoWheel := XK.noWheel
  have X_Full := XK.full
  refine ⟨_, (ssCons (sIf (ptCmp op_notIns lNotIn (paV (pv 1)) (pa_KINDS T) (by with_unfolding_all rfl))
        (ssOne (sRaise ct X_NoJoin (by rfl) (aaCons paS aaNil)))
        ssNil)
      (ssCons (sIf ((pwOr (ptPC (pcDNotIn (un1 ct) (paV (pv 2)) (paFld pl_teeth_of (paV (pv 0)) rfl))) (pwOr1 (ptPC (pcDNotIn (un1 ct) (paV (pv 3)) (paFld pl_teeth_of (paV (pv 0)) rfl)))))).pt
        (ssOne (sRaise ct X_NoWheel (by rfl) (aaCons paS aaNil)))
        ssNil)
      (ssCons (sIf (ptCmp (op_eqs (un64 ct)) lEq (paV (pv 2)) (paV (pv 3)) (nomark _))
        (ssOne (sRaise ct X_NoJoin (by rfl) (aaCons paS aaNil)))
        ssNil)
      (ssCons (sIf (ptCmp op_ge lGe (paCallB call_lens lLen (by rfl) T.len PySem.boot_len (aaCons (paFld pl_join_of (paV (pv 0)) rfl) aaNil)) (pa_MOST_JOINS T) (nomark _))
        (ssOne (sRaise ct X_Full (by rfl) (aaCons paS aaNil)))
        ssNil)
      (ssCons (sSet (i := 4) sc_Train_put_join.nd rfl (Or.inl rfl) (paFld pl_next_number (paV (pv 0)) rfl))
      (ssCons (sPutD (un1 ct) (paFld pl_join_of (paV (pv 0)) rfl) (paV (pv 4)) (paTup (aaCons (paV (pv 4)) (aaCons (paV (pv 1)) (aaCons (paV (pv 2)) (aaCons (paV (pv 3)) aaNil))))) rfl)
      (ssCons (sSetF pl_next_number (paV (pv 0)) (paOp op_adds lAdd (paV (pv 4)) paI) rfl)
      (ssOne (sRet (paV (pv 4))))))))))), ?_⟩
  simp only [aYes, Bool.and_self, at0, at1, at2, at3, aSeq, aNext, aIf, aFor, iaR1, iaR2, iaR3, iaS, iaL, gaN, aSl, aPart, aNoPart, aT, aOp, aV, aC, aRet, aRetN, aTup, aLst, aLstM, aCons, aNil, aAnd, aOr, aNot, aAndV, aOrV, aNotV, aSet, aAsg, aDrop, aCall, aFun, aUn, oAdd, addF, addC, oI, oIc, eqq_int, eqq_str, eqq_bl, neq_int, neq_str, neq_bl, oIsN, isNon, oNeg, oLen, lenF, lenC, oIx, ixF, ixC, oIn, inB, oSl, slF, slC, Option.bind_some, Option.map_some, true_and, L2.dq, L2.dr, L2.dl, L2.dd, both_some, opt_some, insAt_some, keyD, aFldC, aDPut, oDIn, aDGet, aDPop, aDGet1, aSetF, aDNew, aRaise, aMeth, oCat, oCatM, startA, List.map_cons, List.map_nil, List.length_cons, List.length_nil, List.replicate, List.cons_append, List.nil_append, List.getElem?_cons_zero, List.getElem?_cons_succ, List.set_cons_zero, List.set_cons_succ, Nat.reduceAdd, Nat.reduceSub, if_true, Bool.false_eq_true, if_false, kindsB]
  have n1 : p ≠ d2 := by rintro rfl; have := tr.self; rw [tr.join] at this; cases this
  simp only [aYes, Bool.and_self, at0, at1, at2, at3, aSeq, aNext, aIf, aFor, iaR1, iaR2, iaR3, iaS, iaL, gaN, aSl, aPart, aNoPart, aT, aOp, aV, aC, aRet, aRetN, aTup, aLst, aLstM, aCons, aNil, aAnd, aOr, aNot, aAndV, aOrV, aNotV, aSet, aAsg, aDrop, aCall, aFun, aUn, oAdd, addF, addC, oI, oIc, eqq_int, eqq_str, eqq_bl, neq_int, neq_str, neq_bl, oIsN, isNon, oNeg, oLen, lenF, lenC, oIx, ixF, ixC, oIn, inB, oSl, slF, slC, Option.bind_some, Option.map_some, true_and, L2.dq, L2.dr, L2.dl, L2.dd, both_some, opt_some, insAt_some, keyD, aFldC, aDPut, oDIn, aDGet, aDPop, aDGet1, aSetF, aDNew, aRaise, aMeth, oCat, oCatM, startA, List.map_cons, List.map_nil, List.length_cons, List.length_nil, List.replicate, List.cons_append, List.nil_append, List.getElem?_cons_zero, List.getElem?_cons_succ, List.set_cons_zero, List.set_cons_succ, Nat.reduceAdd, Nat.reduceSub, if_true, Bool.false_eq_true, if_false, tr.self, look_teeth, look_join, look_next, tr.teeth, tr.join, getK_dW, put_ne n1]
  have ha : (S.ws.any fun w => decide (w.1 = a)) = S.has a := rfl
  have hb : (S.ws.any fun w => decide (w.1 = b)) = S.has b := rfl
  rw [ha, hb]
  cases h1 : isKind k with
  | false => simpa [refJ, h1] using q
  | true =>
    cases h2 : S.has a with
    | false => simpa [refJ, h1, h2] using q
    | true =>
      cases h3 : S.has b with
      | false => simpa [refJ, h1, h2, h3] using q
      | true =>
        by_cases h4 : a = b
        · subst h4
          simpa [refJ, h1, h2, h3] using q
        · by_cases h5 : 200 ≤ S.js.length
          · have e5 : (200 : Int) ≤ ((dJ S.js).length : Nat) := by simp [dJ]; omega
            simpa [refJ, h1, h2, h3, h4, h5, e5] using q
          · have e5 : ¬ (200 : Int) ≤ ((dJ S.js).length : Nat) := by simp [dJ]; omega
            have e7 : (dJ S.js).length < 1000 := by simp [dJ]; omega
            have e8 : (getK (dJ S.js) (Sum.inl S.nx)).isSome = false := by
              rw [getK_dJ]
              rw [List.any_eq_false]
              intro j hj
              have := tr.lt j hj
              simp; omega
            have e6 : putKD (dJ S.js) (Sum.inl S.nx) (.tup [.int S.nx, .str k, .str a, .str b]) = dJ (S.js ++ [(S.nx, k, a, b)]) := by
              rw [putKD_new e8]
              simp [dJ, eJ]
            simp [h4, e5, e7, e6]
            simp [refJ, h1, h2, h3, h4, h5] at q
            exact ⟨by show 3 < 1000; decide, .now q⟩
noncomputable def spTakeJ (C : Addr) (EC : Rk → Addr) : SpA := fun ds M Q E => ∃ p d1 d2 S n, ds = [.obj p, .int n] ∧ Tr C M p d1 d2 S ∧
  match refL S n with | some r => E (.ref (EC r)) M | none => Q .non (put M d2 (.dic (dJ (S.js.filter fun j => decide (j.1 ≠ n)))))
theorem ok_take_join {f C : Addr} {fd : FuncData} {EC : Rk → Addr} (Fn : Fun K "take_join" "Train.take_join" s_Train_take_join f fd) (XK : ExK K mg EC) (pl_join_of : Pln K C "join_of") :
    FnOk P w K mg base (CXE P w) 2 f fd ["self", "number"] (liftS K (spTakeJ C EC)) := by
  refine Fn.okA sc_Train_take_join (fun ds M Q E h => ?_) ?_
  · obtain ⟨p, d1, d2, S, n, rfl, _⟩ := h; rfl
  intro cdv A outer s H E F0 ds M Q Ea hr ct hsp
  obtain ⟨p, d1, d2, S, n, rfl, tr, q⟩ := hsp
  have hu := hu_of hr
  have X_NoJoin := XK.noJoin
  refine ⟨_, (ssCons (sIf (ptPC (pcDNotIn (un1 ct) (paV (pv 1)) (paFld pl_join_of (paV (pv 0)) rfl)))
        (ssOne (sRaise ct X_NoJoin (by rfl) (aaCons paS aaNil)))
        ssNil)
      (ssOne (sExpr (paDPop (paFld pl_join_of (paV (pv 0)) rfl) (paV (pv 1)) ⟨by rfl, by rfl, by rfl, by rfl⟩)))), ?_⟩
  simp only [aYes, Bool.and_self, at0, at1, at2, at3, aSeq, aNext, aIf, aFor, iaR1, iaR2, iaR3, iaS, iaL, gaN, aSl, aPart, aNoPart, aT, aOp, aV, aC, aRet, aRetN, aTup, aLst, aLstM, aCons, aNil, aAnd, aOr, aNot, aAndV, aOrV, aNotV, aSet, aAsg, aDrop, aCall, aFun, aUn, oAdd, addF, addC, oI, oIc, eqq_int, eqq_str, eqq_bl, neq_int, neq_str, neq_bl, oIsN, isNon, oNeg, oLen, lenF, lenC, oIx, ixF, ixC, oIn, inB, oSl, slF, slC, Option.bind_some, Option.map_some, true_and, L2.dq, L2.dr, L2.dl, L2.dd, both_some, opt_some, insAt_some, keyD, aFldC, aDPut, oDIn, aDGet, aDPop, aDGet1, aSetF, aDNew, aRaise, aMeth, oCat, oCatM, startA, List.map_cons, List.map_nil, List.length_cons, List.length_nil, List.replicate, List.cons_append, List.nil_append, List.getElem?_cons_zero, List.getElem?_cons_succ, List.set_cons_zero, List.set_cons_succ, Nat.reduceAdd, Nat.reduceSub, if_true, Bool.false_eq_true, if_false, tr.self, look_join, tr.join, getK_dJ]
  have ha : (S.js.any fun j => decide (j.1 = n)) = S.hasJ n := rfl
  rw [ha]
  cases h1 : S.hasJ n with
  | false => simpa [refL, h1] using q
  | true =>
    have e : (getK (dJ S.js) (Sum.inl n)).isSome = true := by rw [getK_dJ]; exact h1
    obtain ⟨d, hd⟩ := Option.isSome_iff_exists.mp e
    simp [hd, opt_some, dropKD_dJ]
    simp [refL, h1] at q
    exact .now q
noncomputable def spWheels (C : Addr) : SpA := fun ds M Q _ => ∃ p d1 d2 S, ds = [.obj p] ∧ Tr C M p d1 d2 S ∧ ∀ l, M l = none → Q (.obj l) (put M l (.lst (S.ws.map eW)))
theorem ok_wheels {f C : Addr} {fd : FuncData} (Fn : Fun K "wheels" "Train.wheels" s_Train_wheels f fd) (T : Txt K mg) (pl_teeth_of : Pln K C "teeth_of") : FnOk P w K mg base (CXE P w) 1 f fd ["self"] (liftS K (spWheels C)) := by
  refine Fn.okA sc_Train_wheels (fun ds M Q E h => ?_) ?_
  · obtain ⟨p, d1, d2, S, rfl, _⟩ := h; rfl
  intro cdv A outer s H E F0 ds M Q Ea hr ct hsp
  obtain ⟨p, d1, d2, S, rfl, tr, q⟩ := hsp
  refine ⟨_, ssOne (sRet (paItems T.list rfl (by rfl) (paFld pl_teeth_of (paV (pv 0)) rfl))), ?_⟩
  simp only [aYes, Bool.and_self, at0, at1, at2, at3, aSeq, aNext, aIf, aFor, iaR1, iaR2, iaR3, iaS, iaL, gaN, aSl, aPart, aNoPart, aT, aOp, aV, aC, aRet, aRetN, aTup, aLst, aLstM, aCons, aNil, aAnd, aOr, aNot, aAndV, aOrV, aNotV, aSet, aAsg, aDrop, aCall, aFun, aUn, oAdd, addF, addC, oI, oIc, eqq_int, eqq_str, eqq_bl, neq_int, neq_str, neq_bl, oIsN, isNon, oNeg, oLen, lenF, lenC, oIx, ixF, ixC, oIn, inB, oSl, slF, slC, Option.bind_some, Option.map_some, true_and, L2.dq, L2.dr, L2.dl, L2.dd, both_some, opt_some, insAt_some, keyD, aFldC, aDPut, oDIn, aDGet, aDPop, aDGet1, aSetF, aDNew, aRaise, aMeth, oCat, oCatM, startA, List.map_cons, List.map_nil, List.length_cons, List.length_nil, List.replicate, List.cons_append, List.nil_append, List.getElem?_cons_zero, List.getElem?_cons_succ, List.set_cons_zero, List.set_cons_succ, Nat.reduceAdd, Nat.reduceSub, if_true, Bool.false_eq_true, if_false, aItems, tr.self, look_teeth, tr.teeth]
  intro l hl
  have e : (dW S.ws).map (fun kv => D.tup [keyOf kv.1, kv.2]) = S.ws.map eW := by
    unfold dW; rw [List.map_map]; rfl
  rw [e]
  exact .now (q l hl)
noncomputable def spJoins (C : Addr) : SpA := fun ds M Q _ => ∃ p d1 d2 S, ds = [.obj p] ∧ Tr C M p d1 d2 S ∧ ∀ l, M l = none → Q (.obj l) (put M l (.lst (S.js.map eJ)))
theorem ok_joins {f C : Addr} {fd : FuncData} (Fn : Fun K "joins" "Train.joins" s_Train_joins f fd) (T : Txt K mg) (pl_join_of : Pln K C "join_of") : FnOk P w K mg base (CXE P w) 1 f fd ["self"] (liftS K (spJoins C)) := by
  refine Fn.okA sc_Train_joins (fun ds M Q E h => ?_) ?_
  · obtain ⟨p, d1, d2, S, rfl, _⟩ := h; rfl
  intro cdv A outer s H E F0 ds M Q Ea hr ct hsp
  obtain ⟨p, d1, d2, S, rfl, tr, q⟩ := hsp
  refine ⟨_, ssOne (sRet (paVals T.list rfl (by rfl) (paFld pl_join_of (paV (pv 0)) rfl))), ?_⟩
  simp only [aYes, Bool.and_self, at0, at1, at2, at3, aSeq, aNext, aIf, aFor, iaR1, iaR2, iaR3, iaS, iaL, gaN, aSl, aPart, aNoPart, aT, aOp, aV, aC, aRet, aRetN, aTup, aLst, aLstM, aCons, aNil, aAnd, aOr, aNot, aAndV, aOrV, aNotV, aSet, aAsg, aDrop, aCall, aFun, aUn, oAdd, addF, addC, oI, oIc, eqq_int, eqq_str, eqq_bl, neq_int, neq_str, neq_bl, oIsN, isNon, oNeg, oLen, lenF, lenC, oIx, ixF, ixC, oIn, inB, oSl, slF, slC, Option.bind_some, Option.map_some, true_and, L2.dq, L2.dr, L2.dl, L2.dd, both_some, opt_some, insAt_some, keyD, aFldC, aDPut, oDIn, aDGet, aDPop, aDGet1, aSetF, aDNew, aRaise, aMeth, oCat, oCatM, startA, List.map_cons, List.map_nil, List.length_cons, List.length_nil, List.replicate, List.cons_append, List.nil_append, List.getElem?_cons_zero, List.getElem?_cons_succ, List.set_cons_zero, List.set_cons_succ, Nat.reduceAdd, Nat.reduceSub, if_true, Bool.false_eq_true, if_false, aVals, tr.self, look_join, tr.join]
  intro l hl
  have e : (dJ S.js).map (fun kv => kv.2) = S.js.map eJ := by
    unfold dJ; rw [List.map_map]; rfl
  rw [e]
  exact .now (q l hl)


noncomputable def spRefuse (EC : Rk → Addr) : SpA := fun ds M Q E => ∃ (ns : List Str) (n : Str), ds = [.lst (ns.map D.str), .str n] ∧ if n ∈ ns then Q .non M else E (.ref (EC .noWheel)) M
theorem inD_strs (ns : List Str) (n : Str) : inD (.str n) (ns.map D.str) = decide (n ∈ ns) := by
  unfold inD
  induction ns with
  | nil => rfl
  | cons a ns ih =>
    simp only [List.map_cons, List.any_cons, List.mem_cons, Bool.decide_or]
    rw [ih]
    congr 1
    by_cases h : a = n
    · subst h; simp [eqF]
    · have h' : ¬ n = a := fun z => h z.symm
      simp [eqF, h, h']
theorem ok_refuse_unknown {f : Addr} {fd : FuncData} {EC : Rk → Addr} (Fn : Fun K "refuse_unknown" "refuse_unknown" s_refuse_unknown f fd) (XK : ExK K mg EC) : FnOk P w K mg base (CXE P w) 1 f fd ["names", "name"] (liftS K (spRefuse EC)) := by
  refine Fn.okA sc_refuse_unknown (fun ds M Q E h => ?_) ?_
  · obtain ⟨a, b, rfl, _⟩ := h; rfl
  intro cdv A outer s H E F0 ds M Q Ea hr ct hsp
  obtain ⟨ns, n, rfl, q⟩ := hsp
  have X_NoWheel := XK.noWheel
  refine ⟨_, (ssOne (sIf (ptCmp op_notIns lNotIn (paV (pv 1)) (paV (pv 0)) (by with_unfolding_all rfl))
        (ssOne (sRaise ct X_NoWheel (by rfl) (aaCons paS aaNil)))
        ssNil)), ?_⟩
  have e1 : (flD (D.str n) && (ns.map D.str).all flD) = true := by
    rw [Bool.and_eq_true]; exact ⟨rfl, List.all_eq_true.mpr fun d hd => by obtain ⟨x, _, rfl⟩ := List.mem_map.mp hd; rfl⟩
  simp only [aYes, Bool.and_self, at0, at1, at2, at3, aSeq, aNext, aIf, aFor, iaR1, iaR2, iaR3, iaS, iaL, gaN, aSl, aPart, aNoPart, aT, aOp, aV, aC, aRet, aRetN, aTup, aLst, aLstM, aCons, aNil, aAnd, aOr, aNot, aAndV, aOrV, aNotV, aSet, aAsg, aDrop, aCall, aFun, aUn, oAdd, addF, addC, oI, oIc, eqq_int, eqq_str, eqq_bl, neq_int, neq_str, neq_bl, oIsN, isNon, oNeg, oLen, lenF, lenC, oIx, ixF, ixC, oIn, inB, oSl, slF, slC, Option.bind_some, Option.map_some, true_and, L2.dq, L2.dr, L2.dl, L2.dd, both_some, opt_some, insAt_some, keyD, aFldC, aDPut, oDIn, aDGet, aDPop, aDGet1, aSetF, aDNew, aRaise, aMeth, oCat, oCatM, startA, List.map_cons, List.map_nil, List.length_cons, List.length_nil, List.replicate, List.cons_append, List.nil_append, List.getElem?_cons_zero, List.getElem?_cons_succ, List.set_cons_zero, List.set_cons_succ, Nat.reduceAdd, Nat.reduceSub, if_true, Bool.false_eq_true, if_false, e1, inD_strs]
  split at q
  · rename_i h
    rw [decide_eq_true h]
    exact .now q
  · rename_i h
    rw [decide_eq_false h]
    exact ⟨by decide, q⟩
theorem getD_map {α : Type} (l : List α) (f : α → D) (i : Nat) (h : i < l.length) : (l.map f).getD i .non = f l[i] := by simp [List.getD, List.getElem?_eq_getElem h]
noncomputable def spLead : SpA := fun ds M Q _ => ∃ (js : List Jn) (n : Str), ds = [.lst (js.map eJ), .str n] ∧ js.length ≤ 300 ∧ Q (.lst ((lead js n).map eL)) M
theorem ok_joins_from {f : Addr} {fd : FuncData} (Fn : Fun K "joins_from" "joins_from" s_joins_from f fd) : FnOk P w K mg base (CXE P w) 1 f fd ["joins", "here"] (liftS K spLead) := by
  refine Fn.okA sc_joins_from (fun ds M Q E h => ?_) ?_
  · obtain ⟨a, b, rfl, _⟩ := h; rfl
  intro cdv A outer s H E F0 ds M Q Ea hr ct hsp
  obtain ⟨js, n, rfl, hl, q⟩ := hsp
  refine ⟨_, (ssCons (sSet (i := 2) sc_joins_from.nd rfl (Or.inl rfl) (paLstM aaNil))
      (ssCons (sFor ct (iList' (paV (pv 0))) (tgTup rfl (tgsCons (tgName (i := 3) sc_joins_from.nd rfl (Or.inl rfl)) (tgsCons (tgName (i := 4) sc_joins_from.nd rfl (Or.inl rfl)) (tgsCons (tgName (i := 5) sc_joins_from.nd rfl (Or.inl rfl)) (tgsCons (tgName (i := 6) sc_joins_from.nd rfl (Or.inl rfl)) tgsNil)))))
        (ssCons (sIf (ptCmp (op_eqs (un64 ct)) lEq (paV (pv 5)) (paV (pv 1)) (nomark _))
          (ssOne (sExpr (paBM PySem.F.plainAttrs_list PySem.F.slot_list_append PySem.F.type_list_append mt_append lAppend (paV (pv 2)) (aaCons (paTup (aaCons (paV (pv 3)) (aaCons (paV (pv 4)) (aaCons (paV (pv 6)) aaNil)))) aaNil))))
          ssNil)
        (ssOne (sIf (ptCmp (op_eqs (un64 ct)) lEq (paV (pv 6)) (paV (pv 1)) (nomark _))
          (ssOne (sExpr (paBM PySem.F.plainAttrs_list PySem.F.slot_list_append PySem.F.type_list_append mt_append lAppend (paV (pv 2)) (aaCons (paTup (aaCons (paV (pv 3)) (aaCons (paV (pv 4)) (aaCons (paV (pv 5)) aaNil)))) aaNil))))
          ssNil))))
      (ssOne (sRet (paV (pv 2)))))), ?_⟩
  simp only [aYes, Bool.and_self, at0, at1, at2, at3, aSeq, aNext, aIf, aFor, iaR1, iaR2, iaR3, iaS, iaL, gaN, aSl, aPart, aNoPart, aT, aOp, aV, aC, aRet, aRetN, aTup, aLst, aLstM, aCons, aNil, aAnd, aOr, aNot, aAndV, aOrV, aNotV, aSet, aAsg, aDrop, aCall, aFun, aUn, oAdd, addF, addC, oI, oIc, eqq_int, eqq_str, eqq_bl, neq_int, neq_str, neq_bl, oIsN, isNon, oNeg, oLen, lenF, lenC, oIx, ixF, ixC, oIn, inB, oSl, slF, slC, Option.bind_some, Option.map_some, true_and, L2.dq, L2.dr, L2.dl, L2.dd, both_some, opt_some, insAt_some, keyD, aFldC, aDPut, oDIn, aDGet, aDPop, aDGet1, aSetF, aDNew, aRaise, aMeth, oCat, oCatM, startA, List.map_cons, List.map_nil, List.length_cons, List.length_nil, List.replicate, List.cons_append, List.nil_append, List.getElem?_cons_zero, List.getElem?_cons_succ, List.set_cons_zero, List.set_cons_succ, Nat.reduceAdd, Nat.reduceSub, if_true, Bool.false_eq_true, if_false]
  refine ⟨Nat.le_of_ble_eq_true rfl, fun p hp => ?_⟩
  refine LoopP.by (fun i Γ M' => M' = put M p (.lst ((lead (js.take i) n).map eL)) ∧ ∃ a b c d, Γ = [some (.lst (js.map eJ)), some (.str n), some (.obj p), a, b, c, d]) ⟨rfl, _, _, _, _, rfl⟩ (fun _ _ _ _ => trivial) ?_ ?_
  · rintro i Γ M' hi ⟨rfl, a, b, c, d, rfl⟩
    dsimp only at hi
    have hi' : i < js.length := by simpa using hi
    have hll := lead_len (js.take i) n
    rw [List.length_take] at hll
    have hl2 : ((lead (js.take i) n).map eL).length ≤ 600 := by rw [List.length_map]; omega
    have et : lead (js.take (i + 1)) n = lead (js.take i) n ++ lead1 n js[i] := by
      unfold lead
      rw [List.take_succ_eq_append_getElem hi', List.flatMap_append]; simp
    simp only [getD_map js eJ i hi', eJ, gaTup, gaCons, gaNil, aYes, Bool.and_self, at0, at1, at2, at3, aSeq, aNext, aIf, aFor, iaR1, iaR2, iaR3, iaS, iaL, gaN, aSl, aPart, aNoPart, aT, aOp, aV, aC, aRet, aRetN, aTup, aLst, aLstM, aCons, aNil, aAnd, aOr, aNot, aAndV, aOrV, aNotV, aSet, aAsg, aDrop, aCall, aFun, aUn, oAdd, addF, addC, oI, oIc, eqq_int, eqq_str, eqq_bl, neq_int, neq_str, neq_bl, oIsN, isNon, oNeg, oLen, lenF, lenC, oIx, ixF, ixC, oIn, inB, oSl, slF, slC, Option.bind_some, Option.map_some, true_and, L2.dq, L2.dr, L2.dl, L2.dd, both_some, opt_some, insAt_some, keyD, aFldC, aDPut, oDIn, aDGet, aDPop, aDGet1, aSetF, aDNew, aRaise, aMeth, oCat, oCatM, startA, List.map_cons, List.map_nil, List.length_cons, List.length_nil, List.replicate, List.cons_append, List.nil_append, List.getElem?_cons_zero, List.getElem?_cons_succ, List.set_cons_zero, List.set_cons_succ, Nat.reduceAdd, Nat.reduceSub, if_true, Bool.false_eq_true, if_false, aBM, kindD, put_same, oAppend, put_put]
    refine ⟨rfl, ?_⟩
    rw [et]
    generalize (lead (js.take i) n) = L at hl2 et ⊢
    unfold lead1
    have h3 : ∀ x : D, (L.map eL ++ [x]).length < 1000 := fun x => by rw [List.length_append]; simp only [List.length_cons, List.length_nil]; omega
    by_cases h1 : js[i].2.2.1 = n <;> by_cases h2 : js[i].2.2.2 = n <;> simp only [h1, h2, decide_true, decide_false, if_true, if_false, Bool.false_eq_true]
    · exact ⟨by decide, by omega, by decide, h3 _, hi, by simp [eL], _, _, _, _, rfl⟩
    · exact ⟨by decide, by omega, hi, by simp [eL], _, _, _, _, rfl⟩
    · exact ⟨by decide, by omega, hi, by simp [eL], _, _, _, _, rfl⟩
    · exact ⟨hi, by simp [eL], _, _, _, _, rfl⟩
  · rintro Γ M' ⟨rfl, a, b, c, d, rfl⟩
    refine .fz hp ?_
    have e : (js.map eJ).length = js.length := List.length_map ..
    dsimp only
    rw [e, List.take_length]
    exact q

theorem put_swap {M : Mem} {p r : Addr} {a b c : MO} (h : r ≠ p) : put (put (put M p a) r b) p c = put (put M p c) r b := by
  funext x
  by_cases hx : x = p
  · subst hx; rw [put_same, put_ne h.symm, put_same]
  · rw [put_ne hx]
    by_cases hr : x = r
    · subst hr; rw [put_same, put_same]
    · rw [put_ne hr, put_ne hr, put_ne hx, put_ne hx]
noncomputable abbrev MT (M : Mem) (p r : Addr) (t : TT) (ws : List Str) : Mem := put (put M p (.dic (encT t))) r (.lst (ws.map D.str))
noncomputable def spTree : SpA := fun ds M Q _ => ∃ (js : List Jn) (n : Str), ds = [.lst (js.map eJ), .str n] ∧ js.length ≤ 300 ∧ ∀ t, Grown js n t → Closed js t → t.length ≤ 2 * js.length + 1 → ∀ p, M p = none → Q (.obj p) (put M p (.dic (encT t)))
theorem ok_tree_from {f : Addr} {fd : FuncData} (Fn : Fun K "tree_from" "tree_from" s_tree_from f fd) (T : Txt K mg) (h_joins_from : Has P w K mg base (CXE P w) 1 "joins_from" ["joins", "here"] (liftS K spLead)) : FnOk P w K mg base (CXE P w) 2 f fd ["joins", "start"] (liftS K spTree) := by
  refine Fn.okA sc_tree_from (fun ds M Q E h => ?_) ?_
  · obtain ⟨a, b, rfl, _⟩ := h; rfl
  intro cdv A outer s H E F0 ds M Q Ea hr ct hsp
  obtain ⟨js, n, rfl, hl, q⟩ := hsp
  refine ⟨_, (ssCons (sSet (i := 2) sc_tree_from.nd rfl (Or.inl rfl) (paDict1 (paV (pv 1)) paN))
      (ssCons (sSet (i := 3) sc_tree_from.nd rfl (Or.inl rfl) (paLstM (aaCons (paV (pv 1)) aaNil)))
      (ssCons (sWhile ct (ptCmp op_gt lGt (paCallB call_lens lLen (by rfl) T.len PySem.boot_len (aaCons (paV (pv 3)) aaNil)) paI (nomark _))
        (ssCons (sSet (i := 4) sc_tree_from.nd rfl (Or.inl rfl) (paBM PySem.F.plainAttrs_list PySem.F.slot_list_pop PySem.F.type_list_pop mt_popAt lPop0 (paV (pv 3)) (aaCons paI aaNil)))
        (ssOne (sFor ct (iList' (paFun h_joins_from (hr.mono (by decide)) (by rfl) ct (aaCons (paV (pv 0)) (aaCons (paV (pv 4)) aaNil)))) (tgTup rfl (tgsCons (tgName (i := 5) sc_tree_from.nd rfl (Or.inl rfl)) (tgsCons (tgName (i := 6) sc_tree_from.nd rfl (Or.inl rfl)) (tgsCons (tgName (i := 7) sc_tree_from.nd rfl (Or.inl rfl)) tgsNil))))
          (ssOne (sIf (ptPC (pcDNotIn (un1 ct) (paV (pv 7)) (paV (pv 2))))
            (ssCons (sPutD (un1 ct) (paV (pv 2)) (paV (pv 7)) (paTup (aaCons (paV (pv 5)) (aaCons (paV (pv 6)) (aaCons (paV (pv 4)) aaNil)))) rfl)
            (ssOne (sExpr (paBM PySem.F.plainAttrs_list PySem.F.slot_list_append PySem.F.type_list_append mt_append lAppend (paV (pv 3)) (aaCons (paV (pv 7)) aaNil)))))
            ssNil))))))
      (ssOne (sRet (paV (pv 2))))))), ?_⟩
  simp only [aDict1, aYes, Bool.and_self, at0, at1, at2, at3, aSeq, aNext, aIf, aFor, iaR1, iaR2, iaR3, iaS, iaL, gaN, aSl, aPart, aNoPart, aT, aOp, aV, aC, aRet, aRetN, aTup, aLst, aLstM, aCons, aNil, aAnd, aOr, aNot, aAndV, aOrV, aNotV, aSet, aAsg, aDrop, aCall, aFun, aUn, oAdd, addF, addC, oI, oIc, eqq_int, eqq_str, eqq_bl, neq_int, neq_str, neq_bl, oIsN, isNon, oNeg, oLen, lenF, lenC, oIx, ixF, ixC, oIn, inB, oSl, slF, slC, Option.bind_some, Option.map_some, true_and, L2.dq, L2.dr, L2.dl, L2.dd, both_some, opt_some, insAt_some, keyD, aFldC, aDPut, oDIn, aDGet, aDPop, aDGet1, aSetF, aDNew, aRaise, aMeth, oCat, oCatM, startA, List.map_cons, List.map_nil, List.length_cons, List.length_nil, List.replicate, List.cons_append, List.nil_append, List.getElem?_cons_zero, List.getElem?_cons_succ, List.set_cons_zero, List.set_cons_succ, Nat.reduceAdd, Nat.reduceSub, if_true, Bool.false_eq_true, if_false]
  intro p hp
  refine ⟨put_same, ?_⟩
  rw [put_put]
  refine ⟨Nat.le_of_ble_eq_true rfl, fun r hr' => ?_⟩
  have nrp : r ≠ p := by rintro rfl; rw [put_same] at hr'; cases hr'
  rw [put_ne nrp] at hr'
  have hu : unseen js [(n, none)] ≤ 2 * js.length := by
    have := List.length_filter_le (fun m => decide (m ∉ names [(n, none)])) (ends js)
    rw [ends_len] at this
    exact this
  refine ⟨fun m Γ M' => ∃ t ws o4 o5 o6 o7, Γ = [some (.lst (js.map eJ)), some (.str n), some (.obj p), some (.obj r), o4, o5, o6, o7] ∧ M' = MT M p r t ws ∧ Grown js n t ∧ (∀ x ∈ ws, x ∈ names t) ∧ (∀ x ∈ names t, x ∈ ws ∨ ∀ l ∈ lead js x, l.2.2 ∈ names t) ∧ ws.length + unseen js t ≤ m ∧ m ≤ 2 * js.length + 1 ∧ t.length + unseen js t ≤ 2 * js.length + 1,
    ⟨1 + unseen js [(n, none)], [(n, none)], [n], none, none, none, none, rfl, rfl, .root, fun x hx => hx, fun x hx => .inl hx, Nat.le_refl _, by omega, by simp only [List.length_cons, List.length_nil]; omega⟩, ?_⟩
  rintro m Γ M' ⟨t, ws, o4, o5, o6, o7, rfl, rfl, gr, hw, hc, hm, hm2, ht⟩
  have e1 : ∀ ws : List Str, lenF (MT M p r t ws) (.obj r) = some ws.length := by
    intro ws
    simp only [lenF, MT, L2.dd, L2.dq, put_same, Option.map_some, List.length_map]
  simp only [aT, aOp, aCall, aCons, aNil, aV, aC, oLen, lenC, List.getElem?_cons_zero, List.getElem?_cons_succ, opt_some, e1, true_and, oGt, oI]
  cases ws with
  | nil =>
    simp only [List.length_nil, Int.natCast_zero, gt_iff_lt, Int.lt_irrefl, decide_false, Bool.false_eq_true, if_false, aRet, aV, List.getElem?_cons_zero, List.getElem?_cons_succ, opt_some]
    refine .sub (.put (by rw [put_ne nrp]; exact hr')) (q t gr (fun x hx l hl' => ?_) (by omega) p hp)
    rcases hc x hx with h | h
    · cases h
    · exact h l hl'
  | cons x ws =>
    have hpos : decide ((0 : Int) < ((x :: ws).length : Int)) = true := decide_eq_true (by simp only [List.length_cons]; omega)
    simp only [hpos, if_true]
    have hx : x ∈ names t := hw x List.mem_cons_self
    simp only [aSeq, aSet, aBM, aV, aC, aCons, aNil, kindD, MT, put_same, oPop0, List.map_cons, put_put, true_and, aFor, iaL, aFun, List.set_cons_zero, List.set_cons_succ, List.getElem?_cons_zero, List.getElem?_cons_succ, opt_some]
    refine ⟨js, x, rfl, hl, ?_⟩
    simp only [L2.dr]
    have hll := lead_len js x
    simp only [List.length_cons] at hm
    refine LoopP.by (fun i Γ M' => ∃ t' ws2 o5 o6 o7, Γ = [some (.lst (js.map eJ)), some (.str n), some (.obj p), some (.obj r), some (.str x), o5, o6, o7] ∧ M' = MT M p r t' ws2 ∧ Grown js n t' ∧ x ∈ names t' ∧ (∀ y ∈ ws2, y ∈ names t') ∧ (∀ y ∈ names t', y ∈ ws2 ∨ y = x ∨ ∀ l ∈ lead js y, l.2.2 ∈ names t') ∧ (∀ (k : Nat) (h : k < (lead js x).length), k < i → (lead js x)[k].2.2 ∈ names t') ∧ ws2.length + unseen js t' + 1 ≤ m ∧ t'.length + unseen js t' ≤ 2 * js.length + 1)
      ⟨t, ws, o5, o6, o7, rfl, rfl, gr, hx, fun y hy => hw y (List.mem_cons_of_mem _ hy), fun y hy => ?_, fun k _ hk => absurd hk (Nat.not_lt_zero _), by omega, ht⟩ (fun _ _ _ _ => trivial) ?_ ?_
    · rcases hc y hy with h | h
      · rcases List.mem_cons.mp h with h | h
        · exact .inr (.inl h)
        · exact .inl h
      · exact .inr (.inr h)
    · clear hc hw ht hx gr o4 o5 o6 o7 hpos
      rintro i Γ M' hi ⟨t', ws2, o5, o6, o7, rfl, rfl, gr, hx, hw, hc, hd, hm, ht⟩
      have hi' : i < (lead js x).length := by simpa using hi
      have hmem : (lead js x)[i] ∈ lead js x := List.getElem_mem hi'
      have hend := lead_ends hmem
      simp only [getD_map _ _ _ hi']
      have step : ∀ k (h : k < (lead js x).length), k < i + 1 → k < i ∨ (lead js x)[k] = (lead js x)[i] := fun k h hk => by
        by_cases e : k = i
        · subst e; exact .inr rfl
        · exact .inl (by omega)
      generalize (lead js x)[i] = l at hmem hend step ⊢
      simp only [eL, gaTup, gaCons, gaNil, gaN, aIf, aT, aOp, aV, oDIn, L2.dq, L2.dd, keyD, both_some, MT, put_same, put_ne nrp.symm, getK_names, List.set_cons_zero, List.set_cons_succ, List.getElem?_cons_zero, List.getElem?_cons_succ, opt_some, if_true]
      refine ⟨rfl, trivial, ?_⟩
      by_cases hin : l.2.2 ∈ names t'
      · simp only [hin, decide_true, Bool.not_true, Bool.false_eq_true, if_false, aNext]
        refine ⟨hi, t', ws2, _, _, _, rfl, rfl, gr, hx, hw, hc, fun k h hk => ?_, hm, ht⟩
        rcases step k h hk with h' | h'
        · exact hd k h h'
        · rw [h']; exact hin
      · have hless := unseen_less (e := some (l.1, l.2.1, x)) hend hin
        simp only [hin, decide_false, Bool.not_false, if_true, aSeq, aDPut, aTup, aCons, aNil, aV, L2.dd, keyD, both_some, put_same, put_ne nrp.symm, List.getElem?_cons_zero, List.getElem?_cons_succ, opt_some]
        have e2 : putKD (encT t') (Sum.inr l.2.2) (.tup [.int l.1, .str l.2.1, .str x]) = encT (t' ++ [(l.2.2, some (l.1, l.2.1, x))]) := putK_encT (l := (l.1, l.2.1, x)) hin
        rw [e2, put_swap nrp]
        have hlen : (encT t').length = t'.length := List.length_map ..
        refine ⟨Nat.le_of_ble_eq_true rfl, by rw [hlen]; omega, ?_⟩
        simp only [aDrop, aBM, aV, aCons, aNil, kindD, put_same, oAppend, put_put, true_and, List.length_map, List.getElem?_cons_zero, List.getElem?_cons_succ, opt_some]
        have nm := names_app t' l.2.2 (some (l.1, l.2.1, x))
        refine ⟨by omega, hi', t' ++ [(l.2.2, some (l.1, l.2.1, x))], ws2 ++ [l.2.2], _, _, _, rfl, by simp [MT], .more t' l.2.2 (l.1, l.2.1, x) gr hin hx hmem, ?_, ?_, ?_, ?_, ?_, ?_⟩
        · rw [nm]; exact List.mem_append_left _ hx
        · intro y hy
          rw [nm]
          rcases List.mem_append.mp hy with hy | hy
          · exact List.mem_append_left _ (hw y hy)
          · exact List.mem_append_right _ hy
        · intro y hy
          rw [nm] at hy ⊢
          rcases List.mem_append.mp hy with hy | hy
          · rcases hc y hy with h | h | h
            · exact .inl (List.mem_append_left _ h)
            · exact .inr (.inl h)
            · exact .inr (.inr fun l' hl' => List.mem_append_left _ (h l' hl'))
          · exact .inl (List.mem_append_right _ hy)
        · intro k h hk
          rw [nm]
          rcases step k h hk with h' | h'
          · exact List.mem_append_left _ (hd k h h')
          · rw [h']; exact List.mem_append_right _ (by simp)
        · rw [List.length_append]; simp only [List.length_cons, List.length_nil]; omega
        · rw [List.length_append]; simp only [List.length_cons, List.length_nil]; omega
    · rintro Γ M' ⟨t', ws2, o5, o6, o7, rfl, rfl, gr, hx, hw, hc, hd, hm', ht⟩
      refine ⟨m - 1, by omega, t', ws2, _, o5, o6, o7, rfl, rfl, gr, hw, fun y hy => ?_, by omega, by omega, ht⟩
      rcases hc y hy with h | h | h
      · exact .inl h
      · subst h
        refine .inr fun l hl' => ?_
        obtain ⟨k, hk, e⟩ := List.getElem_of_mem hl'
        rw [← e]
        exact hd k hk (by simpa using hk)
      · exact .inr h
noncomputable def eSt (s : Int × Str) : D := .tup [.int s.1, .str s.2]
noncomputable def spRoadBy : SpA := fun ds M Q _ => ∃ (js : List Jn) (a b : Str), ds = [.lst (js.map eJ), .str a, .str b] ∧ js.length ≤ 300 ∧ (¬ Reach js a b → Q .non M) ∧
  ∀ st, Way js a st b → (a :: st.map Prod.snd).Nodup → st.length ≤ 2 * js.length → ∀ p, M p = none → Q (.obj p) (put M p (.lst (st.map eSt)))
theorem ok_road_by {f : Addr} {fd : FuncData} (Fn : Fun K "road_by" "road_by" s_road_by f fd) (h_tree_from : Has P w K mg base (CXE P w) 2 "tree_from" ["joins", "start"] (liftS K spTree)) : FnOk P w K mg base (CXE P w) 3 f fd ["joins", "one", "other"] (liftS K spRoadBy) := by
  refine Fn.okA sc_road_by (fun ds M Q E h => ?_) ?_
  · obtain ⟨a, b, c, rfl, _⟩ := h; rfl
  intro cdv A outer s H E F0 ds M Q Ea hr ct hsp
  obtain ⟨js, a, b, rfl, hl, qn, q⟩ := hsp
  refine ⟨_, (ssCons (sSet (i := 3) sc_road_by.nd rfl (Or.inl rfl) (paFun h_tree_from (hr.mono (by decide)) (by rfl) ct (aaCons (paV (pv 0)) (aaCons (paV (pv 1)) aaNil))))
      (ssCons (sIf (ptPC (pcDNotIn (un1 ct) (paV (pv 2)) (paV (pv 3))))
        (ssOne (sRet paN))
        ssNil)
      (ssCons (sSet (i := 4) sc_road_by.nd rfl (Or.inl rfl) (paLstM aaNil))
      (ssCons (sSet (i := 5) sc_road_by.nd rfl (Or.inl rfl) (paV (pv 2)))
      (ssCons (sWhile ct (ptCmp (op_nes (un64 ct)) lNe (paV (pv 5)) (paV (pv 1)) (nomark _))
        (ssCons (sSet (i := 6) sc_road_by.nd rfl (Or.inl rfl) (paDGet (un1 ct) (paV (pv 3)) (paV (pv 5)) (fun _ _ => rfl)))
        (ssCons (sExpr (paBM PySem.F.plainAttrs_list PySem.F.slot_list_append PySem.F.type_list_append mt_append lAppend (paV (pv 4)) (aaCons (paTup (aaCons (paIx ix_seq lIx (paV (pv 6)) paI (fun _ _ => rfl)) (aaCons (paV (pv 5)) aaNil))) aaNil)))
        (ssOne (sSet (i := 5) sc_road_by.nd rfl (Or.inl rfl) (paIx ix_seq lIx (paV (pv 6)) paI (fun _ _ => rfl)))))))
      (ssCons (sExpr (paBM0 PySem.F.plainAttrs_list PySem.F.slot_list_reverse PySem.F.type_list_reverse mt_reverse lReverse (paV (pv 4))))
      (ssOne (sRet (paV (pv 4)))))))))), ?_⟩
  simp only [aSeq, aSet, aFun, aCons, aNil, aV, startA, List.map_cons, List.map_nil, List.length_cons, List.length_nil, List.replicate, List.cons_append, List.nil_append, Nat.reduceAdd, Nat.reduceSub, List.set_cons_zero, List.set_cons_succ, List.getElem?_cons_zero, List.getElem?_cons_succ, opt_some]
  refine ⟨js, a, rfl, hl, fun t gr cl hlen p hp => ?_⟩
  simp only [aIf, aT, aOp, aV, oDIn, L2.dd, keyD, both_some, put_same, getK_names, if_true, List.getElem?_cons_zero, List.getElem?_cons_succ, opt_some]
  by_cases hin : b ∈ names t
  · simp only [hin, decide_true, Bool.not_true, Bool.false_eq_true, if_false, aNext, aSeq, aSet, aLstM, aNil, aV, List.length_nil, List.set_cons_zero, List.set_cons_succ, List.getElem?_cons_zero, List.getElem?_cons_succ, opt_some]
    refine ⟨Nat.zero_le _, fun r hr' => ?_⟩
    have nrp : r ≠ p := by rintro rfl; rw [put_same] at hr'; cases hr'
    rw [put_ne nrp] at hr'
    refine ⟨fun m Γ M' => ∃ (x : Str) (acc : List (Int × Str)) (t1 t2 : TT) (o6 : Option D), Γ = [some (.lst (js.map eJ)), some (.str a), some (.str b), some (.obj p), some (.obj r), some (.str x), o6] ∧ M' = put (put M p (.dic (encT t))) r (.lst (acc.reverse.map eSt)) ∧ t = t1 ++ t2 ∧ Grown js a t1 ∧ x ∈ names t1 ∧ t1.length ≤ m ∧ acc.length + t1.length ≤ t.length ∧ Way js x acc b ∧ (acc.map Prod.snd).Nodup ∧ ∀ y ∈ acc.map Prod.snd, y ∉ names t1,
      ⟨t.length, b, [], t, [], none, rfl, rfl, by simp, gr, hin, Nat.le_refl _, by simp, .nil b, by simp, fun y hy => (List.not_mem_nil hy).elim⟩, ?_⟩
    rintro m Γ M' ⟨x, acc, t1, t2, o6, rfl, rfl, et, g1, hx, hm, hb, wy, nd, dj⟩
    simp only [aT, aOp, aV, neq_str, List.getElem?_cons_zero, List.getElem?_cons_succ, opt_some]
    by_cases hxa : x = a
    · subst hxa
      simp only [decide_true, Bool.not_true, Bool.false_eq_true, if_false]
      have hpos : 0 < t1.length := by cases t1 with | nil => cases hx | cons _ _ => simp
      simp only [aSeq, aDrop, aBM0, aV, kindD, put_same, oReverse, put_put, true_and, aRet, List.getElem?_cons_zero, List.getElem?_cons_succ, opt_some, ← List.map_reverse, List.reverse_reverse]
      rw [put_comm nrp.symm]
      have npr : (put M r (.lst (acc.map eSt))) p = none := by rw [put_ne nrp.symm]; exact hp
      exact .sub (.put npr) (q acc wy (List.nodup_cons.mpr ⟨fun z => dj x z hx, nd⟩) (by omega) r hr')
    · simp only [hxa, decide_false, Bool.not_false, if_true]
      obtain ⟨t0, e, t3, g0, e1, h1, h2, h3⟩ := g1.came hx hxa
      have eg : getK (encT t) (Sum.inr x) = some (eL e) := by
        have e2 : t = t0 ++ (x, some e) :: (t3 ++ t2) := by rw [et, e1]; simp
        rw [e2]; exact getK_encT t0 _ x (some e) h1
      have l1 : t1.length = t0.length + 1 + t3.length := by rw [e1]; simp; omega
      simp only [aSeq, aSet, aDGet, aV, L2.dd, keyD, both_some, put_same, put_ne nrp.symm, eg, opt_some, List.set_cons_zero, List.set_cons_succ, List.getElem?_cons_zero, List.getElem?_cons_succ]
      simp only [eL, aDrop, aBM, aV, aC, aTup, aCons, aNil, aOp, oIx, ixC, ixF, L2.dq, at0, at2, kindD, put_same, oAppend, put_put, true_and, aSet, Option.bind_some, opt_some, List.length_map, List.length_reverse, List.set_cons_zero, List.set_cons_succ, List.getElem?_cons_zero, List.getElem?_cons_succ]
      refine ⟨Nat.le_of_ble_eq_true rfl, by omega, t0.length, by omega, e.2.2, (e.1, x) :: acc, t0, (x, some e) :: (t3 ++ t2), _, rfl, by simp [eSt], by rw [et, e1]; simp, g0, h2, Nat.le_refl _, by simp only [List.length_cons]; omega, .cons (l := (e.1, e.2.1, x)) h3 wy, ?_, ?_⟩
      · simp only [List.map_cons]
        exact List.nodup_cons.mpr ⟨fun z => dj x z hx, nd⟩
      · intro y hy hy0
        simp only [List.map_cons] at hy
        rcases List.mem_cons.mp hy with h | h
        · subst h; exact h1 hy0
        · refine dj y h ?_
          rw [e1]
          unfold names at hy0 ⊢
          rw [List.map_append]
          exact List.mem_append_left _ hy0
  · simp only [hin, decide_false, Bool.not_false, if_true, aRet, aC]
    exact .sub (.put hp) (qn fun z => hin (gr.all cl z))
theorem no_wheels {d1 d2 : Addr} {n : Int} : (fsT d1 d2 n).lookup ("wheels" : Str) = none := rfl
theorem no_joins {d1 d2 : Addr} {n : Int} : (fsT d1 d2 n).lookup ("joins" : Str) = none := rfl
theorem rd_wheels {C : Addr} {M : Mem} {p d1 d2 : Addr} {S : TS} {R : AX} {Γ : G} {Q : AK} {t_o : AE} (tr : Tr C M p d1 d2 S) (hto : ∀ R : AK, R (.obj p) M → t_o Γ M R) (q : Q (.lst (S.ws.map eW)) M) : aFz (aMeth C "wheels" (spWheels C) R t_o aNil) Γ M Q := by
  refine hto _ ?_
  dsimp only
  rw [tr.self, insAt_some]
  refine ⟨no_wheels, p, d1, d2, S, rfl, tr, fun l hl => ?_⟩
  dsimp only
  rw [put_same]
  dsimp only
  rw [del_put hl]; exact q
theorem rd_joins {C : Addr} {M : Mem} {p d1 d2 : Addr} {S : TS} {R : AX} {Γ : G} {Q : AK} {t_o : AE} (tr : Tr C M p d1 d2 S) (hto : ∀ R : AK, R (.obj p) M → t_o Γ M R) (q : Q (.lst (S.js.map eJ)) M) : aFz (aMeth C "joins" (spJoins C) R t_o aNil) Γ M Q := by
  refine hto _ ?_
  dsimp only
  rw [tr.self, insAt_some]
  refine ⟨no_joins, p, d1, d2, S, rfl, tr, fun l hl => ?_⟩
  dsimp only
  rw [put_same]
  dsimp only
  rw [del_put hl]; exact q
noncomputable def row0 : D → D
  | .tup (d :: _) => d
  | d => d
theorem names_of (S : TS) : (S.ws.map eW).map row0 = (S.ws.map Prod.fst).map D.str := by
  rw [List.map_map, List.map_map]; rfl
noncomputable def spRoad (C : Addr) (EC : Rk → Addr) : SpA := fun ds M Q E => ∃ (p d1 d2 : Addr) (S : TS) (a b : Str), ds = [.obj p, .str a, .str b] ∧ Tr C M p d1 d2 S ∧ S.ws.length ≤ 1000 ∧ S.js.length ≤ 300 ∧
  if a ∈ S.ws.map Prod.fst ∧ b ∈ S.ws.map Prod.fst then (¬ Reach S.js a b → Q .non M) ∧ ∀ st, Way S.js a st b → (a :: st.map Prod.snd).Nodup → st.length ≤ 2 * S.js.length → ∀ p, M p = none → Q (.obj p) (put M p (.lst (st.map eSt))) else E (.ref (EC .noWheel)) M
theorem ok_road {f C : Addr} {fd : FuncData} {EC : Rk → Addr} (Fn : Fun K "road" "road" s_road f fd) (h_wheels : HasM P w K mg base (CXE P w) 1 C "wheels" ["self"] (liftS K (spWheels C))) (h_joins : HasM P w K mg base (CXE P w) 1 C "joins" ["self"] (liftS K (spJoins C)))
    (h_refuse_unknown : Has P w K mg base (CXE P w) 1 "refuse_unknown" ["names", "name"] (liftS K (spRefuse EC))) (h_road_by : Has P w K mg base (CXE P w) 3 "road_by" ["joins", "one", "other"] (liftS K spRoadBy)) : FnOk P w K mg base (CXE P w) 4 f fd ["train", "one", "other"] (liftS K (spRoad C EC)) := by
  refine Fn.okA sc_road (fun ds M Q E h => ?_) ?_
  · obtain ⟨_, _, _, _, _, _, rfl, _⟩ := h; rfl
  intro cdv A outer s H E F0 ds M Q Ea hr ct hsp
  obtain ⟨p, d1, d2, S, a, b, rfl, tr, hw, hj, q⟩ := hsp
  refine ⟨_, (ssCons (sCompZ (i := 3) sc_road.nd rfl rfl (Nc := ["wheel"]) (n := 1) (fs := []) comp0 rfl (iList' (paFz (paMeth0 h_wheels (hr.mono (by decide)) ct (paV (pv 0))))) (fun _ _ _ _ _ => (tgName (i := 0) (show List.Nodup (["wheel"] : List Str) by decide +kernel) rfl (Or.inl rfl))) (fun _ _ _ _ _ => fiNil) (fun _ _ _ _ _ => (paIx ix_seq lIx (paV (pv 0)) paI (fun _ _ => rfl))) (by rfl))
      (ssCons (sExpr (paFun h_refuse_unknown (hr.mono (by decide)) (by rfl) ct (aaCons (paV (pv 3)) (aaCons (paV (pv 1)) aaNil))))
      (ssCons (sExpr (paFun h_refuse_unknown (hr.mono (by decide)) (by rfl) ct (aaCons (paV (pv 3)) (aaCons (paV (pv 2)) aaNil))))
      (ssOne (sRet (paFun h_road_by (hr.mono (by decide)) (by rfl) ct (aaCons (paFz (paMeth0 h_joins (hr.mono (by decide)) ct (paV (pv 0)))) (aaCons (paV (pv 1)) (aaCons (paV (pv 2)) aaNil))))))))), ?_⟩
  simp only [aSeq, aSet, aDrop, aFun, aCons, aNil, aV, startA, List.map_cons, List.map_nil, List.length_cons, List.length_nil, List.replicate, List.cons_append, List.nil_append, Nat.reduceAdd, Nat.reduceSub, List.set_cons_zero, List.set_cons_succ, List.getElem?_cons_zero, List.getElem?_cons_succ, opt_some]
  refine compL (S.ws.map eW) row0 (fun R h => rd_wheels tr (fun R h => h) h) (by simpa using hw) (fun x hx M' R h => ?_) ?_
  · obtain ⟨w', _, rfl⟩ := List.mem_map.mp hx
    exact ⟨trivial, h⟩
  rw [names_of]
  refine ⟨_, a, rfl, ?_⟩
  by_cases ha : a ∈ S.ws.map Prod.fst
  · rw [if_pos ha]
    refine ⟨_, b, rfl, ?_⟩
    by_cases hb : b ∈ S.ws.map Prod.fst
    · rw [if_pos hb]
      rw [if_pos ⟨ha, hb⟩] at q
      simp only [aRet, aFun, aCons, aNil, aV, List.set_cons_zero, List.set_cons_succ, List.getElem?_cons_zero, List.getElem?_cons_succ, opt_some]
      refine rd_joins tr (fun R h => h) ?_
      exact ⟨S.js, a, b, rfl, hj, fun z => .now (q.1 z), fun st h1 h2 h3 r hr' => .now (q.2 st h1 h2 h3 r hr')⟩
    · rw [if_neg hb]
      rw [if_neg fun z => hb z.2] at q
      exact q
  · rw [if_neg ha]
    rw [if_neg fun z => ha z.1] at q
    exact q


theorem seqV {i : Nat} {te : AE} {rest : AS} {E : AEnds} {Γ : G} {M : Mem} (d : D) (M1 : Mem) (hte : ∀ R : AK, R d M1 → te Γ M R) (h : rest E (Γ.set i (some d)) M1) : aSeq (aSet i te) rest E Γ M := hte _ h
theorem setV {i : Nat} {te : AE} {E : AEnds} {Γ : G} {M : Mem} (d : D) (M1 : Mem) (hte : ∀ R : AK, R d M1 → te Γ M R) (h : E.nx (Γ.set i (some d)) M1) : aSet i te E Γ M := hte _ h
theorem dropV {te : AE} {rest : AS} {E : AEnds} {Γ : G} {M : Mem} (d : D) (M1 : Mem) (hte : ∀ R : AK, R d M1 → te Γ M R) (h : rest E Γ M1) : aSeq (aDrop te) rest E Γ M := hte _ h
theorem dropE {te : AE} {E : AEnds} {Γ : G} {M : Mem} (d : D) (M1 : Mem) (hte : ∀ R : AK, R d M1 → te Γ M R) (h : E.nx Γ M1) : aDrop te E Γ M := hte _ h
theorem ifV {c : AT} {t u : AS} {E : AEnds} {Γ : G} {M : Mem} (b : Bool) (hc : ∀ R : Bool → Mem → Prop, R b M → c Γ M R) (h : if b = true then t E Γ M else u E Γ M) : aIf c t u E Γ M := hc _ h
theorem cut1 {t rest : AS} {E : AEnds} {Γ : G} {M : Mem} (R : G → Mem → Prop) (hr : ∀ Γ M, R Γ M → rest E Γ M) (h : ∀ rest' : AS, (∀ Γ M, R Γ M → rest' E Γ M) → aSeq t rest' E Γ M) : aSeq t rest E Γ M := h rest hr
theorem cut2 {t1 t2 rest : AS} {E : AEnds} {Γ : G} {M : Mem} (R : G → Mem → Prop) (hr : ∀ Γ M, R Γ M → rest E Γ M) (h : ∀ rest' : AS, (∀ Γ M, R Γ M → rest' E Γ M) → aSeq t1 (aSeq t2 rest') E Γ M) : aSeq t1 (aSeq t2 rest) E Γ M := h rest hr
theorem LoopP.by2 {S : Src} {gt : AGt} {tb : AS} {E : AEnds} {Γ : G} {M : Mem} (W : Nat → G → Mem → Prop) (h0 : W 0 Γ M) (hl : ∀ i Γ M, W i Γ M → S.held M)
    (step : ∀ (E' : AEnds) i Γ M, E'.rt = E.rt → i < S.n → (∀ Γ' M', W (i + 1) Γ' M' → E'.nx Γ' M') → W i Γ M → gt (S.item i) Γ M fun Γ2 M2 => tb E' Γ2 M2) (done : ∀ Γ M, W S.n Γ M → E.nx Γ M) : LoopP S gt tb E Γ M :=
  LoopP.by W h0 hl (fun i Γ M hi w => step _ i Γ M rfl hi (fun _ _ h => ⟨hi, h⟩) w) done
theorem cT {c : AT} {Γ : G} {M : Mem} {A B : Mem → Prop} (hc : ∀ R : Bool → Mem → Prop, R true M → c Γ M R) (h : A M) : c Γ M fun b M1 => if b = true then A M1 else B M1 := hc _ (by rw [if_pos rfl]; exact h)

theorem str_len (a b : Str) : (a ++ b).length = a.length + b.length := PySem.Str.length_append a b
theorem app_arr (l m : List Nat) : (⟨l.toArray⟩ : Str) ++ ⟨m.toArray⟩ = ⟨(l ++ m).toArray⟩ := by
  show Str.mk (l.toArray ++ m.toArray) = _
  simp
theorem one_len (c : Nat) : (⟨#[c]⟩ : Str).length = 1 := rfl
theorem letter_at (k : Nat) (h : k < 26) : atI ("abcdefghijklmnopqrstuvwxyz" : Str).cps.toList (k : Int) = some (97 + k) := by
  have e : ∀ k, k < 26 → ("abcdefghijklmnopqrstuvwxyz" : Str).cps.toList[k]? = some (97 + k) := by decide +kernel
  exact atI_nat (e k h)
theorem sl_a (j : Nat) (h : j < 7) : Txt.slice "aaaaaa" none (some (j : Int)) = ⟨(List.replicate j 97).toArray⟩ := by
  have : ∀ j : Nat, j < 7 → Txt.slice "aaaaaa" none (some (j : Int)) = ⟨(List.replicate j 97).toArray⟩ := by decide +kernel
  exact this j h
theorem sl_q (j : Nat) (h : j < 7) : Txt.slice "qqqqqq" none (some (j : Int)) = ⟨(List.replicate j 113).toArray⟩ := by
  have : ∀ j : Nat, j < 7 → Txt.slice "qqqqqq" none (some (j : Int)) = ⟨(List.replicate j 113).toArray⟩ := by decide +kernel
  exact this j h
noncomputable def spName : SpA := fun ds M Q _ => ∃ k s : Nat, ds = [.int k, .int s] ∧ Q (.str (wName s k)) M
theorem ok_law_name {f : Addr} {fd : FuncData} (Fn : Fun K "_law_name" "_law_name" s_law_name f fd) : FnOk P w K mg base (CXE P w) 1 f fd ["_law_k", "_law_spin"] (liftS K spName) := by
  refine Fn.okA sc_law_name (fun ds M Q E h => ?_) ?_
  · obtain ⟨a, b, rfl, _⟩ := h; rfl
  intro cdv A outer s H E F0 ds M Q Ea hr ct hsp
  obtain ⟨k, sp, rfl, q⟩ := hsp
  refine ⟨_, (ssCons (sSet (i := 2) sc_law_name.nd rfl (Or.inl rfl) paS)
      (ssCons (sSet (i := 3) sc_law_name.nd rfl (Or.inl rfl) (paIx ix_seq lIx (paV (pv 2)) (paOp op_mod lMod (paOp op_adds lAdd (paOp op_fdiv lDiv (paV (pv 0)) paI) (paV (pv 1))) paI) (fun _ _ => rfl)))
      (ssCons (sSet (i := 4) sc_law_name.nd rfl (Or.inl rfl) (paIx ix_seq lIx (paV (pv 2)) (paOp op_mod lMod (paOp op_adds lAdd (paV (pv 0)) (paV (pv 1))) paI) (fun _ _ => rfl)))
      (ssCons (sIf ((pwAnd (ptCmp (op_eqs (un64 ct)) lEq (paOp op_mod lMod (paV (pv 1)) paI) paI (nomark _)) (pwAnd1 (ptCmp op_lt lLt (paV (pv 0)) paI (nomark _))))).pt
        (ssOne (sRet (paV (pv 4))))
        ssNil)
      (ssCons (sIf (ptCmp (op_eqs (un64 ct)) lEq (paOp op_mod lMod (paV (pv 1)) paI) paI (nomark _))
        (ssOne (sRet (paOp op_adds lAdd (paV (pv 3)) (paV (pv 4)))))
        ssNil)
      (ssCons (sIf (ptCmp (op_eqs (un64 ct)) lEq (paOp op_mod lMod (paV (pv 1)) paI) paI (nomark _))
        (ssOne (sRet (paOp op_adds lAdd (paOp op_adds lAdd (paSl sl_all lSl paS poN (poS (paOp op_mod lMod (paV (pv 1)) paI))) (paV (pv 3))) (paV (pv 4)))))
        ssNil)
      (ssOne (sRet (paOp op_adds lAdd (paOp op_adds lAdd (paV (pv 3)) (paV (pv 4))) (paSl sl_all lSl paS poN (poS (paOp op_mod lMod (paOp op_adds lAdd (paV (pv 1)) (paV (pv 0))) paI)))))))))))), ?_⟩
  have e1 : ((k : Int) / 26 + (sp : Int)) % 26 = (((k / 26 + sp) % 26 : Nat) : Int) := by omega
  have e2 : ((k : Int) + (sp : Int)) % 26 = (((k + sp) % 26 : Nat) : Int) := by omega
  have e3 : (sp : Int) % 7 = ((sp % 7 : Nat) : Int) := by omega
  have e4 : ((sp : Int) + (k : Int)) % 7 = (((sp + k) % 7 : Nat) : Int) := by omega
  have hl : ∀ n, n ≤ 100 → n ≤ sizeLine := fun n h => k1000 (by omega)
  have h26 : ("abcdefghijklmnopqrstuvwxyz" : Str).length ≤ sizeLine := by decide +kernel
  have ha : ("aaaaaa" : Str).length ≤ sizeLine := by decide +kernel
  have hq : ("qqqqqq" : Str).length ≤ sizeLine := by decide +kernel
  by_cases h0 : sp % 3 = 0
  · have d0 : decide ((sp : Int) % 3 = 0) = true := decide_eq_true (by omega)
    by_cases hk : k < 26
    · have dk : decide ((k : Int) < 26) = true := decide_eq_true (by omega)
      simp only [aYes, Bool.and_self, at0, at1, at2, at3, aSeq, aNext, aIf, aFor, iaR1, iaR2, iaR3, iaS, iaL, gaN, aSl, aPart, aNoPart, aT, aOp, aV, aC, aRet, aRetN, aTup, aLst, aLstM, aCons, aNil, aAnd, aOr, aNot, aAndV, aOrV, aNotV, aSet, aAsg, aDrop, aCall, aFun, aUn, oAdd, addF, addC, oI, oIc, eqq_int, eqq_str, eqq_bl, neq_int, neq_str, neq_bl, oIsN, isNon, oNeg, oLen, lenF, lenC, oIx, ixF, ixC, oIn, inB, oSl, slF, slC, Option.bind_some, Option.map_some, true_and, L2.dq, L2.dr, L2.dl, L2.dd, both_some, opt_some, insAt_some, keyD, aFldC, aDPut, oDIn, aDGet, aDPop, aDGet1, aSetF, aDNew, aRaise, aMeth, oCat, oCatM, startA, List.map_cons, List.map_nil, List.length_cons, List.length_nil, List.replicate, List.cons_append, List.nil_append, List.getElem?_cons_zero, List.getElem?_cons_succ, List.set_cons_zero, List.set_cons_succ, Nat.reduceAdd, Nat.reduceSub, if_true, Bool.false_eq_true, if_false, e1, e2, letter_at _ (Nat.mod_lt _ (show 0 < 26 by decide)), d0, dk]
      have e : wName sp k = ⟨#[97 + (k + sp) % 26]⟩ := by unfold wName wNameL chL; rw [if_pos h0, if_pos hk]
      rw [e] at q
      exact ⟨⟨by decide, by decide⟩, by decide, h26, by decide, h26, by decide, .now q⟩
    · have dk : decide ((k : Int) < 26) = false := decide_eq_false (by omega)
      simp only [aYes, Bool.and_self, at0, at1, at2, at3, aSeq, aNext, aIf, aFor, iaR1, iaR2, iaR3, iaS, iaL, gaN, aSl, aPart, aNoPart, aT, aOp, aV, aC, aRet, aRetN, aTup, aLst, aLstM, aCons, aNil, aAnd, aOr, aNot, aAndV, aOrV, aNotV, aSet, aAsg, aDrop, aCall, aFun, aUn, oAdd, addF, addC, oI, oIc, eqq_int, eqq_str, eqq_bl, neq_int, neq_str, neq_bl, oIsN, isNon, oNeg, oLen, lenF, lenC, oIx, ixF, ixC, oIn, inB, oSl, slF, slC, Option.bind_some, Option.map_some, true_and, L2.dq, L2.dr, L2.dl, L2.dd, both_some, opt_some, insAt_some, keyD, aFldC, aDPut, oDIn, aDGet, aDPop, aDGet1, aSetF, aDNew, aRaise, aMeth, oCat, oCatM, startA, List.map_cons, List.map_nil, List.length_cons, List.length_nil, List.replicate, List.cons_append, List.nil_append, List.getElem?_cons_zero, List.getElem?_cons_succ, List.set_cons_zero, List.set_cons_succ, Nat.reduceAdd, Nat.reduceSub, if_true, Bool.false_eq_true, if_false, e1, e2, letter_at _ (Nat.mod_lt _ (show 0 < 26 by decide)), d0, dk]
      have e : wName sp k = ⟨#[97 + (k / 26 + sp) % 26]⟩ ++ ⟨#[97 + (k + sp) % 26]⟩ := by unfold wName wNameL chL chF; rw [if_pos h0, if_neg hk]; rfl
      rw [e] at q
      exact ⟨⟨by decide, by decide⟩, by decide, h26, by decide, h26, by decide, by decide, by rw [one_len, one_len]; exact hl _ (by decide), .now q⟩
  · have d0 : decide ((sp : Int) % 3 = 0) = false := decide_eq_false (by omega)
    by_cases h1 : sp % 3 = 1
    · have d1 : decide ((sp : Int) % 3 = 1) = true := decide_eq_true (by omega)
      simp only [aYes, Bool.and_self, at0, at1, at2, at3, aSeq, aNext, aIf, aFor, iaR1, iaR2, iaR3, iaS, iaL, gaN, aSl, aPart, aNoPart, aT, aOp, aV, aC, aRet, aRetN, aTup, aLst, aLstM, aCons, aNil, aAnd, aOr, aNot, aAndV, aOrV, aNotV, aSet, aAsg, aDrop, aCall, aFun, aUn, oAdd, addF, addC, oI, oIc, eqq_int, eqq_str, eqq_bl, neq_int, neq_str, neq_bl, oIsN, isNon, oNeg, oLen, lenF, lenC, oIx, ixF, ixC, oIn, inB, oSl, slF, slC, Option.bind_some, Option.map_some, true_and, L2.dq, L2.dr, L2.dl, L2.dd, both_some, opt_some, insAt_some, keyD, aFldC, aDPut, oDIn, aDGet, aDPop, aDGet1, aSetF, aDNew, aRaise, aMeth, oCat, oCatM, startA, List.map_cons, List.map_nil, List.length_cons, List.length_nil, List.replicate, List.cons_append, List.nil_append, List.getElem?_cons_zero, List.getElem?_cons_succ, List.set_cons_zero, List.set_cons_succ, Nat.reduceAdd, Nat.reduceSub, if_true, Bool.false_eq_true, if_false, e1, e2, e3, letter_at _ (Nat.mod_lt _ (show 0 < 26 by decide)), sl_a _ (Nat.mod_lt _ (show 0 < 7 by decide)), d0, d1]
      have e : wName sp k = ⟨(List.replicate (sp % 7) 97).toArray⟩ ++ ⟨#[97 + (k / 26 + sp) % 26]⟩ ++ ⟨#[97 + (k + sp) % 26]⟩ := by
        unfold wName wNameL chL chF; rw [if_neg h0, if_pos h1, app_arr, app_arr, List.append_assoc]; rfl
      rw [e] at q
      have hr1 : (⟨(List.replicate (sp % 7) 97).toArray⟩ : Str).length = sp % 7 := by simp [Str.length]
      exact ⟨⟨by decide, by decide⟩, by decide, h26, by decide, h26, by decide, by decide, by decide, by decide, ha, by rw [one_len, hr1]; exact hl _ (by omega), by rw [str_len, one_len, hr1, one_len]; exact hl _ (by omega), .now q⟩
    · have d1 : decide ((sp : Int) % 3 = 1) = false := decide_eq_false (by omega)
      simp only [aYes, Bool.and_self, at0, at1, at2, at3, aSeq, aNext, aIf, aFor, iaR1, iaR2, iaR3, iaS, iaL, gaN, aSl, aPart, aNoPart, aT, aOp, aV, aC, aRet, aRetN, aTup, aLst, aLstM, aCons, aNil, aAnd, aOr, aNot, aAndV, aOrV, aNotV, aSet, aAsg, aDrop, aCall, aFun, aUn, oAdd, addF, addC, oI, oIc, eqq_int, eqq_str, eqq_bl, neq_int, neq_str, neq_bl, oIsN, isNon, oNeg, oLen, lenF, lenC, oIx, ixF, ixC, oIn, inB, oSl, slF, slC, Option.bind_some, Option.map_some, true_and, L2.dq, L2.dr, L2.dl, L2.dd, both_some, opt_some, insAt_some, keyD, aFldC, aDPut, oDIn, aDGet, aDPop, aDGet1, aSetF, aDNew, aRaise, aMeth, oCat, oCatM, startA, List.map_cons, List.map_nil, List.length_cons, List.length_nil, List.replicate, List.cons_append, List.nil_append, List.getElem?_cons_zero, List.getElem?_cons_succ, List.set_cons_zero, List.set_cons_succ, Nat.reduceAdd, Nat.reduceSub, if_true, Bool.false_eq_true, if_false, e1, e2, e4, letter_at _ (Nat.mod_lt _ (show 0 < 26 by decide)), sl_q _ (Nat.mod_lt _ (show 0 < 7 by decide)), d0, d1]
      have e : wName sp k = ⟨#[97 + (k / 26 + sp) % 26]⟩ ++ ⟨#[97 + (k + sp) % 26]⟩ ++ ⟨(List.replicate ((sp + k) % 7) 113).toArray⟩ := by
        unfold wName wNameL chL chF; rw [if_neg h0, if_neg h1, app_arr, app_arr]; rfl
      rw [e] at q
      have hr1 : (⟨(List.replicate ((sp + k) % 7) 113).toArray⟩ : Str).length = (sp + k) % 7 := by simp [Str.length]
      exact ⟨⟨by decide, by decide⟩, by decide, h26, by decide, h26, by decide, by decide, by decide, by rw [one_len, one_len]; exact hl _ (by decide), by decide, hq, by rw [str_len, one_len, one_len, hr1]; exact hl _ (by omega), .now q⟩
noncomputable def spTeeth : SpA := fun ds M Q _ => ∃ a b : Int, ds = [.int a, .int b] ∧ ∀ t : Int, 1 ≤ t → t < 1000000000 → Q (.int t) M
theorem ok_law_teeth {f : Addr} {fd : FuncData} (Fn : Fun K "_law_teeth" "_law_teeth" s_law_teeth f fd) : FnOk P w K mg base (CXE P w) 1 f fd ["_law_number", "_law_way"] (liftS K spTeeth) := by
  refine Fn.okA sc_law_teeth (fun ds M Q E h => ?_) ?_
  · obtain ⟨a, b, rfl, _⟩ := h; rfl
  intro cdv A outer s H E F0 ds M Q Ea hr ct hsp
  obtain ⟨a, b, rfl, q⟩ := hsp
  refine ⟨_, (ssCons (sIf (ptCmp (op_eqs (un64 ct)) lEq (paV (pv 1)) paI (nomark _))
        (ssOne (sRet (paOp op_adds lAdd paI (paOp op_mod lMod (paOp op_mulB lMul (paV (pv 0)) paI) paI))))
        ssNil)
      (ssCons (sIf (ptCmp (op_eqs (un64 ct)) lEq (paV (pv 1)) paI (nomark _))
        (ssOne (sRet (paOp op_adds lAdd paI (paOp op_mod lMod (paOp op_mod lMod (paOp op_mulB lMul (paV (pv 0)) paI) paI) paI))))
        ssNil)
      (ssCons (sIf (ptCmp (op_eqs (un64 ct)) lEq (paV (pv 1)) paI (nomark _))
        (ssOne (sRet (paOp op_adds lAdd paI (paOp op_mod lMod (paV (pv 0)) (paOp op_sub lSub (paOp op_pow lPow paI paI) paI)))))
        ssNil)
      (ssOne (sRet (paOp op_adds lAdd paI (paOp op_mod lMod (paV (pv 0)) paI))))))), ?_⟩
  have e9 : (10 : Int) ^ Int.toNat 9 - 1 = 999999999 := by decide
  simp only [aYes, Bool.and_self, at0, at1, at2, at3, aSeq, aNext, aIf, aFor, iaR1, iaR2, iaR3, iaS, iaL, gaN, aSl, aPart, aNoPart, aT, aOp, aV, aC, aRet, aRetN, aTup, aLst, aLstM, aCons, aNil, aAnd, aOr, aNot, aAndV, aOrV, aNotV, aSet, aAsg, aDrop, aCall, aFun, aUn, oAdd, addF, addC, oI, oIc, eqq_int, eqq_str, eqq_bl, neq_int, neq_str, neq_bl, oIsN, isNon, oNeg, oLen, lenF, lenC, oIx, ixF, ixC, oIn, inB, oSl, slF, slC, Option.bind_some, Option.map_some, true_and, L2.dq, L2.dr, L2.dl, L2.dd, both_some, opt_some, insAt_some, keyD, aFldC, aDPut, oDIn, aDGet, aDPop, aDGet1, aSetF, aDNew, aRaise, aMeth, oCat, oCatM, startA, List.map_cons, List.map_nil, List.length_cons, List.length_nil, List.replicate, List.cons_append, List.nil_append, List.getElem?_cons_zero, List.getElem?_cons_succ, List.set_cons_zero, List.set_cons_succ, Nat.reduceAdd, Nat.reduceSub, if_true, Bool.false_eq_true, if_false, e9]
  exact ite2 (fun _ => ⟨CMul.ok (.inr ⟨by decide, by decide⟩), by decide, .now (q _ (by omega) (by omega))⟩) fun _ => ite2 (fun _ => ⟨CMul.ok (.inr ⟨by decide, by decide⟩), by decide, by decide, .now (q _ (by omega) (by omega))⟩) fun _ =>
    ite2 (fun _ => ⟨⟨by decide, by decide, by decide⟩, by decide, .now (q _ (by omega) (by omega))⟩) fun _ => ⟨by decide, .now (q _ (by omega) (by omega))⟩

theorem kind_at (x : Int) : ∃ kd : Str, atI [D.str "mesh", .str "pin", .str "band", .str "cross"] (x % 4) = some (.str kd) ∧ isKind kd = true := by
  have h1 := Int.emod_nonneg x (show (4 : Int) ≠ 0 by decide)
  have h2 := Int.emod_lt_of_pos x (show (0 : Int) < 4 by decide)
  obtain ⟨t, ht, hm⟩ := at_map D.str ["mesh", "pin", "band", "cross"] (x % 4) h1 (by simpa using h2)
  refine ⟨t, ht, ?_⟩
  simp only [List.mem_cons, List.not_mem_nil, or_false] at hm
  rcases hm with rfl | rfl | rfl | rfl <;> decide +kernel
theorem at_nat (l : List D) (i : Nat) (h : i < l.length) : atI l (i : Int) = some l[i] := atI_nat (List.getElem?_eq_getElem h)
noncomputable def eK (j : Str × Nat × Nat) : D := .tup [.str j.1, .int j.2.1, .int j.2.2]
theorem map_snoc (l : List (Str × Nat × Nat)) (x : Str × Nat × Nat) : (l ++ [x]).map eK = l.map eK ++ [eK x] := by rw [List.map_append]; rfl
noncomputable def spRows : SpA := fun ds M Q _ => ∃ ns : List Int, ds = [.scr (ns.map D.int)] ∧ ns.length ≤ 100 ∧ ∀ s ws js, Rw s ws js → ws.length ≤ 80 → js.length ≤ 80 → Q (.lst [.lst (ws.map eW), .lst (js.map eK)]) M
theorem cut81_len (ds : List D) : (cut ds none (some 81)).length = min 81 ds.length := by
  unfold cut
  have e1 : HT.sIx ds.length 0 none = 0 := rfl
  have e2 : HT.sIx ds.length ds.length (some 81) = min 81 ds.length := by
    unfold HT.sIx
    simp
    try omega
  rw [e1, e2]
  simp
theorem ok_law_rows {f : Addr} {fd : FuncData} (Fn : Fun K "_law_rows" "_law_rows" s_law_rows f fd) (T : Txt K mg) (h_law_cell_at : Has P w K mg base (CXE P w) 1 "_law_cell_at" ["_law_script", "_law_k"] (liftS K spCell))
    (h_law_name : Has P w K mg base (CXE P w) 1 "_law_name" ["_law_k", "_law_spin"] (liftS K spName)) (h_law_teeth : Has P w K mg base (CXE P w) 1 "_law_teeth" ["_law_number", "_law_way"] (liftS K spTeeth)) :
    FnOk P w K mg base (CXE P w) 2 f fd ["_law_script"] (liftS K spRows) := by
  refine Fn.okA sc_law_rows (fun ds M Q E h => ?_) ?_
  · obtain ⟨a, rfl, _⟩ := h; rfl
  intro cdv A outer s H E F0 ds M Q Ea hr ct hsp
  obtain ⟨ns, rfl, hns, q⟩ := hsp
  refine ⟨_, (ssCons (sSet (i := 1) sc_law_rows.nd rfl (Or.inl rfl) (paLstM aaNil))
      (ssCons (sSet (i := 2) sc_law_rows.nd rfl (Or.inl rfl) (paLstM aaNil))
      (ssCons (sSet (i := 3) sc_law_rows.nd rfl (Or.inl rfl) (paFun h_law_cell_at (hr.mono (by decide)) (by rfl) ct (aaCons (paV (pv 0)) (aaCons paI aaNil))))
      (ssCons (sSet (i := 4) sc_law_rows.nd rfl (Or.inl rfl) (paLst (aaCons paS (aaCons paS (aaCons paS (aaCons paS aaNil))))))
      (ssCons (sFor ct (iRange2 rfl T.range (aaCons paI (aaCons (paCallB call_lens lLen (by rfl) T.len PySem.boot_len (aaCons (paSl sl_all lSl (paV (pv 0)) poN (poS paI)) aaNil)) aaNil))) (tgName (i := 5) sc_law_rows.nd rfl (Or.inl rfl))
        (ssCons (sSet (i := 6) sc_law_rows.nd rfl (Or.inl rfl) (paOp op_mod lMod (paIx ix_seq lIx (paV (pv 0)) (paV (pv 5)) (fun _ _ => rfl)) paI))
        (ssCons (sSet (i := 7) sc_law_rows.nd rfl (Or.inl rfl) (paOp op_fdiv lDiv (paIx ix_seq lIx (paV (pv 0)) (paV (pv 5)) (fun _ _ => rfl)) paI))
        (ssCons (sSet (i := 8) sc_law_rows.nd rfl (Or.inl rfl) (paCallB call_lens lLen (by rfl) T.len PySem.boot_len (aaCons (paV (pv 1)) aaNil)))
        (ssOne (sIf ((pwOr (ptCmp op_lt lLt (paV (pv 8)) paI (nomark _)) (pwOr1 (ptCmp op_lt lLt (paV (pv 6)) paI (nomark _))))).pt
          (ssCons (sExpr (paBM PySem.F.plainAttrs_list PySem.F.slot_list_append PySem.F.type_list_append mt_append lAppend (paV (pv 1)) (aaCons (paTup (aaCons (paFun h_law_name (hr.mono (by decide)) (by rfl) ct (aaCons (paV (pv 8)) (aaCons (paOp op_mod lMod (paV (pv 3)) paI) aaNil))) (aaCons (paFun h_law_teeth (hr.mono (by decide)) (by rfl) ct (aaCons (paV (pv 7)) (aaCons (paOp op_mod lMod (paOp op_fdiv lDiv (paV (pv 3)) paI) paI) aaNil))) aaNil))) aaNil)))
          (ssCons (sSet (i := 9) sc_law_rows.nd rfl (Or.inl rfl) (paOp op_mod lMod (paOp op_adds lAdd (paV (pv 7)) (paOp op_mulB lMul (paV (pv 5)) (paV (pv 5)))) (paCallB (call_max2 rfl) lMax (by rfl) T.max boot_max (aaCons paI (aaCons (paV (pv 8)) aaNil)))))
          (ssOne (sIf ((pwAnd (ptCmp op_gt lGt (paV (pv 8)) paI (nomark _)) (pwAnd (ptCmp op_lt lLt (paV (pv 6)) paI (nomark _)) (pwAnd1 (ptCmp (op_eqs (un64 ct)) lEq (paOp op_mod lMod (paV (pv 7)) paI) paI (nomark _)))))).pt
            (ssOne (sExpr (paBM PySem.F.plainAttrs_list PySem.F.slot_list_append PySem.F.type_list_append mt_append lAppend (paV (pv 2)) (aaCons (paTup (aaCons (paIx ix_seq lIx (paV (pv 4)) (paOp op_mod lMod (paOp op_adds lAdd (paIx ix_seq lIx (paV (pv 0)) (paV (pv 5)) (fun _ _ => rfl)) (paV (pv 5))) paI) (fun _ _ => rfl)) (aaCons (paV (pv 9)) (aaCons (paV (pv 8)) aaNil)))) aaNil))))
            (ssOne (sIf ((pwAnd (ptCmp op_gt lGt (paV (pv 8)) paI (nomark _)) (pwAnd1 (ptCmp op_lt lLt (paV (pv 6)) paI (nomark _))))).pt
              (ssOne (sExpr (paBM PySem.F.plainAttrs_list PySem.F.slot_list_append PySem.F.type_list_append mt_append lAppend (paV (pv 2)) (aaCons (paTup (aaCons (paIx ix_seq lIx (paV (pv 4)) (paOp op_mod lMod (paOp op_adds lAdd (paIx ix_seq lIx (paV (pv 0)) (paV (pv 5)) (fun _ _ => rfl)) (paV (pv 5))) paI) (fun _ _ => rfl)) (aaCons (paV (pv 8)) (aaCons (paV (pv 9)) aaNil)))) aaNil))))
              ssNil))))))
          (ssCons (sSet (i := 9) sc_law_rows.nd rfl (Or.inl rfl) (paOp op_mod lMod (paV (pv 7)) (paV (pv 8))))
          (ssCons (sSet (i := 10) sc_law_rows.nd rfl (Or.inl rfl) (paOp op_mod lMod (paOp op_adds lAdd (paOp op_adds lAdd (paV (pv 9)) paI) (paOp op_mod lMod (paOp op_adds lAdd (paOp op_fdiv lDiv (paV (pv 7)) (paV (pv 8))) (paV (pv 5))) (paOp op_sub lSub (paV (pv 8)) paI))) (paV (pv 8))))
          (ssOne (sExpr (paBM PySem.F.plainAttrs_list PySem.F.slot_list_append PySem.F.type_list_append mt_append lAppend (paV (pv 2)) (aaCons (paTup (aaCons (paIx ix_seq lIx (paV (pv 4)) (paOp op_mod lMod (paOp op_adds lAdd (paIx ix_seq lIx (paV (pv 0)) (paV (pv 5)) (fun _ _ => rfl)) (paV (pv 5))) paI) (fun _ _ => rfl)) (aaCons (paV (pv 9)) (aaCons (paV (pv 10)) aaNil)))) aaNil))))))))))))
      (ssOne (sRet (paLst (aaCons (paFz (paV (pv 1))) (aaCons (paFz (paV (pv 2))) aaNil)))))))))), ?_⟩
  simp only [aYes, Bool.and_self, at0, at1, at2, at3, aSeq, aNext, aIf, aFor, iaR1, iaR2, iaR3, iaS, iaL, gaN, aSl, aPart, aNoPart, aT, aOp, aV, aC, aRet, aRetN, aTup, aLst, aLstM, aCons, aNil, aAnd, aOr, aNot, aAndV, aOrV, aNotV, aSet, aAsg, aDrop, aCall, aFun, aUn, oAdd, addF, addC, oI, oIc, eqq_int, eqq_str, eqq_bl, neq_int, neq_str, neq_bl, oIsN, isNon, oNeg, oLen, lenF, lenC, oIx, ixF, ixC, oIn, inB, oSl, slF, slC, Option.bind_some, Option.map_some, true_and, L2.dq, L2.dr, L2.dl, L2.dd, both_some, opt_some, insAt_some, keyD, aFldC, aDPut, oDIn, aDGet, aDPop, aDGet1, aSetF, aDNew, aRaise, aMeth, oCat, oCatM, startA, List.map_cons, List.map_nil, List.length_cons, List.length_nil, List.replicate, List.cons_append, List.nil_append, List.getElem?_cons_zero, List.getElem?_cons_succ, List.set_cons_zero, List.set_cons_succ, Nat.reduceAdd, Nat.reduceSub, if_true, Bool.false_eq_true, if_false]
  refine ⟨Nat.zero_le _, fun p hp => ⟨Nat.zero_le _, fun r hr' => ?_⟩⟩
  have nrp : r ≠ p := by rintro rfl; rw [put_same] at hr'; cases hr'
  rw [put_ne nrp] at hr'
  simp only [spCell]
  refine ⟨ns, 0, rfl, by decide, ?_⟩
  generalize cell ns 0 = st
  obtain ⟨sp, hsp⟩ := Int.eq_ofNat_of_zero_le (Int.emod_nonneg st (show (78 : Int) ≠ 0 by decide))
  simp only [cut81_len, List.length_map]
  refine ⟨by decide, ⟨by decide, by decide, by omega, by omega⟩, ?_⟩
  refine LoopP.by2 (fun i Γ M' => ∃ (ws : List (Str × Int)) (js : List (Str × Nat × Nat)) (o5 o6 o7 o8 o9 o10 : Option D), Γ = [some (.scr (ns.map D.int)), some (.obj p), some (.obj r), some (.int st), some (.lst [.str "mesh", .str "pin", .str "band", .str "cross"]), o5, o6, o7, o8, o9, o10] ∧ M' = put (put M p (.lst (ws.map eW))) r (.lst (js.map eK)) ∧ Rw sp ws js ∧ ws.length ≤ i ∧ js.length ≤ i)
    ⟨[], [], _, _, _, _, _, _, rfl, rfl, Rw.nil sp, Nat.zero_le _, Nat.zero_le _⟩ (fun _ _ _ _ => trivial) ?_ ?_
  · rintro E' i Γ M' hrt hi hnx ⟨ws, js, o5, o6, o7, o8, o9, o10, rfl, rfl, rw', hw, hj⟩
    dsimp only at hi
    have hi2 : 1 + i < ns.length := by omega
    have ex : ∃ x, atI (ns.map D.int) (1 + (i : Int)) = some (.int x) := by
      have ek : (1 : Int) + (i : Int) = ((1 + i : Nat) : Int) := by omega
      rw [ek, at_nat _ _ (by simpa using hi2)]
      exact ⟨_, by rw [List.getElem_map]⟩
    obtain ⟨x, ex⟩ := ex
    have np : p ≠ r := nrp.symm
    obtain ⟨kd, hkd, hkd2⟩ := kind_at (x + (1 + (i : Int)))
    refine seqV (.int (x % 12)) _ (fun R h => by simp only [aYes, Bool.and_self, at0, at1, at2, at3, aSeq, aNext, aIf, aFor, iaR1, iaR2, iaR3, iaS, iaL, gaN, aSl, aPart, aNoPart, aT, aOp, aV, aC, aRet, aRetN, aTup, aLst, aLstM, aCons, aNil, aAnd, aOr, aNot, aAndV, aOrV, aNotV, aSet, aAsg, aDrop, aCall, aFun, aUn, oAdd, addF, addC, oI, oIc, eqq_int, eqq_str, eqq_bl, neq_int, neq_str, neq_bl, oIsN, isNon, oNeg, oLen, lenF, lenC, oIx, ixF, ixC, oIn, inB, oSl, slF, slC, Option.bind_some, Option.map_some, true_and, L2.dq, L2.dr, L2.dl, L2.dd, both_some, opt_some, insAt_some, keyD, aFldC, aDPut, oDIn, aDGet, aDPop, aDGet1, aSetF, aDNew, aRaise, aMeth, oCat, oCatM, startA, List.map_cons, List.map_nil, List.length_cons, List.length_nil, List.replicate, List.cons_append, List.nil_append, List.getElem?_cons_zero, List.getElem?_cons_succ, List.set_cons_zero, List.set_cons_succ, Nat.reduceAdd, Nat.reduceSub, if_true, Bool.false_eq_true, if_false, ex]; exact ⟨by decide, h⟩) (seqV (.int (x / 12)) _ (fun R h => by simp only [aYes, Bool.and_self, at0, at1, at2, at3, aSeq, aNext, aIf, aFor, iaR1, iaR2, iaR3, iaS, iaL, gaN, aSl, aPart, aNoPart, aT, aOp, aV, aC, aRet, aRetN, aTup, aLst, aLstM, aCons, aNil, aAnd, aOr, aNot, aAndV, aOrV, aNotV, aSet, aAsg, aDrop, aCall, aFun, aUn, oAdd, addF, addC, oI, oIc, eqq_int, eqq_str, eqq_bl, neq_int, neq_str, neq_bl, oIsN, isNon, oNeg, oLen, lenF, lenC, oIx, ixF, ixC, oIn, inB, oSl, slF, slC, Option.bind_some, Option.map_some, true_and, L2.dq, L2.dr, L2.dl, L2.dd, both_some, opt_some, insAt_some, keyD, aFldC, aDPut, oDIn, aDGet, aDPop, aDGet1, aSetF, aDNew, aRaise, aMeth, oCat, oCatM, startA, List.map_cons, List.map_nil, List.length_cons, List.length_nil, List.replicate, List.cons_append, List.nil_append, List.getElem?_cons_zero, List.getElem?_cons_succ, List.set_cons_zero, List.set_cons_succ, Nat.reduceAdd, Nat.reduceSub, if_true, Bool.false_eq_true, if_false, ex]; exact ⟨⟨by decide, by decide⟩, h⟩) (seqV (.int ws.length) _ (fun R h => by simp only [aYes, Bool.and_self, at0, at1, at2, at3, aSeq, aNext, aIf, aFor, iaR1, iaR2, iaR3, iaS, iaL, gaN, aSl, aPart, aNoPart, aT, aOp, aV, aC, aRet, aRetN, aTup, aLst, aLstM, aCons, aNil, aAnd, aOr, aNot, aAndV, aOrV, aNotV, aSet, aAsg, aDrop, aCall, aFun, aUn, oAdd, addF, addC, oI, oIc, eqq_int, eqq_str, eqq_bl, neq_int, neq_str, neq_bl, oIsN, isNon, oNeg, oLen, lenF, lenC, oIx, ixF, ixC, oIn, inB, oSl, slF, slC, Option.bind_some, Option.map_some, true_and, L2.dq, L2.dr, L2.dl, L2.dd, both_some, opt_some, insAt_some, keyD, aFldC, aDPut, oDIn, aDGet, aDPop, aDGet1, aSetF, aDNew, aRaise, aMeth, oCat, oCatM, startA, List.map_cons, List.map_nil, List.length_cons, List.length_nil, List.replicate, List.cons_append, List.nil_append, List.getElem?_cons_zero, List.getElem?_cons_succ, List.set_cons_zero, List.set_cons_succ, Nat.reduceAdd, Nat.reduceSub, if_true, Bool.false_eq_true, if_false, put_ne np, put_same, List.length_map]; exact h) ?_))
    simp only [List.set_cons_zero, List.set_cons_succ]
    by_cases hc : ws.length < 2 ∨ x % 12 < 9
    · refine ifV true (fun R h => ?_) ?_
      · simp only [aYes, Bool.and_self, at0, at1, at2, at3, aSeq, aNext, aIf, aFor, iaR1, iaR2, iaR3, iaS, iaL, gaN, aSl, aPart, aNoPart, aT, aOp, aV, aC, aRet, aRetN, aTup, aLst, aLstM, aCons, aNil, aAnd, aOr, aNot, aAndV, aOrV, aNotV, aSet, aAsg, aDrop, aCall, aFun, aUn, oAdd, addF, addC, oI, oIc, eqq_int, eqq_str, eqq_bl, neq_int, neq_str, neq_bl, oIsN, isNon, oNeg, oLen, lenF, lenC, oIx, ixF, ixC, oIn, inB, oSl, slF, slC, Option.bind_some, Option.map_some, true_and, L2.dq, L2.dr, L2.dl, L2.dd, both_some, opt_some, insAt_some, keyD, aFldC, aDPut, oDIn, aDGet, aDPop, aDGet1, aSetF, aDNew, aRaise, aMeth, oCat, oCatM, startA, List.map_cons, List.map_nil, List.length_cons, List.length_nil, List.replicate, List.cons_append, List.nil_append, List.getElem?_cons_zero, List.getElem?_cons_succ, List.set_cons_zero, List.set_cons_succ, Nat.reduceAdd, Nat.reduceSub, if_true, Bool.false_eq_true, if_false]
        refine ite2 (fun _ => h) fun h1 => ?_
        rw [decide_eq_true (hc.resolve_left fun z => h1 (decide_eq_true (by omega)))]; exact h
      rw [if_pos rfl]
      refine cut1 (fun Γ' M1 => Γ' = [some (.scr (ns.map D.int)), some (.obj p), some (.obj r), some (.int st), some (.lst [.str "mesh", .str "pin", .str "band", .str "cross"]), some (.int (1 + (i : Int))), some (.int (x % 12)), some (.int (x / 12)), some (.int ws.length), o9, o10] ∧ ∃ t, M1 = put (put M p (.lst ((ws ++ [(wName sp ws.length, t)]).map eW))) r (.lst (js.map eK)) ∧ Rw sp (ws ++ [(wName sp ws.length, t)]) js) ?_ ?_
      · rintro Γ M1 ⟨rfl, t, rfl, rw2⟩
        have hlen : (ws ++ [(wName sp ws.length, t)]).length = ws.length + 1 := by simp
        have hmx : ∃ m : Nat, (if (ws.length : Int) > 1 then (ws.length : Int) else 1) = (m : Int) ∧ 0 < m ∧ (0 < ws.length → m = ws.length) := by
          by_cases h : ws.length ≤ 1
          · exact ⟨1, by rw [if_neg (by omega)]; rfl, by decide, fun _ => by omega⟩
          · exact ⟨ws.length, by rw [if_pos (by omega)], by omega, fun _ => rfl⟩
        obtain ⟨mx, emx, mx0, mx1⟩ := hmx
        obtain ⟨at', hat⟩ := Int.eq_ofNat_of_zero_le (Int.emod_nonneg (x / 12 + (1 + (i : Int)) * (1 + (i : Int))) (show (mx : Int) ≠ 0 by omega))
        have hat2 := Int.emod_lt_of_pos (x / 12 + (1 + (i : Int)) * (1 + (i : Int))) (show (0 : Int) < (mx : Int) by omega)
        rw [hat] at hat2
        refine seqV (.int (at' : Int)) _ (fun R h => by
          simp only [aYes, Bool.and_self, at0, at1, at2, at3, aSeq, aNext, aIf, aFor, iaR1, iaR2, iaR3, iaS, iaL, gaN, aSl, aPart, aNoPart, aT, aOp, aV, aC, aRet, aRetN, aTup, aLst, aLstM, aCons, aNil, aAnd, aOr, aNot, aAndV, aOrV, aNotV, aSet, aAsg, aDrop, aCall, aFun, aUn, oAdd, addF, addC, oI, oIc, eqq_int, eqq_str, eqq_bl, neq_int, neq_str, neq_bl, oIsN, isNon, oNeg, oLen, lenF, lenC, oIx, ixF, ixC, oIn, inB, oSl, slF, slC, Option.bind_some, Option.map_some, true_and, L2.dq, L2.dr, L2.dl, L2.dd, both_some, opt_some, insAt_some, keyD, aFldC, aDPut, oDIn, aDGet, aDPop, aDGet1, aSetF, aDNew, aRaise, aMeth, oCat, oCatM, startA, List.map_cons, List.map_nil, List.length_cons, List.length_nil, List.replicate, List.cons_append, List.nil_append, List.getElem?_cons_zero, List.getElem?_cons_succ, List.set_cons_zero, List.set_cons_succ, Nat.reduceAdd, Nat.reduceSub, if_true, Bool.false_eq_true, if_false, oMax, emx, hat]
          exact ⟨CMul.ok (.inr ⟨by omega, by omega⟩), by omega, h⟩) ?_
        simp only [List.set_cons_zero, List.set_cons_succ]
        by_cases hj1 : 0 < ws.length ∧ x % 12 < 7 ∧ x / 12 % 2 = 0
        · refine ifV true (fun R h => ?_) ?_
          · simp only [aYes, Bool.and_self, at0, at1, at2, at3, aSeq, aNext, aIf, aFor, iaR1, iaR2, iaR3, iaS, iaL, gaN, aSl, aPart, aNoPart, aT, aOp, aV, aC, aRet, aRetN, aTup, aLst, aLstM, aCons, aNil, aAnd, aOr, aNot, aAndV, aOrV, aNotV, aSet, aAsg, aDrop, aCall, aFun, aUn, oAdd, addF, addC, oI, oIc, eqq_int, eqq_str, eqq_bl, neq_int, neq_str, neq_bl, oIsN, isNon, oNeg, oLen, lenF, lenC, oIx, ixF, ixC, oIn, inB, oSl, slF, slC, Option.bind_some, Option.map_some, true_and, L2.dq, L2.dr, L2.dl, L2.dd, both_some, opt_some, insAt_some, keyD, aFldC, aDPut, oDIn, aDGet, aDPop, aDGet1, aSetF, aDNew, aRaise, aMeth, oCat, oCatM, startA, List.map_cons, List.map_nil, List.length_cons, List.length_nil, List.replicate, List.cons_append, List.nil_append, List.getElem?_cons_zero, List.getElem?_cons_succ, List.set_cons_zero, List.set_cons_succ, Nat.reduceAdd, Nat.reduceSub, if_true, Bool.false_eq_true, if_false, decide_eq_true (show (0 : Int) < (ws.length : Int) by omega), decide_eq_true hj1.2.1, decide_eq_true hj1.2.2]
            exact ⟨by decide, h⟩
          rw [if_pos rfl]
          refine dropE .non (put (put M p (.lst ((ws ++ [(wName sp ws.length, t)]).map eW))) r (.lst ((js ++ [(kd, at', ws.length)]).map eK))) (fun R h => ?_) (hnx _ _ ⟨_, _, _, _, _, _, _, _, rfl, rfl, rw2.join hkd2 (by omega) (by omega) (by omega), by omega, by rw [List.length_append]; simp; omega⟩)
          simp only [aYes, Bool.and_self, at0, at1, at2, at3, aSeq, aNext, aIf, aFor, iaR1, iaR2, iaR3, iaS, iaL, gaN, aSl, aPart, aNoPart, aT, aOp, aV, aC, aRet, aRetN, aTup, aLst, aLstM, aCons, aNil, aAnd, aOr, aNot, aAndV, aOrV, aNotV, aSet, aAsg, aDrop, aCall, aFun, aUn, oAdd, addF, addC, oI, oIc, eqq_int, eqq_str, eqq_bl, neq_int, neq_str, neq_bl, oIsN, isNon, oNeg, oLen, lenF, lenC, oIx, ixF, ixC, oIn, inB, oSl, slF, slC, Option.bind_some, Option.map_some, true_and, L2.dq, L2.dr, L2.dl, L2.dd, both_some, opt_some, insAt_some, keyD, aFldC, aDPut, oDIn, aDGet, aDPop, aDGet1, aSetF, aDNew, aRaise, aMeth, oCat, oCatM, startA, List.map_cons, List.map_nil, List.length_cons, List.length_nil, List.replicate, List.cons_append, List.nil_append, List.getElem?_cons_zero, List.getElem?_cons_succ, List.set_cons_zero, List.set_cons_succ, Nat.reduceAdd, Nat.reduceSub, if_true, Bool.false_eq_true, if_false, aBM, kindD, put_same, oAppend, ex, hkd, put_put, List.length_map]
          refine ⟨by decide, by decide, by omega, ?_⟩
          rw [map_snoc] at h; exact h
        · refine ifV false (fun R h => ?_) ?_
          · simp only [aYes, Bool.and_self, at0, at1, at2, at3, aSeq, aNext, aIf, aFor, iaR1, iaR2, iaR3, iaS, iaL, gaN, aSl, aPart, aNoPart, aT, aOp, aV, aC, aRet, aRetN, aTup, aLst, aLstM, aCons, aNil, aAnd, aOr, aNot, aAndV, aOrV, aNotV, aSet, aAsg, aDrop, aCall, aFun, aUn, oAdd, addF, addC, oI, oIc, eqq_int, eqq_str, eqq_bl, neq_int, neq_str, neq_bl, oIsN, isNon, oNeg, oLen, lenF, lenC, oIx, ixF, ixC, oIn, inB, oSl, slF, slC, Option.bind_some, Option.map_some, true_and, L2.dq, L2.dr, L2.dl, L2.dd, both_some, opt_some, insAt_some, keyD, aFldC, aDPut, oDIn, aDGet, aDPop, aDGet1, aSetF, aDNew, aRaise, aMeth, oCat, oCatM, startA, List.map_cons, List.map_nil, List.length_cons, List.length_nil, List.replicate, List.cons_append, List.nil_append, List.getElem?_cons_zero, List.getElem?_cons_succ, List.set_cons_zero, List.set_cons_succ, Nat.reduceAdd, Nat.reduceSub, if_true, Bool.false_eq_true, if_false]
            refine ite2 (fun h1 => ite2 (fun h2 => ⟨by decide, ?_⟩) fun _ => h) fun _ => h
            have h1 := of_decide_eq_true h1
            rw [decide_eq_false fun z => hj1 ⟨by omega, of_decide_eq_true h2, z⟩]; exact h
          rw [if_neg Bool.false_ne_true]
          by_cases hj2 : 0 < ws.length ∧ x % 12 < 7
          · refine ifV true (fun R h => ?_) ?_
            · simp only [aYes, Bool.and_self, at0, at1, at2, at3, aSeq, aNext, aIf, aFor, iaR1, iaR2, iaR3, iaS, iaL, gaN, aSl, aPart, aNoPart, aT, aOp, aV, aC, aRet, aRetN, aTup, aLst, aLstM, aCons, aNil, aAnd, aOr, aNot, aAndV, aOrV, aNotV, aSet, aAsg, aDrop, aCall, aFun, aUn, oAdd, addF, addC, oI, oIc, eqq_int, eqq_str, eqq_bl, neq_int, neq_str, neq_bl, oIsN, isNon, oNeg, oLen, lenF, lenC, oIx, ixF, ixC, oIn, inB, oSl, slF, slC, Option.bind_some, Option.map_some, true_and, L2.dq, L2.dr, L2.dl, L2.dd, both_some, opt_some, insAt_some, keyD, aFldC, aDPut, oDIn, aDGet, aDPop, aDGet1, aSetF, aDNew, aRaise, aMeth, oCat, oCatM, startA, List.map_cons, List.map_nil, List.length_cons, List.length_nil, List.replicate, List.cons_append, List.nil_append, List.getElem?_cons_zero, List.getElem?_cons_succ, List.set_cons_zero, List.set_cons_succ, Nat.reduceAdd, Nat.reduceSub, if_true, Bool.false_eq_true, if_false, decide_eq_true (show (0 : Int) < (ws.length : Int) by omega), decide_eq_true hj2.2]
              exact h
            rw [if_pos rfl]
            refine dropE .non (put (put M p (.lst ((ws ++ [(wName sp ws.length, t)]).map eW))) r (.lst ((js ++ [(kd, ws.length, at')]).map eK))) (fun R h => ?_) (hnx _ _ ⟨_, _, _, _, _, _, _, _, rfl, rfl, rw2.join hkd2 (by omega) (by omega) (by omega), by omega, by rw [List.length_append]; simp; omega⟩)
            simp only [aYes, Bool.and_self, at0, at1, at2, at3, aSeq, aNext, aIf, aFor, iaR1, iaR2, iaR3, iaS, iaL, gaN, aSl, aPart, aNoPart, aT, aOp, aV, aC, aRet, aRetN, aTup, aLst, aLstM, aCons, aNil, aAnd, aOr, aNot, aAndV, aOrV, aNotV, aSet, aAsg, aDrop, aCall, aFun, aUn, oAdd, addF, addC, oI, oIc, eqq_int, eqq_str, eqq_bl, neq_int, neq_str, neq_bl, oIsN, isNon, oNeg, oLen, lenF, lenC, oIx, ixF, ixC, oIn, inB, oSl, slF, slC, Option.bind_some, Option.map_some, true_and, L2.dq, L2.dr, L2.dl, L2.dd, both_some, opt_some, insAt_some, keyD, aFldC, aDPut, oDIn, aDGet, aDPop, aDGet1, aSetF, aDNew, aRaise, aMeth, oCat, oCatM, startA, List.map_cons, List.map_nil, List.length_cons, List.length_nil, List.replicate, List.cons_append, List.nil_append, List.getElem?_cons_zero, List.getElem?_cons_succ, List.set_cons_zero, List.set_cons_succ, Nat.reduceAdd, Nat.reduceSub, if_true, Bool.false_eq_true, if_false, aBM, kindD, put_same, oAppend, ex, hkd, put_put, List.length_map]
            refine ⟨by decide, by decide, by omega, ?_⟩
            rw [map_snoc] at h; exact h
          · refine ifV false (fun R h => ?_) ?_
            · simp only [aYes, Bool.and_self, at0, at1, at2, at3, aSeq, aNext, aIf, aFor, iaR1, iaR2, iaR3, iaS, iaL, gaN, aSl, aPart, aNoPart, aT, aOp, aV, aC, aRet, aRetN, aTup, aLst, aLstM, aCons, aNil, aAnd, aOr, aNot, aAndV, aOrV, aNotV, aSet, aAsg, aDrop, aCall, aFun, aUn, oAdd, addF, addC, oI, oIc, eqq_int, eqq_str, eqq_bl, neq_int, neq_str, neq_bl, oIsN, isNon, oNeg, oLen, lenF, lenC, oIx, ixF, ixC, oIn, inB, oSl, slF, slC, Option.bind_some, Option.map_some, true_and, L2.dq, L2.dr, L2.dl, L2.dd, both_some, opt_some, insAt_some, keyD, aFldC, aDPut, oDIn, aDGet, aDPop, aDGet1, aSetF, aDNew, aRaise, aMeth, oCat, oCatM, startA, List.map_cons, List.map_nil, List.length_cons, List.length_nil, List.replicate, List.cons_append, List.nil_append, List.getElem?_cons_zero, List.getElem?_cons_succ, List.set_cons_zero, List.set_cons_succ, Nat.reduceAdd, Nat.reduceSub, if_true, Bool.false_eq_true, if_false]
              refine ite2 (fun h1 => ?_) fun _ => h
              have h1 := of_decide_eq_true h1
              rw [decide_eq_false fun z => hj2 ⟨by omega, z⟩]; exact h
            rw [if_neg Bool.false_ne_true]
            exact hnx _ _ ⟨_, _, _, _, _, _, _, _, rfl, rfl, rw2, by omega, by omega⟩
      · intro rest hrest
        simp only [aYes, Bool.and_self, at0, at1, at2, at3, aSeq, aNext, aIf, aFor, iaR1, iaR2, iaR3, iaS, iaL, gaN, aSl, aPart, aNoPart, aT, aOp, aV, aC, aRet, aRetN, aTup, aLst, aLstM, aCons, aNil, aAnd, aOr, aNot, aAndV, aOrV, aNotV, aSet, aAsg, aDrop, aCall, aFun, aUn, oAdd, addF, addC, oI, oIc, eqq_int, eqq_str, eqq_bl, neq_int, neq_str, neq_bl, oIsN, isNon, oNeg, oLen, lenF, lenC, oIx, ixF, ixC, oIn, inB, oSl, slF, slC, Option.bind_some, Option.map_some, true_and, L2.dq, L2.dr, L2.dl, L2.dd, both_some, opt_some, insAt_some, keyD, aFldC, aDPut, oDIn, aDGet, aDPop, aDGet1, aSetF, aDNew, aRaise, aMeth, oCat, oCatM, startA, List.map_cons, List.map_nil, List.length_cons, List.length_nil, List.replicate, List.cons_append, List.nil_append, List.getElem?_cons_zero, List.getElem?_cons_succ, List.set_cons_zero, List.set_cons_succ, Nat.reduceAdd, Nat.reduceSub, if_true, Bool.false_eq_true, if_false, aBM, kindD, put_ne np, put_same, oAppend, spName, spTeeth]
        refine ⟨by decide, ws.length, sp, by rw [hsp], ⟨by decide, by decide⟩, by decide, _, _, rfl, fun t h1 h2 => ⟨by decide, by rw [List.length_map]; omega, hrest _ _ ⟨rfl, t, ?_, rw'.wheel h1 h2⟩⟩⟩
        rw [put_swap nrp, List.map_append]; rfl
    · have hc1 : 2 ≤ ws.length := Nat.le_of_not_lt fun z => hc (.inl z)
      refine ifV false (fun R h => ?_) ?_
      · simp only [aYes, Bool.and_self, at0, at1, at2, at3, aSeq, aNext, aIf, aFor, iaR1, iaR2, iaR3, iaS, iaL, gaN, aSl, aPart, aNoPart, aT, aOp, aV, aC, aRet, aRetN, aTup, aLst, aLstM, aCons, aNil, aAnd, aOr, aNot, aAndV, aOrV, aNotV, aSet, aAsg, aDrop, aCall, aFun, aUn, oAdd, addF, addC, oI, oIc, eqq_int, eqq_str, eqq_bl, neq_int, neq_str, neq_bl, oIsN, isNon, oNeg, oLen, lenF, lenC, oIx, ixF, ixC, oIn, inB, oSl, slF, slC, Option.bind_some, Option.map_some, true_and, L2.dq, L2.dr, L2.dl, L2.dd, both_some, opt_some, insAt_some, keyD, aFldC, aDPut, oDIn, aDGet, aDPop, aDGet1, aSetF, aDNew, aRaise, aMeth, oCat, oCatM, startA, List.map_cons, List.map_nil, List.length_cons, List.length_nil, List.replicate, List.cons_append, List.nil_append, List.getElem?_cons_zero, List.getElem?_cons_succ, List.set_cons_zero, List.set_cons_succ, Nat.reduceAdd, Nat.reduceSub, if_true, Bool.false_eq_true, if_false, decide_eq_false (show ¬ (ws.length : Int) < 2 by omega), decide_eq_false fun z => hc (.inr z)]
        exact h
      rw [if_neg Bool.false_ne_true]
      obtain ⟨at', hat⟩ := Int.eq_ofNat_of_zero_le (Int.emod_nonneg (x / 12) (show (ws.length : Int) ≠ 0 by omega))
      have hat2 := Int.emod_lt_of_pos (x / 12) (show (0 : Int) < (ws.length : Int) by omega)
      rw [hat] at hat2
      obtain ⟨u, hu⟩ := Int.eq_ofNat_of_zero_le (Int.emod_nonneg (x / 12 / (ws.length : Int) + (1 + (i : Int))) (show (ws.length : Int) - 1 ≠ 0 by omega))
      have hu2 := Int.emod_lt_of_pos (x / 12 / (ws.length : Int) + (1 + (i : Int))) (show (0 : Int) < (ws.length : Int) - 1 by omega)
      rw [hu] at hu2
      have hto : ((at' : Int) + 1 + (u : Int)) % (ws.length : Int) = (((at' + 1 + u) % ws.length : Nat) : Int) := by rw [Int.natCast_emod]; rfl
      have hne : at' ≠ (at' + 1 + u) % ws.length := by
        intro z
        by_cases hlt : at' + 1 + u < ws.length
        · rw [Nat.mod_eq_of_lt hlt] at z; omega
        · rw [Nat.mod_eq_sub_mod (by omega), Nat.mod_eq_of_lt (by omega)] at z; omega
      have hlt := Nat.mod_lt (at' + 1 + u) (show 0 < ws.length by omega)
      refine seqV (.int (at' : Int)) _ (fun R h => by
        simp only [aYes, Bool.and_self, at0, at1, at2, at3, aSeq, aNext, aIf, aFor, iaR1, iaR2, iaR3, iaS, iaL, gaN, aSl, aPart, aNoPart, aT, aOp, aV, aC, aRet, aRetN, aTup, aLst, aLstM, aCons, aNil, aAnd, aOr, aNot, aAndV, aOrV, aNotV, aSet, aAsg, aDrop, aCall, aFun, aUn, oAdd, addF, addC, oI, oIc, eqq_int, eqq_str, eqq_bl, neq_int, neq_str, neq_bl, oIsN, isNon, oNeg, oLen, lenF, lenC, oIx, ixF, ixC, oIn, inB, oSl, slF, slC, Option.bind_some, Option.map_some, true_and, L2.dq, L2.dr, L2.dl, L2.dd, both_some, opt_some, insAt_some, keyD, aFldC, aDPut, oDIn, aDGet, aDPop, aDGet1, aSetF, aDNew, aRaise, aMeth, oCat, oCatM, startA, List.map_cons, List.map_nil, List.length_cons, List.length_nil, List.replicate, List.cons_append, List.nil_append, List.getElem?_cons_zero, List.getElem?_cons_succ, List.set_cons_zero, List.set_cons_succ, Nat.reduceAdd, Nat.reduceSub, if_true, Bool.false_eq_true, if_false, hat]
        exact ⟨by omega, h⟩) (seqV (.int (((at' + 1 + u) % ws.length : Nat) : Int)) _ (fun R h => by
        simp only [aYes, Bool.and_self, at0, at1, at2, at3, aSeq, aNext, aIf, aFor, iaR1, iaR2, iaR3, iaS, iaL, gaN, aSl, aPart, aNoPart, aT, aOp, aV, aC, aRet, aRetN, aTup, aLst, aLstM, aCons, aNil, aAnd, aOr, aNot, aAndV, aOrV, aNotV, aSet, aAsg, aDrop, aCall, aFun, aUn, oAdd, addF, addC, oI, oIc, eqq_int, eqq_str, eqq_bl, neq_int, neq_str, neq_bl, oIsN, isNon, oNeg, oLen, lenF, lenC, oIx, ixF, ixC, oIn, inB, oSl, slF, slC, Option.bind_some, Option.map_some, true_and, L2.dq, L2.dr, L2.dl, L2.dd, both_some, opt_some, insAt_some, keyD, aFldC, aDPut, oDIn, aDGet, aDPop, aDGet1, aSetF, aDNew, aRaise, aMeth, oCat, oCatM, startA, List.map_cons, List.map_nil, List.length_cons, List.length_nil, List.replicate, List.cons_append, List.nil_append, List.getElem?_cons_zero, List.getElem?_cons_succ, List.set_cons_zero, List.set_cons_succ, Nat.reduceAdd, Nat.reduceSub, if_true, Bool.false_eq_true, if_false, hu, hto]
        exact ⟨⟨by omega, by omega⟩, by omega, by omega, h⟩) ?_)
      refine dropE .non (put (put M p (.lst (ws.map eW))) r (.lst ((js ++ [(kd, at', (at' + 1 + u) % ws.length)]).map eK))) (fun R h => ?_) (hnx _ _ ⟨_, _, _, _, _, _, _, _, rfl, rfl, rw'.join hkd2 (by omega) hlt hne, by omega, by rw [List.length_append]; simp; omega⟩)
      simp only [aYes, Bool.and_self, at0, at1, at2, at3, aSeq, aNext, aIf, aFor, iaR1, iaR2, iaR3, iaS, iaL, gaN, aSl, aPart, aNoPart, aT, aOp, aV, aC, aRet, aRetN, aTup, aLst, aLstM, aCons, aNil, aAnd, aOr, aNot, aAndV, aOrV, aNotV, aSet, aAsg, aDrop, aCall, aFun, aUn, oAdd, addF, addC, oI, oIc, eqq_int, eqq_str, eqq_bl, neq_int, neq_str, neq_bl, oIsN, isNon, oNeg, oLen, lenF, lenC, oIx, ixF, ixC, oIn, inB, oSl, slF, slC, Option.bind_some, Option.map_some, true_and, L2.dq, L2.dr, L2.dl, L2.dd, both_some, opt_some, insAt_some, keyD, aFldC, aDPut, oDIn, aDGet, aDPop, aDGet1, aSetF, aDNew, aRaise, aMeth, oCat, oCatM, startA, List.map_cons, List.map_nil, List.length_cons, List.length_nil, List.replicate, List.cons_append, List.nil_append, List.getElem?_cons_zero, List.getElem?_cons_succ, List.set_cons_zero, List.set_cons_succ, Nat.reduceAdd, Nat.reduceSub, if_true, Bool.false_eq_true, if_false, aBM, kindD, put_same, oAppend, ex, hkd, put_put, List.length_map]
      refine ⟨by decide, by decide, by omega, ?_⟩
      rw [map_snoc] at h; exact h
  · rintro Γ M' ⟨ws, js, o5, o6, o7, o8, o9, o10, rfl, rfl, rw', hw, hj⟩
    have e1 : put (put M p (.lst (ws.map eW))) r (.lst (js.map eK)) p = some (.lst (ws.map eW)) := by rw [put_ne nrp.symm, put_same]
    have e2 : del (put (put M p (.lst (ws.map eW))) r (.lst (js.map eK))) p r = some (.lst (js.map eK)) := by rw [del_ne nrp, put_same]
    have e3 : del (del (put (put M p (.lst (ws.map eW))) r (.lst (js.map eK))) p) r = M := by
      funext y
      by_cases hy : y = r
      · subst hy; rw [del_same, hr']
      · rw [del_ne hy]
        by_cases hy2 : y = p
        · subst hy2; rw [del_same, hp]
        · rw [del_ne hy2, put_ne hy, put_ne hy2]
    simp only [aYes, Bool.and_self, at0, at1, at2, at3, aSeq, aNext, aIf, aFor, iaR1, iaR2, iaR3, iaS, iaL, gaN, aSl, aPart, aNoPart, aT, aOp, aV, aC, aRet, aRetN, aTup, aLst, aLstM, aCons, aNil, aAnd, aOr, aNot, aAndV, aOrV, aNotV, aSet, aAsg, aDrop, aCall, aFun, aUn, oAdd, addF, addC, oI, oIc, eqq_int, eqq_str, eqq_bl, neq_int, neq_str, neq_bl, oIsN, isNon, oNeg, oLen, lenF, lenC, oIx, ixF, ixC, oIn, inB, oSl, slF, slC, Option.bind_some, Option.map_some, true_and, L2.dq, L2.dr, L2.dl, L2.dd, both_some, opt_some, insAt_some, keyD, aFldC, aDPut, oDIn, aDGet, aDPop, aDGet1, aSetF, aDNew, aRaise, aMeth, oCat, oCatM, startA, List.map_cons, List.map_nil, List.length_cons, List.length_nil, List.replicate, List.cons_append, List.nil_append, List.getElem?_cons_zero, List.getElem?_cons_succ, List.set_cons_zero, List.set_cons_succ, Nat.reduceAdd, Nat.reduceSub, if_true, Bool.false_eq_true, if_false, aFz, e1, e2, e3]
    dsimp only at hw hj
    exact ⟨by decide, .now (q sp ws js rw' (by omega) (by omega))⟩

theorem comp1 {X : Cx} {scope : Scope} {Nc : List Str} {n j : Nat} {x : Str} {c : Addr} (clos : closureFor scope X.env = pure [(x, c)] := by rfl) (hc : X.env.cells.lookup x = some c := by rfl) (cell : ∀ y ∈ scope.names, y.2 ≠ .cell := by decide +kernel) (kind : scope.kind = .function := by rfl)
    (names : ∀ x ∈ scope.names, x.2 = .local → scope.names.lookup x.1 = some .local := by decide +kernel) (nof : ∀ y ∈ scope.names, y.2 = .free → y.1 = x := by decide +kernel)
    (hx : (relabel scope X.env).names.lookup x = some .cell := by rfl) (hd : X.env.scope.names.lookup x = some .cell := by rfl) (hN : X.N[j]? = some x := by rfl) (hNc : Nc[n]? = some x := by rfl) (len : n + 1 = Nc.length := by rfl) : CompOk X scope [(x, c)] Nc (jsOf n [j]) := by
  have look : ∀ {l : List (Str × NameKind)} {z : Str} {k : NameKind}, l.lookup z = some k → (z, k) ∈ l := by
    intro l z k h
    induction l with
    | nil => cases h
    | cons a l ih =>
      rw [List.lookup_cons] at h
      split at h
      · rename_i e
        cases h
        have e : z = a.1 := by simpa using e
        rw [e]; exact List.mem_cons_self
      · exact List.mem_cons_of_mem _ (ih h)
  have one : ∀ {z : Str} {d : Addr}, ([(x, c)] : List (Str × Addr)).lookup z = some d → z = x ∧ d = c := by
    intro z d h
    rw [List.lookup_cons] at h
    split at h
    · rename_i e
      cases h
      exact ⟨by simpa using e, rfl⟩
    · cases h
  have self : ([(x, c)] : List (Str × Addr)).lookup x = some c := by simp [List.lookup_cons]
  refine ⟨clos, fun z d h => ?_, cell, kind, names, fun z h => ?_, by simp [jsOf, len], fun k j' h => ?_⟩
  · obtain ⟨rfl, rfl⟩ := one h; exact hc
  · have key : ∀ k', (z, k') ∈ (relabel scope X.env).names → (k' = .cell ∨ k' = .free) → z = x := fun k' hm hk => by
      obtain ⟨⟨n', k⟩, h1, h2⟩ := List.mem_map.mp (show (z, k') ∈ scope.names.map _ from hm)
      dsimp only at h2
      split at h2
      · rename_i hf
        simp only [Bool.and_eq_true, beq_iff_eq] at hf
        cases h2
        exact nof _ h1 hf.1.1
      · cases h2
        rcases hk with rfl | rfl
        · exact absurd rfl (cell _ h1)
        · exact nof _ h1 rfl
    have : z = x := by
      rcases h with h | h
      · exact key _ (look h) (.inl rfl)
      · exact key _ (look h) (.inr rfl)
    subst this
    exact ⟨c, self⟩
  · unfold jsOf at h
    by_cases hk : k < n
    · rw [List.getElem?_append_left (by simpa using hk), List.getElem?_replicate, if_pos hk] at h
      cases h
    · rw [List.getElem?_append_right (by simp; omega)] at h
      simp only [List.length_replicate, List.map_cons, List.map_nil] at h
      have hk0 : k - n = 0 := by
        cases hh : k - n with
        | zero => rfl
        | succ m => rw [hh] at h; simp at h
      rw [hk0] at h
      have h : j = j' := by simpa using h
      subst h
      have : k = n := by omega
      subst this
      exact ⟨x, c, hNc, hN, hd, self, hx⟩


theorem Tr.sub {C : Addr} {M M' : Mem} {p d1 d2 : Addr} {S : TS} (tr : Tr C M p d1 d2 S) (h : L2.Sub M M') : Tr C M' p d1 d2 S :=
  ⟨h _ _ tr.self, h _ _ tr.teeth, h _ _ tr.join, tr.ne, tr.lt⟩
theorem Tr.far {C : Addr} {M : Mem} {p d1 d2 a : Addr} {S : TS} {o : MO} (tr : Tr C M p d1 d2 S) (h0 : p ≠ a) (h1 : d1 ≠ a) (h2 : d2 ≠ a) : Tr C (put M a o) p d1 d2 S :=
  ⟨by rw [put_ne h0]; exact tr.self, by rw [put_ne h1]; exact tr.teeth, by rw [put_ne h2]; exact tr.join, tr.ne, tr.lt⟩
theorem Tr.n1 {C : Addr} {M : Mem} {p d1 d2 : Addr} {S : TS} (tr : Tr C M p d1 d2 S) : p ≠ d1 := by rintro rfl; have := tr.self; rw [tr.teeth] at this; cases this
theorem Tr.n2 {C : Addr} {M : Mem} {p d1 d2 : Addr} {S : TS} (tr : Tr C M p d1 d2 S) : p ≠ d2 := by rintro rfl; have := tr.self; rw [tr.join] at this; cases this
theorem ne_of {M : Mem} {a b : Addr} {o : MO} (h : M a = some o) (h' : M b = none) : b ≠ a := by rintro rfl; rw [h] at h'; cases h'
theorem none_of {M : Mem} {a b : Addr} {o : MO} (h : put M a o b = none) : b ≠ a ∧ M b = none := by
  have n : b ≠ a := by rintro rfl; rw [put_same] at h; cases h
  exact ⟨n, by rw [put_ne n] at h; exact h⟩
theorem Tr.wheel {C : Addr} {M : Mem} {p d1 d2 : Addr} {ws : List (Str × Int)} {js : List Jn} {nx : Int} (tr : Tr C M p d1 d2 ⟨ws, js, nx⟩) (w' : Str × Int) : Tr C (put M d1 (.dic (dW (ws ++ [w'])))) p d1 d2 ⟨ws ++ [w'], js, nx⟩ :=
  ⟨by rw [put_ne tr.n1]; exact tr.self, put_same, by rw [put_ne tr.ne.symm]; exact tr.join, tr.ne, tr.lt⟩
theorem Tr.pin {C : Addr} {M : Mem} {p d1 d2 : Addr} {S : TS} (tr : Tr C M p d1 d2 S) (k a b : Str) : Tr C (put (put M d2 (.dic (dJ (S.js ++ [(S.nx, k, a, b)])))) p (.ins C (fsT d1 d2 (S.nx + 1)))) p d1 d2 ⟨S.ws, S.js ++ [(S.nx, k, a, b)], S.nx + 1⟩ :=
  ⟨put_same, by rw [put_ne tr.n1.symm, put_ne tr.ne]; exact tr.teeth, by rw [put_ne tr.n2.symm, put_same], tr.ne, fun j hj => by
    rcases List.mem_append.mp hj with hj | hj
    · have := tr.lt j hj
      show j.1 < S.nx + 1
      omega
    · rw [List.mem_singleton.mp hj]
      show S.nx < S.nx + 1
      omega⟩
theorem Tr.less {C : Addr} {M : Mem} {p d1 d2 : Addr} {S : TS} (tr : Tr C M p d1 d2 S) (n : Int) : Tr C (put M d2 (.dic (dJ (S.js.filter fun j => decide (j.1 ≠ n))))) p d1 d2 ⟨S.ws, S.js.filter fun j => decide (j.1 ≠ n), S.nx⟩ :=
  ⟨by rw [put_ne tr.n2]; exact tr.self, by rw [put_ne tr.ne]; exact tr.teeth, put_same, tr.ne, fun j hj => tr.lt j (List.mem_filter.mp hj).1⟩
theorem no_put_wheel {d1 d2 : Addr} {n : Int} : (fsT d1 d2 n).lookup ("put_wheel" : Str) = none := rfl
theorem no_put_join {d1 d2 : Addr} {n : Int} : (fsT d1 d2 n).lookup ("put_join" : Str) = none := rfl
theorem no_take_join {d1 d2 : Addr} {n : Int} : (fsT d1 d2 n).lookup ("take_join" : Str) = none := rfl
theorem has_iff (S : TS) (n : Str) : S.has n = decide (n ∈ S.ws.map Prod.fst) := by
  unfold TS.has
  rw [Bool.eq_iff_iff, List.any_eq_true, decide_eq_true_eq, List.mem_map]
  constructor
  · rintro ⟨x, hx, e⟩; exact ⟨x, hx, of_decide_eq_true e⟩
  · rintro ⟨x, hx, e⟩; exact ⟨x, hx, decide_eq_true e⟩
theorem refW_ok {S : TS} {n : Str} {t : Int} (h1 : isName n = true) (h2 : n ∉ S.ws.map Prod.fst) (h3 : 1 ≤ t) (h4 : t < 1000000000) (h5 : S.ws.length < 100) : refW S n t = none := by
  unfold refW
  rw [has_iff, decide_eq_false h2, h1, if_neg (by decide), if_neg (by decide), if_neg (by omega), if_neg (by omega)]
theorem refJ_ok {S : TS} {k a b : Str} (h1 : isKind k = true) (h2 : a ∈ S.ws.map Prod.fst) (h3 : b ∈ S.ws.map Prod.fst) (h4 : a ≠ b) (h5 : S.js.length < 200) : refJ S k a b = none := by
  unfold refJ
  rw [has_iff, has_iff, decide_eq_true h2, decide_eq_true h3, h1, if_neg (by decide), if_neg (by decide), if_neg h4, if_neg (by omega)]
theorem at_mem {ns : List Str} {i : Nat} (h : i < ns.length) : at_ ns i ∈ ns := by
  unfold at_; rw [List.getD_eq_getElem?_getD, List.getElem?_eq_getElem h]; exact List.getElem_mem h
noncomputable def tsOf (ws : List (Str × Int)) (js : List (Str × Nat × Nat)) : TS := ⟨ws, jsOf' (ws.map Prod.fst) js, js.length⟩
theorem row_at {ws : List (Str × Int)} {i : Nat} (h : i < ws.length) : atI (ws.map eW) (i : Int) = some (.tup [.str (at_ (ws.map Prod.fst) i), .int (ws[i]).2]) := by
  rw [at_nat _ _ (by simpa using h), List.getElem_map]
  unfold at_ eW
  rw [List.getD_eq_getElem?_getD, List.getElem?_map, List.getElem?_eq_getElem h]; rfl
noncomputable def spTrain (C : Addr) : SpA := fun ds M Q _ => ∃ (s : Nat) (ws : List (Str × Int)) (js : List (Str × Nat × Nat)), ds = [.lst (ws.map eW), .lst (js.map eK)] ∧ Rw s ws js ∧ ws.length ≤ 80 ∧ js.length ≤ 80 ∧ ∀ p d1 d2 M', L2.Sub M M' → Tr C M' p d1 d2 (tsOf ws js) → Q (.obj p) M'
theorem ok_law_train {f C : Addr} {fd : FuncData} {EC : Rk → Addr} (Fn : Fun K "_law_train" "_law_train" s_law_train f fd) (h_Train : HasC P w K mg base 1 "Train" C (spInit C))
    (h_put_wheel : HasM P w K mg base (CXE P w) 2 C "put_wheel" ["self", "name", "teeth"] (liftS K (spPutW C EC))) (h_put_join : HasM P w K mg base (CXE P w) 2 C "put_join" ["self", "kind", "one", "other"] (liftS K (spPutJ C EC))) :
    FnOk P w K mg base (CXE P w) 3 f fd ["_law_wheels", "_law_joins"] (liftS K (spTrain C)) := by
  refine Fn.okA sc_law_train (fun ds M Q E h => ?_) ?_
  · obtain ⟨_, _, _, rfl, _⟩ := h; rfl
  intro cdv A outer s H E F0 ds M Q Ea hr ct hsp
  obtain ⟨sp, ws, js, rfl, rw', hw, hj, q⟩ := hsp
  refine ⟨_, (ssCons (sSet (i := 2) sc_law_train.nd rfl (Or.inl rfl) (paMake h_Train (hr.mono (by decide)) (by rfl)))
      (ssCons (sFor ct (iList' (paV (pv 0))) (tgTup rfl (tgsCons (tgName (i := 3) sc_law_train.nd rfl (Or.inl rfl)) (tgsCons (tgName (i := 4) sc_law_train.nd rfl (Or.inl rfl)) tgsNil)))
        (ssOne (sExpr (paMeth h_put_wheel (hr.mono (by decide)) ct (paV (pv 2)) (aaCons (paV (pv 3)) (aaCons (paV (pv 4)) aaNil))))))
      (ssCons (sFor ct (iList' (paV (pv 1))) (tgTup rfl (tgsCons (tgName (i := 5) sc_law_train.nd rfl (Or.inl rfl)) (tgsCons (tgName (i := 6) sc_law_train.nd rfl (Or.inl rfl)) (tgsCons (tgName (i := 7) sc_law_train.nd rfl (Or.inl rfl)) tgsNil))))
        (ssOne (sExpr (paMeth h_put_join (hr.mono (by decide)) ct (paV (pv 2)) (aaCons (paV (pv 5)) (aaCons (paIx ix_seq lIx (paIx ix_seq lIx (paV (pv 0)) (paV (pv 6)) (fun _ _ => rfl)) paI (fun _ _ => rfl)) (aaCons (paIx ix_seq lIx (paIx ix_seq lIx (paV (pv 0)) (paV (pv 7)) (fun _ _ => rfl)) paI (fun _ _ => rfl)) aaNil)))))))
      (ssOne (sRet (paV (pv 2))))))), ?_⟩
  have nd := rw'.nodup (by omega)
  simp only [aYes, Bool.and_self, at0, at1, at2, at3, aSeq, aNext, aIf, aFor, iaR1, iaR2, iaR3, iaS, iaL, gaN, aSl, aPart, aNoPart, aT, aOp, aV, aC, aRet, aRetN, aTup, aLst, aLstM, aCons, aNil, aAnd, aOr, aNot, aAndV, aOrV, aNotV, aSet, aAsg, aDrop, aCall, aFun, aUn, oAdd, addF, addC, oI, oIc, eqq_int, eqq_str, eqq_bl, neq_int, neq_str, neq_bl, oIsN, isNon, oNeg, oLen, lenF, lenC, oIx, ixF, ixC, oIn, inB, oSl, slF, slC, Option.bind_some, Option.map_some, true_and, L2.dq, L2.dr, L2.dl, L2.dd, both_some, opt_some, insAt_some, keyD, aFldC, aDPut, oDIn, aDGet, aDPop, aDGet1, aSetF, aDNew, aRaise, aMeth, oCat, oCatM, startA, List.map_cons, List.map_nil, List.length_cons, List.length_nil, List.replicate, List.cons_append, List.nil_append, List.getElem?_cons_zero, List.getElem?_cons_succ, List.set_cons_zero, List.set_cons_succ, Nat.reduceAdd, Nat.reduceSub, if_true, Bool.false_eq_true, if_false, aMake, spInit]
  intro p hp
  refine ⟨p, rfl, put_same, fun d1 d2 h1 h2 n12 n1 n2 => ?_⟩
  rw [put_ne n1] at h1
  rw [put_ne n2] at h2
  have em : put (put (put (put M p (.ins C [])) d1 (.dic [])) d2 (.dic [])) p (.ins C (fsT d1 d2 0)) = put (put (put M d1 (.dic [])) d2 (.dic [])) p (.ins C (fsT d1 d2 0)) := by
    funext x
    by_cases hx : x = p
    · subst hx; rw [put_same, put_same]
    · rw [put_ne hx, put_ne hx]
      by_cases hx2 : x = d2
      · subst hx2; rw [put_same, put_same]
      · rw [put_ne hx2, put_ne hx2]
        by_cases hx1 : x = d1
        · subst hx1; rw [put_same, put_same]
        · rw [put_ne hx1, put_ne hx1, put_ne hx]
  rw [em]
  generalize hM0 : put (put (put M d1 (.dic [])) d2 (.dic [])) p (.ins C (fsT d1 d2 0)) = M0
  have tr0 : Tr C M0 p d1 d2 ⟨[], [], 0⟩ := by
    subst hM0
    exact ⟨put_same, by rw [put_ne n1, put_ne n12, put_same]; rfl, by rw [put_ne n2, put_same]; rfl, n12, fun _ h => (List.not_mem_nil h).elim⟩
  have far : ∀ x o, M x = some o → x ≠ p ∧ x ≠ d1 ∧ x ≠ d2 := by
    intro x o h
    refine ⟨fun z => ?_, fun z => ?_, fun z => ?_⟩
    · rw [z, hp] at h; cases h
    · rw [z, h1] at h; cases h
    · rw [z, h2] at h; cases h
  have sb0 : L2.Sub M M0 := by
    subst hM0
    intro x o h
    obtain ⟨a, b, c⟩ := far x o h
    rw [put_ne a, put_ne c, put_ne b]; exact h
  have sbW : ∀ {M1 : Mem} {o : MO}, L2.Sub M M1 → L2.Sub M (put M1 d1 o) := fun sb x o h => by rw [put_ne (far x o h).2.1]; exact sb x o h
  have sbJ : ∀ {M1 : Mem} {o o' : MO}, L2.Sub M M1 → L2.Sub M (put (put M1 d2 o) p o') := fun sb x o h => by rw [put_ne (far x o h).1, put_ne (far x o h).2.2]; exact sb x o h
  refine LoopP.by (fun i Γ M' => ∃ a b c d e, Γ = [some (.lst (ws.map eW)), some (.lst (js.map eK)), some (.obj p), a, b, c, d, e] ∧ L2.Sub M M' ∧ Tr C M' p d1 d2 ⟨ws.take i, [], 0⟩) ⟨_, _, _, _, _, rfl, sb0, tr0⟩ (fun _ _ _ _ => trivial) ?_ ?_
  · rintro i Γ M' hi ⟨a, b, c, d, e, rfl, sb, tr⟩
    dsimp only at hi
    have hi' : i < ws.length := by simpa using hi
    simp only [getD_map ws eW i hi', eW, gaTup, gaCons, gaNil, aYes, Bool.and_self, at0, at1, at2, at3, aSeq, aNext, aIf, aFor, iaR1, iaR2, iaR3, iaS, iaL, gaN, aSl, aPart, aNoPart, aT, aOp, aV, aC, aRet, aRetN, aTup, aLst, aLstM, aCons, aNil, aAnd, aOr, aNot, aAndV, aOrV, aNotV, aSet, aAsg, aDrop, aCall, aFun, aUn, oAdd, addF, addC, oI, oIc, eqq_int, eqq_str, eqq_bl, neq_int, neq_str, neq_bl, oIsN, isNon, oNeg, oLen, lenF, lenC, oIx, ixF, ixC, oIn, inB, oSl, slF, slC, Option.bind_some, Option.map_some, true_and, L2.dq, L2.dr, L2.dl, L2.dd, both_some, opt_some, insAt_some, keyD, aFldC, aDPut, oDIn, aDGet, aDPop, aDGet1, aSetF, aDNew, aRaise, aMeth, oCat, oCatM, startA, List.map_cons, List.map_nil, List.length_cons, List.length_nil, List.replicate, List.cons_append, List.nil_append, List.getElem?_cons_zero, List.getElem?_cons_succ, List.set_cons_zero, List.set_cons_succ, Nat.reduceAdd, Nat.reduceSub, if_true, Bool.false_eq_true, if_false, tr.self, no_put_wheel, spPutW]
    refine ⟨rfl, p, d1, d2, _, (ws[i]).1, (ws[i]).2, rfl, tr, ?_, ?_⟩
    · have := rw'.name (List.mem_map.mpr ⟨_, List.getElem_mem hi', rfl⟩)
      obtain ⟨k, _, e⟩ := this
      rw [e]
      have := (wNameL_len sp k).2
      show (wNameL sp k).length ≤ 1000
      omega
    · obtain ⟨k, hk, ek⟩ := rw'.name (List.mem_map.mpr ⟨_, List.getElem_mem hi', rfl⟩)
      have hn : (ws[i]).1 ∉ (ws.take i).map Prod.fst := by
        intro z
        obtain ⟨x, hx, ex⟩ := List.mem_map.mp z
        obtain ⟨j, hj', ej⟩ := List.getElem_of_mem hx
        rw [List.length_take] at hj'
        rw [List.getElem_take] at ej
        have P1 := List.pairwise_iff_getElem.mp nd j i (by simp; omega) (by simpa using hi') (by omega)
        rw [List.getElem_map, List.getElem_map] at P1
        exact P1 (by rw [ej, ex])
      have ht := rw'.teeth _ (List.getElem_mem hi')
      rw [refW_ok (by rw [ek]; exact isName_wName sp k) hn ht.1 ht.2 (by show (ws.take i).length < 100; rw [List.length_take]; omega)]
      refine ⟨hi, _, _, _, _, _, rfl, sbW sb, ?_⟩
      rw [List.take_succ_eq_append_getElem hi']
      exact tr.wheel _
  · rintro Γ M' ⟨a, b, c, d, e, rfl, sb, tr⟩
    have el : (ws.map eW).length = ws.length := List.length_map ..
    dsimp only at tr
    rw [el, List.take_length] at tr
    simp only [aYes, Bool.and_self, at0, at1, at2, at3, aSeq, aNext, aIf, aFor, iaR1, iaR2, iaR3, iaS, iaL, gaN, aSl, aPart, aNoPart, aT, aOp, aV, aC, aRet, aRetN, aTup, aLst, aLstM, aCons, aNil, aAnd, aOr, aNot, aAndV, aOrV, aNotV, aSet, aAsg, aDrop, aCall, aFun, aUn, oAdd, addF, addC, oI, oIc, eqq_int, eqq_str, eqq_bl, neq_int, neq_str, neq_bl, oIsN, isNon, oNeg, oLen, lenF, lenC, oIx, ixF, ixC, oIn, inB, oSl, slF, slC, Option.bind_some, Option.map_some, true_and, L2.dq, L2.dr, L2.dl, L2.dd, both_some, opt_some, insAt_some, keyD, aFldC, aDPut, oDIn, aDGet, aDPop, aDGet1, aSetF, aDNew, aRaise, aMeth, oCat, oCatM, startA, List.map_cons, List.map_nil, List.length_cons, List.length_nil, List.replicate, List.cons_append, List.nil_append, List.getElem?_cons_zero, List.getElem?_cons_succ, List.set_cons_zero, List.set_cons_succ, Nat.reduceAdd, Nat.reduceSub, if_true, Bool.false_eq_true, if_false]
    refine LoopP.by (fun i Γ M' => ∃ a b c d e, Γ = [some (.lst (ws.map eW)), some (.lst (js.map eK)), some (.obj p), a, b, c, d, e] ∧ L2.Sub M M' ∧ Tr C M' p d1 d2 (tsOf ws (js.take i))) ⟨_, _, _, _, _, rfl, sb, tr⟩ (fun _ _ _ _ => trivial) ?_ ?_
    · rintro i Γ M' hi ⟨a, b, c, d, e, rfl, sb, tr⟩
      dsimp only at hi
      have hi' : i < js.length := by simpa using hi
      obtain ⟨k1, k2, k3, k4⟩ := rw'.kinds _ (List.getElem_mem hi')
      simp only [getD_map js eK i hi', eK, gaTup, gaCons, gaNil, aYes, Bool.and_self, at0, at1, at2, at3, aSeq, aNext, aIf, aFor, iaR1, iaR2, iaR3, iaS, iaL, gaN, aSl, aPart, aNoPart, aT, aOp, aV, aC, aRet, aRetN, aTup, aLst, aLstM, aCons, aNil, aAnd, aOr, aNot, aAndV, aOrV, aNotV, aSet, aAsg, aDrop, aCall, aFun, aUn, oAdd, addF, addC, oI, oIc, eqq_int, eqq_str, eqq_bl, neq_int, neq_str, neq_bl, oIsN, isNon, oNeg, oLen, lenF, lenC, oIx, ixF, ixC, oIn, inB, oSl, slF, slC, Option.bind_some, Option.map_some, true_and, L2.dq, L2.dr, L2.dl, L2.dd, both_some, opt_some, insAt_some, keyD, aFldC, aDPut, oDIn, aDGet, aDPop, aDGet1, aSetF, aDNew, aRaise, aMeth, oCat, oCatM, startA, List.map_cons, List.map_nil, List.length_cons, List.length_nil, List.replicate, List.cons_append, List.nil_append, List.getElem?_cons_zero, List.getElem?_cons_succ, List.set_cons_zero, List.set_cons_succ, Nat.reduceAdd, Nat.reduceSub, if_true, Bool.false_eq_true, if_false, tr.self, no_put_join, spPutJ, row_at k2, row_at k3]
      refine ⟨rfl, p, d1, d2, _, _, _, _, rfl, tr, ?_⟩
      have hl : (ws.map Prod.fst).length = ws.length := List.length_map ..
      have m1 : at_ (ws.map Prod.fst) (js[i]).2.1 ∈ (tsOf ws (js.take i)).ws.map Prod.fst := by show _ ∈ ws.map Prod.fst; exact at_mem (by rw [hl]; exact k2)
      have m2 : at_ (ws.map Prod.fst) (js[i]).2.2 ∈ (tsOf ws (js.take i)).ws.map Prod.fst := by show _ ∈ ws.map Prod.fst; exact at_mem (by rw [hl]; exact k3)
      rw [refJ_ok k1 m1 m2 (fun z => k4 (at_inj nd (by rw [hl]; exact k2) (by rw [hl]; exact k3) z)) (by show (jsOf' _ (js.take i)).length < 200; unfold jsOf'; rw [List.length_mapIdx, List.length_take]; omega)]
      refine ⟨hi, _, _, _, _, _, rfl, sbJ sb, ?_⟩
      have e1 : tsOf ws (js.take (i + 1)) = ⟨(tsOf ws (js.take i)).ws, (tsOf ws (js.take i)).js ++ [((tsOf ws (js.take i)).nx, (js[i]).1, at_ (ws.map Prod.fst) (js[i]).2.1, at_ (ws.map Prod.fst) (js[i]).2.2)], (tsOf ws (js.take i)).nx + 1⟩ := by
        unfold tsOf
        rw [List.take_succ_eq_append_getElem hi', jsOf_snoc]
        simp [jsRow]
        omega
      rw [e1]
      exact tr.pin _ _ _
    · rintro Γ M' ⟨a, b, c, d, e, rfl, sb, tr⟩
      have el : (js.map eK).length = js.length := List.length_map ..
      dsimp only at tr
      rw [el, List.take_length] at tr
      exact .now (q p d1 d2 M' sb tr)

noncomputable def eP (e : En) : D := .tup [.int e.2.1, .int e.2.2]
noncomputable def spHung : SpA := fun ds M Q _ => ∃ (n : Nat) (es : List En) (a : Nat), ds = [.int n, .lst (es.map eP), .int a] ∧ n ≤ 1000 ∧ a < n ∧ (∀ e ∈ es, e.2.1 < n ∧ e.2.2 < n) ∧
  ∀ bs : List Bool, bs.length = n → (∀ b, bs.getD b false = true ↔ Hung es a b) → Q (.lst (bs.map D.bl)) M
theorem at_bl (bs : List Bool) (i : Nat) (h : i < bs.length) : atI (bs.map D.bl) (i : Int) = some (.bl (bs.getD i false)) := by
  rw [at_nat _ _ (by simpa using h), List.getElem_map, List.getD_eq_getElem?_getD, List.getElem?_eq_getElem h]; rfl
theorem set_bl (bs : List Bool) (i : Nat) : (bs.map D.bl).set i (.bl true) = (bs.set i true).map D.bl := by rw [List.map_set]
theorem ok_law_hung {f : Addr} {fd : FuncData} (Fn : Fun K "_law_hung" "_law_hung" s_law_hung f fd) (T : Txt K mg) : FnOk P w K mg base (CXE P w) 1 f fd ["_law_many", "_law_ends", "_law_start"] (liftS K spHung) := by
  refine Fn.okA sc_law_hung (fun ds M Q E h => ?_) ?_
  · obtain ⟨_, _, _, rfl, _⟩ := h; rfl
  intro cdv A outer s H E F0 ds M Q Ea hr ct hsp
  obtain ⟨n, es, a, rfl, hn, ha, he, q⟩ := hsp
  have hu64 := un64 ct
  refine ⟨_, (ssCons (sCompM (i := 3) sc_law_hung.nd rfl rfl (Nc := ["_law_k", "_law_start"]) (n := 1) (fs := [2]) comp1 rfl (iRange1 rfl T.range (aaCons (paV (pv 0)) aaNil)) (fun _ _ _ _ _ => (tgName (i := 0) (show List.Nodup (["_law_k", "_law_start"] : List Str) by decide +kernel) rfl (Or.inl rfl))) (fun _ _ _ _ _ => fiNil) (fun _ _ _ _ _ => (paCmp (op_eqs hu64) lEq (paV (pv 0)) (paV (pv 1)) (nomark _))) (by rfl))
      (ssCons (sSet (i := 4) sc_law_hung.nd rfl (Or.inl rfl) paB)
      (ssCons (sWhile ct (ptV (paV (pv 4)))
        (ssCons (sSet (i := 4) sc_law_hung.nd rfl (Or.inl rfl) paB)
        (ssOne (sFor ct (iList' (paV (pv 1))) (tgTup rfl (tgsCons (tgName (i := 5) sc_law_hung.nd rfl (Or.inl rfl)) (tgsCons (tgName (i := 6) sc_law_hung.nd rfl (Or.inl rfl)) tgsNil)))
          (ssOne (sIf (ptCmp (op_nes (un64 ct)) lNe (paIx ix_seq lIx (paV (pv 3)) (paV (pv 5)) (fun _ _ => rfl)) (paIx ix_seq lIx (paV (pv 3)) (paV (pv 6)) (fun _ _ => rfl)) (nomark _))
            (ssCons (sAsg paB (tgSub (paV (pv 3)) (paV (pv 5))))
            (ssCons (sAsg paB (tgSub (paV (pv 3)) (paV (pv 6))))
            (ssOne (sSet (i := 4) sc_law_hung.nd rfl (Or.inl rfl) paB))))
            ssNil))))))
      (ssOne (sRet (paV (pv 3))))))), ?_⟩
  simp only [aCompM, aYes, Bool.and_self, at0, at1, at2, at3, aSeq, aNext, aIf, aFor, iaR1, iaR2, iaR3, iaS, iaL, gaN, aSl, aPart, aNoPart, aT, aOp, aV, aC, aRet, aRetN, aTup, aLst, aLstM, aCons, aNil, aAnd, aOr, aNot, aAndV, aOrV, aNotV, aSet, aAsg, aDrop, aCall, aFun, aUn, oAdd, addF, addC, oI, oIc, eqq_int, eqq_str, eqq_bl, neq_int, neq_str, neq_bl, oIsN, isNon, oNeg, oLen, lenF, lenC, oIx, ixF, ixC, oIn, inB, oSl, slF, slC, Option.bind_some, Option.map_some, true_and, L2.dq, L2.dr, L2.dl, L2.dd, both_some, opt_some, insAt_some, keyD, aFldC, aDPut, oDIn, aDGet, aDPop, aDGet1, aSetF, aDNew, aRaise, aMeth, oCat, oCatM, startA, List.map_cons, List.map_nil, List.length_cons, List.length_nil, List.replicate, List.cons_append, List.nil_append, List.getElem?_cons_zero, List.getElem?_cons_succ, List.set_cons_zero, List.set_cons_succ, Nat.reduceAdd, Nat.reduceSub, if_true, Bool.false_eq_true, if_false, frG]
  refine ⟨by omega, by omega, fun i => some (.bl (decide ((i : Int) = (a : Int)))), by omega, fun M' _ i hi own ho => ?_, fun p hp => ?_⟩
  · obtain ⟨o, rfl⟩ := own1 ho
    refine ⟨⟨[some _], rfl, rfl⟩, ?_⟩
    show oEq false (.int i) (.int a) M' _
    rw [eqq_int]
    exact ⟨rfl, rfl⟩
  have e0 : outs (fun i => some (.bl (decide ((i : Int) = (a : Int))))) (n : Int).toNat = ((List.range n).map fun i => decide (i = a)).map D.bl := by
    rw [outs_map, List.map_map]
    show (List.range n).map _ = _
    congr 1
    funext i
    have e : ((i : Int) = (a : Int)) ↔ i = a := by omega
    simp [e]
  rw [e0]
  have g0 : ∀ b, ((List.range n).map fun i => decide (i = a)).getD b false = decide (b < n ∧ b = a) := by
    intro b
    rw [List.getD_eq_getElem?_getD, List.getElem?_map]
    by_cases h : b < n
    · rw [List.getElem?_range h]; simp [h]
    · rw [List.getElem?_eq_none (by simpa using h)]; simp [h]
  have hg0 : Hg es a n ((List.range n).map fun i => decide (i = a)) := by
    refine ⟨by simp, fun b hb => ?_, ?_⟩
    · rw [g0] at hb
      have hb := of_decide_eq_true hb
      rw [hb.2]; exact .refl
    · rw [g0]; exact decide_eq_true ⟨ha, rfl⟩
  generalize ((List.range n).map fun i => decide (i = a)) = bs0 at hg0
  refine ⟨fun m Γ M' => ∃ (bs : List Bool) (ag : Bool) (o5 o6 : Option D), Γ = [some (.int n), some (.lst (es.map eP)), some (.int a), some (.obj p), some (.bl ag), o5, o6] ∧ M' = put M p (.lst (bs.map D.bl)) ∧ Hg es a n bs ∧ (ag = false → ∀ e ∈ es, bs.getD e.2.1 false = bs.getD e.2.2 false) ∧ loose bs + (if ag = true then 1 else 0) ≤ m,
    ⟨_, bs0, true, none, none, rfl, rfl, hg0, fun h => (by cases h), Nat.le_refl _⟩, ?_⟩
  rintro m Γ M' ⟨bs, ag, o5, o6, rfl, rfl, hg, hcl, hm⟩
  cases ag with
  | false =>
    refine Rt.fz hp (q bs hg.len fun b => ⟨hg.sound b, fun h => hg.all (hcl rfl) h⟩)
  | true =>
    rw [if_pos rfl] at hm
    refine cT (fun R h => h) (seqV (.bl false) (put M p (.lst (bs.map D.bl))) (fun R h => h) ?_)
    refine LoopP.by2 (fun i Γ M' => ∃ (bs' : List Bool) (ag' : Bool) (o5 o6 : Option D), Γ = [some (.int n), some (.lst (es.map eP)), some (.int a), some (.obj p), some (.bl ag'), o5, o6] ∧ M' = put M p (.lst (bs'.map D.bl)) ∧ Hg es a n bs' ∧ (ag' = true → loose bs' < loose bs) ∧ (ag' = false → bs' = bs ∧ ∀ (k : Nat) (h : k < es.length), k < i → bs.getD (es[k]).2.1 false = bs.getD (es[k]).2.2 false))
      ⟨bs, false, o5, o6, rfl, rfl, hg, fun h => (by cases h), fun _ => ⟨rfl, fun k _ hk => absurd hk (Nat.not_lt_zero _)⟩⟩ (fun _ _ _ _ => rfl) ?_ ?_
    · rintro E' i Γ M' hrt hi hnx ⟨bs', ag', o5, o6, rfl, rfl, hg', ht, hf⟩
      dsimp only at hi
      have hi' : i < es.length := by simpa using hi
      obtain ⟨j1, j2⟩ := he _ (List.getElem_mem hi')
      have hmem := List.getElem_mem hi'
      have last : ∀ k (h : k < es.length), k < i + 1 → k < i ∨ es[k] = es[i] := fun k h hk => by
        by_cases e : k = i
        · subst e; exact .inr rfl
        · exact .inl (by omega)
      simp only [getD_map es eP i hi']
      generalize es[i] = e at j1 j2 hmem last ⊢
      simp only [eP, gaTup, gaCons, gaNil, gaN, List.set_cons_zero, List.set_cons_succ, true_and]
      refine ⟨rfl, ?_⟩
      have l1 : e.2.1 < bs'.length := by rw [hg'.len]; exact j1
      have l2 : e.2.2 < bs'.length := by rw [hg'.len]; exact j2
      by_cases hd : bs'.getD e.2.1 false = bs'.getD e.2.2 false
      · refine ifV false (fun R h => by
          simp only [aYes, Bool.and_self, at0, at1, at2, at3, aSeq, aNext, aIf, aFor, iaR1, iaR2, iaR3, iaS, iaL, gaN, aSl, aPart, aNoPart, aT, aOp, aV, aC, aRet, aRetN, aTup, aLst, aLstM, aCons, aNil, aAnd, aOr, aNot, aAndV, aOrV, aNotV, aSet, aAsg, aDrop, aCall, aFun, aUn, oAdd, addF, addC, oI, oIc, eqq_int, eqq_str, eqq_bl, neq_int, neq_str, neq_bl, oIsN, isNon, oNeg, oLen, lenF, lenC, oIx, ixF, ixC, oIn, inB, oSl, slF, slC, Option.bind_some, Option.map_some, true_and, L2.dq, L2.dr, L2.dl, L2.dd, both_some, opt_some, insAt_some, keyD, aFldC, aDPut, oDIn, aDGet, aDPop, aDGet1, aSetF, aDNew, aRaise, aMeth, oCat, oCatM, startA, List.map_cons, List.map_nil, List.length_cons, List.length_nil, List.replicate, List.cons_append, List.nil_append, List.getElem?_cons_zero, List.getElem?_cons_succ, List.set_cons_zero, List.set_cons_succ, Nat.reduceAdd, Nat.reduceSub, if_true, Bool.false_eq_true, if_false, put_same, at_bl _ _ l1, at_bl _ _ l2, hd, decide_true, Bool.not_true]
          exact h) ?_
        rw [if_neg Bool.false_ne_true]
        refine hnx _ _ ⟨bs', ag', _, _, rfl, rfl, hg', ht, fun h => ?_⟩
        obtain ⟨rfl, hk⟩ := hf h
        refine ⟨rfl, fun k hk1 hk2 => ?_⟩
        rcases last k hk1 hk2 with h' | h'
        · exact hk k hk1 h'
        · rw [h']; exact hd
      · refine ifV true (fun R h => by
          simp only [aYes, Bool.and_self, at0, at1, at2, at3, aSeq, aNext, aIf, aFor, iaR1, iaR2, iaR3, iaS, iaL, gaN, aSl, aPart, aNoPart, aT, aOp, aV, aC, aRet, aRetN, aTup, aLst, aLstM, aCons, aNil, aAnd, aOr, aNot, aAndV, aOrV, aNotV, aSet, aAsg, aDrop, aCall, aFun, aUn, oAdd, addF, addC, oI, oIc, eqq_int, eqq_str, eqq_bl, neq_int, neq_str, neq_bl, oIsN, isNon, oNeg, oLen, lenF, lenC, oIx, ixF, ixC, oIn, inB, oSl, slF, slC, Option.bind_some, Option.map_some, true_and, L2.dq, L2.dr, L2.dl, L2.dd, both_some, opt_some, insAt_some, keyD, aFldC, aDPut, oDIn, aDGet, aDPop, aDGet1, aSetF, aDNew, aRaise, aMeth, oCat, oCatM, startA, List.map_cons, List.map_nil, List.length_cons, List.length_nil, List.replicate, List.cons_append, List.nil_append, List.getElem?_cons_zero, List.getElem?_cons_succ, List.set_cons_zero, List.set_cons_succ, Nat.reduceAdd, Nat.reduceSub, if_true, Bool.false_eq_true, if_false, put_same, at_bl _ _ l1, at_bl _ _ l2, decide_eq_false hd, Bool.not_false]
          exact h) ?_
        rw [if_pos rfl]
        have l2' : e.2.2 < (bs'.set e.2.1 true).length := by simpa using l2
        simp only [aYes, Bool.and_self, at0, at1, at2, at3, aSeq, aNext, aIf, aFor, iaR1, iaR2, iaR3, iaS, iaL, gaN, aSl, aPart, aNoPart, aT, aOp, aV, aC, aRet, aRetN, aTup, aLst, aLstM, aCons, aNil, aAnd, aOr, aNot, aAndV, aOrV, aNotV, aSet, aAsg, aDrop, aCall, aFun, aUn, oAdd, addF, addC, oI, oIc, eqq_int, eqq_str, eqq_bl, neq_int, neq_str, neq_bl, oIsN, isNon, oNeg, oLen, lenF, lenC, oIx, ixF, ixC, oIn, inB, oSl, slF, slC, Option.bind_some, Option.map_some, true_and, L2.dq, L2.dr, L2.dl, L2.dd, both_some, opt_some, insAt_some, keyD, aFldC, aDPut, oDIn, aDGet, aDPop, aDGet1, aSetF, aDNew, aRaise, aMeth, oCat, oCatM, startA, List.map_cons, List.map_nil, List.length_cons, List.length_nil, List.replicate, List.cons_append, List.nil_append, List.getElem?_cons_zero, List.getElem?_cons_succ, List.set_cons_zero, List.set_cons_succ, Nat.reduceAdd, Nat.reduceSub, if_true, Bool.false_eq_true, if_false, gaSub, put_same, put_put, List.length_map, ixN_nat l1, ixN_nat l2', set_bl]
        obtain ⟨hg2, hl⟩ := hg'.edge hmem j1 j2 hd
        refine hnx _ _ ⟨_, true, _, _, rfl, rfl, hg2, fun _ => ?_, fun h => (by cases h)⟩
        cases ag' with
        | true => have := ht rfl; omega
        | false => obtain ⟨rfl, _⟩ := hf rfl; omega
    · rintro Γ M' ⟨bs', ag', o5, o6, rfl, rfl, hg', ht, hf⟩
      refine ⟨loose bs' + (if ag' = true then 1 else 0), ?_, bs', ag', _, _, rfl, rfl, hg', fun h e he' => ?_, Nat.le_refl _⟩
      · cases ag' with
        | true => have := ht rfl; rw [if_pos rfl]; omega
        | false => obtain ⟨rfl, _⟩ := hf rfl; rw [if_neg Bool.false_ne_true]; omega
      · obtain ⟨rfl, hk⟩ := hf h
        obtain ⟨k, hk1, rfl⟩ := List.getElem_of_mem he'
        exact hk k hk1 (by simpa using hk1)


noncomputable def eEn (e : En) : Key × D := (Sum.inl e.1, eP e)
theorem getK_en {es : List En} (nd : (es.map Prod.fst).Nodup) {e : En} (h : e ∈ es) : getK (es.map eEn) (Sum.inl e.1) = some (eP e) := by
  induction es with
  | nil => cases h
  | cons x es ih =>
    rw [List.map_cons] at nd
    obtain ⟨n1, n2⟩ := List.nodup_cons.mp nd
    unfold getK at ih ⊢
    simp only [List.map_cons, List.find?_cons, eEn, Sum.inl.injEq]
    rcases List.mem_cons.mp h with rfl | h
    · rw [decide_eq_true rfl]; rfl
    · have ne : ¬ x.1 = e.1 := fun z => n1 (by rw [z]; exact List.mem_map.mpr ⟨e, h, rfl⟩)
      rw [decide_eq_false ne]
      exact ih n2 h
theorem idx_at {ns : List Str} (nd : ns.Nodup) {i : Nat} (h : i < ns.length) : idxD (.str (at_ ns i)) (ns.map D.str) = some i := by
  induction ns generalizing i with
  | nil => cases h
  | cons x ns ih =>
    obtain ⟨n1, n2⟩ := List.nodup_cons.mp nd
    cases i with
    | zero =>
      have e : at_ (x :: ns) 0 = x := rfl
      rw [e]
      simp [idxD, eqF]
    | succ i =>
      have hi : i < ns.length := by simpa using h
      have e : at_ (x :: ns) (i + 1) = at_ ns i := rfl
      rw [e, List.map_cons]
      unfold idxD
      have ne : ¬ x = at_ ns i := fun z => n1 (by rw [z]; exact at_mem hi)
      have e2 : eqF (.str x) (.str (at_ ns i)) = false := by simp [eqF, ne]
      rw [e2, if_neg Bool.false_ne_true, ih n2 hi]; rfl
theorem flD_strs (ns : List Str) : (ns.map D.str).all flD = true := by
  rw [List.all_map, List.all_eq_true]; intros; rfl
noncomputable def iN (k : Nat) : D := .int k
theorem flD_nats (ns : List Nat) : (ns.map iN).all flD = true := by
  rw [List.all_map, List.all_eq_true]; intros; rfl
theorem in_nats (ns : List Nat) (k : Nat) : inD (.int k) (ns.map iN) = decide (k ∈ ns) := by
  unfold inD
  induction ns with
  | nil => rfl
  | cons a ns ih =>
    simp only [List.map_cons, List.any_cons, List.mem_cons, Bool.decide_or]
    rw [ih]
    congr 1
    by_cases h : a = k
    · subst h; simp [eqF, iN]
    · have h' : ¬ k = a := fun z => h z.symm
      have h2 : ¬ ((a : Int) = (k : Int)) := by omega
      simp [eqF, iN, h', h2]
theorem gd_pair (a b : Int) : Gd 1 (.tup [.int a, .int b]) := .tup _ _ fun d hd => by
  simp only [List.mem_cons, List.not_mem_nil, or_false] at hd
  rcases hd with rfl | rfl
  · exact .int _ _
  · exact .int _ _
noncomputable def spWalked : SpA := fun ds M Q _ => ∃ (q : Addr) (st : List (Int × Str)) (ns : List Str) (js : List Jn) (es : List En) (a b : Nat), ds = [.lst (st.map eSt), .obj q, .lst (ns.map D.str), .int a, .int b] ∧ M q = some (.dic (es.map eEn)) ∧ Net ns js es ∧ a < ns.length ∧ b < ns.length ∧
  Way js (at_ ns a) st (at_ ns b) ∧ (at_ ns a :: st.map Prod.snd).Nodup ∧ st.length ≤ 900 ∧ Q (.bl true) M
theorem ok_law_walked {f : Addr} {fd : FuncData} (Fn : Fun K "_law_walked" "_law_walked" s_law_walked f fd) (T : Txt K mg) (h_law_whole : Has P w K mg base (CXE P w) 1 "_law_whole" ["_law_found"] (liftS K spWhole)) :
    FnOk P w K mg base (CXE P w) 2 f fd ["_law_told", "_law_ends", "_law_names", "_law_one", "_law_other"] (liftS K spWalked) := by
  refine Fn.okA sc_law_walked (fun ds M Q E h => ?_) ?_
  · obtain ⟨_, _, _, _, _, _, _, rfl, _⟩ := h; rfl
  intro cdv A outer s H E F0 ds M Q Ea hr ct hsp
  obtain ⟨q', st, ns, js, es, a, b, rfl, hq, N, ha, hb, wy, nd, hl, q⟩ := hsp
  refine ⟨_, (ssCons (sIf (ptNot (ptV (paInst (T := "list") (x := "list") (by decide) (by rfl) T.isinstance (by rfl) T.list boot_list (paV (pv 0)))))
        (ssOne (sRet paB))
        ssNil)
      (ssCons (sSet (i := 5) sc_law_walked.nd rfl (Or.inl rfl) (paV (pv 3)))
      (ssCons (sSet (i := 6) sc_law_walked.nd rfl (Or.inl rfl) (paLstM (aaCons (paV (pv 3)) aaNil)))
      (ssCons (sFor ct (iList' (paV (pv 0))) (tgName (i := 7) sc_law_walked.nd rfl (Or.inl rfl))
        (ssCons (sIf ((pwOr (ptNot (ptV (paInst (T := "tuple") (x := "tuple") (by decide) (by rfl) T.isinstance (by rfl) T.tuple boot_tuple (paV (pv 7))))) (pwOr1 (ptCmp (op_nes (un64 ct)) lNe (paCallB call_lens lLen (by rfl) T.len PySem.boot_len (aaCons (paV (pv 7)) aaNil)) paI (nomark _))))).pt
          (ssOne (sRet paB))
          ssNil)
        (ssCons (sIf ((pwOr (ptNot (ptV (paFun h_law_whole (hr.mono (by decide)) (by rfl) ct (aaCons (paIx ix_seq lIx (paV (pv 7)) paI (fun _ _ => rfl)) aaNil)))) (pwOr (ptNot (ptV (paInst (T := "str") (x := "str") (by decide) (by rfl) T.isinstance (by rfl) T.str boot_str (paIx ix_seq lIx (paV (pv 7)) paI (fun _ _ => rfl))))) (pwOr (ptPC (pcDNotIn (un1 ct) (paIx ix_seq lIx (paV (pv 7)) paI (fun _ _ => rfl)) (paV (pv 1)))) (pwOr1 (ptCmp op_notIns lNotIn (paIx ix_seq lIx (paV (pv 7)) paI (fun _ _ => rfl)) (paV (pv 2)) (by with_unfolding_all rfl))))))).pt
          (ssOne (sRet paB))
          ssNil)
        (ssCons (sSet (i := 8) sc_law_walked.nd rfl (Or.inl rfl) (paBM PySem.F.plainAttrs_list PySem.F.slot_list_index PySem.F.type_list_index mt_index lIndex (paV (pv 2)) (aaCons (paIx ix_seq lIx (paV (pv 7)) paI (fun _ _ => rfl)) aaNil)))
        (ssCons (sIf ((pwOr (ptCmp op_ins lIn (paV (pv 8)) (paV (pv 6)) (by with_unfolding_all rfl)) (pwOr1 ((pwAnd (ptCmp (op_nes (un64 ct)) lNe (paDGet (un1 ct) (paV (pv 1)) (paIx ix_seq lIx (paV (pv 7)) paI (fun _ _ => rfl)) (fun _ _ => rfl)) (paTup (aaCons (paV (pv 5)) (aaCons (paV (pv 8)) aaNil))) (nomark _)) (pwAnd1 (ptCmp (op_nes (un64 ct)) lNe (paDGet (un1 ct) (paV (pv 1)) (paIx ix_seq lIx (paV (pv 7)) paI (fun _ _ => rfl)) (fun _ _ => rfl)) (paTup (aaCons (paV (pv 8)) (aaCons (paV (pv 5)) aaNil))) (nomark _))))).pt))).pt
          (ssOne (sRet paB))
          ssNil)
        (ssCons (sExpr (paBM PySem.F.plainAttrs_list PySem.F.slot_list_append PySem.F.type_list_append mt_append lAppend (paV (pv 6)) (aaCons (paV (pv 8)) aaNil)))
        (ssOne (sSet (i := 5) sc_law_walked.nd rfl (Or.inl rfl) (paV (pv 8))))))))))
      (ssOne (sRet (paCmp (op_eqs (un64 ct)) lEq (paV (pv 5)) (paV (pv 4)) (nomark _)))))))), ?_⟩
  have e0 : (!("list" : String) == "list") = false := by decide
  simp only [aYes, Bool.and_self, at0, at1, at2, at3, aSeq, aNext, aIf, aFor, iaR1, iaR2, iaR3, iaS, iaL, gaN, aSl, aPart, aNoPart, aT, aOp, aV, aC, aRet, aRetN, aTup, aLst, aLstM, aCons, aNil, aAnd, aOr, aNot, aAndV, aOrV, aNotV, aSet, aAsg, aDrop, aCall, aFun, aUn, oAdd, addF, addC, oI, oIc, eqq_int, eqq_str, eqq_bl, neq_int, neq_str, neq_bl, oIsN, isNon, oNeg, oLen, lenF, lenC, oIx, ixF, ixC, oIn, inB, oSl, slF, slC, Option.bind_some, Option.map_some, true_and, L2.dq, L2.dr, L2.dl, L2.dd, both_some, opt_some, insAt_some, keyD, aFldC, aDPut, oDIn, aDGet, aDPop, aDGet1, aSetF, aDNew, aRaise, aMeth, oCat, oCatM, startA, List.map_cons, List.map_nil, List.length_cons, List.length_nil, List.replicate, List.cons_append, List.nil_append, List.getElem?_cons_zero, List.getElem?_cons_succ, List.set_cons_zero, List.set_cons_succ, Nat.reduceAdd, Nat.reduceSub, if_true, Bool.false_eq_true, if_false, aInst, instD, instOk, e0]
  refine ⟨Nat.le_of_ble_eq_true rfl, fun r hr' => ?_⟩
  have nqr : q' ≠ r := by rintro rfl; rw [hq] at hr'; cases hr'
  refine LoopP.by (fun i Γ M' => ∃ (c : Nat) (sn : List Nat) (o7 o8 : Option D), Γ = [some (.lst (st.map eSt)), some (.obj q'), some (.lst (ns.map D.str)), some (.int a), some (.int b), some (.int c), some (.obj r), o7, o8] ∧ M' = put M r (.lst (sn.map iN)) ∧ c < ns.length ∧ (∀ k ∈ sn, k < ns.length) ∧ sn.map (at_ ns) = at_ ns a :: (st.take i).map Prod.snd ∧ Way js (at_ ns c) (st.drop i) (at_ ns b) ∧ sn.length ≤ i + 1)
    ⟨a, [a], _, _, rfl, rfl, ha, fun k hk => by rw [List.mem_singleton.mp hk]; exact ha, by simp, by simpa using wy, by simp⟩ (fun _ _ _ _ => trivial) ?_ ?_
  · rintro i Γ M' hi ⟨c, sn, o7, o8, rfl, rfl, hc, hs, es', wy', hsl⟩
    dsimp only at hi
    have hi' : i < st.length := by simpa using hi
    have ed : st.drop i = st[i] :: st.drop (i + 1) := List.drop_eq_getElem_cons hi'
    rw [ed] at wy'
    generalize hx : st[i] = x at wy'
    obtain ⟨n, y⟩ := x
    cases wy' with
    | cons hlead wy2 =>
    rename_i l
    obtain ⟨e, hem, e1, e2⟩ := N.ofLead hc hlead
    obtain ⟨i1, i2, i3⟩ := N.inn e hem
    -- the other end
    obtain ⟨t, ht, ety, ends⟩ : ∃ t, t < ns.length ∧ at_ ns t = l.2.2 ∧ (eP e = .tup [.int c, .int t] ∨ eP e = .tup [.int t, .int c]) := by
      rcases e2 with ⟨h1, h2⟩ | ⟨h1, h2⟩
      · exact ⟨e.2.2, i2, h2, .inl (by unfold eP; rw [h1])⟩
      · exact ⟨e.2.1, i1, h2, .inr (by unfold eP; rw [h1])⟩
    have eg := getK_en N.keys hem
    rw [e1] at eg
    have hmem : l.2.2 ∈ ns := by rw [← ety]; exact at_mem ht
    have eix : idxD (.str l.2.2) (ns.map D.str) = some t := by rw [← ety]; exact idx_at N.nd ht
    have hts : t ∉ sn := by
      intro z
      have h1 : l.2.2 ∈ sn.map (at_ ns) := by rw [← ety]; exact List.mem_map.mpr ⟨t, z, rfl⟩
      rw [es'] at h1
      have h2 : at_ ns a :: st.map Prod.snd = (at_ ns a :: (st.take i).map Prod.snd) ++ (l.2.2 :: (st.drop (i + 1)).map Prod.snd) := by
        have : st = st.take i ++ ((l.1, l.2.2) :: st.drop (i + 1)) := by
          rw [← hx, ← ed, List.take_append_drop]
        conv => lhs; rw [this]
        simp
      rw [h2] at nd
      exact (List.nodup_append.mp nd).2.2 _ h1 _ List.mem_cons_self rfl
    have e3 : (!("tuple" : String) == "tuple") = false := by decide
    have e4 : (!("str" : String) == "str") = false := by decide
    have mq : put M r (.lst (sn.map iN)) q' = some (.dic (es.map eEn)) := by rw [put_ne nqr]; exact hq
    have fl : (flD (.str l.2.2) && (ns.map D.str).all flD) = true := by rw [flD_strs]; rfl
    have fl2 : (flD (.int (t : Int)) && (sn.map iN).all flD) = true := by rw [flD_nats]; rfl
    have e5 : decide ((2 : Int) = 2) = true := by decide
    simp only [getD_map st eSt i hi', hx, eSt, gaN, List.set_cons_zero, List.set_cons_succ]
    refine seqIfF (fun R h => by
      simp only [aYes, Bool.and_self, at0, at1, at2, at3, aSeq, aNext, aIf, aFor, iaR1, iaR2, iaR3, iaS, iaL, gaN, aSl, aPart, aNoPart, aT, aOp, aV, aC, aRet, aRetN, aTup, aLst, aLstM, aCons, aNil, aAnd, aOr, aNot, aAndV, aOrV, aNotV, aSet, aAsg, aDrop, aCall, aFun, aUn, oAdd, addF, addC, oI, oIc, eqq_int, eqq_str, eqq_bl, neq_int, neq_str, neq_bl, oIsN, isNon, oNeg, oLen, lenF, lenC, oIx, ixF, ixC, oIn, inB, oSl, slF, slC, Option.bind_some, Option.map_some, true_and, L2.dq, L2.dr, L2.dl, L2.dd, both_some, opt_some, insAt_some, keyD, aFldC, aDPut, oDIn, aDGet, aDPop, aDGet1, aSetF, aDNew, aRaise, aMeth, oCat, oCatM, startA, List.map_cons, List.map_nil, List.length_cons, List.length_nil, List.replicate, List.cons_append, List.nil_append, List.getElem?_cons_zero, List.getElem?_cons_succ, List.set_cons_zero, List.set_cons_succ, Nat.reduceAdd, Nat.reduceSub, if_true, Bool.false_eq_true, if_false, aInst, instD, instOk, e3]
      exact h) ?_
    refine seqIfF (fun R h => by
      simp only [aYes, Bool.and_self, at0, at1, at2, at3, aSeq, aNext, aIf, aFor, iaR1, iaR2, iaR3, iaS, iaL, gaN, aSl, aPart, aNoPart, aT, aOp, aV, aC, aRet, aRetN, aTup, aLst, aLstM, aCons, aNil, aAnd, aOr, aNot, aAndV, aOrV, aNotV, aSet, aAsg, aDrop, aCall, aFun, aUn, oAdd, addF, addC, oI, oIc, eqq_int, eqq_str, eqq_bl, neq_int, neq_str, neq_bl, oIsN, isNon, oNeg, oLen, lenF, lenC, oIx, ixF, ixC, oIn, inB, oSl, slF, slC, Option.bind_some, Option.map_some, true_and, L2.dq, L2.dr, L2.dl, L2.dd, both_some, opt_some, insAt_some, keyD, aFldC, aDPut, oDIn, aDGet, aDPop, aDGet1, aSetF, aDNew, aRaise, aMeth, oCat, oCatM, startA, List.map_cons, List.map_nil, List.length_cons, List.length_nil, List.replicate, List.cons_append, List.nil_append, List.getElem?_cons_zero, List.getElem?_cons_succ, List.set_cons_zero, List.set_cons_succ, Nat.reduceAdd, Nat.reduceSub, if_true, Bool.false_eq_true, if_false, aInst, instD, instOk, e4, spWhole, mq, eg, fl, inD_strs, decide_eq_true hmem, Option.isSome_some, Bool.not_true]
      exact ⟨_, rfl, rfl, h⟩) ?_
    refine seqV (.int (t : Int)) _ (fun R h => by
      simp only [aYes, Bool.and_self, at0, at1, at2, at3, aSeq, aNext, aIf, aFor, iaR1, iaR2, iaR3, iaS, iaL, gaN, aSl, aPart, aNoPart, aT, aOp, aV, aC, aRet, aRetN, aTup, aLst, aLstM, aCons, aNil, aAnd, aOr, aNot, aAndV, aOrV, aNotV, aSet, aAsg, aDrop, aCall, aFun, aUn, oAdd, addF, addC, oI, oIc, eqq_int, eqq_str, eqq_bl, neq_int, neq_str, neq_bl, oIsN, isNon, oNeg, oLen, lenF, lenC, oIx, ixF, ixC, oIn, inB, oSl, slF, slC, Option.bind_some, Option.map_some, true_and, L2.dq, L2.dr, L2.dl, L2.dd, both_some, opt_some, insAt_some, keyD, aFldC, aDPut, oDIn, aDGet, aDPop, aDGet1, aSetF, aDNew, aRaise, aMeth, oCat, oCatM, startA, List.map_cons, List.map_nil, List.length_cons, List.length_nil, List.replicate, List.cons_append, List.nil_append, List.getElem?_cons_zero, List.getElem?_cons_succ, List.set_cons_zero, List.set_cons_succ, Nat.reduceAdd, Nat.reduceSub, if_true, Bool.false_eq_true, if_false, aBM, kindD, oIndex, eix]
      exact ⟨flD_strs ns, rfl, h⟩) ?_
    simp only [List.set_cons_zero, List.set_cons_succ]
    refine seqIfF (fun R h => by
      simp only [aYes, Bool.and_self, at0, at1, at2, at3, aSeq, aNext, aIf, aFor, iaR1, iaR2, iaR3, iaS, iaL, gaN, aSl, aPart, aNoPart, aT, aOp, aV, aC, aRet, aRetN, aTup, aLst, aLstM, aCons, aNil, aAnd, aOr, aNot, aAndV, aOrV, aNotV, aSet, aAsg, aDrop, aCall, aFun, aUn, oAdd, addF, addC, oI, oIc, eqq_int, eqq_str, eqq_bl, neq_int, neq_str, neq_bl, oIsN, isNon, oNeg, oLen, lenF, lenC, oIx, ixF, ixC, oIn, inB, oSl, slF, slC, Option.bind_some, Option.map_some, true_and, L2.dq, L2.dr, L2.dl, L2.dd, both_some, opt_some, insAt_some, keyD, aFldC, aDPut, oDIn, aDGet, aDPop, aDGet1, aSetF, aDNew, aRaise, aMeth, oCat, oCatM, startA, List.map_cons, List.map_nil, List.length_cons, List.length_nil, List.replicate, List.cons_append, List.nil_append, List.getElem?_cons_zero, List.getElem?_cons_succ, List.set_cons_zero, List.set_cons_succ, Nat.reduceAdd, Nat.reduceSub, if_true, Bool.false_eq_true, if_false, put_same, fl2, in_nats, decide_eq_false hts, mq, eg]
      rcases ends with ed | ed
      · rw [ed]
        refine ⟨by decide, ne_self' (gd_pair _ _).sh ?_⟩
        exact h
      · rw [ed]
        refine ⟨by decide, .inr ⟨(gd_pair _ _).sh, (gd_pair _ _).sh⟩, ?_⟩
        dsimp only
        refine ite2 (fun _ => ?_) fun _ => h
        simp only [mq, both_some, eg, opt_some, ed]
        exact ⟨by decide, ne_self' (gd_pair _ _).sh h⟩) ?_
    refine dropV .non (put M r (.lst ((sn ++ [t]).map iN))) (fun R h => by
      simp only [aYes, Bool.and_self, at0, at1, at2, at3, aSeq, aNext, aIf, aFor, iaR1, iaR2, iaR3, iaS, iaL, gaN, aSl, aPart, aNoPart, aT, aOp, aV, aC, aRet, aRetN, aTup, aLst, aLstM, aCons, aNil, aAnd, aOr, aNot, aAndV, aOrV, aNotV, aSet, aAsg, aDrop, aCall, aFun, aUn, oAdd, addF, addC, oI, oIc, eqq_int, eqq_str, eqq_bl, neq_int, neq_str, neq_bl, oIsN, isNon, oNeg, oLen, lenF, lenC, oIx, ixF, ixC, oIn, inB, oSl, slF, slC, Option.bind_some, Option.map_some, true_and, L2.dq, L2.dr, L2.dl, L2.dd, both_some, opt_some, insAt_some, keyD, aFldC, aDPut, oDIn, aDGet, aDPop, aDGet1, aSetF, aDNew, aRaise, aMeth, oCat, oCatM, startA, List.map_cons, List.map_nil, List.length_cons, List.length_nil, List.replicate, List.cons_append, List.nil_append, List.getElem?_cons_zero, List.getElem?_cons_succ, List.set_cons_zero, List.set_cons_succ, Nat.reduceAdd, Nat.reduceSub, if_true, Bool.false_eq_true, if_false, aBM, kindD, put_same, oAppend, put_put, List.length_map]
      rw [List.map_append] at h
      exact ⟨by omega, h⟩) ?_
    refine setV (.int (t : Int)) _ (fun R h => by simp only [aYes, Bool.and_self, at0, at1, at2, at3, aSeq, aNext, aIf, aFor, iaR1, iaR2, iaR3, iaS, iaL, gaN, aSl, aPart, aNoPart, aT, aOp, aV, aC, aRet, aRetN, aTup, aLst, aLstM, aCons, aNil, aAnd, aOr, aNot, aAndV, aOrV, aNotV, aSet, aAsg, aDrop, aCall, aFun, aUn, oAdd, addF, addC, oI, oIc, eqq_int, eqq_str, eqq_bl, neq_int, neq_str, neq_bl, oIsN, isNon, oNeg, oLen, lenF, lenC, oIx, ixF, ixC, oIn, inB, oSl, slF, slC, Option.bind_some, Option.map_some, true_and, L2.dq, L2.dr, L2.dl, L2.dd, both_some, opt_some, insAt_some, keyD, aFldC, aDPut, oDIn, aDGet, aDPop, aDGet1, aSetF, aDNew, aRaise, aMeth, oCat, oCatM, startA, List.map_cons, List.map_nil, List.length_cons, List.length_nil, List.replicate, List.cons_append, List.nil_append, List.getElem?_cons_zero, List.getElem?_cons_succ, List.set_cons_zero, List.set_cons_succ, Nat.reduceAdd, Nat.reduceSub, if_true, Bool.false_eq_true, if_false]; exact h) ?_
    refine ⟨hi, t, sn ++ [t], _, _, rfl, rfl, ht, fun k hk => ?_, ?_, ?_, by simp; omega⟩
    · rcases List.mem_append.mp hk with hk | hk
      · exact hs k hk
      · rw [List.mem_singleton.mp hk]; exact ht
    · rw [List.map_append, es', List.take_succ_eq_append_getElem hi', hx]
      simp [ety]
    · rw [ety]; exact wy2
  · rintro Γ M' ⟨c, sn, o7, o8, rfl, rfl, hc, hs, es', wy', hsl⟩
    have el : (st.map eSt).length = st.length := List.length_map ..
    dsimp only at wy'
    rw [el, List.drop_length] at wy'
    simp only [aYes, Bool.and_self, at0, at1, at2, at3, aSeq, aNext, aIf, aFor, iaR1, iaR2, iaR3, iaS, iaL, gaN, aSl, aPart, aNoPart, aT, aOp, aV, aC, aRet, aRetN, aTup, aLst, aLstM, aCons, aNil, aAnd, aOr, aNot, aAndV, aOrV, aNotV, aSet, aAsg, aDrop, aCall, aFun, aUn, oAdd, addF, addC, oI, oIc, eqq_int, eqq_str, eqq_bl, neq_int, neq_str, neq_bl, oIsN, isNon, oNeg, oLen, lenF, lenC, oIx, ixF, ixC, oIn, inB, oSl, slF, slC, Option.bind_some, Option.map_some, true_and, L2.dq, L2.dr, L2.dl, L2.dd, both_some, opt_some, insAt_some, keyD, aFldC, aDPut, oDIn, aDGet, aDPop, aDGet1, aSetF, aDNew, aRaise, aMeth, oCat, oCatM, startA, List.map_cons, List.map_nil, List.length_cons, List.length_nil, List.replicate, List.cons_append, List.nil_append, List.getElem?_cons_zero, List.getElem?_cons_succ, List.set_cons_zero, List.set_cons_succ, Nat.reduceAdd, Nat.reduceSub, if_true, Bool.false_eq_true, if_false]
    have ecb : c = b := by
      generalize hz : at_ ns b = z at wy'
      cases wy' with
      | nil => exact at_inj N.nd hc hb hz.symm
    subst ecb
    rw [decide_eq_true rfl]
    exact .sub (.put hr') q


noncomputable def spRefused (C : Addr) : SpA := fun ds M Q _ => ∃ (p d1 d2 : Addr) (S : TS) (a b : Str), ds = [.obj p, .str a, .str b] ∧ Tr C M p d1 d2 S ∧ S.ws.length ≤ 1000 ∧ S.js.length ≤ 300 ∧ ¬ (a ∈ S.ws.map Prod.fst ∧ b ∈ S.ws.map Prod.fst) ∧ Q (.bl true) M
theorem ok_law_refused {f C : Addr} {fd : FuncData} {EC : Rk → Addr} (Fn : Fun K "_law_refused" "_law_refused" s_law_refused f fd) (XK : ExK K mg EC) (xm : PySem.W.exmOne K (.ref (EC .noWheel)) (.ref (EC .noWheel)) = some true)
    (h_road : Has P w K mg base (CXE P w) 4 "road" ["train", "one", "other"] (liftS K (spRoad C EC))) : FnOk P w K mg base (CXE P w) 5 f fd ["_law_train_here", "_law_one", "_law_other"] (liftS K (spRefused C)) := by
  refine Fn.okA sc_law_refused (fun ds M Q E h => ?_) ?_
  · obtain ⟨_, _, _, _, _, _, rfl, _⟩ := h; rfl
  intro cdv A outer s H E F0 ds M Q Ea hr ct hsp
  obtain ⟨p, d1, d2, S, a, b, rfl, tr, hw, hj, hn, q⟩ := hsp
  have X_NoWheel := XK.noWheel
  refine ⟨_, (ssCons (sTry ct (fun _ _ _ ct => (ssOne (sExpr (paFzN (paFun h_road (hr.mono (by decide)) (by rfl) ct (aaCons (paV (pv 0)) (aaCons (paV (pv 1)) (aaCons (paV (pv 2)) aaNil))))))))
        (fun pn => (haCons (K' := K) rfl (ct.pl.pin pn) X_NoWheel.bound (by rfl) (fun _ => (ssOne (sRet paB))) (haNil ct rfl pn))) ssNil)
      (ssOne (sRet paB))), ?_⟩
  simp only [aYes, Bool.and_self, at0, at1, at2, at3, aSeq, aNext, aIf, aFor, iaR1, iaR2, iaR3, iaS, iaL, gaN, aSl, aPart, aNoPart, aT, aOp, aV, aC, aRet, aRetN, aTup, aLst, aLstM, aCons, aNil, aAnd, aOr, aNot, aAndV, aOrV, aNotV, aSet, aAsg, aDrop, aCall, aFun, aUn, oAdd, addF, addC, oI, oIc, eqq_int, eqq_str, eqq_bl, neq_int, neq_str, neq_bl, oIsN, isNon, oNeg, oLen, lenF, lenC, oIx, ixF, ixC, oIn, inB, oSl, slF, slC, Option.bind_some, Option.map_some, true_and, L2.dq, L2.dr, L2.dl, L2.dd, both_some, opt_some, insAt_some, keyD, aFldC, aDPut, oDIn, aDGet, aDPop, aDGet1, aSetF, aDNew, aRaise, aMeth, oCat, oCatM, startA, List.map_cons, List.map_nil, List.length_cons, List.length_nil, List.replicate, List.cons_append, List.nil_append, List.getElem?_cons_zero, List.getElem?_cons_succ, List.set_cons_zero, List.set_cons_succ, Nat.reduceAdd, Nat.reduceSub, if_true, Bool.false_eq_true, if_false, aTry, spRoad, aFzN]
  refine ⟨p, d1, d2, S, a, b, rfl, tr, hw, hj, ?_⟩
  rw [if_neg hn]
  refine ⟨true, xm, ?_⟩
  rw [if_pos rfl]
  intro _
  exact .now q
noncomputable def eQ (x : Nat × Nat) : D := .tup [.int x.1, .int x.2]
noncomputable def spPairs : SpA := fun ds M Q _ => ∃ (ns : List Int) (n : Nat), ds = [.scr (ns.map D.int), .int n] ∧ 0 < n ∧ ∀ l : List (Nat × Nat), (∀ x ∈ l, x.1 < n ∧ x.2 < n) → l.length ≤ 2 → Q (.lst (l.map eQ)) M
theorem ok_law_pairs {f : Addr} {fd : FuncData} (Fn : Fun K "_law_pairs" "_law_pairs" s_law_pairs f fd) (T : Txt K mg) (h_law_cell_at : Has P w K mg base (CXE P w) 1 "_law_cell_at" ["_law_script", "_law_k"] (liftS K spCell)) :
    FnOk P w K mg base (CXE P w) 2 f fd ["_law_script", "_law_many"] (liftS K spPairs) := by
  refine Fn.okA sc_law_pairs (fun ds M Q E h => ?_) ?_
  · obtain ⟨_, _, rfl, _⟩ := h; rfl
  intro cdv A outer s H E F0 ds M Q Ea hr ct hsp
  obtain ⟨ns, n, rfl, hn, q⟩ := hsp
  refine ⟨_, (ssCons (sSet (i := 2) sc_law_pairs.nd rfl (Or.inl rfl) (paLstM aaNil))
      (ssCons (sFor ct (iRange1 rfl T.range (aaCons paI aaNil)) (tgName (i := 3) sc_law_pairs.nd rfl (Or.inl rfl))
        (ssCons (sSet (i := 4) sc_law_pairs.nd rfl (Or.inl rfl) (paOp op_mod lMod (paOp op_mulB lMul (paFun h_law_cell_at (hr.mono (by decide)) (by rfl) ct (aaCons (paV (pv 0)) (aaCons (paOp op_adds lAdd (paV (pv 3)) paI) aaNil))) (paOp op_adds lAdd (paV (pv 3)) paI)) (paV (pv 1))))
        (ssCons (sSet (i := 5) sc_law_pairs.nd rfl (Or.inl rfl) (paOp op_mod lMod (paOp op_adds lAdd (paOp op_adds lAdd (paV (pv 4)) paI) (paOp op_fdiv lDiv (paFun h_law_cell_at (hr.mono (by decide)) (by rfl) ct (aaCons (paV (pv 0)) (aaCons (paOp op_adds lAdd (paV (pv 3)) paI) aaNil))) paI)) (paV (pv 1))))
        (ssCons (sIf ((pwAnd (ptCmp (op_eqs (un64 ct)) lEq (paV (pv 3)) paI (nomark _)) (pwAnd1 (ptCmp (op_eqs (un64 ct)) lEq (paOp op_mod lMod (paFun h_law_cell_at (hr.mono (by decide)) (by rfl) ct (aaCons (paV (pv 0)) (aaCons paI aaNil))) paI) paI (nomark _))))).pt
          (ssOne (sSet (i := 5) sc_law_pairs.nd rfl (Or.inl rfl) (paV (pv 4))))
          ssNil)
        (ssOne (sExpr (paBM PySem.F.plainAttrs_list PySem.F.slot_list_append PySem.F.type_list_append mt_append lAppend (paV (pv 2)) (aaCons (paTup (aaCons (paV (pv 4)) (aaCons (paV (pv 5)) aaNil))) aaNil))))))))
      (ssOne (sRet (paV (pv 2)))))), ?_⟩
  simp only [aYes, Bool.and_self, at0, at1, at2, at3, aSeq, aNext, aIf, aFor, iaR1, iaR2, iaR3, iaS, iaL, gaN, aSl, aPart, aNoPart, aT, aOp, aV, aC, aRet, aRetN, aTup, aLst, aLstM, aCons, aNil, aAnd, aOr, aNot, aAndV, aOrV, aNotV, aSet, aAsg, aDrop, aCall, aFun, aUn, oAdd, addF, addC, oI, oIc, eqq_int, eqq_str, eqq_bl, neq_int, neq_str, neq_bl, oIsN, isNon, oNeg, oLen, lenF, lenC, oIx, ixF, ixC, oIn, inB, oSl, slF, slC, Option.bind_some, Option.map_some, true_and, L2.dq, L2.dr, L2.dl, L2.dd, both_some, opt_some, insAt_some, keyD, aFldC, aDPut, oDIn, aDGet, aDPop, aDGet1, aSetF, aDNew, aRaise, aMeth, oCat, oCatM, startA, List.map_cons, List.map_nil, List.length_cons, List.length_nil, List.replicate, List.cons_append, List.nil_append, List.getElem?_cons_zero, List.getElem?_cons_succ, List.set_cons_zero, List.set_cons_succ, Nat.reduceAdd, Nat.reduceSub, if_true, Bool.false_eq_true, if_false]
  refine ⟨Nat.zero_le _, fun p hp => ⟨by decide, by decide, ?_⟩⟩
  refine LoopP.by2 (fun i Γ M' => ∃ (l : List (Nat × Nat)) (o3 o4 o5 : Option D), Γ = [some (.scr (ns.map D.int)), some (.int n), some (.obj p), o3, o4, o5] ∧ M' = put M p (.lst (l.map eQ)) ∧ (∀ x ∈ l, x.1 < n ∧ x.2 < n) ∧ l.length ≤ i) ⟨[], _, _, _, rfl, rfl, fun _ h => (List.not_mem_nil h).elim, Nat.zero_le _⟩ (fun _ _ _ _ => trivial) ?_ ?_
  · rintro E' i Γ M' hrt hi hnx ⟨l, o3, o4, o5, rfl, rfl, hl, hli⟩
    dsimp only at hi
    have hi : i < 2 := hi
    obtain ⟨at', hat⟩ := Int.eq_ofNat_of_zero_le (Int.emod_nonneg (cell ns ((i : Int) + 1) * ((i : Int) + 3)) (show (n : Int) ≠ 0 by omega))
    have hat2 := Int.emod_lt_of_pos (cell ns ((i : Int) + 1) * ((i : Int) + 3)) (show (0 : Int) < (n : Int) by omega)
    rw [hat] at hat2
    obtain ⟨to', hto⟩ := Int.eq_ofNat_of_zero_le (Int.emod_nonneg ((at' : Int) + 1 + cell ns ((i : Int) + 2) / 5) (show (n : Int) ≠ 0 by omega))
    have hto2 := Int.emod_lt_of_pos ((at' : Int) + 1 + cell ns ((i : Int) + 2) / 5) (show (0 : Int) < (n : Int) by omega)
    rw [hto] at hto2
    refine seqV (.int (at' : Int)) (put M p (.lst (l.map eQ))) (fun R h => by
      simp only [aYes, Bool.and_self, at0, at1, at2, at3, aSeq, aNext, aIf, aFor, iaR1, iaR2, iaR3, iaS, iaL, gaN, aSl, aPart, aNoPart, aT, aOp, aV, aC, aRet, aRetN, aTup, aLst, aLstM, aCons, aNil, aAnd, aOr, aNot, aAndV, aOrV, aNotV, aSet, aAsg, aDrop, aCall, aFun, aUn, oAdd, addF, addC, oI, oIc, eqq_int, eqq_str, eqq_bl, neq_int, neq_str, neq_bl, oIsN, isNon, oNeg, oLen, lenF, lenC, oIx, ixF, ixC, oIn, inB, oSl, slF, slC, Option.bind_some, Option.map_some, true_and, L2.dq, L2.dr, L2.dl, L2.dd, both_some, opt_some, insAt_some, keyD, aFldC, aDPut, oDIn, aDGet, aDPop, aDGet1, aSetF, aDNew, aRaise, aMeth, oCat, oCatM, startA, List.map_cons, List.map_nil, List.length_cons, List.length_nil, List.replicate, List.cons_append, List.nil_append, List.getElem?_cons_zero, List.getElem?_cons_succ, List.set_cons_zero, List.set_cons_succ, Nat.reduceAdd, Nat.reduceSub, if_true, Bool.false_eq_true, if_false, spCell]
      exact ⟨ns, _, rfl, by omega, CMul.ok (.inr ⟨by omega, by omega⟩), by omega, by rw [hat]; exact h⟩) (seqV (.int (to' : Int)) (put M p (.lst (l.map eQ))) (fun R h => by
      simp only [aYes, Bool.and_self, at0, at1, at2, at3, aSeq, aNext, aIf, aFor, iaR1, iaR2, iaR3, iaS, iaL, gaN, aSl, aPart, aNoPart, aT, aOp, aV, aC, aRet, aRetN, aTup, aLst, aLstM, aCons, aNil, aAnd, aOr, aNot, aAndV, aOrV, aNotV, aSet, aAsg, aDrop, aCall, aFun, aUn, oAdd, addF, addC, oI, oIc, eqq_int, eqq_str, eqq_bl, neq_int, neq_str, neq_bl, oIsN, isNon, oNeg, oLen, lenF, lenC, oIx, ixF, ixC, oIn, inB, oSl, slF, slC, Option.bind_some, Option.map_some, true_and, L2.dq, L2.dr, L2.dl, L2.dd, both_some, opt_some, insAt_some, keyD, aFldC, aDPut, oDIn, aDGet, aDPop, aDGet1, aSetF, aDNew, aRaise, aMeth, oCat, oCatM, startA, List.map_cons, List.map_nil, List.length_cons, List.length_nil, List.replicate, List.cons_append, List.nil_append, List.getElem?_cons_zero, List.getElem?_cons_succ, List.set_cons_zero, List.set_cons_succ, Nat.reduceAdd, Nat.reduceSub, if_true, Bool.false_eq_true, if_false, spCell]
      exact ⟨ns, _, rfl, by omega, ⟨by decide, by decide⟩, by omega, by rw [hto]; exact h⟩) ?_)
    refine cut1 (fun Γ' M1 => ∃ t : Nat, t < n ∧ Γ' = [some (.scr (ns.map D.int)), some (.int n), some (.obj p), some (.int i), some (.int (at' : Int)), some (.int (t : Int))] ∧ M1 = put M p (.lst (l.map eQ))) ?_ ?_
    · rintro Γ M1 ⟨t, ht, rfl, rfl⟩
      refine dropE .non (put M p (.lst ((l ++ [(at', t)]).map eQ))) (fun R h => ?_) (hnx _ _ ⟨l ++ [(at', t)], _, _, _, rfl, rfl, fun x hx => ?_, by simp; omega⟩)
      · simp only [aYes, Bool.and_self, at0, at1, at2, at3, aSeq, aNext, aIf, aFor, iaR1, iaR2, iaR3, iaS, iaL, gaN, aSl, aPart, aNoPart, aT, aOp, aV, aC, aRet, aRetN, aTup, aLst, aLstM, aCons, aNil, aAnd, aOr, aNot, aAndV, aOrV, aNotV, aSet, aAsg, aDrop, aCall, aFun, aUn, oAdd, addF, addC, oI, oIc, eqq_int, eqq_str, eqq_bl, neq_int, neq_str, neq_bl, oIsN, isNon, oNeg, oLen, lenF, lenC, oIx, ixF, ixC, oIn, inB, oSl, slF, slC, Option.bind_some, Option.map_some, true_and, L2.dq, L2.dr, L2.dl, L2.dd, both_some, opt_some, insAt_some, keyD, aFldC, aDPut, oDIn, aDGet, aDPop, aDGet1, aSetF, aDNew, aRaise, aMeth, oCat, oCatM, startA, List.map_cons, List.map_nil, List.length_cons, List.length_nil, List.replicate, List.cons_append, List.nil_append, List.getElem?_cons_zero, List.getElem?_cons_succ, List.set_cons_zero, List.set_cons_succ, Nat.reduceAdd, Nat.reduceSub, if_true, Bool.false_eq_true, if_false, aBM, kindD, put_same, oAppend, put_put, List.length_map]
        rw [List.map_append] at h
        exact ⟨by decide, by omega, h⟩
      · rcases List.mem_append.mp hx with hx | hx
        · exact hl x hx
        · rw [List.mem_singleton.mp hx]; exact ⟨by show at' < n; omega, ht⟩
    · intro rest hrest
      simp only [aYes, Bool.and_self, at0, at1, at2, at3, aSeq, aNext, aIf, aFor, iaR1, iaR2, iaR3, iaS, iaL, gaN, aSl, aPart, aNoPart, aT, aOp, aV, aC, aRet, aRetN, aTup, aLst, aLstM, aCons, aNil, aAnd, aOr, aNot, aAndV, aOrV, aNotV, aSet, aAsg, aDrop, aCall, aFun, aUn, oAdd, addF, addC, oI, oIc, eqq_int, eqq_str, eqq_bl, neq_int, neq_str, neq_bl, oIsN, isNon, oNeg, oLen, lenF, lenC, oIx, ixF, ixC, oIn, inB, oSl, slF, slC, Option.bind_some, Option.map_some, true_and, L2.dq, L2.dr, L2.dl, L2.dd, both_some, opt_some, insAt_some, keyD, aFldC, aDPut, oDIn, aDGet, aDPop, aDGet1, aSetF, aDNew, aRaise, aMeth, oCat, oCatM, startA, List.map_cons, List.map_nil, List.length_cons, List.length_nil, List.replicate, List.cons_append, List.nil_append, List.getElem?_cons_zero, List.getElem?_cons_succ, List.set_cons_zero, List.set_cons_succ, Nat.reduceAdd, Nat.reduceSub, if_true, Bool.false_eq_true, if_false, spCell]
      refine ite2 (fun _ => ⟨ns, 0, rfl, by decide, by decide, ite2 (fun _ => hrest _ _ ⟨at', by omega, rfl, rfl⟩) fun _ => hrest _ _ ⟨to', by omega, rfl, rfl⟩⟩) fun _ => hrest _ _ ⟨to', by omega, rfl, rfl⟩
  · rintro Γ M' ⟨l, o3, o4, o5, rfl, rfl, hl, hli⟩
    exact .fz hp (q l hl hli)
noncomputable def spAsked (C : Addr) : SpA := fun ds M Q _ => ∃ (p d1 d2 : Addr) (S : TS) (q : Addr) (ns : List Str) (es : List En) (a b : Nat), ds = [.obj p, .obj q, .lst (ns.map D.str), .tup [.int a, .int b]] ∧ Tr C M p d1 d2 S ∧ M q = some (.dic (es.map eEn)) ∧ ns = S.ws.map Prod.fst ∧ Net ns S.js es ∧ a < ns.length ∧ b < ns.length ∧ ns.length ≤ 1000 ∧ S.js.length ≤ 300 ∧
  ∀ st : List (Int × Str), (∀ x ∈ st, x.1 ∈ es.map Prod.fst ∧ x.2 ∈ ns) → st.length ≤ 600 → Q (.lst [.bl true, .lst (st.map eSt)]) M
theorem Net.steps {ns : List Str} {js : List Jn} {es : List En} (N : Net ns js es) {x y : Str} {st : List (Int × Str)} (h : Way js x st y) : ∀ s ∈ st, s.1 ∈ es.map Prod.fst ∧ s.2 ∈ ns := by
  induction h with
  | nil => intro s hs; cases hs
  | cons hl _ ih =>
    intro s hs
    rcases List.mem_cons.mp hs with rfl | hs
    · obtain ⟨j, hj, h1, h2⟩ := mem_lead hl
      refine ⟨?_, ?_⟩
      · rw [← N.keyOf]
        exact List.mem_map.mpr ⟨j, hj, h1⟩
      · have hm : jE j ∈ es.map (eN ns) := by rw [← N.same]; exact List.mem_map.mpr ⟨j, hj, rfl⟩
        obtain ⟨e, he, e1⟩ := List.mem_map.mp hm
        obtain ⟨i1, i2, _⟩ := N.inn e he
        unfold eN jE at e1
        simp only [Prod.mk.injEq] at e1
        obtain ⟨_, e2, e3⟩ := e1
        rcases h2 with ⟨_, h3⟩ | ⟨_, h3⟩
        · rw [← h3, ← e3]; exact at_mem i2
        · rw [← h3, ← e2]; exact at_mem i1
    · exact ih s hs
theorem str_at' {ns : List Str} {i : Nat} (h : i < ns.length) : atI (ns.map D.str) (i : Int) = some (.str (at_ ns i)) := by
  rw [at_nat _ _ (by simpa using h), List.getElem_map]
  unfold at_
  rw [List.getD_eq_getElem?_getD, List.getElem?_eq_getElem h]; rfl
theorem rd_vals {M : Mem} {q : Addr} {kvs : List (Key × D)} {Γ : G} {Q : AK} {t : AE} (hto : ∀ R : AK, R (.obj q) M → t Γ M R) (hq : M q = some (.dic kvs)) (h : Q (.lst (kvs.map fun kv => kv.2)) M) : aFz (aVals t) Γ M Q := by
  refine hto _ ?_
  have e : dd M (.obj q) = some kvs := by simp only [dd, hq]
  rw [e]
  intro p hp
  dsimp only
  rw [put_same]
  dsimp only
  rw [del_put hp]; exact h
theorem vals_en (es : List En) : (es.map eEn).map (fun kv => kv.2) = es.map eP := by rw [List.map_map]; rfl
theorem ok_law_asked {f C : Addr} {fd : FuncData} {EC : Rk → Addr} (Fn : Fun K "_law_asked" "_law_asked" s_law_asked f fd) (T : Txt K mg) (h_road : Has P w K mg base (CXE P w) 4 "road" ["train", "one", "other"] (liftS K (spRoad C EC)))
    (h_law_hung : Has P w K mg base (CXE P w) 1 "_law_hung" ["_law_many", "_law_ends", "_law_start"] (liftS K spHung)) (h_law_walked : Has P w K mg base (CXE P w) 2 "_law_walked" ["_law_told", "_law_ends", "_law_names", "_law_one", "_law_other"] (liftS K spWalked)) :
    FnOk P w K mg base (CXE P w) 5 f fd ["_law_train_here", "_law_ends", "_law_names", "_law_pair"] (liftS K (spAsked C)) := by
  refine Fn.okA sc_law_asked (fun ds M Q E h => ?_) ?_
  · obtain ⟨_, _, _, _, _, _, _, _, _, rfl, _⟩ := h; rfl
  intro cdv A outer s H E F0 ds M Q Ea hr ct hsp
  obtain ⟨p, d1, d2, S, q', ns, es, a, b, rfl, tr, hq, hns, N, ha, hb, hl, hj, q⟩ := hsp
  refine ⟨_, (ssCons (sSet (i := 4) sc_law_asked.nd rfl (Or.inl rfl) (paFun h_road (hr.mono (by decide)) (by rfl) ct (aaCons (paV (pv 0)) (aaCons (paIx ix_seq lIx (paV (pv 2)) (paIx ix_seq lIx (paV (pv 3)) paI (fun _ _ => rfl)) (fun _ _ => rfl)) (aaCons (paIx ix_seq lIx (paV (pv 2)) (paIx ix_seq lIx (paV (pv 3)) paI (fun _ _ => rfl)) (fun _ _ => rfl)) aaNil)))))
      (ssCons (sIf (ptCmp op_notN lIsNot (paV (pv 4)) paN (nomark _))
        (ssOne (sExpr (paBM0 PySem.F.plainAttrs_list PySem.F.slot_list_clear PySem.F.type_list_clear mt_clear lClear (paV (pv 4)))))
        ssNil)
      (ssCons (sSet (i := 5) sc_law_asked.nd rfl (Or.inl rfl) (paFzN (paFun h_road (hr.mono (by decide)) (by rfl) ct (aaCons (paV (pv 0)) (aaCons (paIx ix_seq lIx (paV (pv 2)) (paIx ix_seq lIx (paV (pv 3)) paI (fun _ _ => rfl)) (fun _ _ => rfl)) (aaCons (paIx ix_seq lIx (paV (pv 2)) (paIx ix_seq lIx (paV (pv 3)) paI (fun _ _ => rfl)) (fun _ _ => rfl)) aaNil))))))
      (ssCons (sSet (i := 6) sc_law_asked.nd rfl (Or.inl rfl) (paFun h_law_hung (hr.mono (by decide)) (by rfl) ct (aaCons (paCallB call_lens lLen (by rfl) T.len PySem.boot_len (aaCons (paV (pv 2)) aaNil)) (aaCons (paFz (paVals T.list rfl (by rfl) (paV (pv 1)))) (aaCons (paIx ix_seq lIx (paV (pv 3)) paI (fun _ _ => rfl)) aaNil)))))
      (ssCons (sIf (ptV (paIx ix_seq lIx (paV (pv 6)) (paIx ix_seq lIx (paV (pv 3)) paI (fun _ _ => rfl)) (fun _ _ => rfl)))
        (ssOne (sRet (paLst (aaCons (paFun h_law_walked (hr.mono (by decide)) (by rfl) ct (aaCons (paV (pv 5)) (aaCons (paV (pv 1)) (aaCons (paV (pv 2)) (aaCons (paIx ix_seq lIx (paV (pv 3)) paI (fun _ _ => rfl)) (aaCons (paIx ix_seq lIx (paV (pv 3)) paI (fun _ _ => rfl)) aaNil)))))) (aaCons (paV (pv 5)) aaNil)))))
        ssNil)
      (ssOne (sRet (paLst (aaCons (paCmp op_isN lIs (paV (pv 5)) paN (nomark _)) (aaCons (paLst aaNil) aaNil)))))))))), ?_⟩
  have both : at_ ns a ∈ S.ws.map Prod.fst ∧ at_ ns b ∈ S.ws.map Prod.fst := by rw [← hns]; exact ⟨at_mem ha, at_mem hb⟩
  have hw : S.ws.length ≤ 1000 := by have e : ns.length = S.ws.length := by rw [hns, List.length_map]
                                     omega
  refine cut2 (fun Γ' M1 => ∃ o4, Γ' = [some (.obj p), some (.obj q'), some (.lst (ns.map D.str)), some (.tup [.int a, .int b]), o4, none, none] ∧ Sub M M1) ?_ ?_
  · rintro Γ' M1 ⟨o4, rfl, sb⟩
    have hq1 := sb _ _ hq
    simp only [aYes, Bool.and_self, at0, at1, at2, at3, aSeq, aNext, aIf, aFor, iaR1, iaR2, iaR3, iaS, iaL, gaN, aSl, aPart, aNoPart, aT, aOp, aV, aC, aRet, aRetN, aTup, aLst, aLstM, aCons, aNil, aAnd, aOr, aNot, aAndV, aOrV, aNotV, aSet, aAsg, aDrop, aCall, aFun, aUn, oAdd, addF, addC, oI, oIc, eqq_int, eqq_str, eqq_bl, neq_int, neq_str, neq_bl, oIsN, isNon, oNeg, oLen, lenF, lenC, oIx, ixF, ixC, oIn, inB, oSl, slF, slC, Option.bind_some, Option.map_some, true_and, L2.dq, L2.dr, L2.dl, L2.dd, both_some, opt_some, insAt_some, keyD, aFldC, aDPut, oDIn, aDGet, aDPop, aDGet1, aSetF, aDNew, aRaise, aMeth, oCat, oCatM, startA, List.map_cons, List.map_nil, List.length_cons, List.length_nil, List.replicate, List.cons_append, List.nil_append, List.getElem?_cons_zero, List.getElem?_cons_succ, List.set_cons_zero, List.set_cons_succ, Nat.reduceAdd, Nat.reduceSub, if_true, Bool.false_eq_true, if_false, aFzN, spRoad, str_at' ha, str_at' hb]
    refine ⟨p, d1, d2, S, _, _, rfl, tr.sub sb, hw, hj, ?_⟩
    rw [if_pos both]
    refine ⟨fun hn => ?_, fun st wy nd hst r hr' => ?_⟩
    · refine rd_vals (fun R h => h) hq1 ?_
      rw [vals_en]
      refine ⟨ns.length, es, a, by rw [List.length_map], hl, ha, fun e he => ⟨(N.inn e he).1, (N.inn e he).2.1⟩, fun bs hbl hbs => ?_⟩
      have ef : bs.getD b false = false := by
        cases h : bs.getD b false with
        | false => rfl
        | true => exact absurd (N.reach ((hbs b).mp h)) hn
      simp only [Option.bind_some, at_bl bs b (by omega), opt_some, ef, Bool.false_eq_true, if_false]
      exact ⟨trivial, by decide, by decide, .sub sb (q [] (fun _ h => (List.not_mem_nil h).elim) (Nat.zero_le _))⟩
    · rw [put_same, del_put hr']
      dsimp only
      refine rd_vals (fun R h => h) hq1 ?_
      rw [vals_en]
      refine ⟨ns.length, es, a, by rw [List.length_map], hl, ha, fun e he => ⟨(N.inn e he).1, (N.inn e he).2.1⟩, fun bs hbl hbs => ?_⟩
      have ef : bs.getD b false = true := (hbs b).mpr ((N.reach_iff ha hb).mp wy.reach)
      simp only [Option.bind_some, at_bl bs b (by omega), opt_some, ef, if_true]
      exact ⟨trivial, q', st, ns, S.js, es, a, b, rfl, hq1, N, ha, hb, wy, nd, by omega, by decide, .sub sb (q st (N.steps wy) (by omega))⟩
  · intro rest hrest
    simp only [aYes, Bool.and_self, at0, at1, at2, at3, aSeq, aNext, aIf, aFor, iaR1, iaR2, iaR3, iaS, iaL, gaN, aSl, aPart, aNoPart, aT, aOp, aV, aC, aRet, aRetN, aTup, aLst, aLstM, aCons, aNil, aAnd, aOr, aNot, aAndV, aOrV, aNotV, aSet, aAsg, aDrop, aCall, aFun, aUn, oAdd, addF, addC, oI, oIc, eqq_int, eqq_str, eqq_bl, neq_int, neq_str, neq_bl, oIsN, isNon, oNeg, oLen, lenF, lenC, oIx, ixF, ixC, oIn, inB, oSl, slF, slC, Option.bind_some, Option.map_some, true_and, L2.dq, L2.dr, L2.dl, L2.dd, both_some, opt_some, insAt_some, keyD, aFldC, aDPut, oDIn, aDGet, aDPop, aDGet1, aSetF, aDNew, aRaise, aMeth, oCat, oCatM, startA, List.map_cons, List.map_nil, List.length_cons, List.length_nil, List.replicate, List.cons_append, List.nil_append, List.getElem?_cons_zero, List.getElem?_cons_succ, List.set_cons_zero, List.set_cons_succ, Nat.reduceAdd, Nat.reduceSub, if_true, Bool.false_eq_true, if_false, spRoad, str_at' ha, str_at' hb]
    refine ⟨p, d1, d2, S, _, _, rfl, tr, hw, hj, ?_⟩
    rw [if_pos both]
    refine ⟨fun _ => ?_, fun st _ _ _ r hr' => ?_⟩
    · exact hrest _ _ ⟨_, rfl, .refl _⟩
    · refine ⟨?_, ?_⟩
      · show kindD (put M r (.lst (st.map eSt))) (.obj r) = "list"
        simp only [kindD, put_same]
      · show oClear (.obj r) [] (put M r (.lst (st.map eSt))) _
        simp only [oClear, put_same, put_put]
        exact hrest _ _ ⟨_, rfl, .put hr'⟩


noncomputable def eH (st : List (Int × Str)) : D := .tup [.lst (st.map eSt), .lst (st.map eSt)]

structure Now (C : Addr) (M : Mem) (p d1 d2 q r : Addr) (ws : List (Str × Int)) (S : TS) (es : List En) (hs : List (List (Int × Str))) : Prop where
  tr : Tr C M p d1 d2 S
  wse : S.ws = ws
  en : M q = some (.dic (es.map eEn))
  net : Net (ws.map Prod.fst) S.js es
  held : M r = some (.lst (hs.map eH))
  good : ∀ st ∈ hs, ∀ x ∈ st, x.2 ∈ ws.map Prod.fst
  q1 : d1 ≠ q
  q2 : d2 ≠ q
theorem Now.pq {C : Addr} {M : Mem} {p d1 d2 q r : Addr} {ws : List (Str × Int)} {S : TS} {es : List En} {hs : List (List (Int × Str))} (N : Now C M p d1 d2 q r ws S es hs) : p ≠ q := by rintro rfl; have := N.tr.self; rw [N.en] at this; cases this
theorem Now.pr {C : Addr} {M : Mem} {p d1 d2 q r : Addr} {ws : List (Str × Int)} {S : TS} {es : List En} {hs : List (List (Int × Str))} (N : Now C M p d1 d2 q r ws S es hs) : p ≠ r := by rintro rfl; have := N.tr.self; rw [N.held] at this; cases this
theorem Now.d1r {C : Addr} {M : Mem} {p d1 d2 q r : Addr} {ws : List (Str × Int)} {S : TS} {es : List En} {hs : List (List (Int × Str))} (N : Now C M p d1 d2 q r ws S es hs) : d1 ≠ r := by rintro rfl; have := N.tr.teeth; rw [N.held] at this; cases this
theorem Now.d2r {C : Addr} {M : Mem} {p d1 d2 q r : Addr} {ws : List (Str × Int)} {S : TS} {es : List En} {hs : List (List (Int × Str))} (N : Now C M p d1 d2 q r ws S es hs) : d2 ≠ r := by rintro rfl; have := N.tr.join; rw [N.held] at this; cases this
theorem Now.qr {C : Addr} {M : Mem} {p d1 d2 q r : Addr} {ws : List (Str × Int)} {S : TS} {es : List En} {hs : List (List (Int × Str))} (N : Now C M p d1 d2 q r ws S es hs) : q ≠ r := by rintro rfl; have := N.en; rw [N.held] at this; cases this
theorem Now.hold {C : Addr} {M : Mem} {p d1 d2 q r : Addr} {ws : List (Str × Int)} {S : TS} {es : List En} {hs : List (List (Int × Str))} (N : Now C M p d1 d2 q r ws S es hs) {st : List (Int × Str)} (h : ∀ x ∈ st, x.2 ∈ ws.map Prod.fst) : Now C (put M r (.lst (hs.map eH ++ [eH st]))) p d1 d2 q r ws S es (hs ++ [st]) :=
  ⟨N.tr.far N.pr N.d1r N.d2r, N.wse, by rw [put_ne N.qr]; exact N.en, N.net, by rw [put_same, List.map_append]; rfl, fun s hs' => by
    rcases List.mem_append.mp hs' with hs' | hs'
    · exact N.good s hs'
    · rw [List.mem_singleton.mp hs']; exact h, N.q1, N.q2⟩
theorem drop_en (es : List En) (n : Int) : dropKD (es.map eEn) (Sum.inl n) = (es.filter fun e => decide (e.1 ≠ n)).map eEn := by
  unfold dropKD
  rw [List.filter_map]
  congr 1
  apply List.filter_congr
  intro j _
  simp [Function.comp, eEn]
theorem Now.less {C : Addr} {M : Mem} {p d1 d2 q r : Addr} {ws : List (Str × Int)} {S : TS} {es : List En} {hs : List (List (Int × Str))} (N : Now C M p d1 d2 q r ws S es hs) (n : Int) :
    Now C (put (put M d2 (.dic (dJ (S.js.filter fun j => decide (j.1 ≠ n))))) q (.dic ((es.filter fun e => decide (e.1 ≠ n)).map eEn))) p d1 d2 q r ws ⟨S.ws, S.js.filter fun j => decide (j.1 ≠ n), S.nx⟩ (es.filter fun e => decide (e.1 ≠ n)) hs :=
  ⟨(N.tr.less n).far N.pq N.q1 N.q2, N.wse, put_same, N.net.less n, by rw [put_ne N.qr.symm, put_ne N.d2r.symm]; exact N.held, N.good, N.q1, N.q2⟩
theorem Now.pin {C : Addr} {M : Mem} {p d1 d2 q r : Addr} {ws : List (Str × Int)} {S : TS} {es : List En} {hs : List (List (Int × Str))} (N : Now C M p d1 d2 q r ws S es hs) {k : Str} {a b : Nat} (ha : a < (ws.map Prod.fst).length) (hb : b < (ws.map Prod.fst).length) (ne : a ≠ b) :
    Now C (put (put (put M d2 (.dic (dJ (S.js ++ [(S.nx, k, at_ (ws.map Prod.fst) a, at_ (ws.map Prod.fst) b)])))) p (.ins C (fsT d1 d2 (S.nx + 1)))) q (.dic ((es ++ [(S.nx, a, b)]).map eEn))) p d1 d2 q r ws ⟨S.ws, S.js ++ [(S.nx, k, at_ (ws.map Prod.fst) a, at_ (ws.map Prod.fst) b)], S.nx + 1⟩ (es ++ [(S.nx, a, b)]) hs :=
  ⟨(N.tr.pin k _ _).far N.pq N.q1 N.q2, N.wse, put_same, N.net.more ha hb ne N.tr.lt, by rw [put_ne N.qr.symm, put_ne N.pr.symm, put_ne N.d2r.symm]; exact N.held, N.good, N.q1, N.q2⟩
theorem getK_no {es : List En} {n : Int} (h : n ∉ es.map Prod.fst) : (getK (es.map eEn) (Sum.inl n)).isSome = false := by
  induction es with
  | nil => rfl
  | cons x es ih =>
    rw [List.map_cons] at h
    have h1 : ¬ x.1 = n := fun z => h (by rw [z]; exact List.mem_cons_self)
    have h2 := ih fun z => h (List.mem_cons_of_mem _ z)
    unfold getK at h2 ⊢
    simp only [List.map_cons, List.find?_cons, eEn, Sum.inl.injEq]
    rw [decide_eq_false h1]
    exact h2
theorem Net.new {ns : List Str} {js : List Jn} {es : List En} (N : Net ns js es) {n : Int} (h : ∀ j ∈ js, j.1 < n) : n ∉ es.map Prod.fst := by
  intro z
  rw [← N.keyOf] at z
  obtain ⟨j, hj, e⟩ := List.mem_map.mp z
  have := h j hj
  omega
theorem put_en {es : List En} {n : Int} {a b : Nat} (h : n ∉ es.map Prod.fst) : putKD (es.map eEn) (Sum.inl n) (.tup [.int a, .int b]) = (es ++ [(n, a, b)]).map eEn := by
  rw [putKD_new (getK_no h), List.map_append]; rfl
theorem getK_mem {es : List En} {n : Int} (nd : (es.map Prod.fst).Nodup) (h : n ∈ es.map Prod.fst) : ∃ d, getK (es.map eEn) (Sum.inl n) = some d := by
  obtain ⟨e, he, rfl⟩ := List.mem_map.mp h
  exact ⟨_, getK_en nd he⟩
theorem hasJ_mem {S : TS} {n : Int} (h : n ∈ S.js.map Prod.fst) : refL S n = none := by
  have : S.hasJ n = true := by
    unfold TS.hasJ
    obtain ⟨j, hj, e⟩ := List.mem_map.mp h
    exact List.any_eq_true.mpr ⟨j, hj, decide_eq_true e⟩
  unfold refL
  rw [this]; rfl
theorem gd_sts {ns : List Str} {st : List (Int × Str)} (hn : ∀ x ∈ ns, PySem.PyData.strOk x = true) (h : ∀ x ∈ st, x.2 ∈ ns) : Gd 2 (.lst (st.map eSt)) := .lst _ _ fun d hd => by
  obtain ⟨x, hx, rfl⟩ := List.mem_map.mp hd
  refine .tup _ _ fun e he => ?_
  simp only [List.mem_cons, List.not_mem_nil, or_false] at he
  rcases he with rfl | rfl
  · exact .int _ _
  · exact .str _ _ (hn _ (h x hx))
noncomputable def spAll (C : Addr) : SpA := fun ds M Q _ => ∃ (p d1 d2 q : Addr) (S : TS) (ns : List Str) (es : List En) (sc : List Int), ds = [.obj p, .obj q, .lst (ns.map D.str), .scr (sc.map D.int)] ∧ Tr C M p d1 d2 S ∧ M q = some (.dic (es.map eEn)) ∧ d1 ≠ q ∧ d2 ≠ q ∧ ns = S.ws.map Prod.fst ∧ Net ns S.js es ∧ 0 < ns.length ∧ ns.length ≤ 100 ∧ S.js.length ≤ 90 ∧ (∀ x ∈ ns, PySem.PyData.strOk x = true) ∧
  ∀ M' S' es', Tr C M' p d1 d2 S' → S'.ws = S.ws → M' q = some (.dic (es'.map eEn)) → Net ns S'.js es' → S'.js.length ≤ 100 → Q (.bl true) M'
theorem forLs {tl : AE} {gt : AGt} {tb rest : AS} {E : AEnds} {Γ : G} {M : Mem} {d : D} {ds : List D} (htl : ∀ R : AK, R d M → tl Γ M R) (hd : dr M d = some ds) (h : LoopP ⟨ds.length, fun i => ds.getD i .non, fun M => dr M d = some ds⟩ gt tb { E with nx := rest E } Γ M) : aSeq (aFor (iaL tl) gt tb) rest E Γ M :=
  htl _ (by dsimp only; rw [hd]; exact h)
theorem seqIfB {c : AT} {t u rest : AS} {E : AEnds} {Γ : G} {M : Mem} (b : Bool) (hc : ∀ R : Bool → Mem → Prop, R b M → c Γ M R) (h : if b = true then t { E with nx := rest E } Γ M else u { E with nx := rest E } Γ M) : aSeq (aIf c t u) rest E Γ M := hc _ h
section
variable {C p d1 d2 q r : Addr} {ws : List (Str × Int)} {S : TS} {es : List En} {hs : List (List (Int × Str))} {R : AX} {k : Nat} {t rest : AS} {E : AEnds} {M : Mem} {a b : Nat} {x3 x4 x6 x7 x8 x9 x10 x11 : Option D}
theorem ask_step (N : Now C M p d1 d2 q r ws S es hs) (hk : 2 = k) (hw : ws.length ≤ 100) (hj : S.js.length ≤ 300) (ha : a < ws.length) (hb : b < ws.length)
    (h : ∀ st : List (Int × Str), (∀ x ∈ st, x.1 ∈ es.map Prod.fst ∧ x.2 ∈ ws.map Prod.fst) → st.length ≤ 600 → rest E [some (.obj p), some (.obj q), some (.lst ((ws.map Prod.fst).map D.str)), x3, x4, some (.tup [.int a, .int b]), some (.bl true), some (.lst (st.map eSt)), x8, x9, x10, x11] M) :
    aSeq (aAsg (aFun (spAsked C) R (aCons (aV 0) (aCons (aV 1) (aCons (aV 2) (aCons (aV 5) aNil))))) (gaLst k (gaCons (gaN 6) (gaCons (gaN 7) gaNil)))) (aSeq (aIf (aNot (aT (aV 6))) t aNext) rest) E [some (.obj p), some (.obj q), some (.lst ((ws.map Prod.fst).map D.str)), x3, x4, some (.tup [.int a, .int b]), x6, x7, x8, x9, x10, x11] M := by
  have hl : (ws.map Prod.fst).length = ws.length := List.length_map ..
  refine ⟨p, d1, d2, S, q, ws.map Prod.fst, es, a, b, rfl, N.tr, N.en, by rw [N.wse], N.net, by omega, by omega, by omega, hj, fun st h1 h2 => ⟨hk, rfl, ?_⟩⟩
  refine (show aSeq (aIf (aNot (aT (aV 6))) t aNext) rest E [some (.obj p), some (.obj q), some (.lst ((ws.map Prod.fst).map D.str)), x3, x4, some (.tup [.int a, .int b]), some (.bl true), some (.lst (st.map eSt)), x8, x9, x10, x11] M from ?_)
  exact seqIfF (fun R h => h) (h st h1 h2)
theorem ask_last (N : Now C M p d1 d2 q r ws S es hs) (hk : 2 = k) (hw : ws.length ≤ 100) (hj : S.js.length ≤ 300) (ha : a < ws.length) (hb : b < ws.length)
    (h : ∀ st : List (Int × Str), E.nx [some (.obj p), some (.obj q), some (.lst ((ws.map Prod.fst).map D.str)), x3, x4, some (.tup [.int a, .int b]), some (.bl true), some (.lst (st.map eSt)), x8, x9, x10, x11] M) :
    aSeq (aAsg (aFun (spAsked C) R (aCons (aV 0) (aCons (aV 1) (aCons (aV 2) (aCons (aV 5) aNil))))) (gaLst k (gaCons (gaN 6) (gaCons (gaN 7) gaNil)))) (aIf (aNot (aT (aV 6))) t aNext) E [some (.obj p), some (.obj q), some (.lst ((ws.map Prod.fst).map D.str)), x3, x4, some (.tup [.int a, .int b]), x6, x7, x8, x9, x10, x11] M := by
  have hl : (ws.map Prod.fst).length = ws.length := List.length_map ..
  refine ⟨p, d1, d2, S, q, ws.map Prod.fst, es, a, b, rfl, N.tr, N.en, by rw [N.wse], N.net, by omega, by omega, by omega, hj, fun st h1 h2 => ⟨hk, rfl, ?_⟩⟩
  refine (show aIf (aNot (aT (aV 6))) t aNext E [some (.obj p), some (.obj q), some (.lst ((ws.map Prod.fst).map D.str)), x3, x4, some (.tup [.int a, .int b]), some (.bl true), some (.lst (st.map eSt)), x8, x9, x10, x11] M from ?_)
  exact ifV false (fun R h => h) (by rw [if_neg Bool.false_ne_true]; exact h st)
theorem hold_step (N : Now C M p d1 d2 q r ws S es hs) {st : List (Int × Str)} (hlen : hs.length ≤ 500) {Γ : G} (g4 : Γ[4]? = some (some (.obj r))) (g7 : Γ[7]? = some (some (.lst (st.map eSt)))) {Q : AK} (h : Q .non (put M r (.lst (hs.map eH ++ [eH st])))) :
    aBM "list" oAppend (aV 4) (aCons (aTup (aCons (aV 7) (aCons (aCall oList (aCons (aV 7) aNil)) aNil))) aNil) Γ M Q := by
  simp only [aYes, Bool.and_self, at0, at1, at2, at3, aSeq, aNext, aIf, aFor, iaR1, iaR2, iaR3, iaS, iaL, gaN, aSl, aPart, aNoPart, aT, aOp, aV, aC, aRet, aRetN, aTup, aLst, aLstM, aCons, aNil, aAnd, aOr, aNot, aAndV, aOrV, aNotV, aSet, aAsg, aDrop, aCall, aFun, aUn, oAdd, addF, addC, oI, oIc, eqq_int, eqq_str, eqq_bl, neq_int, neq_str, neq_bl, oIsN, isNon, oNeg, oLen, lenF, lenC, oIx, ixF, ixC, oIn, inB, oSl, slF, slC, Option.bind_some, Option.map_some, true_and, L2.dq, L2.dr, L2.dl, L2.dd, both_some, opt_some, insAt_some, keyD, aFldC, aDPut, oDIn, aDGet, aDPop, aDGet1, aSetF, aDNew, aRaise, aMeth, oCat, oCatM, startA, List.map_cons, List.map_nil, List.length_cons, List.length_nil, List.replicate, List.cons_append, List.nil_append, List.getElem?_cons_zero, List.getElem?_cons_succ, List.set_cons_zero, List.set_cons_succ, Nat.reduceAdd, Nat.reduceSub, if_true, Bool.false_eq_true, if_false, aBM, kindD, g4, g7, N.held, oAppend, oList, List.length_map]
  exact ⟨by decide, by omega, h⟩
end
theorem ok_law_all_asked {f C : Addr} {fd : FuncData} {EC : Rk → Addr} (Fn : Fun K "_law_all_asked" "_law_all_asked" s_law_all_asked f fd) (T : Txt K mg) (h_law_cell_at : Has P w K mg base (CXE P w) 1 "_law_cell_at" ["_law_script", "_law_k"] (liftS K spCell))
    (h_law_pairs : Has P w K mg base (CXE P w) 2 "_law_pairs" ["_law_script", "_law_many"] (liftS K spPairs)) (h_law_asked : Has P w K mg base (CXE P w) 5 "_law_asked" ["_law_train_here", "_law_ends", "_law_names", "_law_pair"] (liftS K (spAsked C)))
    (h_put_join : HasM P w K mg base (CXE P w) 2 C "put_join" ["self", "kind", "one", "other"] (liftS K (spPutJ C EC))) (h_take_join : HasM P w K mg base (CXE P w) 2 C "take_join" ["self", "number"] (liftS K (spTakeJ C EC))) :
    FnOk P w K mg base (CXE P w) 6 f fd ["_law_train_here", "_law_ends", "_law_names", "_law_script"] (liftS K (spAll C)) := by
  refine Fn.okA sc_law_all_asked (fun ds M Q E h => ?_) ?_
  · obtain ⟨_, _, _, _, _, _, _, _, rfl, _⟩ := h; rfl
  intro cdv A outer s H E F0 ds M Q Ea hr ct hsp
  obtain ⟨p, d1, d2, q', S, ns, es, sc, rfl, tr, hq, n1, n2, rfl, N, h0, hl, hj, hok, q⟩ := hsp
  have hu64 := un64 ct
  refine ⟨_, (ssCons (sSet (i := 4) sc_law_all_asked.nd rfl (Or.inl rfl) (paLstM aaNil))
      (ssCons (sFor ct (iList' (paFun h_law_pairs (hr.mono (by decide)) (by rfl) ct (aaCons (paV (pv 3)) (aaCons (paCallB call_lens lLen (by rfl) T.len PySem.boot_len (aaCons (paV (pv 2)) aaNil)) aaNil)))) (tgName (i := 5) sc_law_all_asked.nd rfl (Or.inl rfl))
        (ssCons (sAsg (paFun h_law_asked (hr.mono (by decide)) (by rfl) ct (aaCons (paV (pv 0)) (aaCons (paV (pv 1)) (aaCons (paV (pv 2)) (aaCons (paV (pv 5)) aaNil))))) (tgLst rfl (tgsCons (tgName (i := 6) sc_law_all_asked.nd rfl (Or.inl rfl)) (tgsCons (tgName (i := 7) sc_law_all_asked.nd rfl (Or.inl rfl)) tgsNil))))
        (ssCons (sIf (ptNot (ptV (paV (pv 6))))
          (ssOne (sRet paB))
          ssNil)
        (ssCons (sExpr (paBM PySem.F.plainAttrs_list PySem.F.slot_list_append PySem.F.type_list_append mt_append lAppend (paV (pv 4)) (aaCons (paTup (aaCons (paV (pv 7)) (aaCons (paCallTy call_list_of lList (by rfl) T.list boot_list (aaCons (paV (pv 7)) aaNil)) aaNil))) aaNil)))
        (ssCons (sIf (ptCmp op_gt lGt (paCallB call_lens lLen (by rfl) T.len PySem.boot_len (aaCons (paV (pv 7)) aaNil)) paI (nomark _))
          (ssCons (sSet (i := 8) sc_law_all_asked.nd rfl (Or.inl rfl) (paIx ix_seq lIx (paIx ix_seq lIx (paV (pv 7)) (paOp op_mod lMod (paOp op_fdiv lDiv (paFun h_law_cell_at (hr.mono (by decide)) (by rfl) ct (aaCons (paV (pv 3)) (aaCons paI aaNil))) paI) (paCallB call_lens lLen (by rfl) T.len PySem.boot_len (aaCons (paV (pv 7)) aaNil))) (fun _ _ => rfl)) paI (fun _ _ => rfl)))
          (ssCons (sExpr (paMeth h_take_join (hr.mono (by decide)) ct (paV (pv 0)) (aaCons (paV (pv 8)) aaNil)))
          (ssCons (sExpr (paDPop (paV (pv 1)) (paV (pv 8)) ⟨by rfl, by rfl, by rfl, by rfl⟩))
          (ssCons (sAsg (paFun h_law_asked (hr.mono (by decide)) (by rfl) ct (aaCons (paV (pv 0)) (aaCons (paV (pv 1)) (aaCons (paV (pv 2)) (aaCons (paV (pv 5)) aaNil))))) (tgLst rfl (tgsCons (tgName (i := 6) sc_law_all_asked.nd rfl (Or.inl rfl)) (tgsCons (tgName (i := 7) sc_law_all_asked.nd rfl (Or.inl rfl)) tgsNil))))
          (ssCons (sIf (ptNot (ptV (paV (pv 6))))
            (ssOne (sRet paB))
            ssNil)
          (ssOne (sExpr (paBM PySem.F.plainAttrs_list PySem.F.slot_list_append PySem.F.type_list_append mt_append lAppend (paV (pv 4)) (aaCons (paTup (aaCons (paV (pv 7)) (aaCons (paCallTy call_list_of lList (by rfl) T.list boot_list (aaCons (paV (pv 7)) aaNil)) aaNil))) aaNil)))))))))
          ssNil)
        (ssOne (sIf (ptCmp op_gt lGt (paCallB call_lens lLen (by rfl) T.len PySem.boot_len (aaCons (paV (pv 2)) aaNil)) paI (nomark _))
          (ssCons (sSet (i := 9) sc_law_all_asked.nd rfl (Or.inl rfl) (paOp op_mod lMod (paOp op_fdiv lDiv (paFun h_law_cell_at (hr.mono (by decide)) (by rfl) ct (aaCons (paV (pv 3)) (aaCons paI aaNil))) paI) (paCallB call_lens lLen (by rfl) T.len PySem.boot_len (aaCons (paV (pv 2)) aaNil))))
          (ssCons (sSet (i := 10) sc_law_all_asked.nd rfl (Or.inl rfl) (paOp op_mod lMod (paOp op_adds lAdd (paOp op_adds lAdd (paV (pv 9)) paI) (paOp op_mod lMod (paOp op_fdiv lDiv (paFun h_law_cell_at (hr.mono (by decide)) (by rfl) ct (aaCons (paV (pv 3)) (aaCons paI aaNil))) paI) (paOp op_sub lSub (paCallB call_lens lLen (by rfl) T.len PySem.boot_len (aaCons (paV (pv 2)) aaNil)) paI))) (paCallB call_lens lLen (by rfl) T.len PySem.boot_len (aaCons (paV (pv 2)) aaNil))))
          (ssCons (sPutD (un1 ct) (paV (pv 1)) (paMeth h_put_join (hr.mono (by decide)) ct (paV (pv 0)) (aaCons paS (aaCons (paIx ix_seq lIx (paV (pv 2)) (paV (pv 9)) (fun _ _ => rfl)) (aaCons (paIx ix_seq lIx (paV (pv 2)) (paV (pv 10)) (fun _ _ => rfl)) aaNil)))) (paTup (aaCons (paV (pv 9)) (aaCons (paV (pv 10)) aaNil))) rfl)
          (ssCons (sAsg (paFun h_law_asked (hr.mono (by decide)) (by rfl) ct (aaCons (paV (pv 0)) (aaCons (paV (pv 1)) (aaCons (paV (pv 2)) (aaCons (paV (pv 5)) aaNil))))) (tgLst rfl (tgsCons (tgName (i := 6) sc_law_all_asked.nd rfl (Or.inl rfl)) (tgsCons (tgName (i := 7) sc_law_all_asked.nd rfl (Or.inl rfl)) tgsNil))))
          (ssOne (sIf (ptNot (ptV (paV (pv 6))))
            (ssOne (sRet paB))
            ssNil))))))
          ssNil)))))))
      (ssCons (sFor ct (iList' (paV (pv 4))) (tgTup rfl (tgsCons (tgName (i := 7) sc_law_all_asked.nd rfl (Or.inl rfl)) (tgsCons (tgName (i := 11) sc_law_all_asked.nd rfl (Or.inl rfl)) tgsNil)))
        (ssOne (sIf (ptCmp (op_nes (un64 ct)) lNe (paV (pv 7)) (paV (pv 11)) (nomark _))
          (ssOne (sRet paB))
          ssNil)))
      (ssOne (sRet paB))))), ?_⟩
  have hwl : (S.ws.map Prod.fst).length = S.ws.length := List.length_map ..
  refine cut1 (fun Γ' M1 => ∃ r, M r = none ∧ Γ' = [some (.obj p), some (.obj q'), some (.lst ((S.ws.map Prod.fst).map D.str)), some (.scr (sc.map D.int)), some (.obj r), none, none, none, none, none, none, none] ∧ Now C M1 p d1 d2 q' r S.ws S es []) ?_ ?_
  · rintro Γ' M1 ⟨r, hr', rfl, N0⟩
    simp only [aSeq, aFor, iaL, aFun, aCall, oLen, lenC, lenF, L2.dq, aCons, aNil, aV, spPairs, Option.map_some, opt_some, true_and, List.getElem?_cons_zero, List.getElem?_cons_succ]
    refine ⟨sc, S.ws.length, by rw [List.length_map, List.length_map], by omega, fun l hl2 hl3 => ?_⟩
    refine LoopP.by2 (fun i Γ M' => ∃ S' es' hs o5 o6 o7 o8 o9 o10 o11, Γ = [some (.obj p), some (.obj q'), some (.lst ((S.ws.map Prod.fst).map D.str)), some (.scr (sc.map D.int)), some (.obj r), o5, o6, o7, o8, o9, o10, o11] ∧ Now C M' p d1 d2 q' r S.ws S' es' hs ∧ S'.js.length ≤ 90 + i ∧ hs.length ≤ 2 * i)
      ⟨S, es, [], _, _, _, _, _, _, _, rfl, N0, by omega, Nat.zero_le _⟩ (fun _ _ _ _ => rfl) ?_ ?_
    · rintro E' i Γ M' hrt hi hnx ⟨S', es', hs, o5, o6, o7, o8, o9, o10, o11, rfl, Nw, hj', hh⟩
      dsimp only at hi
      have hi' : i < l.length := by simpa using hi
      obtain ⟨ha, hb⟩ := hl2 _ (List.getElem_mem hi')
      simp only [getD_map l eQ i hi']
      generalize l[i] = ab at ha hb
      simp only [eQ, gaN, List.set_cons_zero, List.set_cons_succ]
      refine ask_step Nw rfl (by omega) (by omega) ha hb fun st hst hsl => ?_
      refine dropV .non (put M' r (.lst (hs.map eH ++ [eH st]))) (fun R h => hold_step Nw (by omega) rfl rfl h) ?_
      have Nw2 := Nw.hold (st := st) fun x hx => (hst x hx).2
      generalize put M' r (.lst (hs.map eH ++ [eH st])) = M2 at Nw2 ⊢
      refine cut1 (fun Γ' M3 => ∃ S3 es3 hs3 y6 y7 y8, Γ' = [some (.obj p), some (.obj q'), some (.lst ((S.ws.map Prod.fst).map D.str)), some (.scr (sc.map D.int)), some (.obj r), some (.tup [.int ab.1, .int ab.2]), y6, y7, y8, o9, o10, o11] ∧ Now C M3 p d1 d2 q' r S.ws S3 es3 hs3 ∧ S3.js.length ≤ 90 + i ∧ hs3.length ≤ 2 * (i + 1)) ?_ ?_
      · rintro Γ M3 ⟨S3, es3, hs3, y6, y7, y8, rfl, Nw3, hj3, hh3⟩
        by_cases hw1 : 1 < S.ws.length
        · refine ifV true (fun R h => by
            simp only [aYes, Bool.and_self, at0, at1, at2, at3, aSeq, aNext, aIf, aFor, iaR1, iaR2, iaR3, iaS, iaL, gaN, aSl, aPart, aNoPart, aT, aOp, aV, aC, aRet, aRetN, aTup, aLst, aLstM, aCons, aNil, aAnd, aOr, aNot, aAndV, aOrV, aNotV, aSet, aAsg, aDrop, aCall, aFun, aUn, oAdd, addF, addC, oI, oIc, eqq_int, eqq_str, eqq_bl, neq_int, neq_str, neq_bl, oIsN, isNon, oNeg, oLen, lenF, lenC, oIx, ixF, ixC, oIn, inB, oSl, slF, slC, Option.bind_some, Option.map_some, true_and, L2.dq, L2.dr, L2.dl, L2.dd, both_some, opt_some, insAt_some, keyD, aFldC, aDPut, oDIn, aDGet, aDPop, aDGet1, aSetF, aDNew, aRaise, aMeth, oCat, oCatM, startA, List.map_cons, List.map_nil, List.length_cons, List.length_nil, List.replicate, List.cons_append, List.nil_append, List.getElem?_cons_zero, List.getElem?_cons_succ, List.set_cons_zero, List.set_cons_succ, Nat.reduceAdd, Nat.reduceSub, if_true, Bool.false_eq_true, if_false, List.length_map, decide_eq_true (show (1 : Int) < (S.ws.length : Int) by omega)]
            exact h) ?_
          rw [if_pos rfl]
          obtain ⟨at', hat⟩ := Int.eq_ofNat_of_zero_le (Int.emod_nonneg (cell sc 4 / 3) (show (S.ws.length : Int) ≠ 0 by omega))
          have hat2 := Int.emod_lt_of_pos (cell sc 4 / 3) (show (0 : Int) < (S.ws.length : Int) by omega)
          rw [hat] at hat2
          obtain ⟨u, hu⟩ := Int.eq_ofNat_of_zero_le (Int.emod_nonneg (cell sc 5 / 7) (show (S.ws.length : Int) - 1 ≠ 0 by omega))
          have hu2 := Int.emod_lt_of_pos (cell sc 5 / 7) (show (0 : Int) < (S.ws.length : Int) - 1 by omega)
          rw [hu] at hu2
          have hto : ((at' : Int) + 1 + (u : Int)) % (S.ws.length : Int) = (((at' + 1 + u) % S.ws.length : Nat) : Int) := by rw [Int.natCast_emod]; rfl
          have hne : at' ≠ (at' + 1 + u) % S.ws.length := by
            intro z
            by_cases hlt : at' + 1 + u < S.ws.length
            · rw [Nat.mod_eq_of_lt hlt] at z; omega
            · rw [Nat.mod_eq_sub_mod (by omega), Nat.mod_eq_of_lt (by omega)] at z; omega
          have hlt := Nat.mod_lt (at' + 1 + u) (show 0 < S.ws.length by omega)
          refine seqV (.int (at' : Int)) M3 (fun R h => by
            simp only [aYes, Bool.and_self, at0, at1, at2, at3, aSeq, aNext, aIf, aFor, iaR1, iaR2, iaR3, iaS, iaL, gaN, aSl, aPart, aNoPart, aT, aOp, aV, aC, aRet, aRetN, aTup, aLst, aLstM, aCons, aNil, aAnd, aOr, aNot, aAndV, aOrV, aNotV, aSet, aAsg, aDrop, aCall, aFun, aUn, oAdd, addF, addC, oI, oIc, eqq_int, eqq_str, eqq_bl, neq_int, neq_str, neq_bl, oIsN, isNon, oNeg, oLen, lenF, lenC, oIx, ixF, ixC, oIn, inB, oSl, slF, slC, Option.bind_some, Option.map_some, true_and, L2.dq, L2.dr, L2.dl, L2.dd, both_some, opt_some, insAt_some, keyD, aFldC, aDPut, oDIn, aDGet, aDPop, aDGet1, aSetF, aDNew, aRaise, aMeth, oCat, oCatM, startA, List.map_cons, List.map_nil, List.length_cons, List.length_nil, List.replicate, List.cons_append, List.nil_append, List.getElem?_cons_zero, List.getElem?_cons_succ, List.set_cons_zero, List.set_cons_succ, Nat.reduceAdd, Nat.reduceSub, if_true, Bool.false_eq_true, if_false, spCell, List.length_map]
            exact ⟨sc, 4, rfl, by decide, ⟨by decide, by decide⟩, by omega, by rw [hat]; exact h⟩) (seqV (.int (((at' + 1 + u) % S.ws.length : Nat) : Int)) M3 (fun R h => by
            simp only [aYes, Bool.and_self, at0, at1, at2, at3, aSeq, aNext, aIf, aFor, iaR1, iaR2, iaR3, iaS, iaL, gaN, aSl, aPart, aNoPart, aT, aOp, aV, aC, aRet, aRetN, aTup, aLst, aLstM, aCons, aNil, aAnd, aOr, aNot, aAndV, aOrV, aNotV, aSet, aAsg, aDrop, aCall, aFun, aUn, oAdd, addF, addC, oI, oIc, eqq_int, eqq_str, eqq_bl, neq_int, neq_str, neq_bl, oIsN, isNon, oNeg, oLen, lenF, lenC, oIx, ixF, ixC, oIn, inB, oSl, slF, slC, Option.bind_some, Option.map_some, true_and, L2.dq, L2.dr, L2.dl, L2.dd, both_some, opt_some, insAt_some, keyD, aFldC, aDPut, oDIn, aDGet, aDPop, aDGet1, aSetF, aDNew, aRaise, aMeth, oCat, oCatM, startA, List.map_cons, List.map_nil, List.length_cons, List.length_nil, List.replicate, List.cons_append, List.nil_append, List.getElem?_cons_zero, List.getElem?_cons_succ, List.set_cons_zero, List.set_cons_succ, Nat.reduceAdd, Nat.reduceSub, if_true, Bool.false_eq_true, if_false, spCell, List.length_map]
            exact ⟨sc, 5, rfl, by decide, ⟨by decide, by decide⟩, by omega, by omega, by rw [hu, hto]; exact h⟩) ?_)
          simp only [List.set_cons_zero, List.set_cons_succ]
          generalize (at' + 1 + u) % S.ws.length = to' at hne hlt
          have N4 := Nw3.pin (k := "pin") (a := at') (b := to') (by omega) (by omega) hne
          refine cut1 (fun Γ' M4 => Γ' = [some (.obj p), some (.obj q'), some (.lst ((S.ws.map Prod.fst).map D.str)), some (.scr (sc.map D.int)), some (.obj r), some (.tup [.int ab.1, .int ab.2]), y6, y7, y8, some (.int (at' : Int)), some (.int (to' : Int)), o11] ∧ Now C M4 p d1 d2 q' r S.ws ⟨S3.ws, S3.js ++ [(S3.nx, ("pin" : Str), at_ (S.ws.map Prod.fst) at', at_ (S.ws.map Prod.fst) to')], S3.nx + 1⟩ (es3 ++ [(S3.nx, at', to')]) hs3) ?_ ?_
          · rintro Γ M4 ⟨rfl, N4⟩
            have hj4 : (S3.js ++ [(S3.nx, ("pin" : Str), at_ (S.ws.map Prod.fst) at', at_ (S.ws.map Prod.fst) to')]).length ≤ 90 + (i + 1) := by rw [List.length_append]; simp; omega
            exact ask_last N4 rfl (by omega) (Nat.le_trans hj4 (by omega)) ha hb fun st' => hnx _ _ ⟨_, _, _, _, _, _, _, _, _, _, rfl, N4, hj4, hh3⟩
          · intro rest hrest
            have m1 : at_ (S.ws.map Prod.fst) at' ∈ S3.ws.map Prod.fst := by rw [Nw3.wse]; exact at_mem (by omega)
            have m2 : at_ (S.ws.map Prod.fst) to' ∈ S3.ws.map Prod.fst := by rw [Nw3.wse]; exact at_mem (by omega)
            have hq3 : put (put M3 d2 (.dic (dJ (S3.js ++ [(S3.nx, ("pin" : Str), at_ (S.ws.map Prod.fst) at', at_ (S.ws.map Prod.fst) to')])))) p (.ins C (fsT d1 d2 (S3.nx + 1))) q' = some (.dic (es3.map eEn)) := by rw [put_ne Nw3.pq.symm, put_ne Nw3.q2.symm]; exact Nw3.en
            simp only [aYes, Bool.and_self, at0, at1, at2, at3, aSeq, aNext, aIf, aFor, iaR1, iaR2, iaR3, iaS, iaL, gaN, aSl, aPart, aNoPart, aT, aOp, aV, aC, aRet, aRetN, aTup, aLst, aLstM, aCons, aNil, aAnd, aOr, aNot, aAndV, aOrV, aNotV, aSet, aAsg, aDrop, aCall, aFun, aUn, oAdd, addF, addC, oI, oIc, eqq_int, eqq_str, eqq_bl, neq_int, neq_str, neq_bl, oIsN, isNon, oNeg, oLen, lenF, lenC, oIx, ixF, ixC, oIn, inB, oSl, slF, slC, Option.bind_some, Option.map_some, true_and, L2.dq, L2.dr, L2.dl, L2.dd, both_some, opt_some, insAt_some, keyD, aFldC, aDPut, oDIn, aDGet, aDPop, aDGet1, aSetF, aDNew, aRaise, aMeth, oCat, oCatM, startA, List.map_cons, List.map_nil, List.length_cons, List.length_nil, List.replicate, List.cons_append, List.nil_append, List.getElem?_cons_zero, List.getElem?_cons_succ, List.set_cons_zero, List.set_cons_succ, Nat.reduceAdd, Nat.reduceSub, if_true, Bool.false_eq_true, if_false, Nw3.tr.self, no_put_join, spPutJ, str_at' (ns := S.ws.map Prod.fst) (i := at') (by omega), str_at' (ns := S.ws.map Prod.fst) (i := to') (by omega)]
            refine ⟨by decide, p, d1, d2, S3, "pin", _, _, rfl, Nw3.tr, ?_⟩
            rw [refJ_ok (by decide +kernel) m1 m2 (fun z => hne (at_inj N.nd (by omega) (by omega) z)) (by omega)]
            dsimp only
            rw [hq3]
            refine ⟨by rw [List.length_map, ← Nw3.net.len]; omega, ?_⟩
            rw [put_en (Nw3.net.new Nw3.tr.lt)]
            exact hrest _ _ ⟨rfl, N4⟩
        · refine ifV false (fun R h => by
            simp only [aYes, Bool.and_self, at0, at1, at2, at3, aSeq, aNext, aIf, aFor, iaR1, iaR2, iaR3, iaS, iaL, gaN, aSl, aPart, aNoPart, aT, aOp, aV, aC, aRet, aRetN, aTup, aLst, aLstM, aCons, aNil, aAnd, aOr, aNot, aAndV, aOrV, aNotV, aSet, aAsg, aDrop, aCall, aFun, aUn, oAdd, addF, addC, oI, oIc, eqq_int, eqq_str, eqq_bl, neq_int, neq_str, neq_bl, oIsN, isNon, oNeg, oLen, lenF, lenC, oIx, ixF, ixC, oIn, inB, oSl, slF, slC, Option.bind_some, Option.map_some, true_and, L2.dq, L2.dr, L2.dl, L2.dd, both_some, opt_some, insAt_some, keyD, aFldC, aDPut, oDIn, aDGet, aDPop, aDGet1, aSetF, aDNew, aRaise, aMeth, oCat, oCatM, startA, List.map_cons, List.map_nil, List.length_cons, List.length_nil, List.replicate, List.cons_append, List.nil_append, List.getElem?_cons_zero, List.getElem?_cons_succ, List.set_cons_zero, List.set_cons_succ, Nat.reduceAdd, Nat.reduceSub, if_true, Bool.false_eq_true, if_false, List.length_map, decide_eq_false (show ¬ (1 : Int) < (S.ws.length : Int) by omega)]
            exact h) ?_
          rw [if_neg Bool.false_ne_true]
          exact hnx _ _ ⟨_, _, _, _, _, _, _, _, _, _, rfl, Nw3, by omega, hh3⟩
      · intro rest hrest
        by_cases hst0 : 0 < st.length
        · refine seqIfB true (fun R h => by
            simp only [aYes, Bool.and_self, at0, at1, at2, at3, aSeq, aNext, aIf, aFor, iaR1, iaR2, iaR3, iaS, iaL, gaN, aSl, aPart, aNoPart, aT, aOp, aV, aC, aRet, aRetN, aTup, aLst, aLstM, aCons, aNil, aAnd, aOr, aNot, aAndV, aOrV, aNotV, aSet, aAsg, aDrop, aCall, aFun, aUn, oAdd, addF, addC, oI, oIc, eqq_int, eqq_str, eqq_bl, neq_int, neq_str, neq_bl, oIsN, isNon, oNeg, oLen, lenF, lenC, oIx, ixF, ixC, oIn, inB, oSl, slF, slC, Option.bind_some, Option.map_some, true_and, L2.dq, L2.dr, L2.dl, L2.dd, both_some, opt_some, insAt_some, keyD, aFldC, aDPut, oDIn, aDGet, aDPop, aDGet1, aSetF, aDNew, aRaise, aMeth, oCat, oCatM, startA, List.map_cons, List.map_nil, List.length_cons, List.length_nil, List.replicate, List.cons_append, List.nil_append, List.getElem?_cons_zero, List.getElem?_cons_succ, List.set_cons_zero, List.set_cons_succ, Nat.reduceAdd, Nat.reduceSub, if_true, Bool.false_eq_true, if_false, List.length_map, decide_eq_true (show (0 : Int) < (st.length : Int) by omega)]
            exact h) ?_
          rw [if_pos rfl]
          obtain ⟨k, hk⟩ := Int.eq_ofNat_of_zero_le (Int.emod_nonneg (cell sc 0 / 3) (show (st.length : Int) ≠ 0 by omega))
          have hk2 := Int.emod_lt_of_pos (cell sc 0 / 3) (show (0 : Int) < (st.length : Int) by omega)
          rw [hk] at hk2
          have hk3 : k < st.length := by omega
          have ek : atI (st.map eSt) (k : Int) = some (eSt st[k]) := by rw [at_nat _ _ (by simpa using hk3), List.getElem_map]
          obtain ⟨hin, _⟩ := hst _ (List.getElem_mem hk3)
          generalize st[k] = sk at ek hin
          refine seqV (.int sk.1) M2 (fun R h => by
            simp only [aYes, Bool.and_self, at0, at1, at2, at3, aSeq, aNext, aIf, aFor, iaR1, iaR2, iaR3, iaS, iaL, gaN, aSl, aPart, aNoPart, aT, aOp, aV, aC, aRet, aRetN, aTup, aLst, aLstM, aCons, aNil, aAnd, aOr, aNot, aAndV, aOrV, aNotV, aSet, aAsg, aDrop, aCall, aFun, aUn, oAdd, addF, addC, oI, oIc, eqq_int, eqq_str, eqq_bl, neq_int, neq_str, neq_bl, oIsN, isNon, oNeg, oLen, lenF, lenC, oIx, ixF, ixC, oIn, inB, oSl, slF, slC, Option.bind_some, Option.map_some, true_and, L2.dq, L2.dr, L2.dl, L2.dd, both_some, opt_some, insAt_some, keyD, aFldC, aDPut, oDIn, aDGet, aDPop, aDGet1, aSetF, aDNew, aRaise, aMeth, oCat, oCatM, startA, List.map_cons, List.map_nil, List.length_cons, List.length_nil, List.replicate, List.cons_append, List.nil_append, List.getElem?_cons_zero, List.getElem?_cons_succ, List.set_cons_zero, List.set_cons_succ, Nat.reduceAdd, Nat.reduceSub, if_true, Bool.false_eq_true, if_false, spCell, List.length_map]
            refine ⟨sc, 0, rfl, by decide, ⟨by decide, by decide⟩, by omega, ?_⟩
            rw [hk, ek]
            exact ⟨trivial, h⟩) ?_
          simp only [List.set_cons_zero, List.set_cons_succ]
          have hin2 : sk.1 ∈ S'.js.map Prod.fst := by rw [Nw2.net.keyOf]; exact hin
          refine dropV .non (put M2 d2 (.dic (dJ (S'.js.filter fun j => decide (j.1 ≠ sk.1))))) (fun R h => by
            simp only [aYes, Bool.and_self, at0, at1, at2, at3, aSeq, aNext, aIf, aFor, iaR1, iaR2, iaR3, iaS, iaL, gaN, aSl, aPart, aNoPart, aT, aOp, aV, aC, aRet, aRetN, aTup, aLst, aLstM, aCons, aNil, aAnd, aOr, aNot, aAndV, aOrV, aNotV, aSet, aAsg, aDrop, aCall, aFun, aUn, oAdd, addF, addC, oI, oIc, eqq_int, eqq_str, eqq_bl, neq_int, neq_str, neq_bl, oIsN, isNon, oNeg, oLen, lenF, lenC, oIx, ixF, ixC, oIn, inB, oSl, slF, slC, Option.bind_some, Option.map_some, true_and, L2.dq, L2.dr, L2.dl, L2.dd, both_some, opt_some, insAt_some, keyD, aFldC, aDPut, oDIn, aDGet, aDPop, aDGet1, aSetF, aDNew, aRaise, aMeth, oCat, oCatM, startA, List.map_cons, List.map_nil, List.length_cons, List.length_nil, List.replicate, List.cons_append, List.nil_append, List.getElem?_cons_zero, List.getElem?_cons_succ, List.set_cons_zero, List.set_cons_succ, Nat.reduceAdd, Nat.reduceSub, if_true, Bool.false_eq_true, if_false, Nw2.tr.self, no_take_join, spTakeJ]
            refine ⟨p, d1, d2, S', sk.1, rfl, Nw2.tr, ?_⟩
            rw [hasJ_mem hin2]; exact h) ?_
          obtain ⟨dv, hdv⟩ := getK_mem Nw2.net.keys hin
          have hq2 : put M2 d2 (.dic (dJ (S'.js.filter fun j => decide (j.1 ≠ sk.1)))) q' = some (.dic (es'.map eEn)) := by rw [put_ne Nw2.q2.symm]; exact Nw2.en
          refine dropV dv _ (fun R h => by
            simp only [aYes, Bool.and_self, at0, at1, at2, at3, aSeq, aNext, aIf, aFor, iaR1, iaR2, iaR3, iaS, iaL, gaN, aSl, aPart, aNoPart, aT, aOp, aV, aC, aRet, aRetN, aTup, aLst, aLstM, aCons, aNil, aAnd, aOr, aNot, aAndV, aOrV, aNotV, aSet, aAsg, aDrop, aCall, aFun, aUn, oAdd, addF, addC, oI, oIc, eqq_int, eqq_str, eqq_bl, neq_int, neq_str, neq_bl, oIsN, isNon, oNeg, oLen, lenF, lenC, oIx, ixF, ixC, oIn, inB, oSl, slF, slC, Option.bind_some, Option.map_some, true_and, L2.dq, L2.dr, L2.dl, L2.dd, both_some, opt_some, insAt_some, keyD, aFldC, aDPut, oDIn, aDGet, aDPop, aDGet1, aSetF, aDNew, aRaise, aMeth, oCat, oCatM, startA, List.map_cons, List.map_nil, List.length_cons, List.length_nil, List.replicate, List.cons_append, List.nil_append, List.getElem?_cons_zero, List.getElem?_cons_succ, List.set_cons_zero, List.set_cons_succ, Nat.reduceAdd, Nat.reduceSub, if_true, Bool.false_eq_true, if_false, hq2, Option.isSome_some, hdv]
            exact h) ?_
          rw [drop_en]
          have N3 := Nw2.less sk.1
          generalize put (put M2 d2 (.dic (dJ (S'.js.filter fun j => decide (j.1 ≠ sk.1))))) q' (.dic ((es'.filter fun e => decide (e.1 ≠ sk.1)).map eEn)) = M3 at N3 ⊢
          have hj3 : (S'.js.filter fun j => decide (j.1 ≠ sk.1)).length ≤ 90 + i := Nat.le_trans (List.length_filter_le _ _) hj'
          refine ask_step N3 rfl (by omega) (Nat.le_trans hj3 (by omega)) ha hb fun st2 hst2 _ => ?_
          refine dropE .non (put M3 r (.lst ((hs ++ [st]).map eH ++ [eH st2]))) (fun R h => hold_step N3 (by rw [List.length_append]; simp; omega) rfl rfl h) ?_
          exact hrest _ _ ⟨_, _, _, _, _, _, rfl, N3.hold fun x hx => (hst2 x hx).2, hj3, by rw [List.length_append, List.length_append]; simp; omega⟩
        · refine seqIfB false (fun R h => by
            simp only [aYes, Bool.and_self, at0, at1, at2, at3, aSeq, aNext, aIf, aFor, iaR1, iaR2, iaR3, iaS, iaL, gaN, aSl, aPart, aNoPart, aT, aOp, aV, aC, aRet, aRetN, aTup, aLst, aLstM, aCons, aNil, aAnd, aOr, aNot, aAndV, aOrV, aNotV, aSet, aAsg, aDrop, aCall, aFun, aUn, oAdd, addF, addC, oI, oIc, eqq_int, eqq_str, eqq_bl, neq_int, neq_str, neq_bl, oIsN, isNon, oNeg, oLen, lenF, lenC, oIx, ixF, ixC, oIn, inB, oSl, slF, slC, Option.bind_some, Option.map_some, true_and, L2.dq, L2.dr, L2.dl, L2.dd, both_some, opt_some, insAt_some, keyD, aFldC, aDPut, oDIn, aDGet, aDPop, aDGet1, aSetF, aDNew, aRaise, aMeth, oCat, oCatM, startA, List.map_cons, List.map_nil, List.length_cons, List.length_nil, List.replicate, List.cons_append, List.nil_append, List.getElem?_cons_zero, List.getElem?_cons_succ, List.set_cons_zero, List.set_cons_succ, Nat.reduceAdd, Nat.reduceSub, if_true, Bool.false_eq_true, if_false, List.length_map, decide_eq_false (show ¬ (0 : Int) < (st.length : Int) by omega)]
            exact h) ?_
          rw [if_neg Bool.false_ne_true]
          exact hrest _ _ ⟨_, _, _, _, _, _, rfl, Nw2, hj', by rw [List.length_append]; simp; omega⟩
    · rintro Γ M' ⟨S', es', hs, o5, o6, o7, o8, o9, o10, o11, rfl, Nw, hj', hh⟩
      have er : dr M' (.obj r) = some (hs.map eH) := by simp only [dr, Nw.held]
      dsimp only
      refine forLs (fun R h => h) er ?_
      refine LoopP.by2 (fun i Γ M2 => M2 = M' ∧ ∃ y7 y11, Γ = [some (.obj p), some (.obj q'), some (.lst ((S.ws.map Prod.fst).map D.str)), some (.scr (sc.map D.int)), some (.obj r), o5, o6, y7, o8, o9, o10, y11]) ⟨rfl, _, _, rfl⟩ (fun i Γ M2 h => by rw [h.1]; exact er) ?_ ?_
      · rintro E' i Γ M2 hrt hi hnx ⟨rfl, y7, y11, rfl⟩
        dsimp only at hi
        have hi' : i < hs.length := by simpa using hi
        have hg := Nw.good _ (List.getElem_mem hi')
        simp only [getD_map hs eH i hi']
        generalize hs[i] = st at hg
        simp only [eH, gaTup, gaCons, gaNil, gaN, List.set_cons_zero, List.set_cons_succ, true_and]
        refine ⟨rfl, ifV false (fun R h => ?_) ?_⟩
        · refine (show oEq true (.lst (st.map eSt)) (.lst (st.map eSt)) M2 (fun d M' => match d with | .bl b => R b M' | _ => False) from ?_)
          exact ne_self' (d := .lst (st.map eSt)) (M := M2) (gd_sts hok hg).sh h
        · rw [if_neg Bool.false_ne_true]
          exact hnx _ _ ⟨rfl, _, _, rfl⟩
      · rintro Γ M2 ⟨rfl, y7, y11, rfl⟩
        exact .now (q _ S' es' Nw.tr Nw.wse Nw.en Nw.net (by dsimp only at hj'; rw [List.length_map] at hj'; omega))
  · intro rest hrest
    simp only [aYes, Bool.and_self, at0, at1, at2, at3, aSeq, aNext, aIf, aFor, iaR1, iaR2, iaR3, iaS, iaL, gaN, aSl, aPart, aNoPart, aT, aOp, aV, aC, aRet, aRetN, aTup, aLst, aLstM, aCons, aNil, aAnd, aOr, aNot, aAndV, aOrV, aNotV, aSet, aAsg, aDrop, aCall, aFun, aUn, oAdd, addF, addC, oI, oIc, eqq_int, eqq_str, eqq_bl, neq_int, neq_str, neq_bl, oIsN, isNon, oNeg, oLen, lenF, lenC, oIx, ixF, ixC, oIn, inB, oSl, slF, slC, Option.bind_some, Option.map_some, true_and, L2.dq, L2.dr, L2.dl, L2.dd, both_some, opt_some, insAt_some, keyD, aFldC, aDPut, oDIn, aDGet, aDPop, aDGet1, aSetF, aDNew, aRaise, aMeth, oCat, oCatM, startA, List.map_cons, List.map_nil, List.length_cons, List.length_nil, List.replicate, List.cons_append, List.nil_append, List.getElem?_cons_zero, List.getElem?_cons_succ, List.set_cons_zero, List.set_cons_succ, Nat.reduceAdd, Nat.reduceSub, if_true, Bool.false_eq_true, if_false]
    refine ⟨Nat.zero_le _, fun r hr' => hrest _ _ ⟨r, hr', rfl, tr.sub (.put hr'), rfl, ?_, N, put_same, fun _ h => (List.not_mem_nil h).elim, n1, n2⟩⟩
    rw [put_ne (fun z => by rw [z, hr'] at hq; cases hq)]; exact hq


theorem esOf_new {js : List (Str × Nat × Nat)} : (js.length : Int) ∉ (esOf js).map Prod.fst := by
  intro z
  obtain ⟨e, he, e1⟩ := List.mem_map.mp z
  unfold esOf at he
  obtain ⟨i, hi, e2⟩ := List.mem_mapIdx.mp he
  rw [← e2] at e1
  have e1 : (i : Int) = (js.length : Int) := e1
  omega
theorem last_at {ns : List Str} (h : 0 < ns.length) : ∃ y, atI (ns.map D.str) (-1) = some (.str y) := by
  have e : atI (ns.map D.str) (-1) = (ns.map D.str)[ns.length - 1]? := by
    unfold atI ixN
    rw [if_neg (by decide), if_pos (by rw [List.length_map]; omega)]
    have e : ((-1 : Int) + ((ns.map D.str).length : Nat)).toNat = ns.length - 1 := by rw [List.length_map]; omega
    rw [e]; rfl
  rw [e, List.getElem?_map, List.getElem?_eq_getElem (show ns.length - 1 < ns.length by omega)]
  exact ⟨_, rfl⟩
theorem wName_ok (s k : Nat) : PySem.PyData.strOk (wName s k) = true := by
  unfold PySem.PyData.strOk
  rw [← Array.all_toList]
  refine List.all_eq_true.mpr fun c hc => ?_
  have h3 := wNameL_mem (s := s) (k := k) hc
  exact decide_eq_true (by omega)
theorem Rw.ok {s : Nat} {ws : List (Str × Int)} {js : List (Str × Nat × Nat)} (r : Rw s ws js) : ∀ x ∈ ws.map Prod.fst, PySem.PyData.strOk x = true := by
  intro x hx
  obtain ⟨k, _, rfl⟩ := r.name hx
  exact wName_ok s k
theorem Rw.no {s : Nat} {ws : List (Str × Int)} {js : List (Str × Nat × Nat)} (r : Rw s ws js) {x : Str} (h : x ∈ noNames) : x ∉ ws.map Prod.fst := by
  intro z
  obtain ⟨k, _, rfl⟩ := r.name z
  exact wName_no s k h
theorem Rw.gw {s : Nat} {ws : List (Str × Int)} {js : List (Str × Nat × Nat)} (r : Rw s ws js) : Gd 2 (.lst (ws.map eW)) := .lst _ _ fun d hd => by
  obtain ⟨x, hx, rfl⟩ := List.mem_map.mp hd
  refine .tup _ _ fun e he => ?_
  simp only [List.mem_cons, List.not_mem_nil, or_false] at he
  rcases he with rfl | rfl
  · exact .str _ _ (r.ok _ (List.mem_map.mpr ⟨x, hx, rfl⟩))
  · exact .int _ _
theorem gd_names {ns : List Str} (h : ∀ x ∈ ns, PySem.PyData.strOk x = true) : Gd 1 (.lst (ns.map D.str)) := .lst _ _ fun d hd => by
  obtain ⟨x, hx, rfl⟩ := List.mem_map.mp hd
  exact .str _ _ (h x hx)
noncomputable def eI (e : En) : D := .tup [.int e.1, eP e]
theorem gd_items (es : List En) : Gd 3 (.lst (es.map eI)) := .lst _ _ fun d hd => by
  obtain ⟨x, _, rfl⟩ := List.mem_map.mp hd
  refine .tup _ _ fun e he => ?_
  simp only [List.mem_cons, List.not_mem_nil, or_false] at he
  rcases he with rfl | rfl
  · exact .int _ _
  · exact gd_pair _ _
theorem items_en (es : List En) : (es.map eEn).map (fun kv => D.tup [keyOf kv.1, kv.2]) = es.map eI := by rw [List.map_map]; rfl
theorem rd_items {M : Mem} {q : Addr} {kvs : List (Key × D)} {Γ : G} {Q : AK} {t : AE} (hto : ∀ R : AK, R (.obj q) M → t Γ M R) (hq : M q = some (.dic kvs)) (h : Q (.lst (kvs.map fun kv => .tup [keyOf kv.1, kv.2])) M) : aFz (aItems t) Γ M Q := by
  refine hto _ ?_
  have e : dd M (.obj q) = some kvs := by simp only [dd, hq]
  rw [e]
  intro p hp
  dsimp only
  rw [put_same]
  dsimp only
  rw [del_put hp]; exact h
theorem own4 {own : G} (h : own.length = 4) : ∃ a b c d, own = [a, b, c, d] := by
  cases own with
  | nil => cases h
  | cons a l =>
    cases l with
    | nil => cases h
    | cons b l =>
      cases l with
      | nil => cases h
      | cons c l =>
        cases l with
        | nil => cases h
        | cons d l =>
          cases l with
          | nil => exact ⟨a, b, c, d, rfl⟩
          | cons _ _ => simp at h
theorem comp4 {fs : List Nat} {tl te : AE} {Γ : G} {M : Mem} {Q : AK} (js : List Jn) (f : Nat → D) (htl : ∀ R : AK, R (.lst (js.map eJ)) M → tl Γ M R) (hn : js.length ≤ 1000)
    (he : ∀ (i : Nat) (hi : i < js.length) (M' : Mem) (R : AK), R (f i) M' → te ([some (.int (js[i]).1), some (.str (js[i]).2.1), some (.str (js[i]).2.2.1), some (.str (js[i]).2.2.2)] ++ frG fs Γ) M' R) (q : Q (.lst ((List.range js.length).map f)) M) :
    aFz (aCompM 4 fs (iaL tl) (gaTup 4 (gaCons (gaN 0) (gaCons (gaN 1) (gaCons (gaN 2) (gaCons (gaN 3) gaNil))))) aYes te) Γ M Q := by
  refine htl _ ?_
  refine ⟨fun i => some (f i), by rw [List.length_map]; exact hn, fun M' _ => ⟨rfl, fun i hi own ho => ?_⟩, fun p hp => ?_⟩
  · obtain ⟨a, b, c, d, rfl⟩ := own4 ho
    dsimp only at hi
    have hi' : i < js.length := by simpa using hi
    dsimp only
    rw [getD_map js eJ i hi']
    refine ⟨rfl, rfl, rfl, ⟨[some _, some _, some _, some _], rfl, rfl⟩, rfl, ?_⟩
    rw [if_pos rfl]
    exact he i hi' M' _ ⟨rfl, rfl⟩
  · dsimp only
    rw [put_same]
    dsimp only
    rw [del_put hp, outs_map, List.length_map]
    exact q
theorem Net.at {ns : List Str} {js : List Jn} {es : List En} (N : Net ns js es) {i : Nat} (h : i < js.length) : ∃ h' : i < es.length, (js[i]).1 = (es[i]).1 ∧ (js[i]).2.2.1 = at_ ns (es[i]).2.1 ∧ (js[i]).2.2.2 = at_ ns (es[i]).2.2 := by
  have h' : i < es.length := by rw [← N.len]; exact h
  refine ⟨h', ?_⟩
  have e := congrArg (fun l => l[i]?) N.same
  simp only [List.getElem?_map, List.getElem?_eq_getElem h, List.getElem?_eq_getElem h', Option.map_some, Option.some.injEq] at e
  unfold jE eN at e
  simp only [Prod.mk.injEq] at e
  exact e
theorem hcmp {t rest : AS} {E : AEnds} {Γ : G} {M : Mem} {x : D} (hx : Γ[4]? = some (some x)) (hs : shD (drf M x) = true) (h1 : t { E with nx := rest E } Γ M) (h2 : rest E Γ M) : aSeq (aIf (aT (aOp (oEq false) (aV 4) (aLst aNil))) t aNext) rest E Γ M := by
  simp only [aSeq, aIf, aT, aOp, aV, hx, aLst, aNil]
  refine ⟨by decide, .inr ⟨hs, (gd_names (ns := []) fun _ h => (List.not_mem_nil h).elim).sh⟩, ?_⟩
  dsimp only
  exact ite2 (fun _ => h1) fun _ => h2
theorem ok_law {f C : Addr} {fd : FuncData} (Fn : Fun K "law" "law" s_law f fd) (T : Txt K mg) (h_law_cell_at : Has P w K mg base (CXE P w) 1 "_law_cell_at" ["_law_script", "_law_k"] (liftS K spCell))
    (h_law_rows : Has P w K mg base (CXE P w) 2 "_law_rows" ["_law_script"] (liftS K spRows)) (h_law_train : Has P w K mg base (CXE P w) 3 "_law_train" ["_law_wheels", "_law_joins"] (liftS K (spTrain C)))
    (h_law_refused : Has P w K mg base (CXE P w) 5 "_law_refused" ["_law_train_here", "_law_one", "_law_other"] (liftS K (spRefused C))) (h_law_all_asked : Has P w K mg base (CXE P w) 6 "_law_all_asked" ["_law_train_here", "_law_ends", "_law_names", "_law_script"] (liftS K (spAll C)))
    (h_wheels : HasM P w K mg base (CXE P w) 1 C "wheels" ["self"] (liftS K (spWheels C))) (h_joins : HasM P w K mg base (CXE P w) 1 C "joins" ["self"] (liftS K (spJoins C))) : FnOk P w K mg base (CXE P w) 7 f fd ["_law_script"] (liftS K spTrue) := by
  refine Fn.okA sc_law (fun ds M Q E h => ?_) ?_
  · obtain ⟨a, rfl, _⟩ := h; rfl
  intro cdv A outer s H E F0 ds M Q Ea hr ct hsp
  obtain ⟨sc, rfl, hsc, q⟩ := hsp
  have hu64 := un64 ct
  refine ⟨_, (ssCons (sAsg (paFun h_law_rows (hr.mono (by decide)) (by rfl) ct (aaCons (paV (pv 0)) aaNil)) (tgLst rfl (tgsCons (tgName (i := 1) sc_law.nd rfl (Or.inl rfl)) (tgsCons (tgName (i := 2) sc_law.nd rfl (Or.inl rfl)) tgsNil))))
      (ssCons (sSet (i := 3) sc_law.nd rfl (Or.inl rfl) (paFun h_law_train (hr.mono (by decide)) (by rfl) ct (aaCons (paV (pv 1)) (aaCons (paV (pv 2)) aaNil))))
      (ssCons (sSet (i := 4) sc_law.nd rfl (Or.inr rfl) (paFz (paCompM (Nc := ["_law_row"]) (n := 1) (fs := []) comp0 rfl (iList' (paV (pv 1))) (fun _ _ _ _ _ => (tgName (i := 0) (show List.Nodup (["_law_row"] : List Str) by decide +kernel) rfl (Or.inl rfl))) (fun _ _ _ _ _ => fiNil) (fun _ _ _ _ _ => (paIx ix_seq lIx (paV (pv 0)) paI (fun _ _ => rfl))))))
      (ssCons (sSet (i := 5) sc_law.nd rfl (Or.inl rfl) paDNew)
      (ssCons (sFor ct (iRange1 rfl T.range (aaCons (paCallB call_lens lLen (by rfl) T.len PySem.boot_len (aaCons (paV (pv 2)) aaNil)) aaNil)) (tgName (i := 6) sc_law.nd rfl (Or.inl rfl))
        (ssOne (sPutD (un1 ct) (paV (pv 5)) (paV (pv 6)) (paTup (aaCons (paIx ix_seq lIx (paIx ix_seq lIx (paV (pv 2)) (paV (pv 6)) (fun _ _ => rfl)) paI (fun _ _ => rfl)) (aaCons (paIx ix_seq lIx (paIx ix_seq lIx (paV (pv 2)) (paV (pv 6)) (fun _ _ => rfl)) paI (fun _ _ => rfl)) aaNil))) rfl)))
      (ssCons (sSet (i := 7) sc_law.nd rfl (Or.inl rfl) (paIx ix_seq lIx (paLst (aaCons paS (aaCons paS (aaCons paS (aaCons paS aaNil))))) (paOp op_mod lMod (paFun h_law_cell_at (hr.mono (by decide)) (by rfl) ct (aaCons (paV (pv 0)) (aaCons paI aaNil))) paI) (fun _ _ => rfl)))
      (ssCons (sIf (ptNot (ptV (paFun h_law_refused (hr.mono (by decide)) (by rfl) ct (aaCons (paV (pv 3)) (aaCons (paV (pv 7)) (aaCons (paV (pv 7)) aaNil))))))
        (ssOne (sRet paB))
        ssNil)
      (ssCons (sIf (ptCmp (op_eqs (un64 ct)) lEq (paV (pv 4)) (paLst aaNil) (nomark _))
        (ssOne (sRet paB))
        ssNil)
      (ssCons (sIf (ptNot (ptV (paFun h_law_all_asked (hr.mono (by decide)) (by rfl) ct (aaCons (paV (pv 3)) (aaCons (paV (pv 5)) (aaCons (paV (pv 4)) (aaCons (paV (pv 0)) aaNil)))))))
        (ssOne (sRet paB))
        ssNil)
      (ssCons (sIf ((pwOr (ptNot (ptV (paFun h_law_refused (hr.mono (by decide)) (by rfl) ct (aaCons (paV (pv 3)) (aaCons (paIx ix_seq lIx (paV (pv 4)) paI (fun _ _ => rfl)) (aaCons (paV (pv 7)) aaNil)))))) (pwOr1 (ptNot (ptV (paFun h_law_refused (hr.mono (by decide)) (by rfl) ct (aaCons (paV (pv 3)) (aaCons (paV (pv 7)) (aaCons (paIx ix_seq lIx (paV (pv 4)) (paUn un_neg lNeg paI) (fun _ _ => rfl)) aaNil))))))))).pt
        (ssOne (sRet paB))
        ssNil)
      (ssCons (sCompZ (i := 8) sc_law.nd rfl rfl (Nc := ["_law_number", "_law_kind", "_law_one", "_law_other", "_law_names"]) (n := 4) (fs := [4]) comp1 rfl (iList' (paFz (paMeth0 h_joins (hr.mono (by decide)) ct (paV (pv 3))))) (fun _ _ _ _ _ => (tgTup (n := 4) rfl (tgsCons (tgName (i := 0) (show List.Nodup (["_law_number", "_law_kind", "_law_one", "_law_other", "_law_names"] : List Str) by decide +kernel) rfl (Or.inl rfl)) (tgsCons (tgName (i := 1) (show List.Nodup (["_law_number", "_law_kind", "_law_one", "_law_other", "_law_names"] : List Str) by decide +kernel) rfl (Or.inl rfl)) (tgsCons (tgName (i := 2) (show List.Nodup (["_law_number", "_law_kind", "_law_one", "_law_other", "_law_names"] : List Str) by decide +kernel) rfl (Or.inl rfl)) (tgsCons (tgName (i := 3) (show List.Nodup (["_law_number", "_law_kind", "_law_one", "_law_other", "_law_names"] : List Str) by decide +kernel) rfl (Or.inl rfl)) tgsNil)))))) (fun _ _ _ _ _ => fiNil) (fun _ _ _ _ _ => (paTup (aaCons (paV (pv 0)) (aaCons (paTup (aaCons (paBM PySem.F.plainAttrs_list PySem.F.slot_list_index PySem.F.type_list_index mt_index lIndex (paV (pv 4)) (aaCons (paV (pv 2)) aaNil)) (aaCons (paBM PySem.F.plainAttrs_list PySem.F.slot_list_index PySem.F.type_list_index mt_index lIndex (paV (pv 4)) (aaCons (paV (pv 3)) aaNil)) aaNil))) aaNil)))) (by rfl))
      (ssOne (sRet (paAnd (paCmp (op_eqs (un64 ct)) lEq (paFz (paMeth0 h_wheels (hr.mono (by decide)) ct (paV (pv 3)))) (paV (pv 1)) (nomark _)) (paOne (paCmp (op_eqs (un64 ct)) lEq (paV (pv 8)) (paFz (paItems T.list rfl (by rfl) (paV (pv 5)))) (nomark _))))))))))))))))), ?_⟩
  refine cut2 (fun Γ' M1 => ∃ s ws js p d1 d2, Rw s ws js ∧ ws.length ≤ 80 ∧ js.length ≤ 80 ∧ Γ' = [some (.scr (sc.map D.int)), some (.lst (ws.map eW)), some (.lst (js.map eK)), some (.obj p), none, none, none, none, none] ∧ Tr C M1 p d1 d2 (tsOf ws js)) ?_ ?_
  · rintro Γ' M1 ⟨s', ws, js, p, d1, d2, rw', hw, hj, rfl, tr⟩
    refine seqV (.lst ((ws.map Prod.fst).map D.str)) M1 (fun R h => compL (ws.map eW) row0 (fun R h => h) (by rw [List.length_map]; omega) (fun x hx M' R h => by
      obtain ⟨w', _, rfl⟩ := List.mem_map.mp hx
      exact ⟨trivial, h⟩) (by rw [show (ws.map eW).map row0 = (ws.map Prod.fst).map D.str from names_of (tsOf ws js)]; exact h)) ?_
    simp only [List.set_cons_zero, List.set_cons_succ]
    refine cut2 (fun Γ' M2 => ∃ q o6, M1 q = none ∧ Γ' = [some (.scr (sc.map D.int)), some (.lst (ws.map eW)), some (.lst (js.map eK)), some (.obj p), some (.lst ((ws.map Prod.fst).map D.str)), some (.obj q), o6, none, none] ∧ M2 = put M1 q (.dic ((esOf js).map eEn))) ?_ ?_
    · rintro Γ' M2 ⟨q', o6, hq, rfl, rfl⟩
      obtain ⟨nn, hnn, hnm⟩ := at_map D.str noNames (cell sc 0 % 4) (Int.emod_nonneg _ (by decide)) (Int.emod_lt_of_pos _ (by decide))
      have hno := rw'.no hnm
      have tr2 : Tr C (put M1 q' (.dic ((esOf js).map eEn))) p d1 d2 (tsOf ws js) := tr.sub (.put hq)
      have hw1 : (tsOf ws js).ws.length ≤ 1000 := Nat.le_trans hw (by decide)
      have hl : (ws.map Prod.fst).length = ws.length := List.length_map ..
      have hjl : (tsOf ws js).js.length = js.length := by show (jsOf' _ js).length = _; unfold jsOf'; rw [List.length_mapIdx]
      refine seqV (.str nn) (put M1 q' (.dic ((esOf js).map eEn))) (fun R h => by
        simp only [aYes, Bool.and_self, at0, at1, at2, at3, aSeq, aNext, aIf, aFor, iaR1, iaR2, iaR3, iaS, iaL, gaN, aSl, aPart, aNoPart, aT, aOp, aV, aC, aRet, aRetN, aTup, aLst, aLstM, aCons, aNil, aAnd, aOr, aNot, aAndV, aOrV, aNotV, aSet, aAsg, aDrop, aCall, aFun, aUn, oAdd, addF, addC, oI, oIc, eqq_int, eqq_str, eqq_bl, neq_int, neq_str, neq_bl, oIsN, isNon, oNeg, oLen, lenF, lenC, oIx, ixF, ixC, oIn, inB, oSl, slF, slC, Option.bind_some, Option.map_some, true_and, L2.dq, L2.dr, L2.dl, L2.dd, both_some, opt_some, insAt_some, keyD, aFldC, aDPut, oDIn, aDGet, aDPop, aDGet1, aSetF, aDNew, aRaise, aMeth, oCat, oCatM, startA, List.map_cons, List.map_nil, List.length_cons, List.length_nil, List.replicate, List.cons_append, List.nil_append, List.getElem?_cons_zero, List.getElem?_cons_succ, List.set_cons_zero, List.set_cons_succ, Nat.reduceAdd, Nat.reduceSub, if_true, Bool.false_eq_true, if_false, spCell]
        refine ⟨by decide, sc, 0, rfl, by decide, by decide, ?_⟩
        rw [show [D.str "", D.str "zzzzzzzz", D.str "A", D.str "a b"] = noNames.map D.str from rfl, hnn]
        exact h) ?_
      simp only [List.set_cons_zero, List.set_cons_succ]
      refine seqIfF (fun R h => by
        simp only [aYes, Bool.and_self, at0, at1, at2, at3, aSeq, aNext, aIf, aFor, iaR1, iaR2, iaR3, iaS, iaL, gaN, aSl, aPart, aNoPart, aT, aOp, aV, aC, aRet, aRetN, aTup, aLst, aLstM, aCons, aNil, aAnd, aOr, aNot, aAndV, aOrV, aNotV, aSet, aAsg, aDrop, aCall, aFun, aUn, oAdd, addF, addC, oI, oIc, eqq_int, eqq_str, eqq_bl, neq_int, neq_str, neq_bl, oIsN, isNon, oNeg, oLen, lenF, lenC, oIx, ixF, ixC, oIn, inB, oSl, slF, slC, Option.bind_some, Option.map_some, true_and, L2.dq, L2.dr, L2.dl, L2.dd, both_some, opt_some, insAt_some, keyD, aFldC, aDPut, oDIn, aDGet, aDPop, aDGet1, aSetF, aDNew, aRaise, aMeth, oCat, oCatM, startA, List.map_cons, List.map_nil, List.length_cons, List.length_nil, List.replicate, List.cons_append, List.nil_append, List.getElem?_cons_zero, List.getElem?_cons_succ, List.set_cons_zero, List.set_cons_succ, Nat.reduceAdd, Nat.reduceSub, if_true, Bool.false_eq_true, if_false, spRefused]
        exact ⟨p, d1, d2, _, nn, nn, rfl, tr2, hw1, by rw [hjl]; omega, fun z => hno z.1, h⟩) ?_
      have gn := (gd_names rw'.ok).sh
      by_cases h0 : ws.length = 0
      · have : ws = [] := List.eq_nil_of_length_eq_zero h0
        subst this
        refine seqIfT (fun R h => ?_) ?_
        · exact ⟨by decide, eq_self' (d := .lst []) gn h⟩
        · exact .now (q _)
      · have h0 : 0 < ws.length := by omega
        refine hcmp rfl gn (.now (q _)) ?_
        have hq2 : put M1 q' (.dic ((esOf js).map eEn)) q' = some (.dic ((esOf js).map eEn)) := put_same
        have n1 : d1 ≠ q' := (ne_of tr.teeth hq).symm
        have n2 : d2 ≠ q' := (ne_of tr.join hq).symm
        refine cut1 (fun Γ' M' => Γ' = [some (.scr (sc.map D.int)), some (.lst (ws.map eW)), some (.lst (js.map eK)), some (.obj p), some (.lst ((ws.map Prod.fst).map D.str)), some (.obj q'), o6, some (.str nn), none] ∧ ∃ S' es', Tr C M' p d1 d2 S' ∧ S'.ws = ws ∧ M' q' = some (.dic (es'.map eEn)) ∧ Net (ws.map Prod.fst) S'.js es' ∧ S'.js.length ≤ 100) ?_ ?_
        · rintro Γ' M3 ⟨rfl, S', es', tr3, hws, hq3, N, hj3⟩
          have e0 : atI ((ws.map Prod.fst).map D.str) 0 = some (.str (at_ (ws.map Prod.fst) 0)) := str_at' (i := 0) (by omega)
          obtain ⟨ly, el⟩ := last_at (ns := ws.map Prod.fst) (by omega)
          have hno' : nn ∉ S'.ws.map Prod.fst := by rw [hws]; exact hno
          have hw3 : S'.ws.length ≤ 1000 := by rw [hws]; omega
          refine seqIfF (fun R h => by
            simp only [aYes, Bool.and_self, at0, at1, at2, at3, aSeq, aNext, aIf, aFor, iaR1, iaR2, iaR3, iaS, iaL, gaN, aSl, aPart, aNoPart, aT, aOp, aV, aC, aRet, aRetN, aTup, aLst, aLstM, aCons, aNil, aAnd, aOr, aNot, aAndV, aOrV, aNotV, aSet, aAsg, aDrop, aCall, aFun, aUn, oAdd, addF, addC, oI, oIc, eqq_int, eqq_str, eqq_bl, neq_int, neq_str, neq_bl, oIsN, isNon, oNeg, oLen, lenF, lenC, oIx, ixF, ixC, oIn, inB, oSl, slF, slC, Option.bind_some, Option.map_some, true_and, L2.dq, L2.dr, L2.dl, L2.dd, both_some, opt_some, insAt_some, keyD, aFldC, aDPut, oDIn, aDGet, aDPop, aDGet1, aSetF, aDNew, aRaise, aMeth, oCat, oCatM, startA, List.map_cons, List.map_nil, List.length_cons, List.length_nil, List.replicate, List.cons_append, List.nil_append, List.getElem?_cons_zero, List.getElem?_cons_succ, List.set_cons_zero, List.set_cons_succ, Nat.reduceAdd, Nat.reduceSub, if_true, Bool.false_eq_true, if_false, spRefused, e0, el]
            exact ⟨p, d1, d2, S', _, nn, rfl, tr3, hw3, by omega, fun z => hno' z.2, p, d1, d2, S', nn, _, rfl, tr3, hw3, by omega, fun z => hno' z.1, h⟩) ?_
          refine seqV (.lst (es'.map eI)) M3 (fun R h => ?_) ?_
          · refine comp4 S'.js (fun i => eI (es'.getD i (0, 0, 0))) (fun R h => rd_joins tr3 (fun R h => h) h) (by omega) (fun i hi M' R h => ?_) ?_
            · obtain ⟨hi2, e1, e2, e3⟩ := N.at hi
              have hm : es'[i] ∈ es' := List.getElem_mem hi2
              have eg : es'.getD i (0, 0, 0) = es'[i] := by rw [List.getD_eq_getElem?_getD, List.getElem?_eq_getElem hi2]; rfl
              rw [eg] at h
              generalize es'[i] = e at e1 e2 e3 hm h
              obtain ⟨i1, i2, _⟩ := N.inn e hm
              rw [e1, e2, e3]
              have x1 := idx_at N.nd i1
              have x2 := idx_at N.nd i2
              have hf := flD_strs (ws.map Prod.fst)
              simp only [frG, aYes, Bool.and_self, at0, at1, at2, at3, aSeq, aNext, aIf, aFor, iaR1, iaR2, iaR3, iaS, iaL, gaN, aSl, aPart, aNoPart, aT, aOp, aV, aC, aRet, aRetN, aTup, aLst, aLstM, aCons, aNil, aAnd, aOr, aNot, aAndV, aOrV, aNotV, aSet, aAsg, aDrop, aCall, aFun, aUn, oAdd, addF, addC, oI, oIc, eqq_int, eqq_str, eqq_bl, neq_int, neq_str, neq_bl, oIsN, isNon, oNeg, oLen, lenF, lenC, oIx, ixF, ixC, oIn, inB, oSl, slF, slC, Option.bind_some, Option.map_some, true_and, L2.dq, L2.dr, L2.dl, L2.dd, both_some, opt_some, insAt_some, keyD, aFldC, aDPut, oDIn, aDGet, aDPop, aDGet1, aSetF, aDNew, aRaise, aMeth, oCat, oCatM, startA, List.map_cons, List.map_nil, List.length_cons, List.length_nil, List.replicate, List.cons_append, List.nil_append, List.getElem?_cons_zero, List.getElem?_cons_succ, List.set_cons_zero, List.set_cons_succ, Nat.reduceAdd, Nat.reduceSub, if_true, Bool.false_eq_true, if_false, Option.join, id_eq, aBM, kindD, oIndex, x1, x2, hf]
              exact ⟨rfl, rfl, by decide, by decide, h⟩
            · have el : (List.range S'.js.length).map (fun i => eI (es'.getD i (0, 0, 0))) = es'.map eI := by
                apply List.ext_getElem
                · rw [List.length_map, List.length_range, List.length_map, N.len]
                · intro i h1 h2
                  rw [List.length_map] at h2
                  rw [List.getElem_map, List.getElem_map, List.getElem_range, List.getD_eq_getElem?_getD, List.getElem?_eq_getElem h2]; rfl
              rw [el]; exact h
          · simp only [List.set_cons_zero, List.set_cons_succ, aYes, Bool.and_self, at0, at1, at2, at3, aSeq, aNext, aIf, aFor, iaR1, iaR2, iaR3, iaS, iaL, gaN, aSl, aPart, aNoPart, aT, aOp, aV, aC, aRet, aRetN, aTup, aLst, aLstM, aCons, aNil, aAnd, aOr, aNot, aAndV, aOrV, aNotV, aSet, aAsg, aDrop, aCall, aFun, aUn, oAdd, addF, addC, oI, oIc, eqq_int, eqq_str, eqq_bl, neq_int, neq_str, neq_bl, oIsN, isNon, oNeg, oLen, lenF, lenC, oIx, ixF, ixC, oIn, inB, oSl, slF, slC, Option.bind_some, Option.map_some, true_and, L2.dq, L2.dr, L2.dl, L2.dd, both_some, opt_some, insAt_some, keyD, aFldC, aDPut, oDIn, aDGet, aDPop, aDGet1, aSetF, aDNew, aRaise, aMeth, oCat, oCatM, startA, List.map_cons, List.map_nil, List.length_cons, List.length_nil, List.replicate, List.cons_append, List.nil_append, List.getElem?_cons_zero, List.getElem?_cons_succ, List.set_cons_zero, List.set_cons_succ, Nat.reduceAdd, Nat.reduceSub, if_true, Bool.false_eq_true, if_false]
            refine rd_wheels tr3 (fun R h => h) ?_
            rw [hws]
            try simp only [aYes, Bool.and_self, at0, at1, at2, at3, aSeq, aNext, aIf, aFor, iaR1, iaR2, iaR3, iaS, iaL, gaN, aSl, aPart, aNoPart, aT, aOp, aV, aC, aRet, aRetN, aTup, aLst, aLstM, aCons, aNil, aAnd, aOr, aNot, aAndV, aOrV, aNotV, aSet, aAsg, aDrop, aCall, aFun, aUn, oAdd, addF, addC, oI, oIc, eqq_int, eqq_str, eqq_bl, neq_int, neq_str, neq_bl, oIsN, isNon, oNeg, oLen, lenF, lenC, oIx, ixF, ixC, oIn, inB, oSl, slF, slC, Option.bind_some, Option.map_some, true_and, L2.dq, L2.dr, L2.dl, L2.dd, both_some, opt_some, insAt_some, keyD, aFldC, aDPut, oDIn, aDGet, aDPop, aDGet1, aSetF, aDNew, aRaise, aMeth, oCat, oCatM, startA, List.map_cons, List.map_nil, List.length_cons, List.length_nil, List.replicate, List.cons_append, List.nil_append, List.getElem?_cons_zero, List.getElem?_cons_succ, List.set_cons_zero, List.set_cons_succ, Nat.reduceAdd, Nat.reduceSub, if_true, Bool.false_eq_true, if_false]
            refine eq_self' (d := .lst (ws.map eW)) rw'.gw.sh ?_
            try simp only [aYes, Bool.and_self, at0, at1, at2, at3, aSeq, aNext, aIf, aFor, iaR1, iaR2, iaR3, iaS, iaL, gaN, aSl, aPart, aNoPart, aT, aOp, aV, aC, aRet, aRetN, aTup, aLst, aLstM, aCons, aNil, aAnd, aOr, aNot, aAndV, aOrV, aNotV, aSet, aAsg, aDrop, aCall, aFun, aUn, oAdd, addF, addC, oI, oIc, eqq_int, eqq_str, eqq_bl, neq_int, neq_str, neq_bl, oIsN, isNon, oNeg, oLen, lenF, lenC, oIx, ixF, ixC, oIn, inB, oSl, slF, slC, Option.bind_some, Option.map_some, true_and, L2.dq, L2.dr, L2.dl, L2.dd, both_some, opt_some, insAt_some, keyD, aFldC, aDPut, oDIn, aDGet, aDPop, aDGet1, aSetF, aDNew, aRaise, aMeth, oCat, oCatM, startA, List.map_cons, List.map_nil, List.length_cons, List.length_nil, List.replicate, List.cons_append, List.nil_append, List.getElem?_cons_zero, List.getElem?_cons_succ, List.set_cons_zero, List.set_cons_succ, Nat.reduceAdd, Nat.reduceSub, if_true, Bool.false_eq_true, if_false]
            refine rd_items (fun R h => h) hq3 ?_
            rw [items_en]
            exact eq_self' (d := .lst (es'.map eI)) (gd_items es').sh (.now (q _))
        · intro rest hrest
          simp only [aYes, Bool.and_self, at0, at1, at2, at3, aSeq, aNext, aIf, aFor, iaR1, iaR2, iaR3, iaS, iaL, gaN, aSl, aPart, aNoPart, aT, aOp, aV, aC, aRet, aRetN, aTup, aLst, aLstM, aCons, aNil, aAnd, aOr, aNot, aAndV, aOrV, aNotV, aSet, aAsg, aDrop, aCall, aFun, aUn, oAdd, addF, addC, oI, oIc, eqq_int, eqq_str, eqq_bl, neq_int, neq_str, neq_bl, oIsN, isNon, oNeg, oLen, lenF, lenC, oIx, ixF, ixC, oIn, inB, oSl, slF, slC, Option.bind_some, Option.map_some, true_and, L2.dq, L2.dr, L2.dl, L2.dd, both_some, opt_some, insAt_some, keyD, aFldC, aDPut, oDIn, aDGet, aDPop, aDGet1, aSetF, aDNew, aRaise, aMeth, oCat, oCatM, startA, List.map_cons, List.map_nil, List.length_cons, List.length_nil, List.replicate, List.cons_append, List.nil_append, List.getElem?_cons_zero, List.getElem?_cons_succ, List.set_cons_zero, List.set_cons_succ, Nat.reduceAdd, Nat.reduceSub, if_true, Bool.false_eq_true, if_false, spAll]
          exact ⟨p, d1, d2, q', _, _, _, sc, rfl, tr2, hq2, n1, n2, rfl, rw'.net (by omega), by omega, by omega, by rw [hjl]; omega, rw'.ok, fun M' S' es' t1 t2 t3 t4 t5 => hrest _ _ ⟨rfl, S', es', t1, t2, t3, t4, t5⟩⟩
    · intro rest hrest
      simp only [aYes, Bool.and_self, at0, at1, at2, at3, aSeq, aNext, aIf, aFor, iaR1, iaR2, iaR3, iaS, iaL, gaN, aSl, aPart, aNoPart, aT, aOp, aV, aC, aRet, aRetN, aTup, aLst, aLstM, aCons, aNil, aAnd, aOr, aNot, aAndV, aOrV, aNotV, aSet, aAsg, aDrop, aCall, aFun, aUn, oAdd, addF, addC, oI, oIc, eqq_int, eqq_str, eqq_bl, neq_int, neq_str, neq_bl, oIsN, isNon, oNeg, oLen, lenF, lenC, oIx, ixF, ixC, oIn, inB, oSl, slF, slC, Option.bind_some, Option.map_some, true_and, L2.dq, L2.dr, L2.dl, L2.dd, both_some, opt_some, insAt_some, keyD, aFldC, aDPut, oDIn, aDGet, aDPop, aDGet1, aSetF, aDNew, aRaise, aMeth, oCat, oCatM, startA, List.map_cons, List.map_nil, List.length_cons, List.length_nil, List.replicate, List.cons_append, List.nil_append, List.getElem?_cons_zero, List.getElem?_cons_succ, List.set_cons_zero, List.set_cons_succ, Nat.reduceAdd, Nat.reduceSub, if_true, Bool.false_eq_true, if_false]
      intro q' hq
      refine ⟨by omega, by rw [List.length_map]; omega, ?_⟩
      refine LoopP.by2 (fun i Γ M' => ∃ o6, Γ = [some (.scr (sc.map D.int)), some (.lst (ws.map eW)), some (.lst (js.map eK)), some (.obj p), some (.lst ((ws.map Prod.fst).map D.str)), some (.obj q'), o6, none, none] ∧ M' = put M1 q' (.dic ((esOf (js.take i)).map eEn))) ⟨none, rfl, rfl⟩ (fun _ _ _ _ => trivial) ?_ ?_
      · rintro E' i Γ M' hrt hi hnx ⟨o6, rfl, rfl⟩
        dsimp only at hi
        have hi' : i < js.length := by simpa using hi
        have ek : atI (js.map eK) (i : Int) = some (.tup [.str (js[i]).1, .int (js[i]).2.1, .int (js[i]).2.2]) := by rw [at_nat _ _ (by simpa using hi'), List.getElem_map]; rfl
        have hl : (js.take i).length = i := by rw [List.length_take]; omega
        simp only [aYes, Bool.and_self, at0, at1, at2, at3, aSeq, aNext, aIf, aFor, iaR1, iaR2, iaR3, iaS, iaL, gaN, aSl, aPart, aNoPart, aT, aOp, aV, aC, aRet, aRetN, aTup, aLst, aLstM, aCons, aNil, aAnd, aOr, aNot, aAndV, aOrV, aNotV, aSet, aAsg, aDrop, aCall, aFun, aUn, oAdd, addF, addC, oI, oIc, eqq_int, eqq_str, eqq_bl, neq_int, neq_str, neq_bl, oIsN, isNon, oNeg, oLen, lenF, lenC, oIx, ixF, ixC, oIn, inB, oSl, slF, slC, Option.bind_some, Option.map_some, true_and, L2.dq, L2.dr, L2.dl, L2.dd, both_some, opt_some, insAt_some, keyD, aFldC, aDPut, oDIn, aDGet, aDPop, aDGet1, aSetF, aDNew, aRaise, aMeth, oCat, oCatM, startA, List.map_cons, List.map_nil, List.length_cons, List.length_nil, List.replicate, List.cons_append, List.nil_append, List.getElem?_cons_zero, List.getElem?_cons_succ, List.set_cons_zero, List.set_cons_succ, Nat.reduceAdd, Nat.reduceSub, if_true, Bool.false_eq_true, if_false, ek, put_same, put_put]
        refine ⟨by decide, by rw [List.length_map]; unfold esOf; rw [List.length_mapIdx, hl]; omega, ?_⟩
        have hnew := esOf_new (js := js.take i)
        rw [hl] at hnew
        rw [put_en hnew]
        refine hnx _ _ ⟨_, rfl, ?_⟩
        rw [List.take_succ_eq_append_getElem hi', esOf_snoc, hl]; rfl
      · rintro Γ M' ⟨o6, rfl, rfl⟩
        refine hrest _ _ ⟨q', _, hq, rfl, ?_⟩
        have e : (((js.map eK).length : Nat) : Int).toNat = js.length := by rw [List.length_map]; rfl
        dsimp only
        rw [e, List.take_length]
  · intro rest hrest
    simp only [aYes, Bool.and_self, at0, at1, at2, at3, aSeq, aNext, aIf, aFor, iaR1, iaR2, iaR3, iaS, iaL, gaN, aSl, aPart, aNoPart, aT, aOp, aV, aC, aRet, aRetN, aTup, aLst, aLstM, aCons, aNil, aAnd, aOr, aNot, aAndV, aOrV, aNotV, aSet, aAsg, aDrop, aCall, aFun, aUn, oAdd, addF, addC, oI, oIc, eqq_int, eqq_str, eqq_bl, neq_int, neq_str, neq_bl, oIsN, isNon, oNeg, oLen, lenF, lenC, oIx, ixF, ixC, oIn, inB, oSl, slF, slC, Option.bind_some, Option.map_some, true_and, L2.dq, L2.dr, L2.dl, L2.dd, both_some, opt_some, insAt_some, keyD, aFldC, aDPut, oDIn, aDGet, aDPop, aDGet1, aSetF, aDNew, aRaise, aMeth, oCat, oCatM, startA, List.map_cons, List.map_nil, List.length_cons, List.length_nil, List.replicate, List.cons_append, List.nil_append, List.getElem?_cons_zero, List.getElem?_cons_succ, List.set_cons_zero, List.set_cons_succ, Nat.reduceAdd, Nat.reduceSub, if_true, Bool.false_eq_true, if_false, spRows, spTrain, gaLst, gaCons, gaNil]
    exact ⟨sc, rfl, Nat.le_trans hsc.1 (by decide), fun s' ws js rw' hw hj => ⟨rfl, s', ws, js, rfl, rw', hw, hj, fun p d1 d2 M' sb tr => hrest _ _ ⟨s', ws, js, p, d1, d2, rw', hw, hj, rfl, tr⟩⟩⟩

end
theorem len_1 {α : Type} (us : List α) (h : us.length = 1) : ∃ a, us = [a] := List.length_eq_one_iff.mp h
theorem len_2 {α : Type} (us : List α) (h : us.length = 2) : ∃ a b, us = [a, b] := by
  cases us with
  | nil => cases h
  | cons a us =>
    obtain ⟨b, rfl⟩ := len_1 us (by simpa using h)
    exact ⟨a, b, rfl⟩
theorem len_3 {α : Type} (us : List α) (h : us.length = 3) : ∃ a b c, us = [a, b, c] := by
  cases us with
  | nil => cases h
  | cons a us =>
    obtain ⟨b, c, rfl⟩ := len_2 us (by simpa using h)
    exact ⟨a, b, c, rfl⟩
theorem len_4 {α : Type} (us : List α) (h : us.length = 4) : ∃ a b c d, us = [a, b, c, d] := by
  cases us with
  | nil => cases h
  | cons a us =>
    obtain ⟨b, c, d, rfl⟩ := len_3 us (by simpa using h)
    exact ⟨a, b, c, d, rfl⟩
theorem len_5 {α : Type} (us : List α) (h : us.length = 5) : ∃ a b c d e, us = [a, b, c, d, e] := by
  cases us with
  | nil => cases h
  | cons a us =>
    obtain ⟨b, c, d, e, rfl⟩ := len_4 us (by simpa using h)
    exact ⟨a, b, c, d, e, rfl⟩
theorem all_mk {l : PySem.W.OpenLaw} {w : World} {K : PySem.W.Frag} {h : Heap} {mg : Str → Option Value} {fa : Addr} (X : K.In h) (G : h.Ns mainGlobals mg) (hfa : mg "law" = some (.ref fa)) (hp : l.prog.given.tree = none)
    {f0 f1 f2 f3 f4 f5 f6 f7 f8 f9 f10 f11 f12 f13 f14 f15 f16 f17 f18 f19 f20 f21 f22 f23 f24 C_Train E_NoName E_Twice E_NoTeeth E_Full E_NoWheel E_NoJoin q_KINDS : Addr} {od0 an0 od1 an1 od2 an2 od3 an3 od4 an4 od5 an5 od6 an6 od7 an7 od8 an8 od9 an9 od10 an10 od11 an11 od12 an12 od13 an13 od14 an14 od15 an15 od16 an16 od17 an17 od18 an18 od19 an19 od20 an20 od21 an21 od22 an22 od23 an23 od24 an24 qd_KINDS : Option Addr} {sl0 sl1 sl2 sl3 sl4 sl5 sl6 sl7 sl8 sl9 sl10 sl11 sl12 sl13 sl14 sl15 sl16 sl17 sl18 sl19 sl20 sl21 sl22 sl23 sl24 qs_KINDS : Array (Option Value)} {oc0 kV0 dc0 pm0 cd0 ct0 oc1 kV1 dc1 pm1 cd1 ct1 oc2 kV2 dc2 pm2 cd2 ct2 oc3 kV3 dc3 pm3 cd3 ct3 oc4 kV4 dc4 pm4 cd4 ct4 oc5 kV5 dc5 pm5 cd5 ct5 oc6 kV6 dc6 pm6 cd6 ct6 oc7 kV7 dc7 pm7 cd7 ct7 oc8 kV8 dc8 pm8 cd8 ct8 oc9 kV9 dc9 pm9 cd9 ct9 oc10 kV10 dc10 pm10 cd10 ct10 oc11 kV11 dc11 pm11 cd11 ct11 oc12 kV12 dc12 pm12 cd12 ct12 oc13 kV13 dc13 pm13 cd13 ct13 oc14 kV14 dc14 pm14 cd14 ct14 oc15 kV15 dc15 pm15 cd15 ct15 oc16 kV16 dc16 pm16 cd16 ct16 oc17 kV17 dc17 pm17 cd17 ct17 oc18 kV18 dc18 pm18 cd18 ct18 oc19 kV19 dc19 pm19 cd19 ct19 oc20 kV20 dc20 pm20 cd20 ct20 oc21 kV21 dc21 pm21 cd21 ct21 oc22 kV22 dc22 pm22 cd22 ct22 oc23 kV23 dc23 pm23 cd23 ct23 oc24 kV24 dc24 pm24 cd24 ct24 : Value}
    {t_LONGEST_NAME t_TEETH_BOUND t_MOST_WHEELS t_MOST_JOINS t_LETTERS t_KINDS0 t_KINDS1 t_KINDS2 t_KINDS3 : Tok}
    {qn_KINDS : Nat}
    (aC_Train : PySem.W.nsIn K mainGlobals "Train" = some (some (.ref C_Train)))
    (aE_NoName : PySem.W.nsIn K mainGlobals "NoName" = some (some (.ref E_NoName)))
    (aE_Twice : PySem.W.nsIn K mainGlobals "Twice" = some (some (.ref E_Twice)))
    (aE_NoTeeth : PySem.W.nsIn K mainGlobals "NoTeeth" = some (some (.ref E_NoTeeth)))
    (aE_Full : PySem.W.nsIn K mainGlobals "Full" = some (some (.ref E_Full)))
    (aE_NoWheel : PySem.W.nsIn K mainGlobals "NoWheel" = some (some (.ref E_NoWheel)))
    (aE_NoJoin : PySem.W.nsIn K mainGlobals "NoJoin" = some (some (.ref E_NoJoin)))
    (a0 : PySem.W.nsIn K mainGlobals "refuse_unknown" = some (some (.ref f0)))
    (l0 : K.lookup f0 = some ⟨oc0, od0, .func (PySem.W.fnOf "refuse_unknown" "refuse_unknown" (defArgs s_refuse_unknown) (defBody s_refuse_unknown) (defScope s_refuse_unknown) .none kV0 dc0 pm0 an0 cd0 ct0), sl0⟩)
    (c0 : PySem.W.codeIn K cd0 "refuse_unknown" = true)
    (k0 : PySem.W.keepIn K (.ref f0) = true)
    (a1 : PySem.W.nsIn K mainGlobals "joins_from" = some (some (.ref f1)))
    (l1 : K.lookup f1 = some ⟨oc1, od1, .func (PySem.W.fnOf "joins_from" "joins_from" (defArgs s_joins_from) (defBody s_joins_from) (defScope s_joins_from) .none kV1 dc1 pm1 an1 cd1 ct1), sl1⟩)
    (c1 : PySem.W.codeIn K cd1 "joins_from" = true)
    (k1 : PySem.W.keepIn K (.ref f1) = true)
    (a2 : PySem.W.nsIn K mainGlobals "tree_from" = some (some (.ref f2)))
    (l2 : K.lookup f2 = some ⟨oc2, od2, .func (PySem.W.fnOf "tree_from" "tree_from" (defArgs s_tree_from) (defBody s_tree_from) (defScope s_tree_from) .none kV2 dc2 pm2 an2 cd2 ct2), sl2⟩)
    (c2 : PySem.W.codeIn K cd2 "tree_from" = true)
    (k2 : PySem.W.keepIn K (.ref f2) = true)
    (a3 : PySem.W.nsIn K mainGlobals "road_by" = some (some (.ref f3)))
    (l3 : K.lookup f3 = some ⟨oc3, od3, .func (PySem.W.fnOf "road_by" "road_by" (defArgs s_road_by) (defBody s_road_by) (defScope s_road_by) .none kV3 dc3 pm3 an3 cd3 ct3), sl3⟩)
    (c3 : PySem.W.codeIn K cd3 "road_by" = true)
    (k3 : PySem.W.keepIn K (.ref f3) = true)
    (a4 : PySem.W.nsIn K mainGlobals "road" = some (some (.ref f4)))
    (l4 : K.lookup f4 = some ⟨oc4, od4, .func (PySem.W.fnOf "road" "road" (defArgs s_road) (defBody s_road) (defScope s_road) .none kV4 dc4 pm4 an4 cd4 ct4), sl4⟩)
    (c4 : PySem.W.codeIn K cd4 "road" = true)
    (k4 : PySem.W.keepIn K (.ref f4) = true)
    (a5 : PySem.W.nsIn K mainGlobals "is_name" = some (some (.ref f5)))
    (l5 : K.lookup f5 = some ⟨oc5, od5, .func (PySem.W.fnOf "is_name" "is_name" (defArgs s_is_name) (defBody s_is_name) (defScope s_is_name) .none kV5 dc5 pm5 an5 cd5 ct5), sl5⟩)
    (c5 : PySem.W.codeIn K cd5 "is_name" = true)
    (k5 : PySem.W.keepIn K (.ref f5) = true)
    (a6 : PySem.W.findIn K (.ref C_Train) "__init__" = some (some (.ref f6)))
    (i6 : PySem.W.isFn K (.ref f6) = true)
    (l6 : K.lookup f6 = some ⟨oc6, od6, .func (PySem.W.fnOf "__init__" "Train.__init__" (defArgs s_Train___init__) (defBody s_Train___init__) (defScope s_Train___init__) .none kV6 dc6 pm6 an6 cd6 ct6), sl6⟩)
    (c6 : PySem.W.codeIn K cd6 "Train.__init__" = true)
    (k6 : PySem.W.keepIn K (.ref f6) = true)
    (a7 : PySem.W.findIn K (.ref C_Train) "put_wheel" = some (some (.ref f7)))
    (i7 : PySem.W.isFn K (.ref f7) = true)
    (l7 : K.lookup f7 = some ⟨oc7, od7, .func (PySem.W.fnOf "put_wheel" "Train.put_wheel" (defArgs s_Train_put_wheel) (defBody s_Train_put_wheel) (defScope s_Train_put_wheel) .none kV7 dc7 pm7 an7 cd7 ct7), sl7⟩)
    (c7 : PySem.W.codeIn K cd7 "Train.put_wheel" = true)
    (k7 : PySem.W.keepIn K (.ref f7) = true)
    (a8 : PySem.W.findIn K (.ref C_Train) "put_join" = some (some (.ref f8)))
    (i8 : PySem.W.isFn K (.ref f8) = true)
    (l8 : K.lookup f8 = some ⟨oc8, od8, .func (PySem.W.fnOf "put_join" "Train.put_join" (defArgs s_Train_put_join) (defBody s_Train_put_join) (defScope s_Train_put_join) .none kV8 dc8 pm8 an8 cd8 ct8), sl8⟩)
    (c8 : PySem.W.codeIn K cd8 "Train.put_join" = true)
    (k8 : PySem.W.keepIn K (.ref f8) = true)
    (a9 : PySem.W.findIn K (.ref C_Train) "take_join" = some (some (.ref f9)))
    (i9 : PySem.W.isFn K (.ref f9) = true)
    (l9 : K.lookup f9 = some ⟨oc9, od9, .func (PySem.W.fnOf "take_join" "Train.take_join" (defArgs s_Train_take_join) (defBody s_Train_take_join) (defScope s_Train_take_join) .none kV9 dc9 pm9 an9 cd9 ct9), sl9⟩)
    (c9 : PySem.W.codeIn K cd9 "Train.take_join" = true)
    (k9 : PySem.W.keepIn K (.ref f9) = true)
    (a10 : PySem.W.findIn K (.ref C_Train) "wheels" = some (some (.ref f10)))
    (i10 : PySem.W.isFn K (.ref f10) = true)
    (l10 : K.lookup f10 = some ⟨oc10, od10, .func (PySem.W.fnOf "wheels" "Train.wheels" (defArgs s_Train_wheels) (defBody s_Train_wheels) (defScope s_Train_wheels) .none kV10 dc10 pm10 an10 cd10 ct10), sl10⟩)
    (c10 : PySem.W.codeIn K cd10 "Train.wheels" = true)
    (k10 : PySem.W.keepIn K (.ref f10) = true)
    (a11 : PySem.W.findIn K (.ref C_Train) "joins" = some (some (.ref f11)))
    (i11 : PySem.W.isFn K (.ref f11) = true)
    (l11 : K.lookup f11 = some ⟨oc11, od11, .func (PySem.W.fnOf "joins" "Train.joins" (defArgs s_Train_joins) (defBody s_Train_joins) (defScope s_Train_joins) .none kV11 dc11 pm11 an11 cd11 ct11), sl11⟩)
    (c11 : PySem.W.codeIn K cd11 "Train.joins" = true)
    (k11 : PySem.W.keepIn K (.ref f11) = true)
    (a12 : PySem.W.nsIn K mainGlobals "_law_cell_at" = some (some (.ref f12)))
    (l12 : K.lookup f12 = some ⟨oc12, od12, .func (PySem.W.fnOf "_law_cell_at" "_law_cell_at" (defArgs s_law_cell_at) (defBody s_law_cell_at) (defScope s_law_cell_at) .none kV12 dc12 pm12 an12 cd12 ct12), sl12⟩)
    (c12 : PySem.W.codeIn K cd12 "_law_cell_at" = true)
    (k12 : PySem.W.keepIn K (.ref f12) = true)
    (a13 : PySem.W.nsIn K mainGlobals "_law_whole" = some (some (.ref f13)))
    (l13 : K.lookup f13 = some ⟨oc13, od13, .func (PySem.W.fnOf "_law_whole" "_law_whole" (defArgs s_law_whole) (defBody s_law_whole) (defScope s_law_whole) .none kV13 dc13 pm13 an13 cd13 ct13), sl13⟩)
    (c13 : PySem.W.codeIn K cd13 "_law_whole" = true)
    (k13 : PySem.W.keepIn K (.ref f13) = true)
    (a14 : PySem.W.nsIn K mainGlobals "_law_name" = some (some (.ref f14)))
    (l14 : K.lookup f14 = some ⟨oc14, od14, .func (PySem.W.fnOf "_law_name" "_law_name" (defArgs s_law_name) (defBody s_law_name) (defScope s_law_name) .none kV14 dc14 pm14 an14 cd14 ct14), sl14⟩)
    (c14 : PySem.W.codeIn K cd14 "_law_name" = true)
    (k14 : PySem.W.keepIn K (.ref f14) = true)
    (a15 : PySem.W.nsIn K mainGlobals "_law_teeth" = some (some (.ref f15)))
    (l15 : K.lookup f15 = some ⟨oc15, od15, .func (PySem.W.fnOf "_law_teeth" "_law_teeth" (defArgs s_law_teeth) (defBody s_law_teeth) (defScope s_law_teeth) .none kV15 dc15 pm15 an15 cd15 ct15), sl15⟩)
    (c15 : PySem.W.codeIn K cd15 "_law_teeth" = true)
    (k15 : PySem.W.keepIn K (.ref f15) = true)
    (a16 : PySem.W.nsIn K mainGlobals "_law_rows" = some (some (.ref f16)))
    (l16 : K.lookup f16 = some ⟨oc16, od16, .func (PySem.W.fnOf "_law_rows" "_law_rows" (defArgs s_law_rows) (defBody s_law_rows) (defScope s_law_rows) .none kV16 dc16 pm16 an16 cd16 ct16), sl16⟩)
    (c16 : PySem.W.codeIn K cd16 "_law_rows" = true)
    (k16 : PySem.W.keepIn K (.ref f16) = true)
    (a17 : PySem.W.nsIn K mainGlobals "_law_train" = some (some (.ref f17)))
    (l17 : K.lookup f17 = some ⟨oc17, od17, .func (PySem.W.fnOf "_law_train" "_law_train" (defArgs s_law_train) (defBody s_law_train) (defScope s_law_train) .none kV17 dc17 pm17 an17 cd17 ct17), sl17⟩)
    (c17 : PySem.W.codeIn K cd17 "_law_train" = true)
    (k17 : PySem.W.keepIn K (.ref f17) = true)
    (a18 : PySem.W.nsIn K mainGlobals "_law_hung" = some (some (.ref f18)))
    (l18 : K.lookup f18 = some ⟨oc18, od18, .func (PySem.W.fnOf "_law_hung" "_law_hung" (defArgs s_law_hung) (defBody s_law_hung) (defScope s_law_hung) .none kV18 dc18 pm18 an18 cd18 ct18), sl18⟩)
    (c18 : PySem.W.codeIn K cd18 "_law_hung" = true)
    (k18 : PySem.W.keepIn K (.ref f18) = true)
    (a19 : PySem.W.nsIn K mainGlobals "_law_walked" = some (some (.ref f19)))
    (l19 : K.lookup f19 = some ⟨oc19, od19, .func (PySem.W.fnOf "_law_walked" "_law_walked" (defArgs s_law_walked) (defBody s_law_walked) (defScope s_law_walked) .none kV19 dc19 pm19 an19 cd19 ct19), sl19⟩)
    (c19 : PySem.W.codeIn K cd19 "_law_walked" = true)
    (k19 : PySem.W.keepIn K (.ref f19) = true)
    (a20 : PySem.W.nsIn K mainGlobals "_law_asked" = some (some (.ref f20)))
    (l20 : K.lookup f20 = some ⟨oc20, od20, .func (PySem.W.fnOf "_law_asked" "_law_asked" (defArgs s_law_asked) (defBody s_law_asked) (defScope s_law_asked) .none kV20 dc20 pm20 an20 cd20 ct20), sl20⟩)
    (c20 : PySem.W.codeIn K cd20 "_law_asked" = true)
    (k20 : PySem.W.keepIn K (.ref f20) = true)
    (a21 : PySem.W.nsIn K mainGlobals "_law_refused" = some (some (.ref f21)))
    (l21 : K.lookup f21 = some ⟨oc21, od21, .func (PySem.W.fnOf "_law_refused" "_law_refused" (defArgs s_law_refused) (defBody s_law_refused) (defScope s_law_refused) .none kV21 dc21 pm21 an21 cd21 ct21), sl21⟩)
    (c21 : PySem.W.codeIn K cd21 "_law_refused" = true)
    (k21 : PySem.W.keepIn K (.ref f21) = true)
    (a22 : PySem.W.nsIn K mainGlobals "_law_pairs" = some (some (.ref f22)))
    (l22 : K.lookup f22 = some ⟨oc22, od22, .func (PySem.W.fnOf "_law_pairs" "_law_pairs" (defArgs s_law_pairs) (defBody s_law_pairs) (defScope s_law_pairs) .none kV22 dc22 pm22 an22 cd22 ct22), sl22⟩)
    (c22 : PySem.W.codeIn K cd22 "_law_pairs" = true)
    (k22 : PySem.W.keepIn K (.ref f22) = true)
    (a23 : PySem.W.nsIn K mainGlobals "_law_all_asked" = some (some (.ref f23)))
    (l23 : K.lookup f23 = some ⟨oc23, od23, .func (PySem.W.fnOf "_law_all_asked" "_law_all_asked" (defArgs s_law_all_asked) (defBody s_law_all_asked) (defScope s_law_all_asked) .none kV23 dc23 pm23 an23 cd23 ct23), sl23⟩)
    (c23 : PySem.W.codeIn K cd23 "_law_all_asked" = true)
    (k23 : PySem.W.keepIn K (.ref f23) = true)
    (a24 : PySem.W.nsIn K mainGlobals "law" = some (some (.ref f24)))
    (l24 : K.lookup f24 = some ⟨oc24, od24, .func (PySem.W.fnOf "law" "law" (defArgs s_law) (defBody s_law) (defScope s_law) .none kV24 dc24 pm24 an24 cd24 ct24), sl24⟩)
    (c24 : PySem.W.codeIn K cd24 "law" = true)
    (k24 : PySem.W.keepIn K (.ref f24) = true)
    (pg_Train : PySem.W.plainGet K C_Train Str.empty = true)
    (hd_Train : PySem.W.hasDictIn K C_Train = true)
    (po_Train : PySem.W.plainOver K C_Train = true)
    (sa_Train : PySem.W.findIn K (.ref C_Train) "__setattr__" = some (some (.builtin "object.__setattr__")))
    (mk_Train : PySem.W.makesIn K C_Train = true)
    (kc_Train : PySem.W.keepIn K (.ref C_Train) = true)
    (n_Train_teeth_of : PySem.W.findIn K (.ref C_Train) "teeth_of" = some none)
    (n_Train_join_of : PySem.W.findIn K (.ref C_Train) "join_of" = some none)
    (n_Train_next_number : PySem.W.findIn K (.ref C_Train) "next_number" = some none)
    (z0 : PySem.W.nsIn K mainGlobals "len" = some none)
    (z1 : PySem.W.nsIn K mainGlobals "all" = some none)
    (z2 : PySem.W.nsIn K mainGlobals "list" = some none)
    (z3 : PySem.W.nsIn K mainGlobals "range" = some none)
    (z4 : PySem.W.nsIn K mainGlobals "isinstance" = some none)
    (z5 : PySem.W.nsIn K mainGlobals "int" = some none)
    (z6 : PySem.W.nsIn K mainGlobals "bool" = some none)
    (z7 : PySem.W.nsIn K mainGlobals "str" = some none)
    (z8 : PySem.W.nsIn K mainGlobals "max" = some none)
    (z9 : PySem.W.nsIn K mainGlobals "tuple" = some none)
    (g_LONGEST_NAME : PySem.W.nsIn K mainGlobals "LONGEST_NAME" = some (some (.int 8 t_LONGEST_NAME)))
    (g_TEETH_BOUND : PySem.W.nsIn K mainGlobals "TEETH_BOUND" = some (some (.int 1000000000 t_TEETH_BOUND)))
    (g_MOST_WHEELS : PySem.W.nsIn K mainGlobals "MOST_WHEELS" = some (some (.int 100 t_MOST_WHEELS)))
    (g_MOST_JOINS : PySem.W.nsIn K mainGlobals "MOST_JOINS" = some (some (.int 200 t_MOST_JOINS)))
    (g_LETTERS : PySem.W.nsIn K mainGlobals "LETTERS" = some (some (.str "abcdefghijklmnopqrstuvwxyz" t_LETTERS)))
    (g_KINDS : PySem.W.nsIn K mainGlobals "KINDS" = some (some (.ref q_KINDS)))
    (gl_KINDS : K.lookup q_KINDS = some ⟨.type "tuple", qd_KINDS, .seq #[.str "mesh" t_KINDS0, .str "pin" t_KINDS1, .str "band" t_KINDS2, .str "cross" t_KINDS3] qn_KINDS, qs_KINDS⟩)
    (ex_NoName : PySem.W.excIn K E_NoName bmV "ValueError.__new__" = true)
    (ex_Twice : PySem.W.excIn K E_Twice bmV "ValueError.__new__" = true)
    (ex_NoTeeth : PySem.W.excIn K E_NoTeeth bmV "ValueError.__new__" = true)
    (ex_Full : PySem.W.excIn K E_Full bmV "ValueError.__new__" = true)
    (ex_NoWheel : PySem.W.excIn K E_NoWheel bmV "ValueError.__new__" = true)
    (ex_NoJoin : PySem.W.excIn K E_NoJoin bmV "ValueError.__new__" = true)
    (xm_NoWheel_NoWheel : PySem.W.exmOne K (.ref E_NoWheel) (.ref E_NoWheel) = some true)
    : ∃ fd : FuncData, (∀ (s : Shared) (v : Value), BindsTo s fd ⟨[v], []⟩ [("_law_script", v)]) ∧ ∀ base : Heap, K.In base → base.Ns mainGlobals mg → base.NoSeer → FnOk l.prog w K mg base CX0 7 fa fd ["_law_script"] (spScript K) := by
  have e := hfa.symm.trans (PySem.W.mg_of X G a24)
  cases e
  have T : Txt K mg := ⟨PySem.W.mg_none_of X G z0, PySem.W.mg_none_of X G z1, PySem.W.mg_none_of X G z2, PySem.W.mg_none_of X G z3, PySem.W.mg_none_of X G z4, PySem.W.mg_none_of X G z5, PySem.W.mg_none_of X G z6, PySem.W.mg_none_of X G z7, PySem.W.mg_none_of X G z8, PySem.W.mg_none_of X G z9, ⟨_, PySem.W.mg_of X G g_LONGEST_NAME⟩, ⟨_, PySem.W.mg_of X G g_TEETH_BOUND⟩, ⟨_, PySem.W.mg_of X G g_MOST_WHEELS⟩, ⟨_, PySem.W.mg_of X G g_MOST_JOINS⟩, ⟨_, PySem.W.mg_of X G g_LETTERS⟩, ⟨_, PySem.W.mg_of X G g_KINDS, fun _ => .inr ⟨_, _, _, gl_KINDS, rfl, rfl, Nat.le_of_ble_eq_true rfl, (.cons ⟨_, rfl⟩ (.cons ⟨_, rfl⟩ (.cons ⟨_, rfl⟩ (.cons ⟨_, rfl⟩ .nil))))⟩⟩⟩
  have F_refuse_unknown := fun_mk (st := s_refuse_unknown) l0 c0 k0
  have b_refuse_unknown := F_refuse_unknown.binds (ps := ["names", "name"]) fun _ _ _ _ _ _ us hl => by obtain ⟨_, _, rfl⟩ := len_2 us hl; rfl
  have m_refuse_unknown := PySem.W.mg_of X G a0
  have k_refuse_unknown := k0
  have F_joins_from := fun_mk (st := s_joins_from) l1 c1 k1
  have b_joins_from := F_joins_from.binds (ps := ["joins", "here"]) fun _ _ _ _ _ _ us hl => by obtain ⟨_, _, rfl⟩ := len_2 us hl; rfl
  have m_joins_from := PySem.W.mg_of X G a1
  have k_joins_from := k1
  have F_tree_from := fun_mk (st := s_tree_from) l2 c2 k2
  have b_tree_from := F_tree_from.binds (ps := ["joins", "start"]) fun _ _ _ _ _ _ us hl => by obtain ⟨_, _, rfl⟩ := len_2 us hl; rfl
  have m_tree_from := PySem.W.mg_of X G a2
  have k_tree_from := k2
  have F_road_by := fun_mk (st := s_road_by) l3 c3 k3
  have b_road_by := F_road_by.binds (ps := ["joins", "one", "other"]) fun _ _ _ _ _ _ us hl => by obtain ⟨_, _, _, rfl⟩ := len_3 us hl; rfl
  have m_road_by := PySem.W.mg_of X G a3
  have k_road_by := k3
  have F_road := fun_mk (st := s_road) l4 c4 k4
  have b_road := F_road.binds (ps := ["train", "one", "other"]) fun _ _ _ _ _ _ us hl => by obtain ⟨_, _, _, rfl⟩ := len_3 us hl; rfl
  have m_road := PySem.W.mg_of X G a4
  have k_road := k4
  have F_is_name := fun_mk (st := s_is_name) l5 c5 k5
  have b_is_name := F_is_name.binds (ps := ["text"]) fun _ _ _ _ _ _ us hl => by obtain ⟨_, rfl⟩ := len_1 us hl; rfl
  have m_is_name := PySem.W.mg_of X G a5
  have k_is_name := k5
  have F_Train___init__ := fun_mk (st := s_Train___init__) l6 c6 k6
  have b_Train___init__ := F_Train___init__.binds (ps := ["self"]) fun _ _ _ _ _ _ us hl => by obtain ⟨_, rfl⟩ := len_1 us hl; rfl
  have me_Train___init__ : Meth K C_Train "__init__" _ := ⟨a6, i6, k6⟩
  have F_Train_put_wheel := fun_mk (st := s_Train_put_wheel) l7 c7 k7
  have b_Train_put_wheel := F_Train_put_wheel.binds (ps := ["self", "name", "teeth"]) fun _ _ _ _ _ _ us hl => by obtain ⟨_, _, _, rfl⟩ := len_3 us hl; rfl
  have me_Train_put_wheel : Meth K C_Train "put_wheel" _ := ⟨a7, i7, k7⟩
  have F_Train_put_join := fun_mk (st := s_Train_put_join) l8 c8 k8
  have b_Train_put_join := F_Train_put_join.binds (ps := ["self", "kind", "one", "other"]) fun _ _ _ _ _ _ us hl => by obtain ⟨_, _, _, _, rfl⟩ := len_4 us hl; rfl
  have me_Train_put_join : Meth K C_Train "put_join" _ := ⟨a8, i8, k8⟩
  have F_Train_take_join := fun_mk (st := s_Train_take_join) l9 c9 k9
  have b_Train_take_join := F_Train_take_join.binds (ps := ["self", "number"]) fun _ _ _ _ _ _ us hl => by obtain ⟨_, _, rfl⟩ := len_2 us hl; rfl
  have me_Train_take_join : Meth K C_Train "take_join" _ := ⟨a9, i9, k9⟩
  have F_Train_wheels := fun_mk (st := s_Train_wheels) l10 c10 k10
  have b_Train_wheels := F_Train_wheels.binds (ps := ["self"]) fun _ _ _ _ _ _ us hl => by obtain ⟨_, rfl⟩ := len_1 us hl; rfl
  have me_Train_wheels : Meth K C_Train "wheels" _ := ⟨a10, i10, k10⟩
  have F_Train_joins := fun_mk (st := s_Train_joins) l11 c11 k11
  have b_Train_joins := F_Train_joins.binds (ps := ["self"]) fun _ _ _ _ _ _ us hl => by obtain ⟨_, rfl⟩ := len_1 us hl; rfl
  have me_Train_joins : Meth K C_Train "joins" _ := ⟨a11, i11, k11⟩
  have F_law_cell_at := fun_mk (st := s_law_cell_at) l12 c12 k12
  have b_law_cell_at := F_law_cell_at.binds (ps := ["_law_script", "_law_k"]) fun _ _ _ _ _ _ us hl => by obtain ⟨_, _, rfl⟩ := len_2 us hl; rfl
  have m_law_cell_at := PySem.W.mg_of X G a12
  have k_law_cell_at := k12
  have F_law_whole := fun_mk (st := s_law_whole) l13 c13 k13
  have b_law_whole := F_law_whole.binds (ps := ["_law_found"]) fun _ _ _ _ _ _ us hl => by obtain ⟨_, rfl⟩ := len_1 us hl; rfl
  have m_law_whole := PySem.W.mg_of X G a13
  have k_law_whole := k13
  have F_law_name := fun_mk (st := s_law_name) l14 c14 k14
  have b_law_name := F_law_name.binds (ps := ["_law_k", "_law_spin"]) fun _ _ _ _ _ _ us hl => by obtain ⟨_, _, rfl⟩ := len_2 us hl; rfl
  have m_law_name := PySem.W.mg_of X G a14
  have k_law_name := k14
  have F_law_teeth := fun_mk (st := s_law_teeth) l15 c15 k15
  have b_law_teeth := F_law_teeth.binds (ps := ["_law_number", "_law_way"]) fun _ _ _ _ _ _ us hl => by obtain ⟨_, _, rfl⟩ := len_2 us hl; rfl
  have m_law_teeth := PySem.W.mg_of X G a15
  have k_law_teeth := k15
  have F_law_rows := fun_mk (st := s_law_rows) l16 c16 k16
  have b_law_rows := F_law_rows.binds (ps := ["_law_script"]) fun _ _ _ _ _ _ us hl => by obtain ⟨_, rfl⟩ := len_1 us hl; rfl
  have m_law_rows := PySem.W.mg_of X G a16
  have k_law_rows := k16
  have F_law_train := fun_mk (st := s_law_train) l17 c17 k17
  have b_law_train := F_law_train.binds (ps := ["_law_wheels", "_law_joins"]) fun _ _ _ _ _ _ us hl => by obtain ⟨_, _, rfl⟩ := len_2 us hl; rfl
  have m_law_train := PySem.W.mg_of X G a17
  have k_law_train := k17
  have F_law_hung := fun_mk (st := s_law_hung) l18 c18 k18
  have b_law_hung := F_law_hung.binds (ps := ["_law_many", "_law_ends", "_law_start"]) fun _ _ _ _ _ _ us hl => by obtain ⟨_, _, _, rfl⟩ := len_3 us hl; rfl
  have m_law_hung := PySem.W.mg_of X G a18
  have k_law_hung := k18
  have F_law_walked := fun_mk (st := s_law_walked) l19 c19 k19
  have b_law_walked := F_law_walked.binds (ps := ["_law_told", "_law_ends", "_law_names", "_law_one", "_law_other"]) fun _ _ _ _ _ _ us hl => by obtain ⟨_, _, _, _, _, rfl⟩ := len_5 us hl; rfl
  have m_law_walked := PySem.W.mg_of X G a19
  have k_law_walked := k19
  have F_law_asked := fun_mk (st := s_law_asked) l20 c20 k20
  have b_law_asked := F_law_asked.binds (ps := ["_law_train_here", "_law_ends", "_law_names", "_law_pair"]) fun _ _ _ _ _ _ us hl => by obtain ⟨_, _, _, _, rfl⟩ := len_4 us hl; rfl
  have m_law_asked := PySem.W.mg_of X G a20
  have k_law_asked := k20
  have F_law_refused := fun_mk (st := s_law_refused) l21 c21 k21
  have b_law_refused := F_law_refused.binds (ps := ["_law_train_here", "_law_one", "_law_other"]) fun _ _ _ _ _ _ us hl => by obtain ⟨_, _, _, rfl⟩ := len_3 us hl; rfl
  have m_law_refused := PySem.W.mg_of X G a21
  have k_law_refused := k21
  have F_law_pairs := fun_mk (st := s_law_pairs) l22 c22 k22
  have b_law_pairs := F_law_pairs.binds (ps := ["_law_script", "_law_many"]) fun _ _ _ _ _ _ us hl => by obtain ⟨_, _, rfl⟩ := len_2 us hl; rfl
  have m_law_pairs := PySem.W.mg_of X G a22
  have k_law_pairs := k22
  have F_law_all_asked := fun_mk (st := s_law_all_asked) l23 c23 k23
  have b_law_all_asked := F_law_all_asked.binds (ps := ["_law_train_here", "_law_ends", "_law_names", "_law_script"]) fun _ _ _ _ _ _ us hl => by obtain ⟨_, _, _, _, rfl⟩ := len_4 us hl; rfl
  have m_law_all_asked := PySem.W.mg_of X G a23
  have k_law_all_asked := k23
  have F_law := fun_mk (st := s_law) l24 c24 k24
  have cl_Train : Cls K C_Train := ⟨pg_Train, hd_Train, po_Train, sa_Train⟩
  have pl_teeth_of : Pln K C_Train "teeth_of" := ⟨cl_Train, n_Train_teeth_of⟩
  have pl_join_of : Pln K C_Train "join_of" := ⟨cl_Train, n_Train_join_of⟩
  have pl_next_number : Pln K C_Train "next_number" := ⟨cl_Train, n_Train_next_number⟩
  have X_NoName : ExCls K mg "NoName" E_NoName := ⟨PySem.W.mg_of X G aE_NoName, ex_NoName⟩
  have X_Twice : ExCls K mg "Twice" E_Twice := ⟨PySem.W.mg_of X G aE_Twice, ex_Twice⟩
  have X_NoTeeth : ExCls K mg "NoTeeth" E_NoTeeth := ⟨PySem.W.mg_of X G aE_NoTeeth, ex_NoTeeth⟩
  have X_Full : ExCls K mg "Full" E_Full := ⟨PySem.W.mg_of X G aE_Full, ex_Full⟩
  have X_NoWheel : ExCls K mg "NoWheel" E_NoWheel := ⟨PySem.W.mg_of X G aE_NoWheel, ex_NoWheel⟩
  have X_NoJoin : ExCls K mg "NoJoin" E_NoJoin := ⟨PySem.W.mg_of X G aE_NoJoin, ex_NoJoin⟩
  refine ⟨PySem.W.fnOf "law" "law" (defArgs s_law) (defBody s_law) (defScope s_law) .none kV24 dc24 pm24 an24 cd24 ct24, fun s v => .of_eq rfl, fun base kb nb sb => ?_⟩
  let EC : Rk → Addr := fun r => match r with | .noName => E_NoName | .twice => E_Twice | .noTeeth => E_NoTeeth | .full => E_Full | .noWheel => E_NoWheel | .noJoin => E_NoJoin
  have XK : ExK K mg EC := ⟨X_NoName, X_Twice, X_NoTeeth, X_Full, X_NoWheel, X_NoJoin⟩
  have h_law_cell_at : Has l.prog w K mg base (CXE l.prog w) 1 "_law_cell_at" ["_law_script", "_law_k"] (liftS K spCell) := ⟨_, _, ok_cell F_law_cell_at T, m_law_cell_at, k_law_cell_at, b_law_cell_at⟩
  have h_law_whole : Has l.prog w K mg base (CXE l.prog w) 1 "_law_whole" ["_law_found"] (liftS K spWhole) := ⟨_, _, ok_whole F_law_whole T, m_law_whole, k_law_whole, b_law_whole⟩
  have h_is_name : Has l.prog w K mg base (CXE l.prog w) 1 "is_name" ["text"] (liftS K spIsName) := ⟨_, _, ok_is_name F_is_name T, m_is_name, k_is_name, b_is_name⟩
  have h_Train : HasC l.prog w K mg base 1 "Train" C_Train (spInit C_Train) := ⟨PySem.W.mg_of X G aC_Train, _, _, ok_init F_Train___init__ pl_teeth_of pl_join_of pl_next_number, ⟨mk_Train, me_Train___init__.1, me_Train___init__.2, kc_Train⟩, b_Train___init__⟩
  have h_put_wheel : HasM l.prog w K mg base (CXE l.prog w) 2 C_Train "put_wheel" ["self", "name", "teeth"] (liftS K (spPutW C_Train EC)) := ⟨cl_Train, _, _, ok_put_wheel F_Train_put_wheel T XK pl_teeth_of h_is_name, me_Train_put_wheel, b_Train_put_wheel⟩
  have h_put_join : HasM l.prog w K mg base (CXE l.prog w) 2 C_Train "put_join" ["self", "kind", "one", "other"] (liftS K (spPutJ C_Train EC)) := ⟨cl_Train, _, _, ok_put_join F_Train_put_join T XK pl_teeth_of pl_join_of pl_next_number, me_Train_put_join, b_Train_put_join⟩
  have h_take_join : HasM l.prog w K mg base (CXE l.prog w) 2 C_Train "take_join" ["self", "number"] (liftS K (spTakeJ C_Train EC)) := ⟨cl_Train, _, _, ok_take_join F_Train_take_join XK pl_join_of, me_Train_take_join, b_Train_take_join⟩
  have h_wheels : HasM l.prog w K mg base (CXE l.prog w) 1 C_Train "wheels" ["self"] (liftS K (spWheels C_Train)) := ⟨cl_Train, _, _, ok_wheels F_Train_wheels T pl_teeth_of, me_Train_wheels, b_Train_wheels⟩
  have h_joins : HasM l.prog w K mg base (CXE l.prog w) 1 C_Train "joins" ["self"] (liftS K (spJoins C_Train)) := ⟨cl_Train, _, _, ok_joins F_Train_joins T pl_join_of, me_Train_joins, b_Train_joins⟩
  have h_refuse_unknown : Has l.prog w K mg base (CXE l.prog w) 1 "refuse_unknown" ["names", "name"] (liftS K (spRefuse EC)) := ⟨_, _, ok_refuse_unknown F_refuse_unknown XK, m_refuse_unknown, k_refuse_unknown, b_refuse_unknown⟩
  have h_joins_from : Has l.prog w K mg base (CXE l.prog w) 1 "joins_from" ["joins", "here"] (liftS K spLead) := ⟨_, _, ok_joins_from F_joins_from, m_joins_from, k_joins_from, b_joins_from⟩
  have h_tree_from : Has l.prog w K mg base (CXE l.prog w) 2 "tree_from" ["joins", "start"] (liftS K spTree) := ⟨_, _, ok_tree_from F_tree_from T h_joins_from, m_tree_from, k_tree_from, b_tree_from⟩
  have h_road_by : Has l.prog w K mg base (CXE l.prog w) 3 "road_by" ["joins", "one", "other"] (liftS K spRoadBy) := ⟨_, _, ok_road_by F_road_by h_tree_from, m_road_by, k_road_by, b_road_by⟩
  have h_road : Has l.prog w K mg base (CXE l.prog w) 4 "road" ["train", "one", "other"] (liftS K (spRoad C_Train EC)) := ⟨_, _, ok_road F_road h_wheels h_joins h_refuse_unknown h_road_by, m_road, k_road, b_road⟩
  have h_law_name : Has l.prog w K mg base (CXE l.prog w) 1 "_law_name" ["_law_k", "_law_spin"] (liftS K spName) := ⟨_, _, ok_law_name F_law_name, m_law_name, k_law_name, b_law_name⟩
  have h_law_teeth : Has l.prog w K mg base (CXE l.prog w) 1 "_law_teeth" ["_law_number", "_law_way"] (liftS K spTeeth) := ⟨_, _, ok_law_teeth F_law_teeth, m_law_teeth, k_law_teeth, b_law_teeth⟩
  have h_law_rows : Has l.prog w K mg base (CXE l.prog w) 2 "_law_rows" ["_law_script"] (liftS K spRows) := ⟨_, _, ok_law_rows F_law_rows T h_law_cell_at h_law_name h_law_teeth, m_law_rows, k_law_rows, b_law_rows⟩
  have h_law_train : Has l.prog w K mg base (CXE l.prog w) 3 "_law_train" ["_law_wheels", "_law_joins"] (liftS K (spTrain C_Train)) := ⟨_, _, ok_law_train F_law_train h_Train h_put_wheel h_put_join, m_law_train, k_law_train, b_law_train⟩
  have h_law_hung : Has l.prog w K mg base (CXE l.prog w) 1 "_law_hung" ["_law_many", "_law_ends", "_law_start"] (liftS K spHung) := ⟨_, _, ok_law_hung F_law_hung T, m_law_hung, k_law_hung, b_law_hung⟩
  have h_law_walked : Has l.prog w K mg base (CXE l.prog w) 2 "_law_walked" ["_law_told", "_law_ends", "_law_names", "_law_one", "_law_other"] (liftS K spWalked) := ⟨_, _, ok_law_walked F_law_walked T h_law_whole, m_law_walked, k_law_walked, b_law_walked⟩
  have h_law_asked : Has l.prog w K mg base (CXE l.prog w) 5 "_law_asked" ["_law_train_here", "_law_ends", "_law_names", "_law_pair"] (liftS K (spAsked C_Train)) := ⟨_, _, ok_law_asked F_law_asked T h_road h_law_hung h_law_walked, m_law_asked, k_law_asked, b_law_asked⟩
  have h_law_refused : Has l.prog w K mg base (CXE l.prog w) 5 "_law_refused" ["_law_train_here", "_law_one", "_law_other"] (liftS K (spRefused C_Train)) := ⟨_, _, ok_law_refused F_law_refused XK xm_NoWheel_NoWheel h_road, m_law_refused, k_law_refused, b_law_refused⟩
  have h_law_pairs : Has l.prog w K mg base (CXE l.prog w) 2 "_law_pairs" ["_law_script", "_law_many"] (liftS K spPairs) := ⟨_, _, ok_law_pairs F_law_pairs T h_law_cell_at, m_law_pairs, k_law_pairs, b_law_pairs⟩
  have h_law_all_asked : Has l.prog w K mg base (CXE l.prog w) 6 "_law_all_asked" ["_law_train_here", "_law_ends", "_law_names", "_law_script"] (liftS K (spAll C_Train)) := ⟨_, _, ok_law_all_asked F_law_all_asked T h_law_cell_at h_law_pairs h_law_asked h_put_join h_take_join, m_law_all_asked, k_law_all_asked, b_law_all_asked⟩
  exact law_ok (ok_law (C := C_Train) F_law T h_law_cell_at h_law_rows h_law_train h_law_refused h_law_all_asked h_wheels h_joins)
theorem walk {l : PySem.W.OpenLaw} {q : Program} {loose : List Str} {XP : (Str → Option Value) → Heap → Prop} {YP : World → Heap → Prop} {d : DefRec} {K : Params → PySem.W.Frag} (hn : l.most = some 63) (hdf : d.params.defaults = []) (him : importsNone q = true)
    (hY : ∀ (w : World) (h : Heap), YP w h → (K w.params).In h)
    (F : ∀ (w : World) (mg : Str → Option Value) (fa : Addr) (h : Heap), (K w.params).In h → h.Ns mainGlobals mg → mg d.name = some (.ref fa) →
      ∃ fd : FuncData, (∀ (s : Shared) (u : Value), BindsTo s fd ⟨[u], []⟩ [("_law_script", u)]) ∧ ∀ base : Heap, (K w.params).In base → base.Ns mainGlobals mg → base.NoSeer → FnOk l.prog w (K w.params) mg base CX0 7 fa fd ["_law_script"] (spScript (K w.params))) :
    PySem.W.WalkO q loose XP YP l.row.toRowW d [] (fun f vs => PySem.call f vs) :=
  L2.walk_ofB (n := 63) (k := 7) (x := "_law_script") (CX := CX0) (sp := spScript) hn (by decide) hdf ⟨rfl, by decide, by decide⟩ him hY F (fun _ _ a ns hl _ hS => ⟨a, ns, rfl, hS, hl, fun _ => rfl⟩) fun _ _ _ _ z => z
end K5
open PySem PySem.W PyProof.Rows
noncomputable def PySem.W.Fast.tw2495353507020364780 : Nat := 0
theorem PySem.W.Fast.te2495353507020364780 : PySem.W.Fast.tw2495353507020364780 = 0 := rfl
set_option maxRecDepth 100000 in
set_option maxHeartbeats 0 in
theorem PySem.Challenge.cw_cogtrain_k05_roads_holds : PySem.Challenge.rw_cogtrain_k05_roads.Holds := by
  w_on; o_law; k_head; (case hw => w_witness2)
  k_fill
  refine K5.walk (l := PySem.Challenge.rw_cogtrain_k05_roads) rfl rfl (by decide +kernel) (fun w h Y => PySem.W.kIn_of Y) ?F
  case F =>
    intro w mg fa h KX G hmg
    refine' K5.all_mk KX G hmg rfl ?aC_Train ?aE_NoName ?aE_Twice ?aE_NoTeeth ?aE_Full ?aE_NoWheel ?aE_NoJoin ?a0 ?l0 ?c0 ?k0 ?a1 ?l1 ?c1 ?k1 ?a2 ?l2 ?c2 ?k2 ?a3 ?l3 ?c3 ?k3 ?a4 ?l4 ?c4 ?k4 ?a5 ?l5 ?c5 ?k5 ?a6 ?i6 ?l6 ?c6 ?k6 ?a7 ?i7 ?l7 ?c7 ?k7 ?a8 ?i8 ?l8 ?c8 ?k8 ?a9 ?i9 ?l9 ?c9 ?k9 ?a10 ?i10 ?l10 ?c10 ?k10 ?a11 ?i11 ?l11 ?c11 ?k11 ?a12 ?l12 ?c12 ?k12 ?a13 ?l13 ?c13 ?k13 ?a14 ?l14 ?c14 ?k14 ?a15 ?l15 ?c15 ?k15 ?a16 ?l16 ?c16 ?k16 ?a17 ?l17 ?c17 ?k17 ?a18 ?l18 ?c18 ?k18 ?a19 ?l19 ?c19 ?k19 ?a20 ?l20 ?c20 ?k20 ?a21 ?l21 ?c21 ?k21 ?a22 ?l22 ?c22 ?k22 ?a23 ?l23 ?c23 ?k23 ?a24 ?l24 ?c24 ?k24 ?pg_Train ?hd_Train ?po_Train ?sa_Train ?mk_Train ?kc_Train ?n_Train_teeth_of ?n_Train_join_of ?n_Train_next_number ?z0 ?z1 ?z2 ?z3 ?z4 ?z5 ?z6 ?z7 ?z8 ?z9 ?g_LONGEST_NAME ?g_TEETH_BOUND ?g_MOST_WHEELS ?g_MOST_JOINS ?g_LETTERS ?g_KINDS ?gl_KINDS ?ex_NoName ?ex_Twice ?ex_NoTeeth ?ex_Full ?ex_NoWheel ?ex_NoJoin ?xm_NoWheel_NoWheel
    (case aC_Train => k_is)
    (case aE_NoName => k_is)
    (case aE_Twice => k_is)
    (case aE_NoTeeth => k_is)
    (case aE_Full => k_is)
    (case aE_NoWheel => k_is)
    (case aE_NoJoin => k_is)
    (case a0 => k_is)
    (case l0 => k_is)
    (case c0 => k_is)
    (case k0 => k_is)
    (case a1 => k_is)
    (case l1 => k_is)
    (case c1 => k_is)
    (case k1 => k_is)
    (case a2 => k_is)
    (case l2 => k_is)
    (case c2 => k_is)
    (case k2 => k_is)
    (case a3 => k_is)
    (case l3 => k_is)
    (case c3 => k_is)
    (case k3 => k_is)
    (case a4 => k_is)
    (case l4 => k_is)
    (case c4 => k_is)
    (case k4 => k_is)
    (case a5 => k_is)
    (case l5 => k_is)
    (case c5 => k_is)
    (case k5 => k_is)
    (case a6 => k_is)
    (case i6 => k_is)
    (case l6 => k_is)
    (case c6 => k_is)
    (case k6 => k_is)
    (case a7 => k_is)
    (case i7 => k_is)
    (case l7 => k_is)
    (case c7 => k_is)
    (case k7 => k_is)
    (case a8 => k_is)
    (case i8 => k_is)
    (case l8 => k_is)
    (case c8 => k_is)
    (case k8 => k_is)
    (case a9 => k_is)
    (case i9 => k_is)
    (case l9 => k_is)
    (case c9 => k_is)
    (case k9 => k_is)
    (case a10 => k_is)
    (case i10 => k_is)
    (case l10 => k_is)
    (case c10 => k_is)
    (case k10 => k_is)
    (case a11 => k_is)
    (case i11 => k_is)
    (case l11 => k_is)
    (case c11 => k_is)
    (case k11 => k_is)
    (case a12 => k_is)
    (case l12 => k_is)
    (case c12 => k_is)
    (case k12 => k_is)
    (case a13 => k_is)
    (case l13 => k_is)
    (case c13 => k_is)
    (case k13 => k_is)
    (case a14 => k_is)
    (case l14 => k_is)
    (case c14 => k_is)
    (case k14 => k_is)
    (case a15 => k_is)
    (case l15 => k_is)
    (case c15 => k_is)
    (case k15 => k_is)
    (case a16 => k_is)
    (case l16 => k_is)
    (case c16 => k_is)
    (case k16 => k_is)
    (case a17 => k_is)
    (case l17 => k_is)
    (case c17 => k_is)
    (case k17 => k_is)
    (case a18 => k_is)
    (case l18 => k_is)
    (case c18 => k_is)
    (case k18 => k_is)
    (case a19 => k_is)
    (case l19 => k_is)
    (case c19 => k_is)
    (case k19 => k_is)
    (case a20 => k_is)
    (case l20 => k_is)
    (case c20 => k_is)
    (case k20 => k_is)
    (case a21 => k_is)
    (case l21 => k_is)
    (case c21 => k_is)
    (case k21 => k_is)
    (case a22 => k_is)
    (case l22 => k_is)
    (case c22 => k_is)
    (case k22 => k_is)
    (case a23 => k_is)
    (case l23 => k_is)
    (case c23 => k_is)
    (case k23 => k_is)
    (case a24 => k_is)
    (case l24 => k_is)
    (case c24 => k_is)
    (case k24 => k_is)
    (case pg_Train => k_is)
    (case hd_Train => k_is)
    (case po_Train => k_is)
    (case sa_Train => k_is)
    (case mk_Train => k_is)
    (case kc_Train => k_is)
    (case n_Train_teeth_of => k_is)
    (case n_Train_join_of => k_is)
    (case n_Train_next_number => k_is)
    (case z0 => k_is)
    (case z1 => k_is)
    (case z2 => k_is)
    (case z3 => k_is)
    (case z4 => k_is)
    (case z5 => k_is)
    (case z6 => k_is)
    (case z7 => k_is)
    (case z8 => k_is)
    (case z9 => k_is)
    (case g_LONGEST_NAME => k_is)
    (case g_TEETH_BOUND => k_is)
    (case g_MOST_WHEELS => k_is)
    (case g_MOST_JOINS => k_is)
    (case g_LETTERS => k_is)
    (case g_KINDS => k_is)
    (case gl_KINDS => k_is)
    (case ex_NoName => k_exc)
    (case ex_Twice => k_exc)
    (case ex_NoTeeth => k_exc)
    (case ex_Full => k_exc)
    (case ex_NoWheel => k_exc)
    (case ex_NoJoin => k_exc)
    (case xm_NoWheel_NoWheel => kts_exm)
#print axioms PySem.Challenge.cw_cogtrain_k05_roads_holds

