import PyProof.Rows.All
import Wide.All
import OpenK.AllK
import Wide.FinOn
import Lean
import PyProof.EqAt
import PyProof.EqKinds
import PyProof.TupleCall
import PySem.Challenge.RW_cogtrain_k06_whole_turns_or_a_ring
set_option Elab.async false
set_option linter.all false
set_option maxRecDepth 100000
namespace L2
open PySem PySem.Spec PyProof.Rows
noncomputable abbrev Key := Sum Int Str
noncomputable def b2t : Key -> Value -> Bool
 | .inl k, v => Value.isInt k v
 | .inr x, v => Value.isStrOf x v
noncomputable def keyH (w : World) : Key -> Int
 | .inl k => hashInt k
 | .inr x => hashStr w x
theorem a03 : ∀ {k : Key} {v : Value}, b2t k v = true -> (∃ i t, k = Sum.inl i /\ v = Value.int i t) \/ (∃ x t, k = Sum.inr x /\ v = Value.str x t)
 | .inl i, v, h => by
   obtain ⟨t, e⟩ := Value.isInt_shape (k := i) (v := v) h
   exact .inl ⟨i, t, rfl, e⟩
 | .inr x, v, h => by
   obtain ⟨t, e⟩ := Value.isStrOf_shape (x := x) (v := v) h
   exact .inr ⟨x, t, rfl, e⟩
theorem b4w (i : Int) (t : Tok) : b2t (.inl i) (.int i t) = true := by simp [b2t, Value.isInt]
theorem b4v (x : Str) (t : Tok) : b2t (.inr x) (.str x t) = true := by simp [b2t, Value.isStrOf]
theorem key_ll (a b : Int) : decide ((Sum.inl a : Key) = Sum.inl b) = (a == b) := by
 by_cases e : a = b
 . subst e; simp
 . have h : ¬ (Sum.inl a : Key) = Sum.inl b := fun q => e (Sum.inl.inj q)
   rw [decide_eq_false h]
   exact (beq_eq_false_iff_ne.mpr e).symm
theorem key_rr (a b : Str) : decide ((Sum.inr a : Key) = Sum.inr b) = decide (a = b) := by
 by_cases e : a = b
 . subst e; simp
 . have h : ¬ (Sum.inr a : Key) = Sum.inr b := fun q => e (Sum.inr.inj q)
   rw [decide_eq_false h, decide_eq_false e]
theorem key_lr (a : Int) (b : Str) : decide ((Sum.inl a : Key) = Sum.inr b) = false := decide_eq_false (fun q => nomatch q)
theorem key_rl (a : Str) (b : Int) : decide ((Sum.inr a : Key) = Sum.inl b) = false := decide_eq_false (fun q => nomatch q)
noncomputable def a0y (prog : Program) (w : World) : PySem.KeyKind prog w Key where
 is := b2t
 hash := keyH w
 inj := fun v a b ha hb => by
   rcases a03 ha with ⟨i, t, rfl, rfl⟩ | ⟨x, t, rfl, rfl⟩
   . rcases a03 hb with ⟨j, u, rfl, e⟩ | ⟨y, u, rfl, e⟩
     . injection e with e1 _; rw [e1]
     . exact nomatch e
   . rcases a03 hb with ⟨j, u, rfl, e⟩ | ⟨y, u, rfl, e⟩
     . exact nomatch e
     . injection e with e1 _; rw [e1]
 byValue := fun k v h => by
   rcases a03 h with ⟨i, t, rfl, rfl⟩ | ⟨x, t, rfl, rfl⟩ <;> rfl
 pyHash := fun hv h => by
   rcases a03 hv with ⟨i, t, rfl, rfl⟩ | ⟨x, t, rfl, rfl⟩
   . exact wpAny_pyHash_int h
   . exact wpAny_pyHash_str h
 eqBool := fun hu hv h => by
   rcases a03 hu with ⟨i, t, rfl, rfl⟩ | ⟨x, t, rfl, rfl⟩
   . rcases a03 hv with ⟨j, u, rfl, rfl⟩ | ⟨y, u, rfl, rfl⟩
     . rw [key_ll] at h; exact wpAny_eqBool_int h
     . rw [key_lr] at h; exact SeqAt.EqAt.int_str i t y u _ _ _ _ h
   . rcases a03 hv with ⟨j, u, rfl, rfl⟩ | ⟨y, u, rfl, rfl⟩
     . rw [key_rl] at h; exact SeqAt.EqAt.str_int x t j u _ _ _ _ h
     . rw [key_rr] at h; exact wpAny_eqBool_str h
 «strs» := fun k x t v h => by
   rcases a03 h with ⟨i, u, rfl, e⟩ | ⟨y, u, rfl, e⟩
   . exact nomatch e
   . injection e with e1 _
     subst e1
     cases v <;> rfl
theorem b0d (prog : Program) (w : World) (i : Int) (t : Tok) : (a0y prog w).is (.inl i) (.int i t) = true := b4w i t
theorem b0c (prog : Program) (w : World) (x : Str) (t : Tok) : (a0y prog w).is (.inr x) (.str x t) = true := b4v x t
inductive V where
 | non | bl (b : Bool) | int (i : Int) | str (x : Str) | byt (b : Array UInt8) | flt (b : UInt64) | ref (a : Addr) | ty (n : String)
 deriving DecidableEq
def RelV : V -> Value -> Prop
 | .non, u => u = Value.none
 | .bl b, u => u = Value.bool b
 | .int i, u => ∃ t, u = Value.int i t
 | .str x, u => ∃ t, u = Value.str x t
 | .byt b, u => ∃ t, u = Value.bytes b t
 | .flt b, u => ∃ t, u = Value.float b t
 | .ref a, u => u = Value.ref a
 | .ty n, u => u = Value.type n
abbrev Vals : List V -> List Value -> Prop := Paired RelV
theorem Vals.length {xs : List V} {us : List Value} (r : Vals xs us) : xs.length = us.length := Paired.length r
theorem Vals.get : ∀ {xs : List V} {us : List Value} {i : Nat} {x : V}, Vals xs us -> xs[i]? = some x -> ∃ u, us[i]? = some u /\ RelV x u
 | _, _, _, _, .nil, e => by simp at e
 | _, _, 0, _, .cons r _, e => by simp at e; subst e; exact ⟨_, rfl, r⟩
 | _, _, i + 1, x, .cons _ t, e => by
   obtain ⟨u, h1, h2⟩ := Vals.get (i := i) (x := x) t (by simpa using e)
   exact ⟨u, by simpa using h1, h2⟩
theorem Vals.set {x : V} {u : Value} (r : RelV x u) : ∀ {xs : List V} {us : List Value} (i : Nat), Vals xs us -> Vals (xs.set i x) (us.set i u)
 | _, _, _, .nil => .nil
 | _, _, 0, .cons _ t => .cons r t
 | _, _, i + 1, .cons q t => .cons q (Vals.set r i t)
theorem Vals.append : ∀ {xs ys : List V} {us ws : List Value}, Vals xs us -> Vals ys ws -> Vals (xs ++ ys) (us ++ ws)
 | _, _, _, _, .nil, s => s
 | _, _, _, _, .cons r t, s => .cons r (Vals.append t s)
theorem Vals.take : ∀ {xs : List V} {us : List Value} (n : Nat), Vals xs us -> Vals (xs.take n) (us.take n)
 | _, _, 0, _ => .nil
 | _, _, _ + 1, .nil => .nil
 | _, _, n + 1, .cons r t => .cons r (Vals.take n t)
theorem Vals.drop : ∀ {xs : List V} {us : List Value} (n : Nat), Vals xs us -> Vals (xs.drop n) (us.drop n)
 | _, _, 0, r => r
 | _, _, _ + 1, .nil => .nil
 | _, _, n + 1, .cons _ t => Vals.drop n t
def RelO : Option V -> Option Value -> Prop
 | some v, some u => RelV v u
 | none, none => True
 | _, _ => False
def KV {κ : Type} : List (κ × V) -> List (κ × Value) -> Prop := Paired fun (p : κ × V) (q : κ × Value) => p.1 = q.1 /\ RelV p.2 q.2
noncomputable def kV : Key -> V
 | .inl i => .int i
 | .inr x => .str x
inductive HO where
 /-- a list -/
 | lst (xs : List V)
 /-- a tuple (never changes) -/
 | tup (xs : List V)
 /-- a dict whose keys are ints and texts; one whose keys are tuples of ints and texts (the empty one is both) -/
 | dK (kvs : List (Key × V)) | dT (kvs : List (List Key × V))
 /-- a set of ints: its members, its size -/
 | set (S : Int -> Bool) (n : Nat)
 /-- an instance of the class at C, its dict at dx, its attributes -/
 | ins (C dx : Addr) (fs : List (Str × V))
 /-- the dict of the instance at x -/
 | own (x : Addr)
 /-- the dict of an exception -/
 | xd (fs : List (Str × V))
 /-- a bound method, f of x -/
 | met (f x : Addr)
 /-- a range object lo, lo + 1, .. below hi -/
 | rng (lo hi : Int)
 /-- a thing that is known to the object (the script; a dict while a loop walks it): read, never written while it is so -/
 | frz (o : Obj) (u : HO)
 /-- a code object's table -/
 | tbl (ps : Array Value)
 /-- any other thing, by what is true of its one object (a def of one's own: SetO a S n := HO.ext fun h => ..) -/
 | ext (φ : Heap -> Prop)
noncomputable abbrev Hp := Addr -> Option HO
noncomputable def upd (H : Hp) (a : Addr) (o : HO) : Hp := fun b => if b = a then some o else H b
theorem a0p {H : Hp} {a : Addr} {o : HO} : upd H a o a = some o := by unfold upd; rw [if_pos rfl]
theorem a0l {H : Hp} {a b : Addr} {o : HO} (h : b ≠ a) : upd H a o b = H b := by unfold upd; rw [if_neg h]
theorem b4b {H : Hp} {a b : Addr} {o u : HO} (h : H a = some o) (h' : H b = some u) (d : o ≠ u) : a ≠ b := by
 intro e; subst e; rw [h] at h'; exact d (Option.some.inj h')
theorem a2g {H : Hp} {a b : Addr} {o : HO} (h : H a = some o) (h' : H b = none) : a ≠ b := by
 intro e; subst e; rw [h] at h'; cases h'
section
variable (P : Program) (w : World)
def ObjOk (H : Hp) (h : Heap) (a : Addr) : HO -> Prop
 | .lst xs => xs.length <= sizeLine /\ ∃ (its : List Value) (n : Nat), Vals xs its /\ h.get? a = some { cls := .type "list", data := .seq its.toArray n }
 | .tup xs => xs.length <= sizeLine /\ ∃ its : List Value, Vals xs its /\ IsTup h a its.toArray
 | .dK kvs => kvs.length <= sizeLine /\ (a == sysModules) = false /\ ∃ vs, KV kvs vs /\ h.DictOf (a0y P w) a vs
 | .dT kvs => kvs.length <= sizeLine /\ (a == sysModules) = false /\ ∃ xs : List (List Key × Addr × Value),
     Paired (fun (p : List Key × V) (q : List Key × Addr × Value) => p.1 = q.1 /\ H q.2.1 = some (.tup (p.1.map kV)) /\ RelV p.2 q.2.2) kvs xs /\
     ∃ o es ep, h.get? a = some o /\ o.ExactDict /\ o.data = .dict es ep /\ es.toList = xs.map (entryOfKey (tupleKind (a0y P w))) /\ (xs.map (·.1)).Nodup
 | .set S n => h.SetOf (intKind P w) a S n
 | .ins C dx fs => H dx = some (.own a) /\ fs.length <= 1000 /\ dx ≠ a /\ h.get? a = some (PySem.W.instObj C dx) /\
     ∃ mA, h.Ns1 dx mA /\ (∀ f, RelO (fs.lookup f) (mA f)) /\ PySem.Within mA (fs.map (·.1))
 | .own _ => ∃ o, h.get? a = some o
 | .xd fs => ∃ mA, h.Ns1 a mA /\ ∀ f, RelO (fs.lookup f) (mA f)
 | .rng lo hi => ∃ t u v, h.get? a = some { cls := .type "range", data := .fields #[.int lo t, .int hi u, .int 1 v] }
 | .frz o u => h.get? a = some o /\ ObjOk H h a u
 | .tbl ps => h.get? a = some { cls := .none, data := .fields ps }
 | .met f x => h.get? a = some (PySem.W.methodObj (.ref f) (.ref x))
 | .ext φ => φ h /\ (∃ o, h.get? a = some o) /\ ∀ h1 h2 : Heap, φ h1 -> (∀ o, h1.get? a = some o -> h2.get? a = some o) -> φ h2
def HOk (H : Hp) (h : Heap) : Prop := ∀ a o, H a = some o -> ObjOk P w H h a o
end
section
variable {P : Program} {w : World} {H H' : Hp} {h h' : Heap} {a : Addr} {o : HO}
theorem ObjOk.lt (x : ObjOk P w H h a o) : a < h.objs.size := by
 cases o with
 | lst xs => obtain ⟨_, _, _, _, e⟩ := x; exact Heap.lt_size e
 | tup xs => obtain ⟨_, _, _, p⟩ := x; exact p.lt
 | dK kvs => obtain ⟨_, _, _, _, o, _, _, e, _⟩ := x; exact Heap.lt_size e
 | dT kvs => obtain ⟨_, _, _, _, o, _, _, e, _⟩ := x; exact Heap.lt_size e
 | set S n => obtain ⟨o, _, _, _, e, _⟩ := x; exact Heap.lt_size e
 | ins C dx fs => obtain ⟨_, _, _, e, _⟩ := x; exact Heap.lt_size e
 | own y => obtain ⟨_, e⟩ := x; exact Heap.lt_size e
 | xd fs => obtain ⟨_, ⟨_, _, _, e, _⟩, _⟩ := x; exact Heap.lt_size e
 | rng lo hi => obtain ⟨_, _, _, e⟩ := x; exact Heap.lt_size e
 | frz ob u => obtain ⟨e, _⟩ := x; exact Heap.lt_size e
 | tbl ps => exact Heap.lt_size (show h.get? a = some _ from x)
 | met f y => exact Heap.lt_size (show h.get? a = some _ from x)
 | ext φ => obtain ⟨_, ⟨_, e⟩, _⟩ := x; exact Heap.lt_size e
theorem Paired.mapP {α β : Type} {F G : α -> β -> Prop} : ∀ {l₁ : List α} {l₂ : List β}, Paired F l₁ l₂ -> (∀ a b, F a b -> G a b) -> Paired G l₁ l₂
 | _, _, .nil, _ => .nil
 | _, _, .cons r t, f => .cons (f _ _ r) (Paired.mapP t f)
theorem ObjOk.stay (x : ObjOk P w H h a o) (k : ∀ b u, (b = a \/ H b = some (.own a)) -> h.get? b = some u -> h'.get? b = some u)
   (ho : ∀ b, H b = some (.own a) -> H' b = some (.own a)) (ht : ∀ b xs, H b = some (.tup xs) -> H' b = some (.tup xs)) : ObjOk P w H' h' a o := by
 induction o with
 | lst xs => obtain ⟨z, its, n, r, e⟩ := x; exact ⟨z, its, n, r, k _ _ (.inl rfl) e⟩
 | tup xs => obtain ⟨z, its, r, ob, e, c⟩ := x; exact ⟨z, its, r, ob, k _ _ (.inl rfl) e, c⟩
 | dK kvs => obtain ⟨z, y, vs, r, ob, es, ep, e, c⟩ := x; exact ⟨z, y, vs, r, ob, es, ep, k _ _ (.inl rfl) e, c⟩
 | dT kvs =>
   obtain ⟨z, y, xs, r, ob, es, ep, e, c⟩ := x
   exact ⟨z, y, xs, Paired.mapP r fun p q z => ⟨z.1, ht _ _ z.2.1, z.2.2⟩, ob, es, ep, k _ _ (.inl rfl) e, c⟩
 | set S n => obtain ⟨ob, es, ep, t, e, c⟩ := x; exact ⟨ob, es, ep, t, k _ _ (.inl rfl) e, c⟩
 | ins C dx fs =>
   obtain ⟨d, z, ne, e, mA, ⟨od, es, ep, e2, c⟩, r⟩ := x
   exact ⟨ho _ d, z, ne, k _ _ (.inl rfl) e, mA, ⟨od, es, ep, k _ _ (.inr d) e2, c⟩, r⟩
 | own y => obtain ⟨ob, e⟩ := x; exact ⟨ob, k _ _ (.inl rfl) e⟩
 | xd fs => obtain ⟨mA, ⟨od, es, ep, e, c⟩, r⟩ := x; exact ⟨mA, ⟨od, es, ep, k _ _ (.inl rfl) e, c⟩, r⟩
 | rng lo hi => obtain ⟨t, u, v, e⟩ := x; exact ⟨t, u, v, k _ _ (.inl rfl) e⟩
 | frz ob u ih => obtain ⟨e, q⟩ := x; exact ⟨k _ _ (.inl rfl) e, ih q⟩
 | tbl ps =>
   have e : h.get? a = some { cls := .none, data := .fields ps } := x
   show h'.get? a = some { cls := .none, data := .fields ps }
   exact k a _ (.inl rfl) e
 | met f y =>
   have e : h.get? a = some (PySem.W.methodObj (.ref f) (.ref y)) := x
   show h'.get? a = some (PySem.W.methodObj (.ref f) (.ref y))
   exact k a _ (.inl rfl) e
 | ext φ => obtain ⟨p, ⟨o, e⟩, st⟩ := x; exact ⟨st _ _ p fun o q => k _ _ (.inl rfl) q, ⟨o, k _ _ (.inl rfl) e⟩, st⟩
theorem HOk.lt (x : HOk P w H h) (e : H a = some o) : a < h.objs.size := (x a o e).lt
theorem HOk.fresh (x : HOk P w H h) (e : h.objs.size <= a) : H a = none := by
 cases q : H a with
 | none => rfl
 | some u => exact absurd (Nat.lt_of_lt_of_le (x.lt q) e) (Nat.lt_irrefl _)
theorem HOk.kept (x : HOk P w H h) (k : ∀ b u, h.get? b = some u -> h'.get? b = some u) : HOk P w H h' := fun a o e =>
 (x a o e).stay (fun b u _ q => k b u q) (fun _ q => q) fun _ _ q => q
theorem HOk.laid (x : HOk P w H h) (k : ∀ b u, h.get? b = some u -> h'.get? b = some u) (hp : h.objs.size <= a) (new : ObjOk P w (upd H a o) h' a o) : HOk P w (upd H a o) h' := fun b u e => by
 have hn := x.fresh hp
 by_cases hb : b = a
 . subst hb; rw [a0p] at e; cases e; exact new
 . rw [a0l hb] at e
   exact (x b u e).stay (fun c v _ q => k c v q) (fun c q => by rw [a0l (a2g q hn)]; exact q) fun c xs q => by rw [a0l (a2g q hn)]; exact q
end
def Rd (H : Hp) (a : Addr) (u : HO) : Prop := H a = some u \/ ∃ o, H a = some (.frz o u)
theorem Rd.of {H : Hp} {a : Addr} {u : HO} (h : H a = some u) : Rd H a u := .inl h
theorem Rd.ok {P : Program} {w : World} {H : Hp} {h : Heap} {a : Addr} {u : HO} (r : Rd H a u) (x : HOk P w H h) : ObjOk P w H h a u := by
 rcases r with r | ⟨o, r⟩
 . exact x a u r
 . obtain ⟨_, q⟩ := x a _ r
   exact q
def Mut : Option HO -> Prop
 | some (.lst _) => True
 | some (.dK _) => True
 | some (.dT _) => True
 | some (.set _ _) => True
 | some (.ins _ _ _) => True
 | some (.ext _) => True
 | _ => False
section
variable {P : Program} {w : World} {H : Hp} {h h' : Heap} {x e : Addr} {o' : HO}
theorem HOk.write (ok : HOk P w H h) (mu : Mut (H x)) (he : e = x \/ H e = some (.own x)) (k : ∀ b u, b ≠ e -> h.get? b = some u -> h'.get? b = some u) (heo : ∃ u, h'.get? e = some u)
   (new : ObjOk P w (upd H x o') h' x o') : HOk P w (upd H x o') h' := fun b u q => by
 have nown : ∀ c y, H c = some (.own y) -> c ≠ x := fun c y r z => by subst z; rw [r] at mu; exact mu
 have ntup : ∀ c xs, H c = some (.tup xs) -> c ≠ x := fun c xs r z => by subst z; rw [r] at mu; exact mu
 by_cases hb : b = x
 . subst hb; rw [a0p] at q; cases q; exact new
 . rw [a0l hb] at q
   by_cases hbe : b = e
   . have q' : H b = some (.own x) := by
       rcases he with z | z
       . exact absurd (hbe.trans z) hb
       . rw [hbe]; exact z
     rw [q] at q'; cases q'
     obtain ⟨v, hv⟩ := heo
     exact ⟨v, by rw [hbe]; exact hv⟩
   . refine (ok b u q).stay (fun c v hc r => k c v ?_ r) (fun c r => by rw [a0l (nown c b r)]; exact r) fun c xs r => by rw [a0l (ntup c xs r)]; exact r
     rcases hc with rfl | hc
     . exact hbe
     . rintro rfl
       rcases he with z | z
       . exact nown c b hc z
       . rw [hc] at z; cases z; exact hb rfl
end
structure Un (fs ex : List Addr) (H H' : Hp) (h h' : Heap) : Prop where
 keep : ∀ b o, h.get? b = some o -> H b = none -> b ∉ fs -> b ∉ ex -> h'.get? b = some o
 slot : ∀ b o, h.get? b = some o -> H b = none -> b ∈ fs -> b ∉ ex -> ∃ sl, h'.get? b = some { o with slots := sl }
 free : ∀ b o, h.get? b = some o -> H b = none -> b ∉ ex -> H' b = none
 there : ∀ b o, h.get? b = some o -> b ∉ ex -> ∃ o', h'.get? b = some o'
 tups : ∀ b xs, H b = some (.tup xs) -> H' b = some (.tup xs)
 frzs : ∀ b o u, H b = some (.frz o u) -> H' b = some (.frz o u)
 tbls : ∀ b ps, H b = some (.tbl ps) -> ∃ more, H' b = some (.tbl (ps ++ more))
section
variable {fs fs' ex ex' : List Addr} {H H1 H2 : Hp} {h h1 h2 h' : Heap} {a x e : Addr} {o : HO}
theorem Un.any (u : Un fs ex H H1 h h1) {b : Addr} {ob : Obj} (q : h.get? b = some ob) (n : H b = none) (hx : b ∉ ex) : ∃ sl, h1.get? b = some { ob with slots := sl } := by
 by_cases hb : b ∈ fs
 . exact u.slot b ob q n hb hx
 . exact ⟨ob.slots, u.keep b ob q n hb hx⟩
theorem Un.kept (k : ∀ b u, h.get? b = some u -> h'.get? b = some u) : Un fs ex H H h h' :=
 ⟨fun b ob q _ _ _ => k b ob q, fun b ob q _ _ _ => ⟨ob.slots, k b ob q⟩, fun _ _ _ n _ => n, fun b ob q _ => ⟨ob, k b ob q⟩, fun _ _ q => q, fun _ _ _ q => q, fun _ ps q => ⟨#[], by rw [q]; simp⟩⟩
theorem Un.refl : Un fs ex H H h h := Un.kept fun _ _ q => q
theorem Un.laid (k : ∀ b u, h.get? b = some u -> h'.get? b = some u) (hp : h.objs.size <= a) (hn : H a = none) : Un fs ex H (upd H a o) h h' where
 keep := fun b u q _ _ _ => k b u q
 slot := fun b u q _ _ _ => ⟨u.slots, k b u q⟩
 free := fun b u q n _ => by rw [a0l (Nat.ne_of_lt (Nat.lt_of_lt_of_le (Heap.lt_size q) hp))]; exact n
 there := fun b u q _ => ⟨u, k b u q⟩
 tups := fun b xs q => by rw [a0l (a2g q hn)]; exact q
 frzs := fun b u xs q => by rw [a0l (a2g q hn)]; exact q
 tbls := fun b ps q => ⟨#[], by rw [a0l (a2g q hn), q]; simp⟩
theorem Un.write (mu : Mut (H x)) (he : e = x \/ H e = some (.own x)) (k : ∀ b u, b ≠ e -> h.get? b = some u -> h'.get? b = some u) (heo : ∃ u, h'.get? e = some u) : Un fs ex H (upd H x o) h h' := by
 have hx : ∀ b, H b = none -> b ≠ x := fun b n z => by subst z; rw [n] at mu; exact mu
 have hb : ∀ b, H b = none -> b ≠ e := fun b n z => by
   subst z
   rcases he with r | r
   . exact hx b n r
   . rw [n] at r; cases r
 have hm : ∀ b u, H b = some u -> ¬ Mut (some u) -> b ≠ x := fun b u q nm z => by subst z; rw [q] at mu; exact nm mu
 refine ⟨fun b u q n _ _ => k b u (hb b n) q, fun b u q n _ _ => ⟨u.slots, k b u (hb b n) q⟩, fun b u q n _ => by rw [a0l (hx b n)]; exact n, fun b u q _ => ?_,
   fun b xs q => by rw [a0l (hm b _ q fun z => z)]; exact q, fun b u xs q => by rw [a0l (hm b _ q fun z => z)]; exact q, fun b ps q => ⟨#[], by rw [a0l (hm b _ q fun z => z), q]; simp⟩⟩
 by_cases hbe : b = e
 . subst hbe; exact heo
 . exact ⟨u, k b u hbe q⟩
end
noncomputable def trk (h : Heap) (H : Hp) : List Addr := (List.range h.objs.size).filter fun a => (H a).isSome
noncomputable def hidT (h : Heap) (H : Hp) : Heap := PySem.W.hideAll h (trk h H)
theorem b44 (h : Heap) (H : Hp) : (hidT h H).objs.size = h.objs.size := PySem.W.hideAll_size _ _
theorem b1w {h : Heap} {H : Hp} {b : Addr} {o : Obj} (e : h.get? b = some o) (n : H b = none) : (hidT h H).get? b = some o :=
 PySem.W.hideAll_get _ e fun hm => by
   have q : (H b).isSome = true := (List.mem_filter.mp hm).2
   rw [n] at q; simp at q
theorem of_hidT {h : Heap} {H : Hp} {b : Addr} {o : Obj} (e : (hidT h H).get? b = some o) : h.get? b = some o /\ H b = none := by
 have e' : h.get? b = some o := PySem.W.of_hideAll (trk h H) e
 refine ⟨e', ?_⟩
 cases q : H b with
 | none => rfl
 | some x =>
   have hm : b ∈ trk h H := List.mem_filter.mpr ⟨List.mem_range.mpr (Heap.lt_size e'), by simp [q]⟩
   have z : (hidT h H).get? b = none := PySem.W.hideAll_none (trk h H) hm
   rw [z] at e; cases e
noncomputable def allNews (g h : Heap) (L : Addr) : List (Addr × Obj) := (List.range h.objs.size).filterMap fun a => if a = L \/ (g.get? a).isSome = true then none else (h.get? a).map fun o => (a, o)
noncomputable def rest (g h : Heap) (L d : Addr) : List (Addr × Obj) := (allNews g h L).filter fun p => decide (p.1 ≠ d)
structure Mod (K : PySem.W.Frag) (mg : Str -> Option Value) (base : Heap) : Prop where
 kin : K.In base
 glob : base.Ns mainGlobals mg
 blt : ∃ mb, base.Ns builtinsNs mb /\ ∀ x : Str, x ≠ "__name__" -> mb x = bootBuiltins x
 nolimit : base.NoLimit
structure Cx where
 prog : Program
 w : World
 K : PySem.W.Frag
 mg : Str -> Option Value
 base : Heap
 A : Around
 N : List Str
 s₀ : Shared
 H₀ : Hp
 env : Env
 outer : List Env
 stack : List Env
 ex : List Addr
 fn : Str -> Bool
 calm : Bool
 pn : List (Addr × Obj)
 xe : Value -> Shared -> Prop
noncomputable def frs (l : List Env) : List Addr := l.filterMap (·.frame)
noncomputable abbrev Cx.fs (X : Cx) : List Addr := frs X.outer
def Vis (sc : Scope) (x : Str) : Prop := sc.names.lookup x = some .local \/ sc.names.lookup x = some .cell \/ sc.names.lookup x = some .free
def Loc (sc : Scope) (x : Str) : Prop := sc.names.lookup x = some .local \/ sc.names.lookup x = some .cell
def Look (env : Env) (h : Heap) (m : Str -> Option Value) (x : Str) (u : Value) : Prop :=
 (env.kindOf x = some .local /\ m x = some u) \/ ((env.kindOf x = some .cell \/ env.kindOf x = some .free) /\ ∃ c, env.cells.lookup x = some c /\ h.IsCell c (some u))
structure Cx.Ok (X : Cx) : Prop where
 mod : Mod X.K X.mg X.base
 kind : X.env.scope.kind = .function
 glob : X.env.globals = mainGlobals
 blt : X.env.builtins = builtinsNs
 above : X.s₀.heap.objs.size <= X.env.locals
 inj : ∀ x y c, X.env.cells.lookup x = some c -> X.env.cells.lookup y = some c -> x = y
 has : ∀ x, (X.env.kindOf x = some .cell \/ X.env.kindOf x = some .free) -> ∃ c, X.env.cells.lookup x = some c
 cab : ∀ x c, X.fn x = true -> X.env.cells.lookup x = some c -> X.s₀.heap.objs.size <= c
 hd : X.calm = true -> X.A.handled = none
 frames : X.A.frames = some X.stack
 stk : X.stack = X.outer \/ (X.stack = X.env :: X.outer /\ X.env.frame = some X.env.locals)
 exf : ∀ b ∈ X.ex, b ≠ X.env.locals /\ ∀ x c, X.env.cells.lookup x = some c -> c ≠ b
 bs : ∀ b o, X.base.get? b = some o -> X.s₀.heap.get? b = some o /\ X.H₀ b = none
 bsz : X.base.objs.size <= X.s₀.heap.objs.size
 noex : ∀ b o, X.base.get? b = some o -> b ∉ X.ex
 exfs : ∀ b ∈ X.ex, b ∉ X.fs
 funs : X.s₀.heap.FunFrames X.base X.outer
 frf : ∀ b ∈ X.fs, X.H₀ b = none
structure Inv (X : Cx) (pins : List (Addr × Obj)) (σ : List (Option V)) (H : Hp) (s : Shared) : Prop where
 ok : X.Ok
 os : s.os = X.s₀.os
 bare : AllBare s.gens
 base : Un X.fs X.ex X.H₀ H X.s₀.heap s.heap
 loc : ∃ m, s.heap.Ns X.env.locals m /\ ∀ (i : Nat) (x : Str) (v : V), X.N[i]? = some x -> σ[i]? = some (some v) -> Vis X.env.scope x -> ∃ u, RelV v u /\ Look X.env s.heap m x u
 cell : ∀ x c, X.env.cells.lookup x = some c -> ∃ v, s.heap.IsCell c v
 free : H X.env.locals = none
 freeC : ∀ x c, X.env.cells.lookup x = some c -> H c = none
 pin : ∀ p ∈ X.pn ++ pins, s.heap.get? p.1 = some p.2 /\ H p.1 = none /\ p.1 ≠ X.env.locals /\ p.1 ∉ X.fs /\ ∀ v, p.2.data ≠ .cell v
 hok : HOk X.prog X.w H s.heap
 len : σ.length = X.N.length
section
variable {X : Cx} {pins : List (Addr × Obj)} {σ : List (Option V)} {H H' : Hp} {s : Shared} {h' : Heap}
theorem Cx.Ok.nofr (ok : X.Ok) {b : Addr} {o : Obj} (e : X.base.get? b = some o) : b ∉ X.fs := fun hb => by
 have := (ok.funs.mem hb).1
 rw [e] at this; cases this
theorem Inv.bs (I : Inv X pins σ H s) : ∀ b o, X.base.get? b = some o -> s.heap.get? b = some o /\ H b = none := fun b o e =>
 ⟨I.base.keep b o (I.ok.bs b o e).1 (I.ok.bs b o e).2 (I.ok.nofr e) (I.ok.noex b o e), I.base.free b o (I.ok.bs b o e).1 (I.ok.bs b o e).2 (I.ok.noex b o e)⟩
theorem Inv.bk (I : Inv X pins σ H s) : ∀ b o, X.base.get? b = some o -> s.heap.get? b = some o := fun b o e => (I.bs b o e).1
theorem Inv.mod (I : Inv X pins σ H s) : Mod X.K X.mg X.base := I.ok.mod
theorem Inv.kIn (I : Inv X pins σ H s) : X.K.In s.heap := I.ok.mod.kin.keeps I.bk
theorem Inv.nolimit (I : Inv X pins σ H s) : s.heap.NoLimit := I.ok.mod.nolimit.keeps I.bk
theorem Inv.lt (I : Inv X pins σ H s) : X.env.locals < s.heap.objs.size := let ⟨_, hn, _⟩ := I.loc; hn.lt
theorem Inv.sz (I : Inv X pins σ H s) : X.s₀.heap.objs.size <= s.heap.objs.size := Nat.le_trans I.ok.above (Nat.le_of_lt I.lt)
theorem Inv.nofs (I : Inv X pins σ H s) {a : Addr} (h : s.heap.objs.size <= a) : a ∉ X.fs := fun hb => by
 obtain ⟨_, o, ho, _⟩ := I.ok.funs.mem hb
 exact absurd (Nat.lt_of_lt_of_le (Heap.lt_size ho) (Nat.le_trans I.sz h)) (Nat.lt_irrefl _)
theorem Inv.cne (I : Inv X pins σ H s) : ∀ x c, X.env.cells.lookup x = some c -> c ≠ X.env.locals := fun x c e z => by
 obtain ⟨v, o, ho, hd⟩ := I.cell x c e
 obtain ⟨m, ⟨o', es, ep, ho', hd', _⟩, _⟩ := I.loc
 rw [z, ho'] at ho; cases ho; rw [hd'] at hd; cases hd
theorem Inv.funs (I : Inv X pins σ H s) : s.heap.FunFrames X.base X.outer := by
 have all : ∀ (l : List Env), (∀ b ∈ frs l, b ∈ X.fs) -> X.s₀.heap.FunFrames X.base l -> s.heap.FunFrames X.base l := by
   intro l
   induction l with
   | nil => intro _ _; trivial
   | cons env r ih =>
     intro hs hl
     obtain ⟨hk, ⟨L, o, hf, hn, ho, hd⟩, hr⟩ := hl
     have hL : L ∈ X.fs := hs L (by unfold frs; rw [List.filterMap_cons, hf]; exact List.mem_cons_self)
     obtain ⟨sl, e⟩ := I.base.slot L o ho (I.ok.frf L hL) hL fun z => I.ok.exfs L z hL
     exact ⟨hk, ⟨L, _, hf, hn, e, hd⟩, ih (fun b hb => hs b (by unfold frs; rw [List.filterMap_cons, hf]; exact List.mem_cons_of_mem _ hb)) hr⟩
 exact all X.outer (fun _ hb => hb) I.ok.funs
theorem Inv.stack (I : Inv X pins σ H s) : s.heap.FunFrames X.base X.stack := by
 rcases I.ok.stk with e | ⟨e, hf⟩
 . rw [e]; exact I.funs
 . rw [e]
   obtain ⟨m, hn, _⟩ := I.loc
   refine .cons (by rw [I.ok.kind]; decide) hf hn ?_ I.funs
   exact Heap.get?_none_of_le (Nat.le_trans I.ok.bsz I.ok.above)
theorem Inv.stkSub (I : Inv X pins σ H s) : ∀ b ∈ frs X.stack, b ∈ X.env.locals :: X.fs := fun b hb => by
 rcases I.ok.stk with e | ⟨e, hf⟩
 . rw [e] at hb; exact List.mem_cons_of_mem _ hb
 . rw [e] at hb
   unfold frs at hb
   rw [List.filterMap_cons, hf] at hb
   exact hb
theorem Inv.stkFree (I : Inv X pins σ H s) : ∀ b ∈ frs X.stack, H b = none := fun b hb => by
 rcases List.mem_cons.mp (I.stkSub b hb) with e | hb
 . rw [e]; exact I.free
 . obtain ⟨_, o, ho, _⟩ := I.ok.funs.mem hb
   exact I.base.free b o ho (I.ok.frf b hb) fun z => I.ok.exfs b z hb
theorem Inv.step {g' : Array GenState} {t' : Nat} {d' : Drawn} {ch : List Addr} (I : Inv X pins σ H s)
   (hch : ∀ b ∈ ch, (b ∈ X.ex \/ X.s₀.heap.objs.size <= b) /\ b ≠ X.env.locals /\ (∀ x c, X.env.cells.lookup x = some c -> c ≠ b) /\ ∀ p ∈ X.pn ++ pins, p.1 ≠ b)
   (keep : ∀ b o, b ≠ X.env.locals -> b ∉ X.fs -> b ∉ ch -> s.heap.get? b = some o -> H b = none -> h'.get? b = some o)
   (slot : ∀ b o, b ≠ X.env.locals -> b ∈ X.fs -> b ∉ ch -> s.heap.get? b = some o -> H b = none -> ∃ sl, h'.get? b = some { o with slots := sl }) (free : ∀ b o, b ∉ ch -> s.heap.get? b = some o -> H b = none -> H' b = none)
   (there : ∀ b o, b ∉ ch -> s.heap.get? b = some o -> ∃ o', h'.get? b = some o')
   (tups : ∀ b xs, H b = some (.tup xs) -> H' b = some (.tup xs)) (frzs : ∀ b o u, H b = some (.frz o u) -> H' b = some (.frz o u)) (tbls : ∀ b ps, H b = some (.tbl ps) -> ∃ more, H' b = some (.tbl (ps ++ more)))
   (ns : ∀ m, s.heap.Ns X.env.locals m -> h'.Ns X.env.locals m) (hok : HOk X.prog X.w H' h') (hg : AllBare g') :
   Inv X pins σ H' { s with heap := h', gens := g', drawn := d', toks := t' } := by
 have neL : ∀ b o, X.s₀.heap.get? b = some o -> b ≠ X.env.locals := fun b o e => Nat.ne_of_lt (Nat.lt_of_lt_of_le (Heap.lt_size e) I.ok.above)
 have neC : ∀ b o, X.s₀.heap.get? b = some o -> b ∉ X.ex -> b ∉ ch := fun b o e hx hb => by
   rcases (hch b hb).1 with z | z
   . exact hx z
   . exact absurd (Nat.lt_of_lt_of_le (Heap.lt_size e) z) (Nat.lt_irrefl _)
 have cellK : ∀ x c, X.env.cells.lookup x = some c -> ∀ v, s.heap.IsCell c v -> h'.IsCell c v := fun x c e v ⟨o, ho, hd⟩ => by
   have nch : c ∉ ch := fun z => (hch c z).2.2.1 x c e rfl
   by_cases hc : c ∈ X.fs
   . obtain ⟨sl, q⟩ := slot c o (I.cne x c e) hc nch ho (I.freeC x c e)
     exact ⟨_, q, hd⟩
   . exact ⟨o, keep c o (I.cne x c e) hc nch ho (I.freeC x c e), hd⟩
 refine ⟨I.ok, I.os, hg, ⟨fun b o e n hb hx => ?_, fun b o e n hb hx => ?_, fun b o e n hx => ?_, fun b o e hx => ?_, fun b xs e => tups b xs (I.base.tups b xs e), fun b o xs e => frzs b o xs (I.base.frzs b o xs e), fun b ps e => ?_⟩, ?_, fun x c e => ?_, ?_, fun x c e => ?_, fun p hp => ?_, hok, I.len⟩
 . exact keep b o (neL b o e) hb (neC b o e hx) (I.base.keep b o e n hb hx) (I.base.free b o e n hx)
 . obtain ⟨sl, e1⟩ := I.base.slot b o e n hb hx
   obtain ⟨sl', e2⟩ := slot b _ (neL b o e) hb (neC b o e hx) e1 (I.base.free b o e n hx)
   exact ⟨sl', e2⟩
 . obtain ⟨o', e1⟩ := I.base.there b o e hx
   exact free b o' (neC b o e hx) e1 (I.base.free b o e n hx)
 . obtain ⟨o', e1⟩ := I.base.there b o e hx
   exact there b o' (neC b o e hx) e1
 . obtain ⟨m1, e1⟩ := I.base.tbls b ps e
   obtain ⟨m2, e2⟩ := tbls b _ e1
   exact ⟨m1 ++ m2, by rw [e2, Array.append_assoc]⟩
 . obtain ⟨m, hn, hl⟩ := I.loc
   refine ⟨m, ns m hn, fun i x v e1 e2 e3 => ?_⟩
   obtain ⟨u, r, l⟩ := hl i x v e1 e2 e3
   refine ⟨u, r, ?_⟩
   rcases l with l | ⟨k, c, e, z⟩
   . exact .inl l
   . exact .inr ⟨k, c, e, cellK x c e _ z⟩
 . obtain ⟨v, z⟩ := I.cell x c e
   exact ⟨v, cellK x c e v z⟩
 . obtain ⟨m, ⟨o, _, _, ho, _⟩, _⟩ := I.loc
   exact free _ o (fun z => (hch _ z).2.1 rfl) ho I.free
 . obtain ⟨v, o, ho, hd⟩ := I.cell x c e
   exact free c o (fun z => (hch c z).2.2.1 x c e rfl) ho (I.freeC x c e)
 . obtain ⟨e, n, ne, nf, d⟩ := I.pin p hp
   have nch : p.1 ∉ ch := fun z => (hch p.1 z).2.2.2 p hp rfl
   exact ⟨keep p.1 p.2 ne nf nch e n, free p.1 p.2 nch e n, ne, nf, d⟩
theorem Inv.un {t' : Nat} (I : Inv X pins σ H s) (u : Un X.fs [] H H' s.heap h') (hok : HOk X.prog X.w H' h') : Inv X pins σ H' { s with heap := h', toks := t' } := by
 obtain ⟨m, ⟨o, es, ep, ho, r⟩, _⟩ := id I.loc
 obtain ⟨sl, hL⟩ := u.any ho I.free (by simp)
 exact I.step (g' := s.gens) (d' := s.drawn) (ch := []) (fun _ z => nomatch z) (fun b o _ hb _ e n => u.keep b o e n hb (by simp)) (fun b o _ hb _ e n => u.slot b o e n hb (by simp)) (fun b o _ e n => u.free b o e n (by simp)) (fun b o _ e => u.there b o e (by simp)) u.tups u.frzs u.tbls (fun m' hm => by
   obtain ⟨o', es', ep', ho', r'⟩ := hm
   rw [ho] at ho'; cases ho'
   exact ⟨_, es', ep', hL, r'⟩) hok I.bare
theorem Inv.call {g' : Array GenState} {t' : Nat} {d' : Drawn} {ch : List Addr} (I : Inv X pins σ H s) (u : Un (frs X.stack) ch H H' s.heap h') (hok : HOk X.prog X.w H' h') (hg : AllBare g')
   (hch : ∀ b ∈ ch, (b ∈ X.ex \/ X.s₀.heap.objs.size <= b) /\ b ≠ X.env.locals /\ (∀ x c, X.env.cells.lookup x = some c -> c ≠ b) /\ ∀ p ∈ X.pn ++ pins, p.1 ≠ b) :
   Inv X pins σ H' { s with heap := h', gens := g', drawn := d', toks := t' } := by
 obtain ⟨m, ⟨o, es, ep, ho, r⟩, _⟩ := id I.loc
 obtain ⟨sl, hL⟩ := u.any ho I.free fun z => (hch _ z).2.1 rfl
 exact I.step (ch := ch) hch (fun b o hL hb hc e n => u.keep b o e n (fun z => (List.mem_cons.mp (I.stkSub b z)).elim hL hb) hc) (fun b o _ _ hc e n => u.any e n hc) (fun b o hc e n => u.free b o e n hc) (fun b o hc e => u.there b o e hc) u.tups u.frzs u.tbls (fun m' hm => by
   obtain ⟨o', es', ep', ho', r'⟩ := hm
   rw [ho] at ho'; cases ho'
   exact ⟨_, es', ep', hL, r'⟩) hok hg
theorem Inv.turned {t' : Nat} {it : Addr} (I : Inv X pins σ H s) (k : ∀ b o, b ≠ it -> s.heap.get? b = some o -> h'.get? b = some o) (hn : H it = none) (hL : it ≠ X.env.locals)
   (h1 : it ∈ X.ex \/ X.s₀.heap.objs.size <= it) (h2 : ∀ x c, X.env.cells.lookup x = some c -> c ≠ it) (h3 : ∀ p ∈ X.pn ++ pins, p.1 ≠ it) : Inv X pins σ H { s with heap := h', toks := t' } := by
 have nit : ∀ b u, H b = some u -> b ≠ it := fun b u e z => by rw [z, hn] at e; cases e
 refine I.step (g' := s.gens) (d' := s.drawn) (ch := [it]) (fun b hb => ?_) (fun b o _ _ hc e _ => k b o (fun z => hc (by simp [z])) e) (fun b o _ _ hc e _ => ⟨o.slots, k b o (fun z => hc (by simp [z])) e⟩) (fun _ _ _ _ n => n)
   (fun b o hc e => ⟨o, k b o (fun z => hc (by simp [z])) e⟩) (fun _ _ e => e) (fun _ _ _ e => e) (fun b ps e => ⟨#[], by rw [e]; simp⟩) (fun m hm => ?_) (fun b u e => ?_) I.bare
 . have e : b = it := by simpa using hb
   subst e
   exact ⟨h1, hL, h2, h3⟩
 . obtain ⟨o, es, ep, ho, r⟩ := hm
   exact ⟨o, es, ep, k _ o (Ne.symm hL) ho, r⟩
 . refine (I.hok b u e).stay (fun c v hc q => k c v ?_ q) (fun _ q => q) fun _ _ q => q
   rcases hc with z | z
   . rw [z]; exact nit b u e
   . exact nit c _ z
theorem Inv.tok (I : Inv X pins σ H s) (t : Nat) : Inv X pins σ H { s with toks := t } := I.un (h' := s.heap) (t' := t) Un.refl I.hok
theorem Inv.kept {t' : Nat} (I : Inv X pins σ H s) (k : ∀ b u, s.heap.get? b = some u -> h'.get? b = some u) : Inv X pins σ H { s with heap := h', toks := t' } := I.un (Un.kept k) (I.hok.kept k)
theorem Inv.laid {a : Addr} {o : HO} {t' : Nat} (I : Inv X pins σ H s) (k : ∀ b u, s.heap.get? b = some u -> h'.get? b = some u) (hp : s.heap.objs.size <= a) (new : ObjOk X.prog X.w (upd H a o) h' a o) :
   Inv X pins σ (upd H a o) { s with heap := h', toks := t' } := I.un (Un.laid k hp (I.hok.fresh hp)) (I.hok.laid k hp new)
theorem Inv.write {x e : Addr} {o : HO} {t' : Nat} (I : Inv X pins σ H s) (mu : Mut (H x)) (he : e = x \/ H e = some (.own x)) (k : ∀ b u, b ≠ e -> s.heap.get? b = some u -> h'.get? b = some u) (heo : ∃ u, h'.get? e = some u)
   (new : ObjOk X.prog X.w (upd H x o) h' x o) : Inv X pins σ (upd H x o) { s with heap := h', toks := t' } := I.un (Un.write mu he k heo) (I.hok.write mu he k heo new)
theorem Inv.pins_of {pins' : List (Addr × Obj)} (I : Inv X pins σ H s) (h : ∀ p ∈ pins', s.heap.get? p.1 = some p.2 /\ H p.1 = none /\ p.1 ≠ X.env.locals /\ p.1 ∉ X.fs /\ ∀ v, p.2.data ≠ .cell v) : Inv X pins' σ H s :=
 ⟨I.ok, I.os, I.bare, I.base, I.loc, I.cell, I.free, I.freeC, fun p hp => (List.mem_append.mp hp).elim (fun z => I.pin p (List.mem_append_left _ z)) (h p), I.hok, I.len⟩
theorem a74 {N : List Str} (hN : N.Nodup) {i j : Nat} {x : Str} (a : N[i]? = some x) (b : N[j]? = some x) : i = j := by
 obtain ⟨h1, e1⟩ := List.getElem?_eq_some_iff.mp a
 obtain ⟨h2, e2⟩ := List.getElem?_eq_some_iff.mp b
 exact (List.getElem_inj hN).mp (e1.trans e2.symm)
theorem a8q {M : Model} {A : Around} {E : Value -> Shared -> Prop} {i : Nat} {x : Str} {v : V} {u : Value} {Q : Unit -> Shared -> Prop} (I : Inv X pins σ H s) (hN : X.N.Nodup) (hi : X.N[i]? = some x) (hx : Loc X.env.scope x) (r : RelV v u)
   (h : ∀ s', Inv X pins (σ.set i (some v)) H s' -> (∃ a, Heap.SameBut a s.heap s'.heap /\ (a = X.env.locals \/ X.env.cells.lookup x = some a)) -> Q () s') (hf : X.fn x = true \/ X.env.scope.names.lookup x = some .local := by first | exact .inl rfl | exact .inr rfl | assumption) : wpAny M A (storeName X.env x u) Q E s := by
 obtain ⟨m, hn, hl⟩ := id I.loc
 have hcls : (X.env.scope.kind == .class || (X.env.scope.kind == .module && X.env.locals != X.env.globals)) = false := by rw [I.ok.kind]; rfl
 have hiσ : i < σ.length := by rw [I.len]; exact (List.getElem?_eq_some_iff.mp hi).1
 have cne := I.cne
 have tracked : ∀ {a : Addr} {h' : Heap}, (∃ o, s.heap.get? a = some o /\ H a = none) -> Heap.SameBut a s.heap h' -> HOk X.prog X.w H h' := fun {a h'} ha hs b ob e => by
   obtain ⟨_, _, hfree⟩ := ha
   refine (I.hok b ob e).stay (fun c w' hc q => (hs.2 c ?_).trans q) (fun _ q => q) fun _ _ q => q
   rintro rfl
   rcases hc with rfl | hc
   . rw [hfree] at e; cases e
   . rw [hfree] at hc; cases hc
 rcases hx with hk | hk
 . refine wpAny_storeName_local hk hn (fun h' hn' hs => ?_) hcls
   obtain ⟨oL, _, _, hoL, _⟩ := id hn
   refine h _ ⟨I.ok, I.os, I.bare, ⟨fun b o e n hb hx => ?_, fun b o e n hb hx => ?_, I.base.free, fun b o e hx => ?_, I.base.tups, I.base.frzs, I.base.tbls⟩, ⟨_, hn', fun j y v' e1 e2 e3 => ?_⟩, fun y c e => ?_, I.free, I.freeC, fun p hp => ?_, tracked ⟨oL, hoL, I.free⟩ hs, by simpa using I.len⟩ ⟨_, hs, .inl rfl⟩
   . exact (hs.2 b (Nat.ne_of_lt (Nat.lt_of_lt_of_le (Heap.lt_size e) I.ok.above))).trans (I.base.keep b o e n hb hx)
   . obtain ⟨sl, e1⟩ := I.base.slot b o e n hb hx
     exact ⟨sl, (hs.2 b (Nat.ne_of_lt (Nat.lt_of_lt_of_le (Heap.lt_size e) I.ok.above))).trans e1⟩
   . obtain ⟨o', e1⟩ := I.base.there b o e hx
     exact ⟨o', (hs.2 b (Nat.ne_of_lt (Nat.lt_of_lt_of_le (Heap.lt_size e) I.ok.above))).trans e1⟩
   . by_cases hj : j = i
     . subst hj
       rw [hi] at e1; cases e1
       rw [List.getElem?_set_self hiσ] at e2
       cases e2
       exact ⟨u, r, .inl ⟨hk, by simp⟩⟩
     . rw [List.getElem?_set_ne (Ne.symm hj)] at e2
       obtain ⟨u', r', q⟩ := hl j y v' e1 e2 e3
       refine ⟨u', r', ?_⟩
       rcases q with ⟨k, e⟩ | ⟨k, c, e, z⟩
       . refine .inl ⟨k, ?_⟩
         have : y ≠ x := fun e => hj (a74 hN e1 (e ▸ hi))
         simp [this, e]
       . exact .inr ⟨k, c, e, z.sameBut hs (cne y c e)⟩
   . obtain ⟨w', z⟩ := I.cell y c e
     exact ⟨w', z.sameBut hs (cne y c e)⟩
   . obtain ⟨e, n, ne, nf, d⟩ := I.pin p hp
     exact ⟨(hs.2 p.1 ne).trans e, n, ne, nf, d⟩
 . have hfn : X.fn x = true := by
     rcases hf with z | z
     . exact z
     . rw [z] at hk; cases hk
   obtain ⟨c, hc⟩ := I.ok.has x (.inl hk)
   obtain ⟨w', z⟩ := I.cell x c hc
   refine wpAny_storeName_cell I.ok.kind hk hc z (fun h' hc' hs => ?_)
   obtain ⟨oc, hoc, hocd⟩ := id z
   refine h { s with heap := h' } ⟨I.ok, I.os, I.bare, ⟨fun b o e n hb hx => ?_, fun b o e n hb hx => ?_, I.base.free, fun b o e hx => ?_, I.base.tups, I.base.frzs, I.base.tbls⟩, ⟨m, hn.sameBut hs (Ne.symm (cne x c hc)), fun j y v' e1 e2 e3 => ?_⟩, fun y c' e => ?_, I.free, I.freeC, fun p hp => ?_, tracked ⟨oc, hoc, I.freeC x c hc⟩ hs, by simpa using I.len⟩ ⟨c, hs, .inr hc⟩
   . exact (hs.2 b (Nat.ne_of_lt (Nat.lt_of_lt_of_le (Heap.lt_size e) (I.ok.cab x c hfn hc)))).trans (I.base.keep b o e n hb hx)
   . obtain ⟨sl, e1⟩ := I.base.slot b o e n hb hx
     exact ⟨sl, (hs.2 b (Nat.ne_of_lt (Nat.lt_of_lt_of_le (Heap.lt_size e) (I.ok.cab x c hfn hc)))).trans e1⟩
   . obtain ⟨o', e1⟩ := I.base.there b o e hx
     exact ⟨o', (hs.2 b (Nat.ne_of_lt (Nat.lt_of_lt_of_le (Heap.lt_size e) (I.ok.cab x c hfn hc)))).trans e1⟩
   . by_cases hj : j = i
     . subst hj
       rw [hi] at e1; cases e1
       rw [List.getElem?_set_self hiσ] at e2
       cases e2
       exact ⟨u, r, .inr ⟨.inl hk, c, hc, hc'⟩⟩
     . rw [List.getElem?_set_ne (Ne.symm hj)] at e2
       obtain ⟨u', r', q⟩ := hl j y v' e1 e2 e3
       refine ⟨u', r', ?_⟩
       rcases q with q | ⟨k, c', e, z'⟩
       . exact .inl q
       . refine .inr ⟨k, c', e, z'.sameBut hs ?_⟩
         rintro rfl
         exact hj (a74 hN e1 (I.ok.inj _ _ _ e hc ▸ hi))
   . by_cases hcc : c' = c
     . subst hcc; exact ⟨_, hc'⟩
     . obtain ⟨w2, z2⟩ := I.cell y c' e
       exact ⟨w2, z2.sameBut hs hcc⟩
   . obtain ⟨e, n, ne, nf, d⟩ := I.pin p hp
     refine ⟨(hs.2 p.1 ?_).trans e, n, ne, nf, d⟩
     intro q
     rw [q, hoc] at e
     have q' : oc = p.2 := Option.some.inj e
     exact d w' (by rw [<- q']; exact hocd)
theorem a31 {M : Model} {A : Around} {E : Value -> Shared -> Prop} {i : Nat} {x : Str} {v : V} {u : Value} {Q : Unit -> Shared -> Prop} (I : Inv X pins σ H s) (hN : X.N.Nodup) (hi : X.N[i]? = some x) (hx : Loc X.env.scope x) (r : RelV v u)
   (h : ∀ s', Inv X pins (σ.set i (some v)) H s' -> Q () s') (hf : X.fn x = true \/ X.env.scope.names.lookup x = some .local := by first | exact .inl rfl | exact .inr rfl | assumption) : wpAny M A (storeName X.env x u) Q E s :=
 a8q I hN hi hx r (fun s' I' _ => h s' I') hf
theorem Inv.call' {s' : Shared} {ch : List Addr} (I : Inv X pins σ H s) (ho : s'.os = s.os) (u : Un (frs X.stack) ch H H' s.heap s'.heap) (hok : HOk X.prog X.w H' s'.heap) (hg : AllBare s'.gens)
   (hch : ∀ b ∈ ch, (b ∈ X.ex \/ X.s₀.heap.objs.size <= b) /\ b ≠ X.env.locals /\ (∀ x c, X.env.cells.lookup x = some c -> c ≠ b) /\ ∀ p ∈ X.pn ++ pins, p.1 ≠ b) : Inv X pins σ H' s' := by
 obtain ⟨h', g', d', t', o'⟩ := s'
 have e : o' = s.os := ho
 subst e
 exact I.call (g' := g') (t' := t') (d' := d') u hok hg hch
end
noncomputable abbrev XK := Value -> Option Addr -> Hp -> Prop
noncomputable abbrev St := List (Option V)
noncomputable abbrev VK := V -> Hp -> Prop
noncomputable abbrev TE := St -> Hp -> VK -> Prop
noncomputable abbrev TT := St -> Hp -> (Bool -> Hp -> Prop) -> Prop
noncomputable abbrev TA := St -> Hp -> (List V -> Hp -> Prop) -> Prop
structure Ends where
 nx : St -> Hp -> Prop
 rt : VK
 bk : St -> Hp -> Prop := fun _ _ => False
 ct : St -> Hp -> Prop := fun _ _ => False
noncomputable abbrev TS := Ends -> St -> Hp -> Prop
def EP (X : Cx) (pins : List (Addr × Obj)) (σ : St) (Q : VK) (u : Value) (s' : Shared) : Prop := ∃ v H', Inv X pins σ H' s' /\ RelV v u /\ Q v H'
def TP (X : Cx) (pins : List (Addr × Obj)) (σ : St) (Q : Bool -> Hp -> Prop) (b : Bool) (s' : Shared) : Prop := ∃ H', Inv X pins σ H' s' /\ Q b H'
def AP (X : Cx) (pins : List (Addr × Obj)) (σ : St) (Q : List V -> Hp -> Prop) (us : List Value) (s' : Shared) : Prop := ∃ vs H', Inv X pins σ H' s' /\ Vals vs us /\ Q vs H'
def SP (X : Cx) (pins : List (Addr × Obj)) (D : Ends) (f : Flow) (s' : Shared) : Prop :=
 match f with
 | .next => ∃ σ' H', Inv X pins σ' H' s' /\ D.nx σ' H'
 | .brk => ∃ σ' H', Inv X pins σ' H' s' /\ D.bk σ' H'
 | .cont => ∃ σ' H', Inv X pins σ' H' s' /\ D.ct σ' H'
 | .ret u => ∃ v σ' H', Inv X pins σ' H' s' /\ RelV v u /\ D.rt v H'
def PE (X : Cx) (e : Expr) (t : TE) : Prop :=
 ∀ (pins : List (Addr × Obj)) (s : Shared) (σ : St) (H : Hp) (Q : VK), Inv X pins σ H s -> t σ H Q -> wpAny (model X.prog X.w) X.A (eval e X.env) (EP X pins σ Q) X.xe s
def PT (X : Cx) (e : Expr) (t : TT) : Prop :=
 ∀ (pins : List (Addr × Obj)) (s : Shared) (σ : St) (H : Hp) (Q : Bool -> Hp -> Prop), Inv X pins σ H s -> t σ H Q -> wpAny (model X.prog X.w) X.A (isTrue e X.env (eval e X.env)) (TP X pins σ Q) X.xe s
def PW (X : Cx) (e : Expr) (t : TT) : Prop :=
 ∀ (whole : Sem Value) (pins : List (Addr × Obj)) (s : Shared) (σ : St) (H : Hp) (Q : Bool -> Hp -> Prop), Inv X pins σ H s -> t σ H Q -> wpAny (model X.prog X.w) X.A (isTrue e X.env whole) (TP X pins σ Q) X.xe s
theorem PW.pt {X : Cx} {e : Expr} {t : TT} (h : PW X e t) : PT X e t := h _
def PA (X : Cx) (es : List Expr) (t : TA) : Prop :=
 ∀ (pos : Pos) (pins : List (Addr × Obj)) (s : Shared) (σ : St) (H : Hp) (Q : List V -> Hp -> Prop), Inv X pins σ H s -> t σ H Q -> wpAny (model X.prog X.w) X.A (spliced (backTo pos (starEach es X.env))) (AP X pins σ Q) X.xe s
def PS (X : Cx) (st : Stmt) (t : TS) : Prop :=
 ∀ (pins : List (Addr × Obj)) (s : Shared) (σ : St) (H : Hp) (D : Ends), Inv X pins σ H s -> t D σ H -> wpAny (model X.prog X.w) X.A (exec st X.env) (SP X pins D) X.xe s
def PSs (X : Cx) (st : List Stmt) (t : TS) : Prop :=
 ∀ (pins : List (Addr × Obj)) (s : Shared) (σ : St) (H : Hp) (D : Ends), Inv X pins σ H s -> t D σ H -> wpAny (model X.prog X.w) X.A (execs st X.env) (SP X pins D) X.xe s
theorem thn {α : Type} {t : Sem α} {Q Q' : α -> Shared -> Prop} {M : Model} {A : Around} {E : Value -> Shared -> Prop} {s : Shared} (h : wpAny M A t Q E s) (hQ : ∀ a s, Q a s -> Q' a s) : wpAny M A t Q' E s := wpAny_mono h hQ fun _ _ x => x
section
variable {X : Cx}
def tVar (i : Nat) : TE := fun σ H Q => ∃ v, σ[i]? = some (some v) /\ Q v H
def tC (v : V) : TE := fun _ H Q => Q v H
theorem pe_var {i : Nat} {x : Str} {pos : Pos} (hN : X.N[i]? = some x) (hv : Vis X.env.scope x) (hd : (x == ("__debug__" : Str)) = false := by decide) (hcd : (x == ("__classdict__" : Str)) = false := by decide) : PE X (.Name x pos) (tVar i) := by
 intro pins s σ H Q I h
 obtain ⟨v, e, h⟩ := h
 obtain ⟨m, hn, hl⟩ := I.loc
 obtain ⟨u, r, l⟩ := hl i x v hN e hv
 have fin : EP X pins σ Q u s := ⟨v, H, I, r, h⟩
 rcases l with ⟨hk, hm⟩ | ⟨hk, c, hc, hcell⟩
 . exact wpAny_Name (wpAny_loadName_local I.ok.kind hk hn hm fin) hd
 . rcases hk with hk | hk
   . exact wpAny_Name (wpAny_loadName_cell I.ok.kind hk hc hcell fin) hd
   . exact wpAny_Name (wpAny_loadName_free I.ok.kind hk hc hcell fin hcd) hd
theorem pe_int {i j pos} : PE X (.Constant (.int i) j pos) (tC (.int i)) := fun _ _ _ H _ I h => wpAny_Constant_int ⟨.int i, H, I.tok _, ⟨_, rfl⟩, h⟩
theorem pe_bl {b j pos} : PE X (.Constant (.bool b) j pos) (tC (.bl b)) := fun _ _ _ H _ I h => Constant_bool ⟨.bl b, H, I, rfl, h⟩
theorem pe_non {j pos} : PE X (.Constant .none j pos) (tC .non) := fun _ _ _ H _ I h => Constant_none ⟨.non, H, I, rfl, h⟩
theorem pe_str {x j pos} : PE X (.Constant (.str x) j pos) (tC (.str x)) := fun _ _ _ H _ I h => Calls.Constant_str ⟨.str x, H, I.tok _, ⟨_, rfl⟩, h⟩
def Gl (X : Cx) (x : Str) : Prop := X.env.kindOf x = some .globalImplicit
theorem a29 {E : Value -> Shared -> Prop} {pins : List (Addr × Obj)} {s : Shared} {σ : St} {H : Hp} {x : Str} {u : Value} {pos : Pos} {Q : Value -> Shared -> Prop} (I : Inv X pins σ H s) (hg : Gl X x) (hm : X.mg x = some u) (h : Q u s)
   (hd : (x == ("__debug__" : Str)) = false := by decide) : wpAny (model X.prog X.w) X.A (eval (.Name x pos) X.env) Q E s :=
 Calls.Name_function_global I.ok.kind hg (Calls.loadGlobal_global (by rw [I.ok.glob]; exact I.mod.glob.keeps I.bk) hm h) hd
theorem a9d {E : Value -> Shared -> Prop} {pins : List (Addr × Obj)} {s : Shared} {σ : St} {H : Hp} {x : Str} {u : Value} {pos : Pos} {Q : Value -> Shared -> Prop} (I : Inv X pins σ H s) (hg : Gl X x) (hm : X.mg x = none) (hv : bootBuiltins x = some u) (h : Q u s)
   (hn : x ≠ "__name__" := by decide) (hd : (x == ("__debug__" : Str)) = false := by decide) : wpAny (model X.prog X.w) X.A (eval (.Name x pos) X.env) Q E s := by
 obtain ⟨mb, h1, h2⟩ := I.mod.blt
 exact Calls.Name_function_global I.ok.kind hg (Calls.loadGlobal_builtin (by rw [I.ok.glob]; exact I.mod.glob.keeps I.bk) hm (by rw [I.ok.blt]; exact h1.keeps I.bk) ((h2 x hn).trans hv) h) hd
theorem a3v {x : Str} {v : V} {u : Value} {pos : Pos} (hg : Gl X x) (hm : X.mg x = some u) (r : RelV v u) (hd : (x == ("__debug__" : Str)) = false := by decide) : PE X (.Name x pos) (tC v) :=
 fun _ _ _ H _ I h => a29 I hg hm ⟨v, H, I, r, h⟩ hd
theorem b3z {x : Str} {v : V} {u : Value} {pos : Pos} (hg : Gl X x) (hm : X.mg x = none) (hv : bootBuiltins x = some u) (r : RelV v u) (hn : x ≠ "__name__" := by decide) (hd : (x == ("__debug__" : Str)) = false := by decide) : PE X (.Name x pos) (tC v) :=
 fun _ _ _ H _ I h => a9d I hg hm hv ⟨v, H, I, r, h⟩ hn hd
variable {a b : Expr} {ta tb : TE} {pos : Pos}
def PC (X : Cx) (op : CmpOp) (a b : Expr) (t : TE) : Prop :=
 ∀ (pins : List (Addr × Obj)) (s : Shared) (σ : St) (H : Hp) (Q : VK), Inv X pins σ H s -> t σ H Q ->
   wpAny (model X.prog X.w) X.A (eval a X.env) (fun v s₁ => wpAny (model X.prog X.w) X.A (eval b X.env) (fun u s₂ => wpAny (model X.prog X.w) X.A (compareOp op v u) (EP X pins σ Q) X.xe s₂) X.xe s₁) X.xe s
noncomputable def tB (t : TE) : TT := fun σ H Q => t σ H fun x H1 => ∃ c, x = .bl c /\ Q c H1
theorem pt_cmp {op : CmpOp} {t : TE} (h : PC X op a b t) (h1 : behindInMarks op b = false := by first | exact nobehind _ (by decide) (by decide) | rfl) : PT X (.Compare a [op] [b] pos) (tB t) := by
 intro pins s σ H Q I hw
 refine wpAny_isTrue_Compare1 (thn (h pins s σ H _ I hw) fun v s1 h1 => thn h1 fun u s2 h2 => thn h2 fun c s3 ⟨x, H1, I1, r1, q1⟩ => ?_) h1
 obtain ⟨d, rfl, q⟩ := q1
 cases r1
 exact wpAny_truthy_bool ⟨H1, I1, q⟩
theorem pt_val {e : Expr} {t : TE} (h : PE X e t) (he : ∀ whole, isTrue e X.env whole = (do let v <- whole; standAt e.pos; holding [v] (truthy v)) := by intro _; rfl) : PT X e (tB t) := by
 intro pins s σ H Q I hw
 refine isTrue_plain (thn (h pins s σ H _ I hw) fun v s1 ⟨x, H1, I1, r1, q1⟩ => ?_) (he _)
 obtain ⟨d, rfl, q⟩ := q1
 cases r1
 exact wpAny_truthy_bool ⟨H1, I1, q⟩
variable {tA tB' : TT} {rest : List Expr}
noncomputable def tAnd (t u : TT) : TT := fun σ H Q => t σ H fun c H1 => if c = true then u σ H1 Q else Q false H1
noncomputable def tOr (t u : TT) : TT := fun σ H Q => t σ H fun c H1 => if c = true then Q true H1 else u σ H1 Q
noncomputable def tNot (t : TT) : TT := fun σ H Q => t σ H fun c H1 => Q (!c) H1
theorem pw_and1 (ha : PT X a tA) : PW X (.BoolOp .And [a] pos) tA := by
 intro wh pins s σ H Q I h
 refine isTrue_and (thn (ha pins s σ H Q I h) fun c s1 e => ?_)
 cases c with
 | true => exact isTrue_and_nil e
 | false => exact e
theorem pw_or1 (ha : PT X a tA) : PW X (.BoolOp .Or [a] pos) tA := by
 intro wh pins s σ H Q I h
 refine isTrue_or (thn (ha pins s σ H Q I h) fun c s1 e => ?_)
 cases c with
 | false => exact isTrue_or_nil e
 | true => exact e
theorem pw_and (ha : PT X a tA) (hb : PW X (.BoolOp .And (b :: rest) pos) tB') : PW X (.BoolOp .And (a :: b :: rest) pos) (tAnd tA tB') := by
 intro wh pins s σ H Q I h
 refine isTrue_and (thn (ha pins s σ H _ I h) fun c s1 zz9 => ?_)
 obtain ⟨H1, I1, q1⟩ := zz9
 cases c with
 | true => exact hb wh pins s1 σ H1 Q I1 q1
 | false => exact ⟨H1, I1, q1⟩
theorem pw_or (ha : PT X a tA) (hb : PW X (.BoolOp .Or (b :: rest) pos) tB') : PW X (.BoolOp .Or (a :: b :: rest) pos) (tOr tA tB') := by
 intro wh pins s σ H Q I h
 refine isTrue_or (thn (ha pins s σ H _ I h) fun c s1 zz9 => ?_)
 obtain ⟨H1, I1, q1⟩ := zz9
 cases c with
 | true => exact ⟨H1, I1, q1⟩
 | false => exact hb wh pins s1 σ H1 Q I1 q1
theorem pt_not (ha : PT X a tA) : PT X (.UnaryOp .Not a pos) (tNot tA) := by
 intro pins s σ H Q I h
 exact isTrue_not (ha pins s σ H (fun c H1 => Q (!c) H1) I h)
def tAndV (ta tb : TE) : TE := fun σ H Q => ta σ H fun x H1 => ∃ c, x = .bl c /\ if c = true then tb σ H1 Q else Q (.bl false) H1
def tNotV (ta : TE) : TE := fun σ H Q => ta σ H fun x H1 => ∃ c, x = .bl c /\ Q (.bl (!c)) H1
theorem pe_one {op} {t : TE} (h : PE X a t) : PE X (.BoolOp op [a] pos) t := fun pins s σ H Q I hw => BoolOp_one (h pins s σ H Q I hw)
theorem pe_and (ha : PE X a ta) (hb : PE X (.BoolOp .And (b :: rest) pos) tb) : PE X (.BoolOp .And (a :: b :: rest) pos) (tAndV ta tb) := by
 intro pins s σ H Q I h
 refine BoolOp_and (thn (ha pins s σ H _ I h) fun v s1 zz9 => ?_)
 obtain ⟨x, H1, I1, r1, q1⟩ := zz9
 obtain ⟨c, rfl, q1⟩ := q1
 cases r1
 refine wpAny_truthy_bool ?_
 cases c with
 | true => exact hb pins s1 σ H1 Q I1 q1
 | false => exact ⟨.bl false, H1, I1, rfl, q1⟩
theorem pe_not (ha : PE X a ta) : PE X (.UnaryOp .Not a pos) (tNotV ta) := by
 intro pins s σ H Q I h
 refine UnaryOp_ (thn (ha pins s σ H _ I h) fun v s1 zz9 => ?_)
 obtain ⟨x, H1, I1, r1, q1⟩ := zz9
 obtain ⟨c, rfl, q1⟩ := q1
 cases r1
 exact not_of (wpAny_truthy_bool ⟨.bl (!c), H1, I1, rfl, q1⟩)
end
def SqL (K : PySem.W.Frag) (H : Hp) (a : Addr) (xs : List V) : Prop :=
 Rd H a (.lst xs) \/
   ∃ (o : Obj) (its : Array Value) (n : Nat), K.lookup a = some o /\ o.cls = .type "list" /\ o.dict = none /\ o.data = .seq its n /\ its.size <= sizeLine /\ Vals xs its.toList
def SqT (K : PySem.W.Frag) (H : Hp) (a : Addr) (xs : List V) : Prop :=
 Rd H a (.tup xs) \/
   ∃ (o : Obj) (its : Array Value) (n : Nat), K.lookup a = some o /\ o.cls = .type "tuple" /\ o.data = .seq its n /\ its.size <= sizeLine /\ Vals xs its.toList
noncomputable def absV : Value -> Option V
 | .none => some .non
 | .bool b => some (.bl b)
 | .int i _ => some (.int i)
 | .str x _ => some (.str x)
 | .bytes b _ => some (.byt b)
 | .float b _ => some (.flt b)
 | .ref a => some (.ref a)
 | .type n => some (.ty n)
 | _ => none
theorem RelV.abs {x : V} {u : Value} (r : RelV x u) : absV u = some x := by
 cases x with
 | non => cases r; rfl
 | bl _ => cases r; rfl
 | int _ => obtain ⟨t, rfl⟩ := r; rfl
 | str _ => obtain ⟨t, rfl⟩ := r; rfl
 | byt _ => obtain ⟨t, rfl⟩ := r; rfl
 | flt _ => obtain ⟨t, rfl⟩ := r; rfl
 | ref _ => cases r; rfl
 | ty _ => cases r; rfl
theorem RelV.inj {x y : V} {u : Value} (r : RelV x u) (q : RelV y u) : x = y := Option.some.inj (r.abs.symm.trans q.abs)
theorem Vals.inj : ∀ {xs ys : List V} {us : List Value}, Vals xs us -> Vals ys us -> xs = ys
 | _, _, _, .nil, .nil => rfl
 | _, _, _, .cons r t, .cons r' t' => by rw [r.inj r', Vals.inj t t']
section
variable {X : Cx} {pins : List (Addr × Obj)} {σ : St} {H : Hp} {s : Shared} {a : Addr} {xs ys : List V}
theorem SqL.of {K : PySem.W.Frag} (h : H a = some (.lst xs)) : SqL K H a xs := .inl (.inl h)
theorem SqT.of {K : PySem.W.Frag} (h : H a = some (.tup xs)) : SqT K H a xs := .inl (.inl h)
theorem Inv.list (I : Inv X pins σ H s) (h : SqL X.K H a xs) : ∃ its : List Value, Vals xs its /\ PlainL s.heap a its.toArray /\ xs.length <= sizeLine := by
 rcases h with h | ⟨o, its, n, hk, hc, hd, hs, hz, r⟩
 . obtain ⟨z, its, n, r, e⟩ := h.ok I.hok
   exact ⟨its, r, ⟨_, n, e, rfl, rfl, rfl⟩, z⟩
 . refine ⟨its.toList, r, ⟨o, n, I.kIn a o hk, hc, hd, by simpa using hs⟩, ?_⟩
   have e := r.length
   simp only [Array.length_toList] at e
   omega
theorem Inv.tuple (I : Inv X pins σ H s) (h : SqT X.K H a xs) : ∃ its : List Value, Vals xs its /\ IsTup s.heap a its.toArray /\ xs.length <= sizeLine := by
 rcases h with h | ⟨o, its, n, hk, hc, hs, hz, r⟩
 . obtain ⟨z, its, r, p⟩ := h.ok I.hok
   exact ⟨its, r, p, z⟩
 . refine ⟨its.toList, r, ⟨o, I.kIn a o hk, hc, n, by simpa using hs⟩, ?_⟩
   have e := r.length
   simp only [Array.length_toList] at e
   omega
theorem Inv.list_inj (I : Inv X pins σ H s) (h : SqL X.K H a xs) (h' : SqL X.K H a ys) : xs = ys := by
 obtain ⟨its, r, ⟨o, n, e, _, _, d⟩, _⟩ := I.list h
 obtain ⟨its', r', ⟨o', n', e', _, _, d'⟩, _⟩ := I.list h'
 rw [e] at e'; cases e'
 rw [d] at d'
 injection d' with d1 _
 have : its = its' := by simpa using congrArg Array.toList d1
 subst this
 exact r.inj r'
end
noncomputable abbrev Cx.wish (X : Cx) (E : Value -> Shared -> Prop) : Cx := { X with xe := E }
theorem Cx.Ok.wish {X : Cx} (ok : X.Ok) (E : Value -> Shared -> Prop) : (X.wish E).Ok :=
 ⟨ok.mod, ok.kind, ok.glob, ok.blt, ok.above, ok.inj, ok.has, ok.cab, ok.hd, ok.frames, ok.stk, ok.exf, ok.bs, ok.bsz, ok.noex, ok.exfs, ok.funs, ok.frf⟩
theorem Cx.Ok.unwish {X : Cx} {E : Value -> Shared -> Prop} (ok : (X.wish E).Ok) : X.Ok :=
 ⟨ok.mod, ok.kind, ok.glob, ok.blt, ok.above, ok.inj, ok.has, ok.cab, ok.hd, ok.frames, ok.stk, ok.exf, ok.bs, ok.bsz, ok.noex, ok.exfs, ok.funs, ok.frf⟩
section
variable {X : Cx} {pins : List (Addr × Obj)} {σ : St} {H : Hp} {s : Shared} {E : Value -> Shared -> Prop}
theorem Inv.wish (I : Inv X pins σ H s) (E : Value -> Shared -> Prop) : Inv (X.wish E) pins σ H s := ⟨I.ok.wish E, I.os, I.bare, I.base, I.loc, I.cell, I.free, I.freeC, I.pin, I.hok, I.len⟩
theorem Inv.unwish (I : Inv (X.wish E) pins σ H s) : Inv X pins σ H s := ⟨I.ok.unwish, I.os, I.bare, I.base, I.loc, I.cell, I.free, I.freeC, I.pin, I.hok, I.len⟩
theorem SP.unwish {D : Ends} {f : Flow} {s' : Shared} (h : SP (X.wish E) pins D f s') : SP X pins D f s' := by
 cases f with
 | next => obtain ⟨σ', H', I, q⟩ := h; exact ⟨σ', H', I.unwish, q⟩
 | brk => obtain ⟨σ', H', I, q⟩ := h; exact ⟨σ', H', I.unwish, q⟩
 | cont => obtain ⟨σ', H', I, q⟩ := h; exact ⟨σ', H', I.unwish, q⟩
 | ret u => obtain ⟨v, σ', H', I, r, q⟩ := h; exact ⟨v, σ', H', I.unwish, r, q⟩
end
section
variable {X : Cx} {st : Stmt} {rest : List Stmt} {t u : TS} {e : Expr} {te : TE} {pos : Pos}
noncomputable def tNext : TS := fun D σ H => D.nx σ H
noncomputable def tSeq (t u : TS) : TS := fun D σ H => t { D with nx := u D } σ H
theorem pss_nil : PSs X [] tNext := fun _ _ σ H _ I h => wpAny_execs_nil ⟨σ, H, I, h⟩
theorem b6f (h1 : PS X st t) (h2 : PSs X rest u) : PSs X (st :: rest) (tSeq t u) := by
 intro pins s σ H D I h
 refine wpAny_execs_cons (thn (h1 pins s σ H { D with nx := u D } I h) fun f s1 q => ?_)
 cases f with
 | next =>
   obtain ⟨σ', H', I', q⟩ := q
   exact h2 pins s1 σ' H' D I' q
 | ret v => exact q
 | brk => exact q
 | cont => exact q
theorem pss_one (h1 : PS X st t) : PSs X [st] t := by
 intro pins s σ H D I h
 refine wpAny_execs_cons (thn (h1 pins s σ H D I h) fun f s1 q => ?_)
 cases f with
 | next => exact wpAny_execs_nil q
 | ret v => exact q
 | brk => exact q
 | cont => exact q
theorem Inv.quiet {pins : List (Addr × Obj)} {σ : St} {H : Hp} {s : Shared} (I : Inv X pins σ H s) : interactive X.env = false := by simp [interactive, I.ok.kind]
noncomputable def tDrop (te : TE) : TS := fun D σ H => te σ H fun _ H1 => D.nx σ H1
theorem ps_expr (he : PE X e te) (hs : swapsWith e none pos.line X.env = pure false := by rfl) : PS X (.Expr e pos) (tDrop te) := by
 intro pins s σ H D I h
 exact wpAny_Expr_any (thn (he pins s σ H _ I h) fun v s1 ⟨x, H1, I1, r1, q1⟩ => ⟨σ, H1, I1, q1⟩) I.quiet hs
noncomputable def tRet (te : TE) : TS := fun D σ H => te σ H D.rt
theorem ps_ret (he : PE X e te) : PS X (.Return (some e) pos) (tRet te) := by
 intro pins s σ H D I h
 exact wpAny_Return_some (thn (he pins s σ H _ I h) fun v s1 ⟨x, H1, I1, r1, q1⟩ => ⟨x, σ, H1, I1, r1, q1⟩)
noncomputable def tIfS (c : TT) (t u : TS) : TS := fun D σ H => c σ H fun b H1 => if b = true then t D σ H1 else u D σ H1
theorem ps_if {c : Expr} {a b : List Stmt} {tc : TT} (hc : PT X c tc) (ha : PSs X a t) (hb : PSs X b u) : PS X (.If c a b pos) (tIfS tc t u) := by
 intro pins s σ H D I h
 refine wpAny_If (thn (hc pins s σ H _ I h) fun d s1 zz9 => ?_)
 obtain ⟨H1, I1, q1⟩ := zz9
 cases d with
 | true => exact ha pins s1 σ H1 D I1 q1
 | false => exact hb pins s1 σ H1 D I1 q1
end
noncomputable abbrev TG := V -> St -> Hp -> (St -> Hp -> Prop) -> Prop
noncomputable abbrev TGs := List V -> St -> Hp -> (St -> Hp -> Prop) -> Prop
def PG (X : Cx) (target : Expr) (t : TG) : Prop :=
 ∀ (pins : List (Addr × Obj)) (s : Shared) (σ : St) (H : Hp) (v : V) (u : Value) (Q : St -> Hp -> Prop), Inv X pins σ H s -> RelV v u -> t v σ H Q ->
   wpAny (model X.prog X.w) X.A (assign target X.env u) (fun _ s' => ∃ σ' H', Inv X pins σ' H' s' /\ Q σ' H') X.xe s
def PGs (X : Cx) (ts : List Expr) (t : TGs) : Prop :=
 ∀ (pins : List (Addr × Obj)) (s : Shared) (σ : St) (H : Hp) (vs : List V) (us : List Value) (Q : St -> Hp -> Prop), Inv X pins σ H s -> Vals vs us -> t vs σ H Q ->
   wpAny (model X.prog X.w) X.A (assignInOrder ((assignEach ts X.env).map (·.2)) us) (fun _ s' => ∃ σ' H', Inv X pins σ' H' s' /\ Q σ' H') X.xe s
noncomputable abbrev TSet := V -> V -> V -> Hp -> (Hp -> Prop) -> Prop
def PSet (X : Cx) (t : TSet) : Prop :=
 ∀ (pins : List (Addr × Obj)) (s : Shared) (σ : St) (H : Hp) (o i v : V) (ov iv u : Value) (Q : Hp -> Prop), Inv X pins σ H s -> RelV o ov -> RelV i iv -> RelV v u -> t o i v H Q ->
   wpAny (model X.prog X.w) X.A (setItem ov iv u) (fun _ s' => ∃ H', Inv X pins σ H' s' /\ Q H') X.xe s
section
variable {X : Cx} {pos : Pos}
def gName (i : Nat) : TG := fun v σ H Q => Q (σ.set i (some v)) H
theorem pg_name {i : Nat} {x : Str} (hN : X.N.Nodup) (hi : X.N[i]? = some x) (hx : Loc X.env.scope x) (hf : X.fn x = true \/ X.env.scope.names.lookup x = some .local := by first | exact .inl rfl | exact .inr rfl | assumption) : PG X (.Name x pos) (gName i) := by
 intro pins s σ H v u Q I r h
 exact wpAny_assign_Name (a31 I hN hi hx r (fun s' I' => ⟨_, H, I', h⟩) hf)
def gNil : TGs := fun vs σ H Q => vs = [] /\ Q σ H
def gCons (t : TG) (u : TGs) : TGs := fun vs σ H Q => ∃ v r, vs = v :: r /\ t v σ H fun σ' H' => u r σ' H' Q
theorem pgs_nil : PGs X [] gNil := by
 intro pins s σ H vs us Q I r h
 obtain ⟨e, h⟩ := h
 subst e
 cases r
 exact assignInOrder_nil ⟨σ, H, I, h⟩
theorem b6j {e : Expr} {es : List Expr} {t : TG} {u : TGs} (h1 : PG X e t) (h2 : PGs X es u)
   (hs : (assignEach (e :: es) X.env).map (·.2) = assign e X.env :: (assignEach es X.env).map (·.2) := by rfl) : PGs X (e :: es) (gCons t u) := by
 intro pins s σ H vs us Q I r h
 obtain ⟨v, vr, e1, h⟩ := h
 subst e1
 cases r with
 | cons r rr =>
   rw [hs]
   refine assignInOrder_cons (thn (h1 pins s σ H _ _ _ I r h) fun _ s1 zz9 => ?_)
   obtain ⟨σ1, H1, I1, q1⟩ := zz9
   exact h2 pins s1 σ1 H1 _ _ Q I1 rr q1
def gTup (K : PySem.W.Frag) (n : Nat) (t : TGs) : TG := fun v σ H Q => ∃ a xs, v = .ref a /\ SqT K H a xs /\ xs.length = n /\ t xs σ H Q
theorem pg_tup {es : List Expr} {k : Nat} {t : TGs} {n : Nat} (hc : X.calm = true) (h : PGs X es t)
   (hn : (assignEach es X.env).length = n := by rfl) (hst : (assignEach es X.env).findIdx? (·.1) = none := by rfl) : PG X (.Tuple es k pos) (gTup X.K n t) := by
 intro pins s σ H v u Q I r hw
 obtain ⟨a, xs, e1, hq, hl, hw⟩ := hw
 subst e1
 cases r
 obtain ⟨its, rv, ht, hz⟩ := I.tuple hq
 refine assign_Tuple_tuple (I.ok.hd hc) ht (by simp [hn, <- hl, rv.length]) hst fun h' hx => ?_
 have I1 : Inv X pins σ H { s with heap := h' } := I.kept (t' := s.toks) fun b o e => hx b o (Nat.ne_of_lt (Heap.lt_size e)) e
 exact h pins _ σ H xs _ Q I1 (by simpa using rv) hw
def gSub (to ti : TE) (t : TSet) : TG := fun v σ H Q => to σ H fun o H1 => ti σ H1 fun i H2 => t o i v H2 fun H3 => Q σ H3
theorem pg_sub {o i : Expr} {to ti : TE} {t : TSet} (ho : PE X o to) (hi : PE X i ti) (hs : PSet X t)
   (ha : ∀ v, assign (.Subscript o i pos) X.env v = (do
     let ov <- holding [v] (eval o X.env)
     let iv <- holding [v, ov] (eval i X.env)
     standAt pos
     holding [v, ov, iv] (setItem ov iv v)
     release [v, ov, iv] []) := by intro _; rfl) : PG X (.Subscript o i pos) (gSub to ti t) := by
 intro pins s σ H v u Q I r h
 rw [ha]
 refine wpAny_bind (wpAny_holding (thn (ho pins s σ H _ I h) fun ov s1 zz9 => ?_))
 obtain ⟨x, H1, I1, r1, q1⟩ := zz9
 refine wpAny_bind (wpAny_holding (thn (hi pins s1 σ H1 _ I1 q1) fun iv s2 zz9 => ?_))
 obtain ⟨y, H2, I2, r2, q2⟩ := zz9
 refine wpAny_bind (wpAny_standAt (wpAny_bind (wpAny_holding (thn (hs pins s2 σ H2 x y v ov iv u _ I2 r1 r2 r q2) fun _ s3 zz9 => ?_))))
 obtain ⟨H3, I3, q3⟩ := zz9
 exact wpAny_release ⟨σ, H3, I3, q3⟩
noncomputable def tAsg (te : TE) (g : TG) : TS := fun D σ H => te σ H fun x H1 => g x σ H1 D.nx
theorem ps_asg {tg e : Expr} {te : TE} {g : TG} (he : PE X e te) (hg : PG X tg g) (hs : swapsWithSole [tg] e pos.line X.env = pure false := by rfl) (hw : swappedStores [tg] e X.env = pure none := by rfl)
   (h1 : (assignEach [tg] X.env).map (·.2) = [assign tg X.env] := by rfl) : PS X (.Assign [tg] e pos) (tAsg te g) := by
 intro pins s σ H D I h
 refine wpAny_Assign_stores (thn (he pins s σ H _ I h) fun v s1 ⟨x, H1, I1, r1, q1⟩ => ?_) hs hw
 rw [h1]
 exact thn (hg pins s1 σ H1 x v _ I1 r1 q1) fun _ s2 q => q
theorem ps_set {i : Nat} {x : Str} {e : Expr} {te : TE} {pos' : Pos} (hN : X.N.Nodup) (hi : X.N[i]? = some x) (hx : Loc X.env.scope x) (he : PE X e te) (hs : swapsWith e (some (.Name x pos')) pos.line X.env = pure false := by rfl) (hf : X.fn x = true \/ X.env.scope.names.lookup x = some .local := by first | exact .inl rfl | exact .inr rfl | assumption) :
   PS X (.Assign [.Name x pos'] e pos) (tAsg te (gName i)) := by
 intro pins s σ H D I h
 refine wpAny_Assign_Name (thn (he pins s σ H _ I h) fun v s1 ⟨y, H1, I1, r1, q1⟩ => ?_) hs
 exact a31 I1 hN hi hx r1 (fun s2 I2 => ⟨_, H1, I2, q1⟩) hf
noncomputable def tPar (i j : Nat) (ta : TA) : TS := fun D σ H => ta σ H fun vs H1 => ∃ v w, vs = [v, w] /\ D.nx ((σ.set i (some v)).set j (some w)) H1
theorem ps_par {i j : Nat} {x y : Str} {a b : Expr} {ta : TA} {px py pt : Pos} {kt k2 pt2} (hc : X.calm = true) (hN : X.N.Nodup) (hi : X.N[i]? = some x) (hj : X.N[j]? = some y) (hij : i ≠ j)
   (hx : X.env.scope.names.lookup x = some .local) (hy : X.env.scope.names.lookup y = some .local) (ha : PA X [a, b] ta)
   (hw : swappedStores [.Tuple [.Name x px, .Name y py] kt pt] (.Tuple [a, b] k2 pt2) X.env = pure (some [x, y]))
   (hs : swapsWithSole [.Tuple [.Name x px, .Name y py] kt pt] (.Tuple [a, b] k2 pt2) pos.line X.env = pure false := by rfl) :
   PS X (.Assign [.Tuple [.Name x px, .Name y py] kt pt] (.Tuple [a, b] k2 pt2) pos) (tPar i j ta) := by
 intro pins s σ H D I h
 rw [exec_Assign_arm]
 refine wpAny_bind (wpAny_standAt ?_)
 rw [hs]
 refine wpAny_bind (wpAny_pure ?_)
 rw [if_neg (by decide)]
 refine wpAny_bind (Tuple_ (thn (ha _ pins s σ H _ I h) fun us s1 zz9 => ?_))
 obtain ⟨vs, H1, I1, r1, q1⟩ := zz9
 obtain ⟨v, w, e1, q1⟩ := q1
 subst e1
 obtain ⟨u1, u2, rfl, rv, rw'⟩ : ∃ u1 u2, us = [u1, u2] /\ RelV v u1 /\ RelV w u2 := by
   cases r1 with
   | cons p q =>
     cases q with
     | cons p' q' =>
       cases q'
       exact ⟨_, _, rfl, p, p'⟩
 refine wpAny_newObj_type ?_ (by show 2 <= sizeLine; decide)
 have I2 : Inv X pins σ H1 { s1 with heap := s1.heap.push { cls := .type "tuple", data := .seq [u1, u2].toArray } } := I1.kept (t' := s1.toks) fun b o e => Heap.get?_push_of_some _ e
 rw [hw]
 refine wpAny_bind (wpAny_pure ?_)
 show wpAny (model X.prog X.w) X.A (do rule "assign.swapped-stores"; let items <- unpackItems (.ref s1.heap.objs.size) 2 none; assignInOrder [fun v => bindName X.env y v, fun v => bindName X.env x v] items.reverse; pure Flow.next) _ _ _
 refine wpAny_bind (wpAny_rule (wpAny_bind (unpackItems_tuple (items := #[u1, u2]) (I.ok.hd hc) (IsTup.new s1.heap _) fun h' hx' => ?_)))
 have I3 := I2.kept (h' := h') (t' := s1.toks) fun b o e => hx' b o (Nat.ne_of_lt (Heap.lt_size e)) e
 show wpAny _ _ (assignInOrder [fun v => bindName X.env y v, fun v => bindName X.env x v] [u2, u1] >>= fun _ => pure Flow.next) _ _ _
 refine wpAny_bind (assignInOrder_cons (wpAny_bindName (a31 I3 hN hj (.inl hy) rw' (fun s2 I4 => ?_) (.inr hy))))
 refine assignInOrder_cons (wpAny_bindName (a31 I4 hN hi (.inl hx) rv (fun s3 I5 => assignInOrder_nil (wpAny_pure ?_)) (.inr hx)))
 rw [List.set_comm _ _ (Ne.symm hij)] at I5
 exact ⟨_, H1, I5, q1⟩
end
section
variable {X : Cx} {pos : Pos}
noncomputable def tWhile (c : TT) (tb : TS) : TS := fun D σ H => ∃ W : Nat -> St -> Hp -> Prop, (∃ m, W m σ H) /\ ∀ m σ H, W m σ H ->
 c σ H fun b H1 => if b = true then ∃ N : St -> Hp -> Prop, (∀ σ' H', N σ' H' -> ∃ m', m' < m /\ W m' σ' H') /\ tb { D with nx := N, ct := N, bk := D.nx } σ H1 else D.nx σ H1
theorem b6g {c : Expr} {body : List Stmt} {tc : TT} {tb : TS} (hp : PassesOwn (model X.prog X.w) X.A X.env X.xe) (hc : PT X c tc) (hb : PSs X body tb) : PS X (.While c body [] pos) (tWhile tc tb) := by
 intro pins s σ H D I h
 obtain ⟨W, ⟨m0, w0⟩, turn⟩ := h
 refine wpAny_While (codeAny_whileLoop (fun n s' => ∃ σ' H', Inv X pins σ' H' s' /\ W n σ' H') ?_ m0 ⟨σ, H, I, w0⟩)
 rintro n s1 ⟨σ1, H1, I1, w1⟩
 refine wpAny_passesOwn hp (thn (hc pins s1 σ1 H1 _ I1 (turn n σ1 H1 w1)) fun b s2 zz9 => ?_)
 obtain ⟨H2, I2, q2⟩ := zz9
 cases b with
 | true =>
   obtain ⟨N, hN, q2⟩ := q2
   rw [if_pos rfl]
   refine wpAny_passesOwn hp (thn (hb pins s2 σ1 H2 _ I2 q2) fun f s3 q3 => ?_)
   cases f with
   | next =>
     obtain ⟨σ3, H3, I3, n3⟩ := q3
     obtain ⟨m', hm, w3⟩ := hN σ3 H3 n3
     exact ⟨m', hm, σ3, H3, I3, w3⟩
   | cont =>
     obtain ⟨σ3, H3, I3, n3⟩ := q3
     obtain ⟨m', hm, w3⟩ := hN σ3 H3 n3
     exact ⟨m', hm, σ3, H3, I3, w3⟩
   | brk => exact q3
   | ret v => exact q3
 | false =>
   rw [if_neg Bool.false_ne_true]
   exact wpAny_execs_nil ⟨σ1, H2, I2, q2⟩
end
structure It where
 go : Nat -> Hp -> Prop
 yld : Nat -> Hp -> V -> Hp -> Prop
 stop : Nat -> Hp -> Prop
def FpOk (X : Cx) (pins : List (Addr × Obj)) (H : Hp) (b : Addr) : Prop :=
 H b = none /\ b ≠ X.env.locals /\ b ∉ X.fs /\ (b ∈ X.ex \/ X.s₀.heap.objs.size <= b) /\ (∀ x c, X.env.cells.lookup x = some c -> c ≠ b) /\ ∀ p ∈ X.pn ++ pins, p.1 ≠ b
theorem Inv.fpOk {X : Cx} {pins : List (Addr × Obj)} {σ : St} {H H' : Hp} {s : Shared} {b : Addr} (I : Inv X pins σ H s) (hb : s.heap.objs.size <= b) (hn : H' b = none) : FpOk X pins H' b := by
 refine ⟨hn, Nat.ne_of_gt (Nat.lt_of_lt_of_le I.lt hb), I.nofs hb, .inr (Nat.le_trans I.sz hb), fun x c e z => ?_, fun p hp z => ?_⟩
 . obtain ⟨v, q⟩ := I.cell x c e
   exact absurd (Nat.lt_of_lt_of_le q.lt (by rw [z]; exact hb)) (Nat.lt_irrefl _)
 . exact absurd (Nat.lt_of_lt_of_le (Heap.lt_size (I.pin p hp).1) (by rw [z]; exact hb)) (Nat.lt_irrefl _)
structure Turn (P : Program) (w : World) (K : PySem.W.Frag) (tg : Expr) (J : It) (fp : List Addr) (it : Addr) (tn : Nat -> Heap -> Prop) : Prop where
 mem : it ∈ fp
 obj : ∀ i h, tn i h -> ∀ b ∈ fp, ∃ o, h.get? b = some o /\ ∀ v, o.data ≠ .cell v
 keep : ∀ i h h', tn i h -> (∀ b ∈ fp, ∀ o, h.get? b = some o -> h'.get? b = some o) -> tn i h'
 item : ∀ (X : Cx), X.prog = P -> X.w = w -> X.K = K -> X.calm = true -> ∀ (i : Nat) (pins : List (Addr × Obj)) (s : Shared) (σ : St) (H : Hp) (E : Value -> Shared -> Prop), Inv X pins σ H s -> (∀ b ∈ fp, FpOk X pins H b) -> tn i s.heap -> J.go i H ->
   wpAny (model P w) X.A (pyNext (.ref it)) (fun r s1 => ∃ u, r = some u /\
     wpAny (model P w) X.A (letOwnedTupleGo tg (.ref it) u) (fun _ s2 => ∃ x H', Inv X pins σ H' s2 /\ RelV x u /\ J.yld i H x H' /\ tn (i + 1) s2.heap /\ ∀ b ∈ fp, H' b = none) E s1) E s
 done : ∀ (X : Cx), X.prog = P -> X.w = w -> X.K = K -> X.calm = true -> ∀ (i : Nat) (pins : List (Addr × Obj)) (s : Shared) (σ : St) (H : Hp) (E : Value -> Shared -> Prop), Inv X pins σ H s -> (∀ b ∈ fp, FpOk X pins H b) -> tn i s.heap -> J.stop i H ->
   wpAny (model P w) X.A (pyNext (.ref it)) (fun r s1 => r = none /\ Inv X pins σ H s1) E s
 self : ∀ (A : Around) (i : Nat) (s : Shared) (Q : Value -> Shared -> Prop) (E : Value -> Shared -> Prop), tn i s.heap -> Q (.ref it) s -> wpAny (model P w) A (pyIter (.ref it)) Q E s
noncomputable abbrev TI := St -> Hp -> (It -> Hp -> Prop) -> Prop
def PIE (X : Cx) (pins : List (Addr × Obj)) (σ : St) (tg : Expr) (R : It -> Hp -> Prop) (itv : Value) (s2 : Shared) : Prop :=
 ∃ (it : Addr) (fp : List Addr) (tn : Nat -> Heap -> Prop) (J : It) (H' : Hp), itv = .ref it /\ Inv X pins σ H' s2 /\ Turn X.prog X.w X.K tg J fp it tn /\ tn 0 s2.heap /\ (∀ b ∈ fp, FpOk X pins H' b) /\ R J H'
def PI (X : Cx) (tg iter : Expr) (wi : TI) : Prop :=
 ∀ (pins : List (Addr × Obj)) (s : Shared) (σ : St) (H : Hp) (R : It -> Hp -> Prop), Inv X pins σ H s -> wi σ H R ->
   wpAny (model X.prog X.w) X.A (eval iter X.env) (fun v s1 => wpAny (model X.prog X.w) X.A (pyIter v) (PIE X pins σ tg R) X.xe s1) X.xe s
theorem b46 {M : Model} {A : Around} {E : Value -> Shared -> Prop} {s : Shared} {tg : Expr} {it : Addr} {u : Value} {o : Obj} {n : String} {vs : Array Value} {Q : Unit -> Shared -> Prop} (ho : s.heap.get? it = some o) (hc : o.cls = .type n) (hd : o.data = .fields vs)
   (hn : ["enumerate", "zip", "dict_itemiterator", "dict_reverseitemiterator", "odict_iterator", "itertools.zip_longest", "itertools.pairwise"].contains n = false) (hQ : Q () s) : wpAny M A (letOwnedTupleGo tg (.ref it) u) Q E s := by
 unfold letOwnedTupleGo
 cases tg <;> first
   | exact wpAny_pure hQ
   | (cases u <;> first
       | exact wpAny_pure hQ
       | (refine wpAny_bind (wpAny_load ho ?_)
          rw [hc, hd]
          show wpAny M A (if (["enumerate", "zip", "dict_itemiterator", "dict_reverseitemiterator", "odict_iterator", "itertools.zip_longest", "itertools.pairwise"].contains n && vs[0]? == some (rawInt _)) = true then _ else _) Q E s
          rw [if_neg (by intro h; rw [hn, Bool.false_and] at h; cases h)]
          exact wpAny_pure hQ))
noncomputable def Itl (K : PySem.W.Frag) (a : Addr) : It :=
 ⟨fun i H => ∃ xs x, SqL K H a xs /\ xs[i]? = some x, fun i H x H' => H' = H /\ ∀ xs, SqL K H a xs -> xs[i]? = some x, fun i H => ∃ xs, SqL K H a xs /\ xs.length <= i⟩
noncomputable def Itr (lo : Int) (n : Nat) : It := ⟨fun i _ => i < n, fun i H x H' => H' = H /\ x = .int (lo + i), fun i _ => n <= i⟩
theorem b23 {P : Program} {w : World} {K : PySem.W.Frag} {tg : Expr} (a it : Addr) : Turn P w K tg (Itl K a) [it] it (fun i h => h.IsListIter it a i) where
 mem := by simp
 obj := fun i h st b hb => by
   have e : b = it := by simpa using hb
   subst e
   obtain ⟨o, e, c, d⟩ := st
   exact ⟨o, e, fun v z => by rw [d] at z; cases z⟩
 keep := fun i h h' st k => st.at fun o e => k it (by simp) o e
 item := by
   intro X hP hw hK hc i pins s σ H E I hf st hg
   subst hP hw hK
   obtain ⟨xs, x, hq, hx⟩ := hg
   obtain ⟨its, rv, p, hz⟩ := I.list hq
   obtain ⟨u, hu, ru⟩ := rv.get hx
   obtain ⟨f0, f1, f2, f3, f4, f5⟩ := hf it (by simp)
   refine wpAny_pyNext_list_item st p.isList (x := u) (by simpa using hu) fun h' st' sb => ?_
   have I1 : Inv X pins σ H { s with heap := h' } := I.turned (t' := s.toks) (fun b o hb e => (sb.2 b hb).trans e) f0 f1 f3 f4 f5
   obtain ⟨o, e, c, d⟩ := id st'
   exact ⟨u, rfl, b46 (s := { s with heap := h' }) e c d (by decide) ⟨x, H, I1, ru, ⟨rfl, fun ys hy => by rw [I.list_inj hy hq]; exact hx⟩, st', fun b hb => (hf b hb).1⟩⟩
 done := by
   intro X hP hw hK hc i pins s σ H E I hf st hg
   subst hP hw hK
   obtain ⟨xs, hq, hx⟩ := hg
   obtain ⟨its, rv, p, hz⟩ := I.list hq
   obtain ⟨f0, f1, f2, f3, f4, f5⟩ := hf it (by simp)
   have hl := rv.length
   exact wpAny_pyNext_list_end (I.ok.hd hc) st p.isList (by simp; omega) fun h' eb => ⟨rfl, I.turned (t' := s.toks) (fun b o hb e => eb b o hb e) f0 f1 f3 f4 f5⟩
 self := fun _ _ _ _ _ st h => wpAny_pyIter_listiter st h
theorem b18 {P : Program} {w : World} {K : PySem.W.Frag} {tg : Expr} (it : Addr) (lo : Int) (n : Nat) : Turn P w K tg (Itr lo n) [it] it (fun i h => IsRangeIter h it (lo + (i : Nat) * 1) ((n : Int) - (i : Nat)) 1) where
 mem := by simp
 obj := fun i h st b hb => by
   have e : b = it := by simpa using hb
   subst e
   exact ⟨_, st, fun v z => by
     have z' : Data.fields _ = Data.cell v := z
     cases z'⟩
 keep := fun i h h' st k => k it (by simp) _ st
 item := by
   intro X hP hw hK hc i pins s σ H E I hf st hg
   subst hP hw hK
   obtain ⟨f0, f1, f2, f3, f4, f5⟩ := hf it (by simp)
   have W := Walks.range (prog := X.prog) (w := X.w) (I.ok.hd hc) it lo 1 n
   refine W.item i s _ _ hg st fun v h' tk hv st' kk => ?_
   obtain ⟨t, rfl⟩ := hv
   have I1 : Inv X pins σ H { s with heap := h', toks := tk } := I.turned (fun b o hb e => kk b o (by simpa using hb) e) f0 f1 f3 f4 f5
   refine ⟨_, rfl, b46 (s := { s with heap := h', toks := tk }) (n := "range_iterator") st' rfl rfl (by decide) ⟨.int (lo + i), H, I1, ⟨t, ?_⟩, ⟨rfl, rfl⟩, st', fun b hb => (hf b hb).1⟩⟩
   rw [Int.mul_one]
 done := by
   intro X hP hw hK hc i pins s σ H E I hf st hg
   subst hP hw hK
   obtain ⟨f0, f1, f2, f3, f4, f5⟩ := hf it (by simp)
   exact wpAny_pyNext_range_end (I.ok.hd hc) st (by have : n <= i := hg; omega) fun h' eb => ⟨rfl, I.turned (t' := s.toks) (fun b o hb e => eb b o hb e) f0 f1 f3 f4 f5⟩
 self := fun _ _ _ _ _ st h => wpAny_pyIter_rangeiter st h
section
variable {X : Cx} {tg : Expr}
def iList (K : PySem.W.Frag) (tl : TE) : TI := fun σ H R => tl σ H fun x H1 => ∃ a, x = .ref a /\ (∃ xs, SqL K H1 a xs) /\ R (Itl K a) H1
theorem pi_list {l : Expr} {tl : TE} (hl : PE X l tl) : PI X tg l (iList X.K tl) := by
 intro pins s σ H R I h
 refine thn (hl pins s σ H _ I h) fun v s1 zz9 => ?_
 obtain ⟨x, H1, I1, r1, q1⟩ := zz9
 obtain ⟨a, e, ⟨xs, hq⟩, q⟩ := q1
 subst e
 cases r1
 obtain ⟨its, rv, p, hz⟩ := I1.list hq
 refine wpAny_pyIter_list p.isList ?_
 refine ⟨s1.heap.objs.size, [s1.heap.objs.size], _, _, H1, rfl, I1.kept (t' := s1.toks) fun b o e => Heap.get?_push_of_some _ e, b23 a _, ⟨_, Heap.get?_push_size _ rfl, rfl, rfl⟩, fun b hb => ?_, q⟩
 have e : b = s1.heap.objs.size := by simpa using hb
 subst e
 exact I1.fpOk (Nat.le_refl _) (I1.hok.fresh (Nat.le_refl _))
theorem b09 {pins : List (Addr × Obj)} {σ : St} {H : Hp} {s : Shared} {R : It -> Hp -> Prop} {E : Value -> Shared -> Prop} {lo hi : Int} {t u v : Tok} {tk : Nat} (I : Inv X pins σ H s) (h1 : -(2 ^ 62) <= lo) (h2 : lo < 2 ^ 62) (h3 : -(2 ^ 62) <= hi) (h4 : hi < 2 ^ 62)
   (q : R (Itr lo (hi - lo).toNat) H) : wpAny (model X.prog X.w) X.A (pyIter (.ref s.heap.objs.size)) (PIE X pins σ tg R) E { s with heap := s.heap.push { cls := .type "range", data := .fields #[.int lo t, .int hi u, .int 1 v] }, toks := tk } := by
 refine wpAny_pyIter_range (IsRange.new ..) (small_one h1 h2 h3 h4) ?_
 have I1 : Inv X pins σ H { s with heap := s.heap.push { cls := .type "range", data := .fields #[.int lo t, .int hi u, .int 1 v] }, toks := tk } := I.kept fun b o e => Heap.get?_push_of_some _ e
 refine ⟨(s.heap.push { cls := .type "range", data := .fields #[.int lo t, .int hi u, .int 1 v] }).objs.size, [(s.heap.push { cls := .type "range", data := .fields #[.int lo t, .int hi u, .int 1 v] }).objs.size], _, _, H, rfl,
   I1.kept (t' := tk) fun b o e => Heap.get?_push_of_some _ e, b18 _ lo (hi - lo).toNat, ?_, fun b hb => ?_, q⟩
 . have e1 : lo + ((0 : Nat) : Int) * 1 = lo := by simp
   have e2 : (((hi - lo).toNat : Nat) : Int) - ((0 : Nat) : Int) = Builtin.Range.rangeSize lo hi 1 := by rw [rangeSize_one]; split <;> omega
   show IsRangeIter _ _ (lo + ((0 : Nat) : Int) * 1) ((((hi - lo).toNat : Nat) : Int) - ((0 : Nat) : Int)) 1
   rw [e1, e2]
   exact Heap.get?_push_size _ rfl
 . have e : b = (s.heap.push { cls := .type "range", data := .fields #[.int lo t, .int hi u, .int 1 v] }).objs.size := by simpa using hb
   subst e
   exact I1.fpOk (Nat.le_refl _) (I1.hok.fresh (Nat.le_refl _))
def iRng1 (ta : TA) : TI := fun σ H R => ta σ H fun vs H1 => ∃ j : Int, vs = [.int j] /\ -(2 ^ 62) <= j /\ j < 2 ^ 62 /\ R (Itr 0 j.toNat) H1
def iRng2 (ta : TA) : TI := fun σ H R => ta σ H fun vs H1 => ∃ i j : Int, vs = [.int i, .int j] /\ (-(2 ^ 62) <= i /\ i < 2 ^ 62 /\ -(2 ^ 62) <= j /\ j < 2 ^ 62) /\ R (Itr i (j - i).toNat) H1
theorem b3u {a : Expr} {ta : TA} {p pos : Pos} (hg : Gl X "range") (hm : X.mg "range" = none) (ha : PA X [a] ta) (hs : starEach [a] X.env = [(false, eval a X.env)] := by rfl) : PI X tg (.Call (.Name "range" p) [a] [] pos) (iRng1 ta) := by
 intro pins s σ H R I h
 refine Call_ (a9d I hg hm boot_range (PyProof.Rows.callWith_type1 (thn (ha pos pins s σ H _ I h) fun us s1 ⟨vs, H1, I1, r1, q1⟩ => ?_) hs rfl))
 obtain ⟨j, e, q1, q2, q⟩ := q1
 subst e
 cases r1 with
 | cons r rr =>
   cases rr
   obtain ⟨t, rfl⟩ := r
   exact call_range_1 (b09 I1 (by omega) (by omega) q1 q2 (by simpa using q))
theorem b3t {a b : Expr} {ta : TA} {p pos : Pos} (hg : Gl X "range") (hm : X.mg "range" = none) (ha : PA X [a, b] ta) (hs : starEach [a, b] X.env = [(false, eval a X.env), (false, eval b X.env)] := by rfl) (hs2 : starEach [b] X.env = [(false, eval b X.env)] := by rfl) :
   PI X tg (.Call (.Name "range" p) [a, b] [] pos) (iRng2 ta) := by
 intro pins s σ H R I h
 refine Call_ (a9d I hg hm boot_range (PyProof.Rows.callWith_type1 (thn (ha pos pins s σ H _ I h) fun us s1 ⟨vs, H1, I1, r1, q1⟩ => ?_) (by rw [hs, hs2]) (by rw [hs2]; rfl)))
 obtain ⟨i, j, e, ⟨q1, q2, q3, q4⟩, q⟩ := q1
 subst e
 cases r1 with
 | cons r rr =>
   cases rr with
   | cons r' rr =>
     cases rr
     obtain ⟨t, rfl⟩ := r
     obtain ⟨t', rfl⟩ := r'
     exact call_range_2 (b09 I1 q1 q2 q3 q4 q)
noncomputable def tFor (wi : TI) (g : TG) (tb : TS) : TS := fun D σ H => wi σ H fun J H1 => ∃ W : Nat -> Nat -> St -> Hp -> Prop, (∃ m, W 0 m σ H1) /\ ∀ i m σ H, W i m σ H ->
 (J.stop i H /\ D.nx σ H) \/ (J.go i H /\ ∃ N : St -> Hp -> Prop, (∀ σ' H', N σ' H' -> ∃ m', m' < m /\ W (i + 1) m' σ' H') /\ ∀ x H', J.yld i H x H' -> g x σ H' fun σ2 H2 => tb { D with nx := N, ct := N, bk := D.nx } σ2 H2)
noncomputable def a53 (fp : List Addr) (h : Heap) : List (Addr × Obj) := fp.filterMap fun b => (h.get? b).map fun o => (b, o)
theorem a2h {fp : List Addr} {h : Heap} {b : Addr} {o : Obj} (hb : b ∈ fp) (e : h.get? b = some o) : (b, o) ∈ a53 fp h := List.mem_filterMap.mpr ⟨b, hb, by rw [e]; rfl⟩
theorem b38 {fp : List Addr} {h : Heap} {p : Addr × Obj} (hp : p ∈ a53 fp h) : p.1 ∈ fp /\ h.get? p.1 = some p.2 := by
 obtain ⟨b, hb, e⟩ := List.mem_filterMap.mp hp
 cases q : h.get? b with
 | none => rw [q] at e; cases e
 | some o =>
   rw [q] at e
   have e' : (b, o) = p := Option.some.inj e
   subst e'
   exact ⟨hb, q⟩
theorem Inv.pinned {pins : List (Addr × Obj)} {σ : St} {H : Hp} {s : Shared} {fp : List Addr} (I : Inv X pins σ H s) (hf : ∀ b ∈ fp, FpOk X pins H b) (ho : ∀ b ∈ fp, ∃ o, s.heap.get? b = some o /\ ∀ v, o.data ≠ .cell v) : Inv X (pins ++ a53 fp s.heap) σ H s :=
 I.pins_of fun p hp => (List.mem_append.mp hp).elim (fun z => I.pin p (List.mem_append_right _ z)) fun z => by
   obtain ⟨hb, e⟩ := b38 z
   obtain ⟨f0, f1, f2, _⟩ := hf p.1 hb
   obtain ⟨o, e', d⟩ := ho p.1 hb
   rw [e] at e'; cases e'
   exact ⟨e, f0, f1, f2, d⟩
theorem Inv.unpinned {pins pl : List (Addr × Obj)} {σ : St} {H : Hp} {s : Shared} (I : Inv X (pins ++ pl) σ H s) : Inv X pins σ H s := I.pins_of fun p hp => I.pin p (List.mem_append_right _ (List.mem_append_left _ hp))
theorem ps_for {iter : Expr} {body : List Stmt} {wi : TI} {g : TG} {tb : TS} {pos : Pos} (hp : PassesOwn (model X.prog X.w) X.A X.env X.xe) (hc : X.calm = true) (hi : PI X tg iter wi) (hg : PG X tg g) (hb : PSs X body tb)
   (hs : ∀ x, foldedSetIterable iter X.env x = pure x := by intro _; rfl) : PS X (.For tg iter body [] pos) (tFor wi g tb) := by
 intro pins s σ H D I h
 refine wpAny_For (thn (hi pins s σ H _ I h) fun v s1 h1 => thn h1 fun itv s2 h2 => ?_) hs
 obtain ⟨it, fp, tn, J, H2, e, I2, T, st2, f2, W, ⟨m0, w0⟩, turn⟩ := h2
 subst e
 -- what stays true of the iterator's objects through the loop
 have stat : ∀ {H' : Hp}, (∀ b ∈ fp, H' b = none) -> ∀ b ∈ fp, FpOk X pins H' b := fun hn b hb => ⟨hn b hb, (f2 b hb).2⟩
 refine codeAny_forLoop_any (fun n s' => ∃ i σ' H', Inv X pins σ' H' s' /\ tn i s'.heap /\ (∀ b ∈ fp, H' b = none) /\ W i n σ' H') ?_ m0 ⟨0, σ, H2, I2, st2, fun b hb => (f2 b hb).1, w0⟩
 rintro n s3 ⟨i, σ3, H3, I3, st3, fr3, w3⟩
 rcases turn i n σ3 H3 w3 with ⟨stop, qn⟩ | ⟨go, N, hN, step⟩
 . refine wpAny_passesOwn hp (thn (T.done X rfl rfl rfl hc i pins s3 σ3 H3 X.xe I3 (stat fr3) st3 stop) fun r s4 zz9 => ?_)
   obtain ⟨hr, I4⟩ := zz9
   subst hr
   exact wpAny_execs_nil ⟨σ3, H3, I4, qn⟩
 . refine wpAny_passesOwn hp (thn (T.item X rfl rfl rfl hc i pins s3 σ3 H3 X.xe I3 (stat fr3) st3 go) fun r s4 zz9 => ?_)
   obtain ⟨u, hr, h4⟩ := zz9
   subst hr
   refine wpAny_passesOwn hp (thn h4 fun _ s5 zz9 => ?_)
   obtain ⟨x, H5, I5, r5, y5, st5, fr5⟩ := zz9
   have I5' := I5.pinned (stat fr5) (T.obj _ _ st5)
   refine wpAny_passesOwn hp (thn (hg _ s5 σ3 H5 x u _ I5' r5 (step x H5 y5)) fun _ s6 zz9 => ?_)
   obtain ⟨σ6, H6, I6, q6⟩ := zz9
   refine wpAny_passesOwn hp (thn (hb _ s6 σ6 H6 _ I6 q6) fun f s7 q7 => ?_)
   have again : ∀ {σ7 : St} {H7 : Hp}, Inv X (pins ++ a53 fp s5.heap) σ7 H7 s7 -> N σ7 H7 -> ∃ m, m < n /\ ∃ i σ' H', Inv X pins σ' H' s7 /\ tn i s7.heap /\ (∀ b ∈ fp, H' b = none) /\ W i m σ' H' := fun {σ7 H7} I7 n7 => by
     obtain ⟨m', hm, w7⟩ := hN σ7 H7 n7
     refine ⟨m', hm, i + 1, σ7, H7, I7.unpinned, T.keep _ _ _ st5 fun b hb o e => (I7.pin (b, o) (List.mem_append_right _ (List.mem_append_right _ (a2h hb e)))).1, fun b hb => ?_, w7⟩
     obtain ⟨o, e, d⟩ := T.obj _ _ st5 b hb
     exact (I7.pin (b, o) (List.mem_append_right _ (List.mem_append_right _ (a2h hb e)))).2.1
   cases f with
   | next => obtain ⟨σ7, H7, I7, n7⟩ := q7; exact again I7 n7
   | cont => obtain ⟨σ7, H7, I7, n7⟩ := q7; exact again I7 n7
   | brk => obtain ⟨σ7, H7, I7, q7⟩ := q7; exact ⟨σ7, H7, I7.unpinned, q7⟩
   | ret v => obtain ⟨x7, σ7, H7, I7, r7, q7⟩ := q7; exact ⟨x7, σ7, H7, I7.unpinned, r7, q7⟩
end
noncomputable abbrev R2 := V -> V -> Hp -> VK -> Prop
def OpR (X : Cx) (f : Value -> Value -> Sem Value) (r : R2) : Prop :=
 ∀ (pins : List (Addr × Obj)) (s : Shared) (σ : St) (H : Hp) (x y : V) (v u : Value) (Q : VK), Inv X pins σ H s -> RelV x v -> RelV y u -> r x y H Q ->
   wpAny (model X.prog X.w) X.A (f v u) (EP X pins σ Q) X.xe s
def UnR (X : Cx) (f : Value -> Sem Value) (r : V -> Hp -> VK -> Prop) : Prop :=
 ∀ (pins : List (Addr × Obj)) (s : Shared) (σ : St) (H : Hp) (x : V) (v : Value) (Q : VK), Inv X pins σ H s -> RelV x v -> r x H Q ->
   wpAny (model X.prog X.w) X.A (f v) (EP X pins σ Q) X.xe s
def CallR (X : Cx) (f : Value) (r : List V -> Hp -> VK -> Prop) : Prop :=
 ∀ (pins : List (Addr × Obj)) (s : Shared) (σ : St) (H : Hp) (xs : List V) (us : List Value) (Q : VK), Inv X pins σ H s -> Vals xs us -> r xs H Q ->
   wpAny (model X.prog X.w) X.A (call f us) (EP X pins σ Q) X.xe s
def tOp (r : R2) (ta tb : TE) : TE := fun σ H Q => ta σ H fun x H1 => tb σ H1 fun y H2 => r x y H2 Q
def tUn (r : V -> Hp -> VK -> Prop) (ta : TE) : TE := fun σ H Q => ta σ H fun x H1 => r x H1 Q
def rI (C : Int -> Int -> Prop) (g : Int -> Int -> V) : R2 := fun x y H Q => ∃ i j, x = .int i /\ y = .int j /\ C i j /\ Q (g i j) H
def rI0 (g : Int -> Int -> V) : R2 := fun x y H Q => ∃ i j, x = .int i /\ y = .int j /\ Q (g i j) H
def rU (g : Int -> V) : V -> Hp -> VK -> Prop := fun x H Q => ∃ i, x = .int i /\ Q (g i) H
section
variable {X : Cx} {a b c : Expr} {ta tb tc : TE} {pos : Pos}
theorem binT (ha : PE X a ta) (hb : PE X b tb) {pins : List (Addr × Obj)} {s : Shared} {σ : St} {H : Hp} {R : V -> V -> Hp -> Prop} (I : Inv X pins σ H s)
   (h : ta σ H fun x H1 => tb σ H1 fun y H2 => R x y H2) {Q : Value -> Shared -> Prop} {f : Value -> Value -> Sem Value}
   (hf : ∀ v u s2 x y H2, Inv X pins σ H2 s2 -> RelV x v -> RelV y u -> R x y H2 -> wpAny (model X.prog X.w) X.A (f v u) Q X.xe s2) :
   wpAny (model X.prog X.w) X.A (eval a X.env) (fun v s₁ => wpAny (model X.prog X.w) X.A (eval b X.env) (fun u s₂ => wpAny (model X.prog X.w) X.A (f v u) Q X.xe s₂) X.xe s₁) X.xe s := by
 refine thn (ha pins s σ H _ I h) fun v s1 zz9 => ?_
 obtain ⟨x, H1, I1, r1, q1⟩ := zz9
 refine thn (hb pins s1 σ H1 _ I1 q1) fun u s2 zz9 => ?_
 obtain ⟨y, H2, I2, r2, q2⟩ := zz9
 exact hf v u s2 x y H2 I2 r1 r2 q2
theorem pe_op {op : Operator} {r : R2} (ho : OpR X (binaryOp op) r) (ha : PE X a ta) (hb : PE X b tb) : PE X (.BinOp a op b pos) (tOp r ta tb) := by
 intro pins s σ H Q I h
 exact wpAny_BinOp (binT ha hb I h fun v u s2 x y H2 I2 rx ry q => ho pins s2 σ H2 x y v u Q I2 rx ry q)
theorem pe_un {op : UnaryOp} {r : V -> Hp -> VK -> Prop} (ho : UnR X (unaryOp op) r) (ha : PE X a ta) : PE X (.UnaryOp op a pos) (tUn r ta) := by
 intro pins s σ H Q I h
 exact UnaryOp_ (thn (ha pins s σ H _ I h) fun v s1 ⟨x, H1, I1, r1, q1⟩ => ho pins s1 σ H1 x v Q I1 r1 q1)
theorem opI {f : Value -> Value -> Sem Value} {C : Int -> Int -> Prop} {g : Int -> Int -> Int}
   (rule : ∀ (i j : Int) (t u : Tok) (s : Shared) (Q : Value -> Shared -> Prop) (E : Value -> Shared -> Prop), C i j -> Q (.int (g i j) s.toks) { s with toks := s.toks + 1 } -> wpAny (model X.prog X.w) X.A (f (.int i t) (.int j u)) Q E s) :
   OpR X f (rI C fun i j => .int (g i j)) := by
 intro pins s σ H x y v u Q I rx ry h
 obtain ⟨i, j, rfl, rfl, hc, q⟩ := h
 obtain ⟨t, rfl⟩ := rx
 obtain ⟨t', rfl⟩ := ry
 exact rule i j t t' s _ _ hc ⟨.int (g i j), H, I.tok _, ⟨_, rfl⟩, q⟩
theorem opI0 {f : Value -> Value -> Sem Value} {g : Int -> Int -> Int}
   (rule : ∀ (i j : Int) (t u : Tok) (s : Shared) (Q : Value -> Shared -> Prop) (E : Value -> Shared -> Prop), Q (.int (g i j) s.toks) { s with toks := s.toks + 1 } -> wpAny (model X.prog X.w) X.A (f (.int i t) (.int j u)) Q E s) :
   OpR X f (rI0 fun i j => .int (g i j)) := by
 intro pins s σ H x y v u Q I rx ry h
 obtain ⟨i, j, rfl, rfl, q⟩ := h
 obtain ⟨t, rfl⟩ := rx
 obtain ⟨t', rfl⟩ := ry
 exact rule i j t t' s _ _ ⟨.int (g i j), H, I.tok _, ⟨_, rfl⟩, q⟩
theorem opB0 {f : Value -> Value -> Sem Value} {g : Int -> Int -> Bool}
   (rule : ∀ (i j : Int) (t u : Tok) (s : Shared) (Q : Value -> Shared -> Prop) (E : Value -> Shared -> Prop), Q (.bool (g i j)) s -> wpAny (model X.prog X.w) X.A (f (.int i t) (.int j u)) Q E s) :
   OpR X f (rI0 fun i j => .bl (g i j)) := by
 intro pins s σ H x y v u Q I rx ry h
 obtain ⟨i, j, rfl, rfl, q⟩ := h
 obtain ⟨t, rfl⟩ := rx
 obtain ⟨t', rfl⟩ := ry
 exact rule i j t t' s _ _ ⟨.bl (g i j), H, I, rfl, q⟩
def CDiv (i j : Int) : Prop := 0 < j /\ j < 1073741824
def CPow (i j : Int) : Prop := 0 <= j /\ j <= 1000000 /\ i.natAbs < 2 ^ 64
def CMul (i j : Int) : Prop := (-(2 ^ 64) < i /\ i < 2 ^ 64) \/ (-(2 ^ 64) < j /\ j < 2 ^ 64)
theorem CMul.ok {i j : Int} (h : CMul i j) : IntMulOk i j := by
 rcases h with ⟨h1, h2⟩ | ⟨h1, h2⟩
 . exact .of_left (intBits_le_64 h1 h2)
 . exact .of_right (intBits_le_64 h1 h2)
theorem op_add : OpR X (binaryOp .Add) (rI0 fun i j => .int (i + j)) := opI0 fun _ _ _ _ _ _ _ q => add_int q
theorem op_sub : OpR X (binaryOp .Sub) (rI0 fun i j => .int (i - j)) := opI0 fun _ _ _ _ _ _ _ q => sub_int q
theorem a4z : OpR X (binaryOp .FloorDiv) (rI CDiv fun i j => .int (i / j)) := opI fun i j _ _ _ _ _ hc q => by
 have h1 : (0 : Int) < j := hc.1
 have h2 : j < 1073741824 := hc.2
 exact floordiv_int (by omega) (by rw [Int.fdiv_eq_ediv_of_nonneg i (by omega)]; exact q) (.inl (PyProof.noPylong_small (by omega)))
theorem a07 : OpR X (binaryOp .Mod) (rI (fun _ j => 0 < j) fun i j => .int (i % j)) := opI fun i j _ _ _ _ _ hc q => by
 have h1 : (0 : Int) < j := hc
 exact mod_int' (by omega) (by rw [Int.fmod_eq_emod_of_nonneg i (by omega)]; exact q)
theorem op_pow : OpR X (binaryOp .Pow) (rI CPow fun i j => .int (i ^ j.toNat)) := opI fun _ _ _ _ _ _ _ hc q => pow_int_small hc.1 hc.2.1 hc.2.2 q
theorem unI {f : Value -> Sem Value} {g : Int -> Int}
   (rule : ∀ (i : Int) (t : Tok) (s : Shared) (Q : Value -> Shared -> Prop) (E : Value -> Shared -> Prop), Q (.int (g i) s.toks) { s with toks := s.toks + 1 } -> wpAny (model X.prog X.w) X.A (f (.int i t)) Q E s) :
   UnR X f (rU fun i => .int (g i)) := by
 intro pins s σ H x v Q I rx h
 obtain ⟨i, rfl, q⟩ := h
 obtain ⟨t, rfl⟩ := rx
 exact rule i t s _ _ ⟨.int (g i), H, I.tok _, ⟨_, rfl⟩, q⟩
theorem a8o : UnR X (unaryOp .USub) (rU fun i => .int (-i)) := unI fun _ _ _ _ _ q => neg_int q
end
noncomputable def scal : V -> V -> Bool
 | .non, .non => true | .non, .int _ => true | .int _, .non => true | .non, .bl _ => true | .bl _, .non => true | .non, .str _ => true | .str _, .non => true
 | .int _, .int _ => true | .bl _, .bl _ => true | .str _, .str _ => true | .byt _, .byt _ => true
 | .int _, .str _ => true | .str _, .int _ => true | .bl _, .str _ => true | .str _, .bl _ => true
 | _, _ => false
def rEq : R2 := fun x y H Q => scal x y = true /\ Q (.bl (decide (x = y))) H
def rNe : R2 := fun x y H Q => scal x y = true /\ Q (.bl (!decide (x = y))) H
theorem b5l {i j : Int} : decide (V.int i = V.int j) = (i == j) := by
 rw [Bool.eq_iff_iff]
 simp
theorem dec_bl {i j : Bool} : decide (V.bl i = V.bl j) = (i == j) := by
 rw [Bool.eq_iff_iff]
 simp
theorem b0r {i j : Str} : decide (V.str i = V.str j) = (i == j) := by
 rw [Bool.eq_iff_iff]
 simp
theorem b5m {i j : Array UInt8} : decide (V.byt i = V.byt j) = (i.toList == j.toList) := by
 rw [Bool.eq_iff_iff]
 cases i
 cases j
 simp
section
variable {X : Cx} {a b c : Expr} {ta tb tc : TE} {pos : Pos}
theorem a00 {pins : List (Addr × Obj)} {σ : St} {H : Hp} {s : Shared} {Q : VK} {k k' : Bool} (I : Inv X pins σ H s) (q : Q (.bl k) H) (e : k = k') : EP X pins σ Q (.bool k') s := by
 subst e
 exact ⟨.bl k, H, I, rfl, q⟩
theorem op_eq : OpR X (compareOp .Eq) rEq := by
 intro pins s σ H x y v u Q I rx ry h
 obtain ⟨hs, q⟩ := h
 cases x with
 | non =>
   cases rx
   cases y with
   | non => cases ry; exact PySem.EqNone.eq_none_none (a00 I q (by simp))
   | bl j => cases ry; exact PySem.EqNone.eq_none_bool (a00 I q (by simp))
   | int j => obtain ⟨t', rfl⟩ := ry; exact PySem.EqNone.eq_none_int (a00 I q (by simp))
   | str j => obtain ⟨t', rfl⟩ := ry; exact PySem.EqNone.eq_none_str (a00 I q (by simp))
   | _ => exact absurd (show false = true from hs) Bool.false_ne_true
 | bl i =>
   cases rx
   cases y with
   | non => cases ry; exact PySem.EqNone.eq_bool_none (a00 I q (by simp))
   | bl j => cases ry; exact eq_bool (a00 I q dec_bl)
   | str j => obtain ⟨t', rfl⟩ := ry; exact PySem.EqMixed.eq_bool_str (a00 I q (by simp))
   | _ => exact absurd (show false = true from hs) Bool.false_ne_true
 | int i =>
   obtain ⟨t, rfl⟩ := rx
   cases y with
   | non => cases ry; exact PySem.EqNone.eq_int_none (a00 I q (by simp))
   | int j => obtain ⟨t', rfl⟩ := ry; exact eq_int (a00 I q b5l)
   | str j => obtain ⟨t', rfl⟩ := ry; exact PySem.EqMixed.eq_int_str (a00 I q (by simp))
   | _ => exact absurd (show false = true from hs) Bool.false_ne_true
 | str i =>
   obtain ⟨t, rfl⟩ := rx
   cases y with
   | non => cases ry; exact PySem.EqNone.eq_str_none (a00 I q (by simp))
   | bl j => cases ry; exact PySem.EqMixed.eq_str_bool (a00 I q (by simp))
   | int j => obtain ⟨t', rfl⟩ := ry; exact PySem.EqMixed.eq_str_int (a00 I q (by simp))
   | str j => obtain ⟨t', rfl⟩ := ry; exact eq_str (a00 I q b0r)
   | _ => exact absurd (show false = true from hs) Bool.false_ne_true
 | byt i =>
   obtain ⟨t, rfl⟩ := rx
   cases y with
   | byt j => obtain ⟨t', rfl⟩ := ry; exact PySem.W.eq_bytes (a00 I q b5m)
   | _ => exact absurd (show false = true from hs) Bool.false_ne_true
 | _ => cases y <;> exact absurd (show false = true from hs) Bool.false_ne_true
theorem op_ne : OpR X (compareOp .NotEq) rNe := by
 intro pins s σ H x y v u Q I rx ry h
 obtain ⟨hs, q⟩ := h
 cases x with
 | non =>
   cases rx
   cases y with
   | non => cases ry; exact PySem.EqNone.ne_none_none (a00 I q (by simp))
   | bl j => cases ry; exact PySem.EqNone.ne_none_bool (a00 I q (by simp))
   | int j => obtain ⟨t', rfl⟩ := ry; exact PySem.EqNone.ne_none_int (a00 I q (by simp))
   | str j => obtain ⟨t', rfl⟩ := ry; exact PySem.EqNone.ne_none_str (a00 I q (by simp))
   | _ => exact absurd (show false = true from hs) Bool.false_ne_true
 | bl i =>
   cases rx
   cases y with
   | non => cases ry; exact PySem.EqNone.ne_bool_none (a00 I q (by simp))
   | bl j => cases ry; exact ne_bool (a00 I q (congrArg not dec_bl))
   | str j => obtain ⟨t', rfl⟩ := ry; exact PySem.EqMixed.ne_bool_str (a00 I q (by simp))
   | _ => exact absurd (show false = true from hs) Bool.false_ne_true
 | int i =>
   obtain ⟨t, rfl⟩ := rx
   cases y with
   | non => cases ry; exact PySem.EqNone.ne_int_none (a00 I q (by simp))
   | int j => obtain ⟨t', rfl⟩ := ry; exact ne_int (a00 I q (congrArg not b5l))
   | str j => obtain ⟨t', rfl⟩ := ry; exact PySem.EqMixed.ne_int_str (a00 I q (by simp))
   | _ => exact absurd (show false = true from hs) Bool.false_ne_true
 | str i =>
   obtain ⟨t, rfl⟩ := rx
   cases y with
   | non => cases ry; exact PySem.EqNone.ne_str_none (a00 I q (by simp))
   | bl j => cases ry; exact PySem.EqMixed.ne_str_bool (a00 I q (by simp))
   | int j => obtain ⟨t', rfl⟩ := ry; exact PySem.EqMixed.ne_str_int (a00 I q (by simp))
   | str j => obtain ⟨t', rfl⟩ := ry; exact ne_str (a00 I q (congrArg not b0r))
   | _ => exact absurd (show false = true from hs) Bool.false_ne_true
 | byt i =>
   obtain ⟨t, rfl⟩ := rx
   cases y with
   | byt j => obtain ⟨t', rfl⟩ := ry; exact PySem.W.ne_bytes (a00 I q (congrArg not b5m))
   | _ => exact absurd (show false = true from hs) Bool.false_ne_true
 | _ => cases y <;> exact absurd (show false = true from hs) Bool.false_ne_true
theorem a59 : OpR X (compareOp .Lt) (rI0 fun i j => .bl (decide (i < j))) := opB0 fun _ _ _ _ _ _ _ q => lt_int q
theorem b6q : OpR X (compareOp .Gt) (rI0 fun i j => .bl (decide (j < i))) := opB0 fun _ _ _ _ _ _ _ q => gt_int q
theorem b6r : OpR X (compareOp .GtE) (rI0 fun i j => .bl (decide (j <= i))) := opB0 fun _ _ _ _ _ _ _ q => ge_int q
theorem b34 : OpR X (compareOp .In) (fun x y H Q => ∃ i j, x = .str i /\ y = .str j /\ Q (.bl (!(Builtin.Str.occurrences j i 0 j.length 1).isEmpty)) H) := by
 intro pins s σ H x y v u Q I rx ry h
 obtain ⟨i, j, rfl, rfl, q⟩ := h
 obtain ⟨t, rfl⟩ := rx
 obtain ⟨t', rfl⟩ := ry
 exact in_str (a00 I q rfl)
theorem a80 : OpR X (compareOp .Is) (fun x y H Q => y = .non /\ Q (.bl (decide (x = .non))) H) := by
 intro pins s σ H x y v u Q I rx ry h
 obtain ⟨rfl, q⟩ := h
 cases ry
 refine is_none_gen (a00 I q ?_)
 cases x <;> first
   | (cases rx; rfl)
   | (obtain ⟨t, rfl⟩ := rx; rfl)
theorem a91 : OpR X (compareOp .IsNot) (fun x y H Q => y = .non /\ Q (.bl (!decide (x = .non))) H) := by
 intro pins s σ H x y v u Q I rx ry h
 obtain ⟨rfl, q⟩ := h
 cases ry
 refine isnot_none_gen (a00 I q ?_)
 cases x <;> first
   | (cases rx; rfl)
   | (obtain ⟨t, rfl⟩ := rx; rfl)
theorem a8z : OpR X (compareOp .NotIn) (fun x y H Q => ∃ i j, x = .str i /\ y = .str j /\ Q (.bl (!(!(Builtin.Str.occurrences j i 0 j.length 1).isEmpty))) H) := by
 intro pins s σ H x y v u Q I rx ry h
 obtain ⟨i, j, rfl, rfl, q⟩ := h
 obtain ⟨t, rfl⟩ := rx
 obtain ⟨t', rfl⟩ := ry
 exact notIn_str (a00 I q rfl)
theorem OpR.or {f : Value -> Value -> Sem Value} {r r' : R2} (h : OpR X f r) (h' : OpR X f r') : OpR X f (fun x y H Q => r x y H Q \/ r' x y H Q) := by
 intro pins s σ H x y v u Q I rx ry q
 rcases q with q | q
 . exact h pins s σ H x y v u Q I rx ry q
 . exact h' pins s σ H x y v u Q I rx ry q
theorem a0n (b : Expr) {op : CmpOp} (h : op ≠ .In := by decide) (h2 : op ≠ .NotIn := by decide) : behindInMarks op b = false := by
 have e1 : (op == CmpOp.In) = false := by cases op <;> first | rfl | exact absurd rfl h
 have e2 : (op == CmpOp.NotIn) = false := by cases op <;> first | rfl | exact absurd rfl h2
 cases b <;> simp [behindInMarks, e1, e2]
theorem pe_cmpR {op : CmpOp} {r : R2} (ho : OpR X (compareOp op) r) (ha : PE X a ta) (hb : PE X b tb) (hm : behindInMarks op b = false) : PE X (.Compare a [op] [b] pos) (tOp r ta tb) := by
 intro pins s σ H Q I h
 exact wpAny_Compare1 (binT ha hb I h fun v u s2 x y H2 I2 rx ry q => ho pins s2 σ H2 x y v u Q I2 rx ry q) hm
noncomputable def tTest (t : TE) : TT := fun σ H Q => t σ H fun x H' => ∃ k, x = .bl k /\ Q k H'
theorem pt_cmpR {op : CmpOp} {r : R2} (ho : OpR X (compareOp op) r) (ha : PE X a ta) (hb : PE X b tb) (hm : behindInMarks op b = false) : PT X (.Compare a [op] [b] pos) (tTest (tOp r ta tb)) := by
 intro pins s σ H Q I h
 refine wpAny_isTrue_Compare1 (thn (ha pins s σ H _ I h) fun v s1 ⟨x, H1, I1, r1, q1⟩ => thn (hb pins s1 σ H1 _ I1 q1) fun u s2 ⟨y, H2, I2, r2, q2⟩ =>
   thn (ho pins s2 σ H2 x y v u _ I2 r1 r2 q2) fun c s3 ⟨z, H3, I3, r3, k, e, q3⟩ => ?_) hm
 subst e
 cases r3
 exact wpAny_truthy_bool ⟨H3, I3, q3⟩
theorem a7g : (sizeLine : Nat) < 2 ^ 63 := by rw [sizeLine_eq]; decide
theorem b2k : OpR X (binaryOp .Add) (fun x y H Q => ∃ i j, x = .str i /\ y = .str j /\ i.length + j.length <= sizeLine /\ Q (.str (i ++ j)) H) := by
 intro pins s σ H x y v u Q I rx ry h
 obtain ⟨i, j, rfl, rfl, hz, q⟩ := h
 obtain ⟨t, rfl⟩ := rx
 obtain ⟨t', rfl⟩ := ry
 exact add_str (fun t' tk => ⟨.str (i ++ j), H, I.tok _, ⟨_, rfl⟩, q⟩) hz
theorem b54 {x : V} {us : List Value} (r : Vals [x] us) : ∃ u, us = [u] /\ RelV x u := by
 cases r with
 | cons r1 r2 => cases r2; exact ⟨_, rfl, r1⟩
theorem b53 {x y : V} {us : List Value} (r : Vals [x, y] us) : ∃ u w', us = [u, w'] /\ RelV x u /\ RelV y w' := by
 cases r with
 | cons r1 r2 =>
   cases r2 with
   | cons r3 r4 => cases r4; exact ⟨_, _, rfl, r1, r3⟩
theorem a5t : CallR X (.builtin "abs") (fun xs H Q => ∃ i, xs = [.int i] /\ Q (.int (if i < 0 then -i else i)) H) := by
 intro pins s σ H xs us Q I r h
 obtain ⟨i, rfl, q⟩ := h
 obtain ⟨u, rfl, t, rfl⟩ := b54 r
 exact call_abs_int fun u tk => ⟨.int (if i < 0 then -i else i), H, I.tok _, ⟨_, rfl⟩, q⟩
theorem b5s (hc : X.calm = true) : CallR X (.builtin "max") (fun xs H Q => ∃ i j, xs = [.int i, .int j] /\ Q (.int (if j > i then j else i)) H) := by
 intro pins s σ H xs us Q I r h
 obtain ⟨i, j, rfl, q⟩ := h
 obtain ⟨u, w', rfl, ⟨t, rfl⟩, ⟨t', rfl⟩⟩ := b53 r
 refine max_two_ints (I.ok.hd hc) fun h' tk k => ⟨_, H, I.kept k, ?_, q⟩
 by_cases hj : j > i
 . rw [if_pos hj, if_pos hj]; exact ⟨_, rfl⟩
 . rw [if_neg hj, if_neg hj]; exact ⟨_, rfl⟩
def LenV (K : PySem.W.Frag) (x : V) (H : Hp) (n : Nat) : Prop :=
 match x with
 | .str y => y.length <= sizeLine /\ n = y.length
 | .byt y => y.size <= sizeLine /\ n = y.size
 | .ref p => (∃ xs, SqL K H p xs /\ n = xs.length) \/ ∃ xs, SqT K H p xs /\ n = xs.length
 | _ => False
theorem call_len : CallR X (.builtin "len") (fun xs H Q => ∃ x n, xs = [x] /\ LenV X.K x H n /\ Q (.int n) H) := by
 intro pins s σ H xs us Q I r h
 obtain ⟨x, n, rfl, e, q⟩ := h
 obtain ⟨u, rfl, rx⟩ := b54 r
 have hl := a7g
 have hs : sizeLine = 16777216 := sizeLine_eq
 cases x with
 | str y =>
   obtain ⟨t, rfl⟩ := rx
   obtain ⟨hy, e'⟩ : y.length <= sizeLine /\ n = y.length := e
   subst e'
   exact len_str (by omega) ⟨.int _, H, I.tok _, ⟨_, rfl⟩, q⟩
 | byt y =>
   obtain ⟨t, rfl⟩ := rx
   obtain ⟨hy, e'⟩ : y.size <= sizeLine /\ n = y.size := e
   subst e'
   exact PySem.W.len_bytes (by omega) ⟨.int _, H, I.tok _, ⟨_, rfl⟩, q⟩
 | ref p =>
   cases rx
   have e' : (∃ xs, SqL X.K H p xs /\ n = xs.length) \/ ∃ xs, SqT X.K H p xs /\ n = xs.length := e
   rcases e' with ⟨xs, hx, e'⟩ | ⟨xs, hx, e'⟩
   . subst e'
     obtain ⟨its, r', pl, hz⟩ := I.list hx
     have hlen := r'.length
     exact Calls.call_len_list pl.isList (by simp only [List.size_toArray]; omega) ⟨.int xs.length, H, I.tok _, ⟨_, by simp only [List.size_toArray]; rw [hlen]⟩, q⟩
   . subst e'
     obtain ⟨its, r', pl, hz⟩ := I.tuple hx
     have hlen := r'.length
     exact len_tuple pl (by simp only [List.size_toArray]; omega) ⟨.int xs.length, H, I.tok _, ⟨_, by simp only [List.size_toArray]; rw [hlen]⟩, q⟩
 | _ => exact (show False from e).elim
end
structure ObjM (h : Heap) (x dx C : Addr) (mA : Str -> Option Value) : Prop where
 obj : h.get? x = some (PySem.W.instObj C dx)
 ns : h.Ns1 dx mA
 ne : dx ≠ x
theorem b4h {h : Heap} {dx : Addr} {mA : Str -> Option Value} (n : h.Ns1 dx mA) : ∃ od, h.get? dx = some od /\ ∀ name, PySem.W.lookIn name od = some (mA name) := by
 obtain ⟨o, es, ep, ho, hd, hk, _, hm⟩ := n
 refine ⟨o, ho, fun name => ?_⟩
 have e := hm name
 unfold nsFind findBy at e
 rw [<- Array.find?_toList] at e
 unfold PySem.W.lookIn
 rw [hd]
 dsimp only
 split
 . rename_i y q
   rw [q] at e
   exact congrArg some e
 . rename_i q
   rw [q] at e
   have a : es.toList.any (·.refKey) = false := by
     rw [List.any_eq_false]
     intro y hy
     obtain ⟨z, t, hkey⟩ := hk y (Array.mem_toList_iff.mp hy)
     simp [DictEntry.refKey, hkey]
   have a' : ¬ es.toList.any (·.refKey) = true := by rw [a]; exact Bool.false_ne_true
   rw [if_neg a']
   exact congrArg some e
theorem ObjM.look {h : Heap} {x dx C : Addr} {mA : Str -> Option Value} (I : ObjM h x dx C mA) : ∃ od, PySem.W.InstAt h x (PySem.W.instObj C dx) C (some od) /\ ∀ name, PySem.W.lookIn name od = some (mA name) :=
 let ⟨od, ho, hl⟩ := b4h I.ns
 ⟨od, ⟨I.obj, rfl, rfl, ho⟩, hl⟩
section
variable {prog : Program} {w : World} {A : Around} {E : Value -> Shared -> Prop} {s : Shared} {K : PySem.W.Frag} {x dx C f : Addr} {mA : Str -> Option Value} {name : Str} {v : Value}
theorem get_map {expr : Bool} {Q : Value -> Shared -> Prop} (X : K.In s.heap) (I : ObjM s.heap x dx C mA) (hg : PySem.W.plainGet K C name = true) (hh : PySem.W.hasDictIn K C = true)
   (ha : PySem.W.findIn K (.ref C) name = some none) (hv : mA name = some v) (hv' : PySem.W.handedIn v = true) (h : Q v { s with toks := s.toks + 1 }) :
   wpAny (model prog w) A (getAttr (.ref x) name expr) Q E s := by
 obtain ⟨od, J, hl⟩ := I.look
 exact PySem.W.get_value X J (PySem.W.plainGet_of hg).1 (PySem.W.findObj_own hh ha rfl (by rw [hl, hv])) hv' h
theorem b68 {pl : Sem Bool} {Q : Value × List Value -> Shared -> Prop} (X : K.In s.heap) (I : ObjM s.heap x dx C mA) (hg : PySem.W.plainGet K C name = true)
   (hf : PySem.W.findIn K (.ref C) name = some (some (.ref f))) (ht : PySem.W.isFn K (.ref f) = true) (hv : mA name = none) (h : Q (.ref f, [.ref x]) s) :
   wpAny (model prog w) A (getMethod (.ref x) name pl) Q E s := by
 obtain ⟨od, J, hl⟩ := I.look
 exact PySem.W.method_fn X J (PySem.W.plainGet_of hg).1 (PySem.W.plainGet_of hg).2 hf (beq_iff_eq.mp ht) (by show (PySem.W.lookIn name od).map (·.isSome) = some false; rw [hl, hv]; rfl) h
theorem set_map {ns : List Str} {Q : Unit -> Shared -> Prop} (X : K.In s.heap) (I : ObjM s.heap x dx C mA)
   (hs : PySem.W.findIn K (.ref C) "__setattr__" = some (some (.builtin "object.__setattr__"))) (hp : PySem.W.plainOver K C = true) (ht : PySem.W.takerIn K C name = some none) (hh : PySem.W.hasDictIn K C = true)
   (hw : PySem.Within mA ns) (hsz : ns.length <= sizeLine)
   (h : ∀ h', ObjM h' x dx C (fun y => if y = name then some v else mA y) -> Heap.SameBut dx s.heap h' -> Q () { s with heap := h', toks := s.toks + 2 }) :
   wpAny (model prog w) A (setAttr (.ref x) name v) Q E s := by
 obtain ⟨od, J, hl⟩ := I.look
 refine PySem.W.set_plain X J hs (PySem.W.osa_open (s := { s with toks := s.toks + 1 }) (r := none) X J hp ht fun b => ?_)
 obtain ⟨cd, hc, hd'⟩ := PySem.W.any_some hh
 have hx : s.heap.get? x = some ⟨.ref C, some dx, .plain, #[]⟩ := I.obj
 refine wpAny_bind (wpAny_pure (wpAny_bind (wpAny_bind (wpAny_loadPart hx (wpAny_bind (PySem.W.Looks.here (s := { s with toks := s.toks + 1 }) (PySem.W.looks_clsIn X hc) ?_))))))
 rw [hd']
 refine wpAny_pure (a := some dx) (wpAny_bind (wpAny_pure (wpAny_bind ?_)))
 refine wpAny_nsSet1 (s := { s with toks := s.toks + 1 }) I.ns fun h' hn2 hs2 => ?_
 obtain ⟨oD, esD, epD, hoD, hdD, hcD⟩ := hn2.count (PySem.Within.cons name v hw)
 refine wpAny_bind (wpAny_lookBehind hoD (by rw [hdD]; exact pastItsLine_dict (Nat.le_trans hcD (by rw [List.length_cons]; omega))) ?_)
 exact wpAny_pure (h _ ⟨(hs2.2 _ (Ne.symm I.ne)).trans I.obj, hn2, I.ne⟩ hs2)
theorem b60 {R : Result -> Shared -> Prop} {vs : List Value} {kw : List (Str × Value)} (X : K.In s.heap) (hm : PySem.W.makesIn K C = true)
   (hi : PySem.W.findIn K (.ref C) "__init__" = some (some (.ref f))) (hf : PySem.W.typeIn K (.ref f) = some (.type "function"))
   (h : codeAny (model prog w) (A.under (.builtin "type.__call__" ⟨.ref C :: vs, kw⟩)) (.call (.ref f) ⟨.ref (s.heap.objs.size + 1) :: vs, kw⟩) (PySem.W.InitBack (s.heap.objs.size + 1) R)
     { s with heap := (s.heap.push PySem.W.emptyDict).push (PySem.W.instObj C s.heap.objs.size) }) :
   codeAny (model prog w) A (.call (.ref C) ⟨vs, kw⟩) R s := by
 obtain ⟨hh, g, d, t, os⟩ := s
 exact PySem.W.make_core (PySem.W.makes_of X hm) (PySem.W.looks_findIn X hi) (fun self => PySem.W.bind_fn X self hf) (.inl rfl) h
end
noncomputable def putF (f : Str) (v : V) : List (Str × V) -> List (Str × V)
 | [] => [(f, v)]
 | (g, x) :: r => if g = f then (g, v) :: r else (g, x) :: putF f v r
theorem a6e (f g : Str) (v : V) : ∀ fs : List (Str × V), (putF f v fs).lookup g = if g = f then some v else fs.lookup g
 | [] => by
   show List.lookup g [(f, v)] = _
   by_cases h : g = f
   . have hb : (g == f) = true := beq_iff_eq.mpr h
     simp only [List.lookup, hb, if_pos h]
   . have hb : (g == f) = false := beq_eq_false_iff_ne.mpr h
     simp only [List.lookup, hb, if_neg h]
 | (k, x) :: r => by
   have ih := a6e f g v r
   rw [show putF f v ((k, x) :: r) = (if k = f then (k, v) :: r else (k, x) :: putF f v r) from rfl]
   by_cases hk : k = f
   . rw [if_pos hk]
     by_cases h : g = k
     . have hb : (g == k) = true := beq_iff_eq.mpr h
       simp only [List.lookup, hb, if_pos (h.trans hk)]
     . have hb : (g == k) = false := beq_eq_false_iff_ne.mpr h
       simp only [List.lookup, hb, if_neg (fun e : g = f => h (e.trans hk.symm))]
   . rw [if_neg hk]
     by_cases h : g = k
     . have hb : (g == k) = true := beq_iff_eq.mpr h
       simp only [List.lookup, hb, if_neg (fun e : g = f => hk (h.symm.trans e))]
     . have hb : (g == k) = false := beq_eq_false_iff_ne.mpr h
       simp only [List.lookup, hb]
       exact ih
theorem a6g (f : Str) (v : V) : ∀ fs : List (Str × V), f ∈ (putF f v fs).map (·.1) /\ ∀ g, g ∈ fs.map (·.1) -> g ∈ (putF f v fs).map (·.1)
 | [] => ⟨by simp [putF], fun g h => by simp at h⟩
 | (k, x) :: r => by
   obtain ⟨i1, i2⟩ := a6g f v r
   rw [show putF f v ((k, x) :: r) = (if k = f then (k, v) :: r else (k, x) :: putF f v r) from rfl]
   by_cases hk : k = f
   . rw [if_pos hk]
     subst hk
     exact ⟨by simp, fun g h => by simpa using h⟩
   . rw [if_neg hk]
     refine ⟨?_, fun g h => ?_⟩
     . rw [List.map_cons]
       exact List.mem_cons_of_mem _ i1
     . rw [List.map_cons] at h |-
       rcases List.mem_cons.mp h with e | e
       . exact List.mem_cons.mpr (.inl e)
       . exact List.mem_cons_of_mem _ (i2 g e)
theorem a6f (f : Str) (v : V) : ∀ fs : List (Str × V), (putF f v fs).length <= fs.length + 1
 | [] => by simp [putF]
 | (k, x) :: r => by
   have ih := a6f f v r
   rw [show putF f v ((k, x) :: r) = (if k = f then (k, v) :: r else (k, x) :: putF f v r) from rfl]
   by_cases hk : k = f
   . rw [if_pos hk, List.length_cons, List.length_cons]; omega
   . rw [if_neg hk, List.length_cons, List.length_cons]; omega
theorem RelO.some_of {v : V} {o : Option Value} (r : RelO (some v) o) : ∃ u, o = some u /\ RelV v u := by
 cases o with
 | none => exact (show False from r).elim
 | some u => exact ⟨u, rfl, r⟩
theorem RelO.none_of {o : Option Value} (r : RelO none o) : o = none := by
 cases o with
 | none => rfl
 | some u => exact (show False from r).elim
theorem b45 {v : V} {u : Value} (r : RelV v u) : PySem.W.handedIn u = true := by
 cases v with
 | non => cases (show u = Value.none from r); rfl
 | bl b => cases (show u = Value.bool b from r); rfl
 | int i => obtain ⟨t, e⟩ := (show ∃ t, u = Value.int i t from r); cases e; rfl
 | str x => obtain ⟨t, e⟩ := (show ∃ t, u = Value.str x t from r); cases e; rfl
 | byt b => obtain ⟨t, e⟩ := (show ∃ t, u = Value.bytes b t from r); cases e; rfl
 | flt b => obtain ⟨t, e⟩ := (show ∃ t, u = Value.float b t from r); cases e; rfl
 | ref a => cases (show u = Value.ref a from r); rfl
 | ty n => cases (show u = Value.type n from r); rfl
section
variable {P : Program} {w : World} {H H' : Hp} {h h' : Heap} {a C dx : Addr} {fs fs' : List (Str × V)}
theorem a8f (hok : HOk P w H h) (e : H a = some (.ins C dx fs)) : ∃ mA, ObjM h a dx C mA /\ (∀ f, RelO (fs.lookup f) (mA f)) /\ PySem.Within mA (fs.map (·.1)) /\ fs.length <= 1000 /\ H dx = some (.own a) := by
 obtain ⟨d, z, ne, ob, mA, n, r, q⟩ := (show ObjOk P w H h a (.ins C dx fs) from hok a _ e)
 exact ⟨mA, ⟨ob, n, ne⟩, r, q, z, d⟩
end
structure Cls (K : PySem.W.Frag) (C : Addr) : Prop where
 pg : PySem.W.plainGet K C Str.empty = true
 hd : PySem.W.hasDictIn K C = true
 po : PySem.W.plainOver K C = true
 sa : PySem.W.findIn K (.ref C) "__setattr__" = some (some (.builtin "object.__setattr__"))
theorem Cls.get {K : PySem.W.Frag} {C : Addr} (c : Cls K C) (f : Str) : PySem.W.plainGet K C f = true := c.pg
def NoAttr (K : PySem.W.Frag) (C : Addr) (f : Str) : Prop := PySem.W.findIn K (.ref C) f = some none
theorem NoAttr.taker {K : PySem.W.Frag} {C : Addr} {f : Str} (n : NoAttr K C f) : PySem.W.takerIn K C f = some none := by
 unfold PySem.W.takerIn
 rw [show PySem.W.findIn K (.ref C) f = some none from n]
 rfl
structure Meth (K : PySem.W.Frag) (C : Addr) (m : Str) (f : Addr) : Prop where
 at_ : PySem.W.findIn K (.ref C) m = some (some (.ref f))
 fn : PySem.W.isFn K (.ref f) = true
 kp : PySem.W.keepIn K (.ref f) = true
section
variable {X : Cx} {pins : List (Addr × Obj)} {σ : St} {H : Hp} {s : Shared} {a C dx : Addr} {fs : List (Str × V)} {f : Str} {v : V} {A : Around} {E : Value -> Shared -> Prop}
theorem b2v {b : Bool} {Q : Value -> Shared -> Prop} (I : Inv X pins σ H s) (e : H a = some (.ins C dx fs)) (c : Cls X.K C) (n : NoAttr X.K C f) (l : fs.lookup f = some v)
   (h : ∀ u s', Inv X pins σ H s' -> RelV v u -> Q u s') : wpAny (model X.prog X.w) A (getAttr (.ref a) f b) Q E s := by
 obtain ⟨mA, O, r, _, _, _⟩ := a8f I.hok e
 obtain ⟨u, hu, ru⟩ := RelO.some_of (v := v) (o := mA f) (by rw [<- l]; exact r f)
 exact get_map I.kIn O (c.get f) c.hd n hu (b45 ru) (h u _ (I.tok _) ru)
theorem a7i {m : Str} {g : Addr} {pl : Sem Bool} {Q : Value × List Value -> Shared -> Prop} (I : Inv X pins σ H s) (e : H a = some (.ins C dx fs)) (c : Cls X.K C) (k : Meth X.K C m g) (l : fs.lookup m = none)
   (h : Q (.ref g, [.ref a]) s) : wpAny (model X.prog X.w) A (getMethod (.ref a) m pl) Q E s := by
 obtain ⟨mA, O, r, _, _, _⟩ := a8f I.hok e
 have hn : mA m = none := RelO.none_of (by rw [<- l]; exact r m)
 exact b68 I.kIn O (c.get m) k.at_ k.fn hn h
theorem b2g {y : V} {u : Value} {Q : Unit -> Shared -> Prop} (I : Inv X pins σ H s) (e : H a = some (.ins C dx fs)) (c : Cls X.K C) (n : NoAttr X.K C f) (hl : fs.length < 1000) (ry : RelV y u)
   (h : ∀ s', Inv X pins σ (upd H a (.ins C dx (putF f y fs))) s' -> Q () s') : wpAny (model X.prog X.w) A (setAttr (.ref a) f u) Q E s := by
 obtain ⟨mA, O, r, wi, _, ho⟩ := a8f I.hok e
 have hz : (fs.map (·.1)).length <= sizeLine := by rw [List.length_map, sizeLine_eq]; omega
 refine set_map I.kIn O c.sa c.po n.taker c.hd wi hz fun h' O' sb => h _ ?_
 have hd : ∃ o, h'.get? dx = some o := let ⟨o, _, _, e', _⟩ := O'.ns; ⟨o, e'⟩
 refine I.write (x := a) (e := dx) (by rw [e]; exact True.intro) (.inr ho) (fun b q hb z => (sb.2 b hb).trans z) hd ?_
 refine ⟨by rw [a0l O.ne]; exact ho, ?_, O.ne, O'.obj, _, O'.ns, fun g => ?_, fun g hg => ?_⟩
 . have := a6f f y fs; omega
 . show RelO ((putF f y fs).lookup g) (if g = f then some u else mA g)
   rw [a6e]
   by_cases q : g = f
   . rw [if_pos q, if_pos q]; exact ry
   . rw [if_neg q, if_neg q]; exact r g
 . by_cases q : g = f
   . rw [q]; exact (a6g f y fs).1
   . refine (a6g f y fs).2 g (wi g fun z => hg ?_)
     show (if g = f then some u else mA g) = none
     rw [if_neg q]; exact z
theorem Inv.made (I : Inv X pins σ H s) : Inv X pins σ (upd (upd H s.heap.objs.size (.own (s.heap.objs.size + 1))) (s.heap.objs.size + 1) (.ins C s.heap.objs.size []))
   { s with heap := (s.heap.push PySem.W.emptyDict).push (PySem.W.instObj C s.heap.objs.size) } := by
 have e1 : (s.heap.push PySem.W.emptyDict).get? s.heap.objs.size = some PySem.W.emptyDict := Heap.get?_push_size s.heap rfl
 have e2 : ((s.heap.push PySem.W.emptyDict).push (PySem.W.instObj C s.heap.objs.size)).get? (s.heap.objs.size + 1) = some (PySem.W.instObj C s.heap.objs.size) := by
   have := Heap.get?_push_size (s.heap.push PySem.W.emptyDict) (o := PySem.W.instObj C s.heap.objs.size) rfl
   rwa [Heap.size_push] at this
 have e3 : (s.heap.push PySem.W.emptyDict).Ns s.heap.objs.size (fun _ => none) := ⟨PySem.W.emptyDict, #[], _, e1, rfl, (fun e he => absurd he (by simp)), fun _ => rfl⟩
 have I1 := I.laid (a := s.heap.objs.size) (o := .own (s.heap.objs.size + 1)) (h' := s.heap.push PySem.W.emptyDict) (t' := s.toks) (fun b u q => Heap.get?_push_of_some _ q) (Nat.le_refl _) ⟨_, e1⟩
 refine I1.laid (a := s.heap.objs.size + 1) (o := .ins C s.heap.objs.size []) (t' := s.toks) (fun b u q => Heap.get?_push_of_some _ q) (Nat.le_of_eq (Heap.size_push _ _)) ?_
 have ne : s.heap.objs.size ≠ s.heap.objs.size + 1 := Nat.ne_of_lt (Nat.lt_succ_self _)
 refine ⟨by rw [a0l ne, a0p], Nat.zero_le _, ne, e2, fun _ => none, (Heap.Ns1.of_empty e3).at fun o q => Heap.get?_push_of_some _ q, fun _ => True.intro, fun y hy => absurd rfl hy⟩
theorem attr_of {prog : Program} {w : World} {env : Env} {e : Expr} {f : Str} {pos : Pos} {s : Shared} {Q : Value -> Shared -> Prop} (hb : attributeBase e f env (eval e env) = eval e env)
   (h : wpAny (model prog w) A (eval e env) (fun o s₁ => wpAny (model prog w) A (getAttr o f true) Q E s₁) E s) : wpAny (model prog w) A (eval (.Attribute e f pos) env) Q E s :=
 Attribute_any_ h (by rw [arm_eval_Attribute, hb])
end
def tFld (K : PySem.W.Frag) (ta : TE) (f : Str) : TE := fun σ H Q => ta σ H fun x H1 => ∃ a C dx fs v, x = .ref a /\ H1 a = some (.ins C dx fs) /\ Cls K C /\ NoAttr K C f /\ fs.lookup f = some v /\ Q v H1
noncomputable def sFld (K : PySem.W.Frag) (ta tv : TE) (f : Str) : TS := fun D σ H => tv σ H fun y H1 => ta σ H1 fun x H2 => ∃ a C dx fs, x = .ref a /\ H2 a = some (.ins C dx fs) /\ Cls K C /\ NoAttr K C f /\ fs.length < 1000 /\
 D.nx σ (upd H2 a (.ins C dx (putF f y fs)))
section
variable {X : Cx} {o e value : Expr} {f : Str} {pos pos' tpos : Pos} {ta tv : TE}
theorem pe_fld (he : PE X e ta) (hb : attributeBase e f X.env (eval e X.env) = eval e X.env) : PE X (.Attribute e f pos) (tFld X.K ta f) := by
 intro pins s σ H Q I h
 refine attr_of hb (thn (he pins s σ H _ I h) fun u s1 zz9 => ?_)
 obtain ⟨x, H1, I1, rx, a, C, dx, fs, v, ex, ea, c, n, l, q⟩ := zz9
 subst ex
 obtain rfl : u = Value.ref a := rx
 exact b2v I1 ea c n l fun u' s2 I2 ru => ⟨v, H1, I2, ru, q⟩
theorem ps_fld (ha : PE X o ta) (hv : PE X value tv) (hs : swapsWith value (some (.Attribute o f pos')) pos.line X.env = pure false) : PS X (.Assign [.Attribute o f pos'] value pos) (sFld X.K ta tv f) := by
 intro pins s σ H D I h
 refine plainObj_wpAny_Assign_Attribute (thn (hv pins s σ H _ I h) fun u s1 ⟨y, H1, I1, ry, q⟩ => thn (ha pins s1 σ H1 _ I1 q) fun ov s2 ⟨x, H2, I2, rx, a, C, dx, fs, ex, ea, c, n, l, q2⟩ => ?_) hs
 subst ex
 obtain rfl : ov = Value.ref a := rx
 exact b2g I2 ea c n l ry fun s3 I3 => ⟨σ, _, I3, q2⟩
end
section
variable {X : Cx} {pins : List (Addr × Obj)} {σ : St} {H : Hp} {s : Shared} {A : Around} {E : Value -> Shared -> Prop} {Q : Value -> Shared -> Prop} {c : Value} {b : Bool}
inductive TyOf (K : PySem.W.Frag) (H : Hp) : V -> Value -> Prop where
 | non : TyOf K H .non (.type "NoneType")
 | bl (x : Bool) : TyOf K H (.bl x) (.type "bool")
 | int (i : Int) : TyOf K H (.int i) (.type "int")
 | str (x : Str) : TyOf K H (.str x) (.type "str")
 | flt (x : UInt64) : TyOf K H (.flt x) (.type "float")
 | lst {a : Addr} {xs : List V} (e : H a = some (.lst xs)) : TyOf K H (.ref a) (.type "list")
 | frz {a : Addr} {o : Obj} {xs : List V} (e : H a = some (.frz o (.lst xs))) : TyOf K H (.ref a) (.type "list")
 | tup {a : Addr} {xs : List V} (e : H a = some (.tup xs)) : TyOf K H (.ref a) (.type "tuple")
 | dK {a : Addr} {kvs : List (Key × V)} (e : H a = some (.dK kvs)) : TyOf K H (.ref a) (.type "dict")
 | dT {a : Addr} {kvs : List (List Key × V)} (e : H a = some (.dT kvs)) : TyOf K H (.ref a) (.type "dict")
 | ins {a C dx : Addr} {fs : List (Str × V)} (e : H a = some (.ins C dx fs)) (cl : Cls K C) (ha : PySem.W.findIn K (.ref C) "__class__" = some (some (.builtin "object.__class__")))
     (hn : PySem.W.specialIn K (.builtin "object.__class__") "__get__" = some (some (.builtin "getset_descriptor.__get__"))) (htk : PySem.W.takesIn K (.builtin "object.__class__") = some true)
     (hm : PySem.W.mroIn K C (.type "object") = some true) : TyOf K H (.ref a) (.ref C)
theorem b40 {x : V} {u t : Value} (I : Inv X pins σ H s) (rx : RelV x u) (ty : TyOf X.K H x t) (e : PySem.W.kitOne X.K t c = some b) (h : ∀ tk, Q (.bool b) { s with toks := tk }) :
   wpAny (model X.prog X.w) A (call (.builtin "isinstance") [u, c]) Q E s := by
 cases ty with
 | non => cases (show u = Value.none from rx); exact PySem.W.kia_one PySem.W.kitx_none I.kIn True.intro e (fun z => nomatch z) h
 | bl y => cases (show u = Value.bool y from rx); exact PySem.W.kia_one PySem.W.kitx_bool I.kIn True.intro e (fun z => nomatch z) h
 | int i => obtain ⟨t, q⟩ := (show ∃ t, u = Value.int i t from rx); cases q; exact PySem.W.kia_one PySem.W.kitx_int I.kIn True.intro e (fun z => nomatch z) h
 | str y => obtain ⟨t, q⟩ := (show ∃ t, u = Value.str y t from rx); cases q; exact PySem.W.kia_one PySem.W.kitx_str I.kIn True.intro e (fun z => nomatch z) h
 | flt y => obtain ⟨t, q⟩ := (show ∃ t, u = Value.float y t from rx); cases q; exact PySem.W.kia_one PySem.W.kitx_float I.kIn True.intro e (fun z => nomatch z) h
 | @lst a xs ea =>
   cases (show u = Value.ref a from rx)
   obtain ⟨_, _, n, _, h1⟩ := (show ObjOk X.prog X.w H s.heap a (.lst xs) from I.hok a _ ea)
   exact PySem.W.kia_one PySem.W.kitx_list I.kIn ⟨_, h1, rfl⟩ e (fun z => nomatch z) h
 | @frz a ob xs ea =>
   cases (show u = Value.ref a from rx)
   obtain ⟨_, _, _, n, _, h1⟩ := (show ObjOk X.prog X.w H s.heap a (.frz ob (.lst xs)) from I.hok a _ ea)
   exact PySem.W.kia_one PySem.W.kitx_list I.kIn ⟨_, h1, rfl⟩ e (fun z => nomatch z) h
 | @tup a xs ea =>
   cases (show u = Value.ref a from rx)
   obtain ⟨_, _, _, p⟩ := (show ObjOk X.prog X.w H s.heap a (.tup xs) from I.hok a _ ea)
   obtain ⟨o, h1, h2, _⟩ := p
   exact PySem.W.kia_one PySem.W.kitx_tuple I.kIn ⟨o, h1, h2⟩ e (fun z => nomatch z) h
 | @dK a kvs ea =>
   cases (show u = Value.ref a from rx)
   obtain ⟨_, _, vs, _, p⟩ := (show ObjOk X.prog X.w H s.heap a (.dK kvs) from I.hok a _ ea)
   obtain ⟨o, es, ep, h1, h2, _⟩ := p
   exact PySem.W.kia_one PySem.W.kitx_dict I.kIn ⟨o, h1, h2.1⟩ e (fun z => nomatch z) h
 | @dT a kvs ea =>
   cases (show u = Value.ref a from rx)
   obtain ⟨_, _, xs, _, o, es, ep, h1, h2, _⟩ := (show ObjOk X.prog X.w H s.heap a (.dT kvs) from I.hok a _ ea)
   exact PySem.W.kia_one PySem.W.kitx_dict I.kIn ⟨o, h1, h2.1⟩ e (fun z => nomatch z) h
 | @ins a C dx fs ea cl ha hn htk hm =>
   cases (show u = Value.ref a from rx)
   obtain ⟨mA, O, _⟩ := a8f I.hok ea
   obtain ⟨od, J, _⟩ := O.look
   exact PySem.W.kia_one (PySem.W.kitx_own (cl.get _) cl.hd ha hn htk hm) I.kIn J e (fun z => nomatch z) h
end
structure Room (k : Nat) (A : Around) : Prop where
 hd : A.handled = none
 dp : A.depth + 3 * k + 5 < recursionLimit
 un : A.units + 16 * k + 200 < cLine
theorem Room.mono {j k : Nat} {A : Around} (r : Room k A) (h : j <= k) : Room j A := ⟨r.hd, by have := r.dp; omega, by have := r.un; omega⟩
theorem Room.deeper {k : Nat} {A : Around} (r : Room (k + 1) A) (env : Env) : Room k (A.deeper env) :=
 ⟨r.hd, by have := r.dp; show A.depth + 1 + 3 * k + 5 < _; omega, by have := r.un; show A.units + 3 + 16 * k + 200 < _; omega⟩
theorem Room.in1 {k : Nat} {A : Around} (r : Room (k + 1) A) : Room k A.in1 :=
 ⟨r.hd, by have := r.dp; show A.depth + 3 * k + 5 < _; omega, by have := r.un; show A.units + 1 + 16 * k + 200 < _; omega⟩
theorem b2s {A : Around} {C : Addr} {us : List Value} {kw : List (Str × Value)} : (A.under (.builtin "type.__call__" ⟨.ref C :: us, kw⟩)).depth = A.depth + 1 := by
 first | rfl | simp [Around.under, Code.weight, Code.isCreation, Code.isGuard, Code.isCaller, Code.frames, Code.isFrame, guardIds]
theorem b2r {A : Around} {C : Addr} {us : List Value} {kw : List (Str × Value)} : (A.under (.builtin "type.__call__" ⟨.ref C :: us, kw⟩)).units = A.units + 1 := by
 first | rfl | simp [Around.under, Code.cUnits, Code.frames, Code.isFrame]
theorem Room.make {k : Nat} {A : Around} (r : Room (k + 1) A) (C : Addr) (us : List Value) (kw : List (Str × Value)) : Room k (A.under (.builtin "type.__call__" ⟨.ref C :: us, kw⟩)) :=
 ⟨r.hd, by have := r.dp; rw [b2s]; omega, by have := r.un; rw [b2r]; omega⟩
theorem Room.depth {k : Nat} {A : Around} (r : Room k A) : A.depth < recursionLimit := by have := r.dp; omega
theorem Room.units {k : Nat} {A : Around} (r : Room k A) : A.units + 64 < cLine := by have := r.un; omega
def tNil : TA := fun _ H Q => Q [] H
def tCons (ta : TE) (tr : TA) : TA := fun σ H Q => ta σ H fun x H1 => tr σ H1 fun xs H2 => Q (x :: xs) H2
section
variable {X : Cx} {e : Expr} {es : List Expr} {te : TE} {t : TA} {pos : Pos}
theorem pa_nil : PA X [] tNil := fun _ _ _ _ H Q I h => Calls.spliced_nil ⟨[], H, I, .nil, h⟩
theorem a2v (ha : PE X e te) (hr : PA X es t) (hs : starEach (e :: es) X.env = (false, eval e X.env) :: starEach es X.env := by rfl) : PA X (e :: es) (tCons te t) := by
 intro pos pins s σ H Q I h
 rw [hs]
 show wpAny _ _ (spliced ((false, eval e X.env) :: backTo pos (starEach es X.env))) _ _ s
 refine Calls.spliced_cons (thn (ha pins s σ H _ I h) fun u s1 zz9 => ?_)
 obtain ⟨x, H1, I1, r1, q1⟩ := zz9
 exact thn (hr pos pins s1 σ H1 _ I1 q1) fun us s2 ⟨xs, H2, I2, r2, q2⟩ => ⟨x :: xs, H2, I2, .cons r1 r2, q2⟩
def tTup (t : TA) : TE := fun σ H Q => t σ H fun xs H1 => xs.length <= sizeLine /\ ∀ p, H1 p = none -> Q (.ref p) (upd H1 p (.tup xs))
def tLst (t : TA) : TE := fun σ H Q => t σ H fun xs H1 => xs.length <= sizeLine /\ ∀ p, H1 p = none -> Q (.ref p) (upd H1 p (.lst xs))
theorem pe_tup {x1} (h : PA X es t) : PE X (.Tuple es x1 pos) (tTup t) := by
 intro pins s σ H Q I hq
 refine wpAny_Tuple_spliced (thn (h pos pins s σ H _ I hq) fun us s1 ⟨xs, H1, I1, r, z, q⟩ => ⟨by rw [<- r.length]; exact z, ?_⟩)
 have hf : H1 s1.heap.objs.size = none := I1.hok.fresh (Nat.le_refl _)
 refine ⟨.ref s1.heap.objs.size, upd H1 s1.heap.objs.size (.tup xs), I1.laid (t' := s1.toks) (fun b u e => Heap.get?_push_of_some _ e) (Nat.le_refl _) ?_, rfl, q _ hf⟩
 exact ⟨z, us, r, ⟨_, Heap.get?_push_size _ rfl, rfl, _, rfl⟩⟩
theorem pe_lst (h : PA X es t) : PE X (.List es pos) (tLst t) := by
 intro pins s σ H Q I hq
 refine wpAny_List_spliced (thn (h pos pins s σ H _ I hq) fun us s1 ⟨xs, H1, I1, r, z, q⟩ => ⟨by rw [<- r.length]; exact z, ?_⟩)
 have hf : H1 s1.heap.objs.size = none := I1.hok.fresh (Nat.le_refl _)
 refine ⟨.ref s1.heap.objs.size, upd H1 s1.heap.objs.size (.lst xs), I1.laid (t' := s1.toks) (fun b u e => Heap.get?_push_of_some _ e) (Nat.le_refl _) ?_, rfl, q _ hf⟩
 exact ⟨z, us, 0, r, Heap.get?_push_size _ rfl⟩
end
noncomputable abbrev Sp := List V -> Hp -> VK -> XK -> Prop
noncomputable abbrev CXT := List Env -> Hp -> Shared -> XK -> Value -> Shared -> Prop
structure Env0 (P : Program) (w : World) (K : PySem.W.Frag) (mg : Str -> Option Value) (base : Heap) (A : Around) (outer : List Env) (s : Shared) (H : Hp) : Prop where
 frames : A.frames = some outer
 mod : Mod K mg base
 bs : ∀ b o, base.get? b = some o -> s.heap.get? b = some o /\ H b = none
 bsz : base.objs.size <= s.heap.objs.size
 funs : s.heap.FunFrames base outer
 frf : ∀ b ∈ frs outer, H b = none
 hok : HOk P w H s.heap
 bare : AllBare s.gens
def CE (outer : List Env) (P : Program) (w : World) (H : Hp) (s : Shared) (Q : VK) (u : Value) (s' : Shared) : Prop :=
 ∃ v H', s'.os = s.os /\ AllBare s'.gens /\ Un (frs outer) [] H H' s.heap s'.heap /\ HOk P w H' s'.heap /\ RelV v u /\ Q v H'
def CR (CX : CXT) (outer : List Env) (P : Program) (w : World) (H : Hp) (s : Shared) (Q : VK) (E : XK) (r : Result) (s' : Shared) : Prop :=
 match r with
 | .ok (.ret u) => CE outer P w H s Q u s'
 | .ok _ => False
 | .error e => CX outer H s E e s'
structure FnOk (P : Program) (w : World) (K : PySem.W.Frag) (mg : Str -> Option Value) (base : Heap) (CX : CXT) (k : Nat) (f : Addr) (fd : FuncData) (ps : List Str) (sp : Sp) : Prop where
 len : ∀ vs H Q E, sp vs H Q E -> vs.length = ps.length
 run : ∀ (A : Around) (outer : List Env) (s : Shared) (H : Hp) (args : Args) (us : List Value) (vs : List V) (Q : VK) (E : XK), Room k A -> Env0 P w K mg base A outer s H -> BindsTo s fd args (ps.zip us) -> Vals vs us -> sp vs H Q E ->
   codeAny (model P w) A (.call (.ref f) args) (CR CX outer P w H s Q E) s
theorem Env0.make {P : Program} {w : World} {K : PySem.W.Frag} {mg : Str -> Option Value} {base : Heap} {A : Around} {outer : List Env} {s : Shared} {H : Hp} (e : Env0 P w K mg base A outer s H) (C : Addr) (us : List Value) (kw : List (Str × Value)) :
   Env0 P w K mg base (A.under (.builtin "type.__call__" ⟨.ref C :: us, kw⟩)) outer s H := ⟨by first | exact e.frames | (simpa [Around.under, Code.envs, Code.isFrame, pushEnvs] using e.frames), e.mod, e.bs, e.bsz, e.funs, e.frf, e.hok, e.bare⟩
section
variable {X : Cx} {pins : List (Addr × Obj)} {σ : St} {H : Hp} {s s' : Shared}
theorem Inv.env0 (I : Inv X pins σ H s) : Env0 X.prog X.w X.K X.mg X.base X.A X.stack s H :=
 ⟨I.ok.frames, I.ok.mod, I.bs, Nat.le_trans I.ok.bsz I.sz, I.stack, I.stkFree, I.hok, I.bare⟩
theorem Inv.after {Q : VK} {u : Value} (I : Inv X pins σ H s) (h : CE X.stack X.prog X.w H s Q u s') : EP X pins σ Q u s' := by
 obtain ⟨v, H', os, bare, un, hok, r, q⟩ := h
 obtain ⟨hh, g, d, t, os'⟩ := s'
 obtain rfl : os' = s.os := os
 exact ⟨v, H', I.call (h' := hh) (g' := g) (d' := d) (t' := t) (ch := []) un hok bare (fun b z => absurd z (by simp)), r, q⟩
end
def tCall (sp : Sp) (dvs : List V) (E : XK) (t : TA) : TE := fun σ H Q => t σ H fun vs H1 => sp (vs ++ dvs) H1 Q E
def tMake (C : Addr) (sp : Sp) (dvs : List V) (E : XK) (t : TA) : TE := fun σ H Q => t σ H fun vs H1 => ∀ x dx, H1 x = none -> H1 dx = none -> dx ≠ x ->
 sp (.ref x :: (vs ++ dvs)) (upd (upd H1 dx (.own x)) x (.ins C dx [])) (fun v H2 => v = .non /\ Q (.ref x) H2) E
def Binds (K : PySem.W.Frag) (fd : FuncData) (ps : List Str) (ds : List Value) : Prop :=
 ∀ (s : Shared) (us : List Value), K.In s.heap -> (us ++ ds).length = ps.length -> BindsTo s fd ⟨us, []⟩ (ps.zip (us ++ ds))
theorem Binds.all {K : PySem.W.Frag} {fd : FuncData} {ps : List Str} (h : ∀ us : List Value, us.length = ps.length -> bindArgs fd ⟨us, []⟩ = pure (ps.zip us)) : Binds K fd ps [] := fun s us _ hl => by
 rw [List.append_nil] at hl |-
 exact .of_eq (h us hl)
def b5x (CX : CXT) (X : Cx) (E : XK) : Prop := ∀ (pins : List (Addr × Obj)) (σ : St) (H : Hp) (s : Shared) (e : Value) (s' : Shared), Inv X pins σ H s -> CX X.stack H s E e s' -> X.xe e s'
section
variable {X : Cx} {CX : CXT} {k : Nat} {f C : Addr} {fd : FuncData} {ps : List Str} {sp : Sp} {dvs : List V} {ds : List Value} {E : XK} {x m : Str} {p pos apos : Pos} {e o : Expr} {es : List Expr} {ta : TE} {t : TA}
structure Mk (K : PySem.W.Frag) (C f : Addr) : Prop where
 makes : PySem.W.makesIn K C = true
 init : PySem.W.findIn K (.ref C) "__init__" = some (some (.ref f))
 fn : PySem.W.isFn K (.ref f) = true
 kp : PySem.W.keepIn K (.ref C) = true
theorem b6a {pins : List (Addr × Obj)} {σ : St} {H : Hp} {s : Shared} {Q : VK} {us : List Value} {vs : List V} (M : Mk X.K C f) (F : FnOk X.prog X.w X.K X.mg X.base CX k f fd ps sp) (hr : Room (k + 1) X.A) (hb : Binds X.K fd ps ds) (hd : Vals dvs ds)
   (hx : b5x CX X E) (I : Inv X pins σ H s) (r : Vals vs us)
   (h : ∀ x dx, H x = none -> H dx = none -> dx ≠ x -> sp (.ref x :: (vs ++ dvs)) (upd (upd H dx (.own x)) x (.ins C dx [])) (fun v H2 => v = .non /\ Q (.ref x) H2) E) :
   wpAny (model X.prog X.w) X.A (call (.ref C) us) (EP X pins σ Q) X.xe s := by
 have hq := h (s.heap.objs.size + 1) s.heap.objs.size (I.hok.fresh (Nat.le_succ _)) (I.hok.fresh (Nat.le_refl _)) (Nat.ne_of_lt (Nat.lt_succ_self _))
 have I2 := Inv.made (C := C) I
 have r2 : Vals (V.ref (s.heap.objs.size + 1) :: (vs ++ dvs)) (Value.ref (s.heap.objs.size + 1) :: (us ++ ds)) := .cons rfl (r.append hd)
 have hl : (Value.ref (s.heap.objs.size + 1) :: us ++ ds).length = ps.length := by
   have e := r2.length
   rw [F.len _ _ _ _ hq] at e
   exact e.symm
 refine wpAny_call (b60 (f := f) I.kIn M.makes M.init (beq_iff_eq.mp M.fn) (codeAny_mono (F.run _ X.stack _ _ ⟨Value.ref (s.heap.objs.size + 1) :: us, []⟩ (Value.ref (s.heap.objs.size + 1) :: (us ++ ds)) _ _ E (hr.make C us [])
   (I2.env0.make C us []) (hb _ (Value.ref (s.heap.objs.size + 1) :: us) I2.kIn hl) r2 hq) fun r s' hq' => ?_))
 cases r with
 | error e => exact hx pins σ _ _ e s' I2 hq'
 | ok fl =>
   cases fl with
   | ret u =>
     obtain ⟨v, H', I3, rv, ev, q3⟩ := I2.after hq'
     subst ev
     exact ⟨rv, ⟨V.ref (s.heap.objs.size + 1), H', I3, rfl, q3⟩⟩
   | next => exact False.elim hq'
   | brk => exact False.elim hq'
   | cont => exact False.elim hq'
theorem b6m (M : Mk X.K C f) (F : FnOk X.prog X.w X.K X.mg X.base CX k f fd ps sp) (hr : Room (k + 1) X.A) (hg : Gl X x) (hm : X.mg x = some (.ref C)) (hb : Binds X.K fd ps ds) (hd : Vals dvs ds) (hx : b5x CX X E)
   (hdb : (x == ("__debug__" : Str)) = false := by decide) : PE X (.Call (.Name x p) [] [] pos) (tMake C sp dvs E tNil) := by
 intro pins s σ H Q I h
 refine wpAny_Call_Name_kw (a29 I hg hm ?_ hdb)
 exact PySem.W.callWith_K0 I.kIn M.kp (b6a (us := []) M F hr hb hd hx I .nil h)
end
section
variable {X : Cx} {CX : CXT} {k : Nat} {f C : Addr} {fd : FuncData} {ps ks : List Str} {sp : Sp} {E : XK} {x m : Str} {p pos apos kpos : Pos} {e o : Expr} {es : List Expr} {kws : List Keyword} {te ta : TE} {t tk : TA} {nm : Option Str}
variable {g : List Value -> List Value -> List Value} {gV : List V -> List V -> List V}
end
structure FnScope (N P : List Str) (sc : Scope) : Prop where
 kind : sc.kind = .function
 co : sc.isCoroutine = false
 gen : sc.isGenerator = false
 nd : N.Nodup
 pre : N.take P.length = P
 par : ∀ x ∈ P, sc.names.lookup x = some .local \/ sc.names.lookup x = some .cell
 nofree : ∀ y ∈ sc.names, y.2 ≠ .free
theorem a9m {kindOf : Str -> Option NameKind} {x : Str} : ∀ {binds : List (Str × Value)} {m : Str -> Option Value}, (∀ v, (x, v) ∉ binds) -> bindL kindOf binds m x = m x
 | [], _, _ => rfl
 | (n, v) :: r, m, h => by
   unfold bindL
   rw [a9m fun w hw => h w (List.mem_cons_of_mem _ hw)]
   split
   . have : x ≠ n := by rintro rfl; exact h v List.mem_cons_self
     simp [this]
   . rfl
theorem a9o {kindOf : Str -> Option NameKind} {x : Str} : ∀ {binds : List (Str × Value)} {m : Str -> Option Value}, (∀ v, (x, v) ∉ binds) -> bindC kindOf binds m x = m x
 | [], _, _ => rfl
 | (n, v) :: r, m, h => by
   unfold bindC
   rw [a9o fun w hw => h w (List.mem_cons_of_mem _ hw)]
   split
   . rfl
   . have : x ≠ n := by rintro rfl; exact h v List.mem_cons_self
     simp [this]
theorem a9n {kindOf : Str -> Option NameKind} {x : Str} {v : Value} : ∀ {P : List Str} {vs : List Value} {i : Nat} {m : Str -> Option Value}, P.Nodup -> P[i]? = some x -> vs[i]? = some v -> kindOf x = some .local ->
   bindL kindOf (P.zip vs) m x = some v
 | [], _, _, _, _, h, _, _ => by simp at h
 | _ :: _, [], _, _, _, _, h, _ => by simp at h
 | p :: P, w :: vs, 0, m, nd, h1, h2, hk => by
   simp at h1 h2; subst h1; subst h2
   show bindL kindOf ((p, w) :: P.zip vs) m p = _
   unfold bindL
   rw [a9m fun v hv => (List.nodup_cons.mp nd).1 (List.of_mem_zip hv).1, if_pos hk]
   simp
 | p :: P, w :: vs, i + 1, m, nd, h1, h2, hk => by
   show bindL kindOf ((p, w) :: P.zip vs) m x = _
   unfold bindL
   exact a9n (i := i) (List.nodup_cons.mp nd).2 (by simpa using h1) (by simpa using h2) hk
theorem a9p {kindOf : Str -> Option NameKind} {x : Str} {v : Value} : ∀ {P : List Str} {vs : List Value} {i : Nat} {m : Str -> Option Value}, P.Nodup -> P[i]? = some x -> vs[i]? = some v -> kindOf x ≠ some .local ->
   bindC kindOf (P.zip vs) m x = some v
 | [], _, _, _, _, h, _, _ => by simp at h
 | _ :: _, [], _, _, _, _, h, _ => by simp at h
 | p :: P, w :: vs, 0, m, nd, h1, h2, hk => by
   simp at h1 h2; subst h1; subst h2
   show bindC kindOf ((p, w) :: P.zip vs) m p = _
   unfold bindC
   rw [a9o fun v hv => (List.nodup_cons.mp nd).1 (List.of_mem_zip hv).1, if_neg hk]
   simp
 | p :: P, w :: vs, i + 1, m, nd, h1, h2, hk => by
   show bindC kindOf ((p, w) :: P.zip vs) m x = _
   unfold bindC
   exact a9p (i := i) (List.nodup_cons.mp nd).2 (by simpa using h1) (by simpa using h2) hk
noncomputable def start (N : List Str) (vs : List V) : St := vs.map some ++ List.replicate (N.length - vs.length) none
noncomputable def cxOf (CX : CXT) (P : Program) (w : World) (K : PySem.W.Frag) (mg : Str -> Option Value) (base : Heap) (N : List Str) (qual : Str) (scope : Scope) (f : Addr) (cd : Value) (A : Around) (outer : List Env) (s : Shared) (H : Hp) (E : XK) : Cx where
 prog := P
 w := w
 K := K
 mg := mg
 base := base
 A := A.deeper (envOfC qual scope s.heap.objs.size f cd)
 N := N
 s₀ := s
 H₀ := H
 env := envOfC qual scope s.heap.objs.size f cd
 outer := outer
 stack := envOfC qual scope s.heap.objs.size f cd :: outer
 ex := []
 calm := true
 fn := fun _ => true
 pn := []
 xe := fun e s' => wpAny (model P w) (A.deeper (envOfC qual scope s.heap.objs.size f cd)) (leaving (envOfC qual scope s.heap.objs.size f cd) e) (fun _ s'' => CX outer H s E e s'') (fun e' s'' => CX outer H s E e' s'') s'
theorem b14 {sc : Scope} {n : Nat} {x : Str} (h : sc.names.lookup x = some .cell) : ∃ c, (cellsFrom n sc.names []).lookup x = some c := by
 have q := PySem.W.cellsFrom_some sc.names n [] (.inl h)
 exact Option.isSome_iff_exists.mp q
theorem a9j {CX : CXT} {P : Program} {w : World} {K : PySem.W.Frag} {mg : Str -> Option Value} {base : Heap} {N ps : List Str} {qual : Str} {scope : Scope} {f : Addr} {cd : Value} {A : Around} {outer : List Env} {s s1 : Shared} {H : Hp} {E : XK} {us : List Value} {vs : List V}
   (S : FnScope N ps scope) (hd : A.handled = none) (e0 : Env0 P w K mg base A outer s H) (hl : vs.length = ps.length) (r : Vals vs us)
   (x : InCallC s s.heap.objs.size (bindL (envOfC qual scope s.heap.objs.size f cd).kindOf (ps.zip us) fun _ => none) (cellsFrom (s.heap.objs.size + 1) scope.names []) (bindC (envOfC qual scope s.heap.objs.size f cd).kindOf (ps.zip us) fun _ => none) s1) :
   Inv (cxOf CX P w K mg base N qual scope f cd A outer s H E) [] (start N vs) H s1 := by
 have hpl : ps.length <= N.length := by have := congrArg List.length S.pre; rw [List.length_take] at this; omega
 obtain ⟨h1, tk, rfl, hk⟩ := x.done
 have noA : ∀ b : Addr, b ∉ (cxOf CX P w K mg base N qual scope f cd A outer s H E).ex := fun b z => absurd (show b ∈ ([] : List Addr) from z) (by simp)
 refine ⟨⟨e0.mod, S.kind, rfl, rfl, Nat.le_refl _, fun y z c h1 h2 => ?_, fun y hy => ?_, fun y c _ h => ?_, fun _ => hd, Around.frames_deeper e0.frames, .inr ⟨rfl, rfl⟩, fun b z => absurd z (noA b), e0.bs, e0.bsz, fun b _ _ => noA b, fun b z => absurd z (noA b), e0.funs, e0.frf⟩,
   rfl, e0.bare, Un.kept hk, ⟨_, x.toInCall.ns, fun i y v h1 h2 h3 => ?_⟩, fun y c h => ⟨_, x.cell y c h⟩, e0.hok.fresh (Nat.le_refl _), fun y c h => ?_, fun p hp => absurd (show p ∈ ([] : List (Addr × Obj)) from hp) (by simp), e0.hok.kept hk, ?_⟩
 . exact name_of_addr x.apart (PySem.mem_of_lookup h1) (PySem.mem_of_lookup h2)
 . have hy : scope.names.lookup y = some .cell \/ scope.names.lookup y = some .free := hy
   rcases hy with hy | hy
   . exact b14 hy
   . exact absurd rfl (S.nofree _ (PySem.mem_of_lookup hy))
 . exact Nat.le_of_lt (x.above y c (PySem.mem_of_lookup h))
 . have hi : i < vs.length := by
     unfold start at h2
     by_cases hi : i < vs.length
     . exact hi
     . rw [List.getElem?_append_right (by simpa using hi)] at h2
       rw [List.getElem?_replicate] at h2
       split at h2 <;> cases h2
   have ha : vs[i]? = some v := by
     unfold start at h2
     rw [List.getElem?_append_left (by simpa using hi), List.getElem?_map] at h2
     cases e : vs[i]? with
     | none => rw [e] at h2; cases h2
     | some a => rw [e] at h2; cases h2; rfl
   obtain ⟨u, hu, rv⟩ := r.get ha
   have hp : ps[i]? = some y := by
     rw [<- S.pre, List.getElem?_take_of_lt (by omega)]; exact h1
   have ndP : ps.Nodup := by rw [<- S.pre]; exact S.nd.sublist (List.take_sublist _ _)
   refine ⟨u, rv, ?_⟩
   rcases S.par y (List.mem_of_getElem? hp) with k | k
   . exact .inl ⟨k, a9n ndP hp hu k⟩
   . obtain ⟨c, e⟩ := b14 (n := s.heap.objs.size + 1) k
     refine .inr ⟨.inl k, c, e, ?_⟩
     have q := x.cell y c e
     rw [a9p ndP hp hu (by show scope.names.lookup y ≠ _; rw [k]; decide)] at q
     exact q
 . exact e0.hok.fresh (Nat.le_of_lt (x.above y c (PySem.mem_of_lookup h)))
 . unfold start
   show _ = N.length
   rw [List.length_append, List.length_map, List.length_replicate]
   omega
theorem fn_of {CX : CXT} {P : Program} {w : World} {K : PySem.W.Frag} {mg : Str -> Option Value} {base : Heap} {k : Nat} {f : Addr} {name qual : Str} {params : Arguments} {body : List Stmt} {scope : Scope} {dV kV doc pm cdv ct oc : Value} {an od : Option Addr}
   {osl : Array (Option Value)} {N ps : List Str} {sp : Sp} (lk : K.lookup f = some ⟨oc, od, .func (PySem.W.fnOf name qual params body scope dV kV doc pm an cdv ct), osl⟩) (hcd : PySem.W.codeIn K cdv qual = true) (S : FnScope N ps scope)
   (len : ∀ vs H Q E, sp vs H Q E -> vs.length = ps.length)
   (hbody : ∀ (A : Around) (outer : List Env) (s : Shared) (H : Hp) (vs : List V) (Q : VK) (E : XK), Room k (A.deeper (envOfC qual scope s.heap.objs.size f cdv)) -> sp vs H Q E ->
     ∃ t, PSs (cxOf CX P w K mg base N qual scope f cdv A outer s H E) body t /\ t { nx := fun _ H' => Q .non H', rt := Q } (start N vs) H) :
   FnOk P w K mg base CX (k + 1) f (PySem.W.fnOf name qual params body scope dV kV doc pm an cdv ct) ps sp := by
 refine ⟨len, fun A outer s H args us vs Q E hr e0 hb r hsp => ?_⟩
 have hl := len _ _ _ _ hsp
 have KX : K.In s.heap := e0.mod.kin.keeps fun b o e => (e0.bs b o e).1
 have lim : s.heap.NoLimit := e0.mod.nolimit.keeps fun b o e => (e0.bs b o e).1
 have hkind : ∀ y ∈ ps.zip us, scope.names.lookup y.1 = some .local \/ (scope.names.lookup y.1 = some .cell /\ ((cellsFrom (s.heap.objs.size + 1) scope.names []).lookup y.1).isSome = true) := fun ⟨n, v⟩ hy => by
   rcases S.par n (List.of_mem_zip hy).1 with q | q
   . exact .inl q
   . exact .inr ⟨q, PySem.W.cellsFrom_some _ _ _ (.inl q)⟩
 refine codeAny_call_function hr.depth (KX _ _ lk) rfl S.co S.gen rfl (PySem.W.codeRec_of KX hcd) (hb _ _ _ _ ?_)
 refine wpAny_newFunctionEnv_cells S.kind hkind fun env he s1 x => ?_
 subst he
 refine ⟨lim.keeps x.toInCall.keep, codeAny_func ?_⟩
 obtain ⟨t, ht, hq⟩ := hbody A outer s H vs Q E (hr.deeper _) hsp
 have I : Inv (cxOf CX P w K mg base N qual scope f cdv A outer s H E) [] (start N vs) H s1 := a9j S hr.hd e0 hl r x
 refine wpAny_mono (ht [] s1 (start N vs) H _ I hq) (fun fl s' hs => ?_) fun e s' hs => hs
 have fin : ∀ {σ' : St} {H' : Hp} {v : V} {u : Value}, Inv (cxOf CX P w K mg base N qual scope f cdv A outer s H E) [] σ' H' s' -> RelV v u -> Q v H' -> CE outer P w H s Q u s' :=
   fun {σ' H' v u} J rv q => ⟨v, H', J.os, J.bare, J.base, J.hok, rv, q⟩
 cases fl with
 | ret u =>
   obtain ⟨v, σ', H', J, rv, q⟩ := hs
   exact fin J rv q
 | next =>
   obtain ⟨σ', H', J, q⟩ := hs
   exact fin (v := V.non) (u := Value.none) J rfl q
 | brk =>
   obtain ⟨_, _, _, q⟩ := hs
   exact False.elim q
 | cont =>
   obtain ⟨_, _, _, q⟩ := hs
   exact False.elim q
section
variable {X : Cx} {x : Str} {p pos : Pos} {e : Expr} {es : List Expr} {t : TA} {id T : String} {r : List V -> Hp -> VK -> Prop}
def tCB (r : List V -> Hp -> VK -> Prop) (t : TA) : TE := fun σ H Q => t σ H fun vs H1 => r vs H1 Q
theorem a4b (hc : CallR X (.builtin id) r) (hg : Gl X x) (hm : X.mg x = none) (hv : bootBuiltins x = some (.builtin id)) (ha : PA X (e :: es) t) (hn : x ≠ "__name__" := by decide) (hdb : (x == ("__debug__" : Str)) = false := by decide)
   (he : starEach (e :: es) X.env = (false, eval e X.env) :: starEach es X.env := by rfl) (hpl : (backTo pos (starEach es X.env)).any (·.1) = false := by rfl) : PE X (.Call (.Name x p) (e :: es) [] pos) (tCB r t) := by
 intro pins s σ H Q I h
 refine wpAny_Call_Name_kw (a9d I hg hm hv ?_ hn hdb)
 exact PyProof.Rows.callWith_builtin1 (thn (ha pos pins s σ H _ I h) fun us s1 ⟨vs, H1, I1, r1, q1⟩ => hc pins s1 σ H1 vs us Q I1 r1 q1) he hpl
theorem a55 (hc : CallR X (.type T) r) (hg : Gl X x) (hm : X.mg x = none) (hv : bootBuiltins x = some (.type T)) (ha : PA X (e :: es) t) (hn : x ≠ "__name__" := by decide) (hdb : (x == ("__debug__" : Str)) = false := by decide)
   (he : starEach (e :: es) X.env = (false, eval e X.env) :: starEach es X.env := by rfl) (hpl : (backTo pos (starEach es X.env)).any (·.1) = false := by rfl) : PE X (.Call (.Name x p) (e :: es) [] pos) (tCB r t) := by
 intro pins s σ H Q I h
 refine wpAny_Call_Name_kw (a9d I hg hm hv ?_ hn hdb)
 exact PyProof.Rows.callWith_type1 (thn (ha pos pins s σ H _ I h) fun us s1 ⟨vs, H1, I1, r1, q1⟩ => hc pins s1 σ H1 vs us Q I1 r1 q1) he hpl
end
end L2
namespace HT
open PySem PyProof.Rows
section
open PySem.SeqAt
open PySem.AutoSeq1 (wpAny_loadPart')
open PySem.MeetsSeq PySem.MeetsSeq2 PySem.MeetsSeq3
end
section
variable {prog : Program} {w : World} {A : Around} {E : Value -> Shared -> Prop} {s : Shared}
noncomputable def sIx (n d : Nat) : Option Int -> Nat
 | none => d
 | some v => if v < 0 then (v + (n : Int)).toNat else min v.toNat n
end
end HT
namespace L2
open PySem PySem.Spec PyProof.Rows
noncomputable abbrev TO := St -> Hp -> (Option Int -> Hp -> Prop) -> Prop
def PO (X : Cx) (e : Option Expr) (t : TO) : Prop :=
 ∀ (pins : List (Addr × Obj)) (s : Shared) (σ : St) (H : Hp) (Q : Option Int -> Hp -> Prop), Inv X pins σ H s -> t σ H Q ->
   wpAny (model X.prog X.w) X.A (evalPart e X.env) (fun u s' => ∃ o H', Inv X pins σ H' s' /\ IsPart u o /\ Q o H') X.xe s
noncomputable def tNoPart : TO := fun _ H Q => Q none H
noncomputable def tPart (t : TE) : TO := fun σ H Q => t σ H fun x H1 => ∃ i, x = .int i /\ Q (some i) H1
section
variable {X : Cx} {e : Expr} {te : TE} {lo hi : Option Expr} {tl th : TO} {pos p2 : Pos}
theorem po_none : PO X none tNoPart := by
 intro pins s σ H Q I h
 rw [evalPart_none]
 exact wpAny_pure ⟨none, H, I, .none, h⟩
theorem po_some (h : PE X e te) : PO X (some e) (tPart te) := by
 intro pins s σ H Q I hw
 rw [evalPart_some]
 refine thn (h pins s σ H _ I hw) fun u s1 zz9 => ?_
 obtain ⟨x, H1, I1, r1, q1⟩ := zz9
 obtain ⟨i, rfl, q⟩ := q1
 obtain ⟨t, rfl⟩ := r1
 exact ⟨some i, H1, I1, .int i t, q⟩
def SlR (X : Cx) (r : V -> Option Int -> Option Int -> Hp -> VK -> Prop) : Prop :=
 ∀ (pins : List (Addr × Obj)) (s : Shared) (σ : St) (H : Hp) (x : V) (v vl vu : Value) (lo hi : Option Int) (sl : Addr) (Q : VK), Inv X pins σ H s -> RelV x v -> s.heap.IsSliceOf sl vl vu .none -> IsPart vl lo -> IsPart vu hi -> r x lo hi H Q ->
   ∃ T id, typeLookup (.type T) "__getitem__" = pure (some (.builtin id)) /\ s.TypeIs v T /\ wpAny (model X.prog X.w) X.A (getItem v (.ref sl)) (EP X pins σ Q) X.xe s
theorem SlR.or {r r' : V -> Option Int -> Option Int -> Hp -> VK -> Prop} (h : SlR X r) (h' : SlR X r') : SlR X (fun x lo hi H Q => r x lo hi H Q \/ r' x lo hi H Q) := by
 intro pins s σ H x v vl vu lo hi sl Q I rx hs pl pu q
 rcases q with q | q
 . exact h pins s σ H x v vl vu lo hi sl Q I rx hs pl pu q
 . exact h' pins s σ H x v vl vu lo hi sl Q I rx hs pl pu q
def tSl (r : V -> Option Int -> Option Int -> Hp -> VK -> Prop) (te : TE) (tl th : TO) : TE := fun σ H Q => te σ H fun x H1 => tl σ H1 fun l H2 => th σ H2 fun u H3 => r x l u H3 Q
theorem b6k {r : V -> Option Int -> Option Int -> Hp -> VK -> Prop} (hr : SlR X r) (he : PE X e te) (hl : PO X lo tl) (hu : PO X hi th) : PE X (.Subscript e (.Slice lo hi none p2) pos) (tSl r te tl th) := by
 intro pins s σ H Q I h
 refine Subscript_ (thn (he pins s σ H _ I h) fun v s1 zz9 => ?_)
 obtain ⟨x, H1, I1, r1, q1⟩ := zz9
 refine wpAny_Slice (thn (hl pins s1 σ H1 _ I1 q1) fun vl s2 ⟨l, H2, I2, pl, q2⟩ => thn (hu pins s2 σ H2 _ I2 q2) fun vu s3 zz9 => ?_)
 obtain ⟨u, H3, I3, pu, q3⟩ := zz9
 rw [evalPart_none]
 refine wpAny_pure ?_
 have I4 : Inv X pins σ H3 { s3 with heap := s3.heap.push { cls := .type "slice", data := .fields #[vl, vu, .none] } } := I3.kept (t' := s3.toks) fun b ob q => Heap.get?_push_of_some _ q
 obtain ⟨T, id, hT, ht, hg⟩ := hr pins { s3 with heap := s3.heap.push { cls := .type "slice", data := .fields #[vl, vu, .none] } } σ H3 x v vl vu l u s3.heap.objs.size Q I4 r1 (Heap.IsSliceOf.new ..) pl pu q3
 show wpAny (model X.prog X.w) X.A (subscriptTail e (.Slice lo hi none p2) v (.ref s3.heap.objs.size)) (EP X pins σ Q) X.xe { s3 with heap := s3.heap.push { cls := .type "slice", data := .fields #[vl, vu, .none] } }
 exact tail_any (ops := [.ref s3.heap.objs.size, v]) ht hT hg (by with_unfolding_all rfl)
noncomputable def cutV (xs : List V) (lo hi : Option Int) : List V := (xs.drop (HT.sIx xs.length 0 lo)).take (HT.sIx xs.length xs.length hi - HT.sIx xs.length 0 lo)
theorem b0t (xs : List V) (lo hi : Option Int) : (cutV xs lo hi).length <= xs.length := by
 unfold cutV
 rw [List.length_take, List.length_drop]
 omega
end
noncomputable def ixN (n : Nat) (i : Int) : Option Nat := if 0 <= i then (if i < n then some i.toNat else none) else if -(n : Int) <= i then some (i + n).toNat else none
noncomputable def atI {α : Type} (xs : List α) (i : Int) : Option α := (ixN xs.length i).bind fun j => xs[j]?
theorem b4y {n : Nat} {i : Int} {j : Nat} (h : ixN n i = some j) : seqIndex? i n = some j /\ j < n /\ -(n : Int) <= i /\ i < n := by
 unfold ixN at h
 by_cases h0 : 0 <= i
 . rw [if_pos h0] at h
   by_cases h1 : i < n
   . rw [if_pos h1] at h
     have e : i.toNat = j := Option.some.inj h
     exact ⟨by rw [seqIndex_of h0 h1, e], by omega, by omega, h1⟩
   . rw [if_neg h1] at h; cases h
 . rw [if_neg h0] at h
   by_cases h1 : -(n : Int) <= i
   . rw [if_pos h1] at h
     have e : (i + n).toNat = j := Option.some.inj h
     exact ⟨by rw [seqIndex_neg (by omega) h1, e], by omega, h1, by omega⟩
   . rw [if_neg h1] at h; cases h
theorem b0x {α : Type} {xs : List α} {i : Int} {v : α} (h : atI xs i = some v) : ∃ j, seqIndex? i xs.length = some j /\ xs[j]? = some v /\ j < xs.length /\ -(xs.length : Int) <= i /\ i < xs.length := by
 unfold atI at h
 cases e : ixN xs.length i with
 | none => rw [e] at h; cases h
 | some j =>
   rw [e] at h
   obtain ⟨h1, h2, h3, h4⟩ := b4y e
   exact ⟨j, h1, h, h2, h3, h4⟩
theorem a3c {α : Type} {xs : List α} {j : Nat} {v : α} (h : xs[j]? = some v) : atI xs (j : Int) = some v := by
 have hj : j < xs.length := (List.getElem?_eq_some_iff.mp h).1
 have e : ixN xs.length (j : Int) = some j := by
   unfold ixN
   rw [if_pos (by omega), if_pos (by omega)]; simp
 unfold atI; rw [e]; exact h
def b5w (b : Expr) : Prop := ∀ o i, subscripted b false o i = operate [o, i] (getItem o i)
def IxR (X : Cx) (r : R2) : Prop :=
 ∀ (value slice : Expr) (pins : List (Addr × Obj)) (s : Shared) (σ : St) (H : Hp) (x y : V) (v u : Value) (Q : VK), Inv X pins σ H s -> RelV x v -> RelV y u -> r x y H Q ->
   subscripted slice false v u = operate [v, u] (getItem v u) -> wpAny (model X.prog X.w) X.A (subscriptTail value slice v u) (EP X pins σ Q) X.xe s
def MtR (X : Cx) (id : String) (r : V -> List V -> Hp -> VK -> Prop) : Prop :=
 ∀ (pins : List (Addr × Obj)) (s : Shared) (σ : St) (H : Hp) (x : V) (xs : List V) (v : Value) (us : List Value) (Q : VK), Inv X pins σ H s -> RelV x v -> Vals xs us -> r x xs H Q ->
   wpAny (model X.prog X.w) X.A (call (.builtin id) (v :: us)) (EP X pins σ Q) X.xe s
section
variable {X : Cx} {a b : Expr} {ta tb : TE} {pos : Pos}
theorem IxR.or {r r' : R2} (h : IxR X r) (h' : IxR X r') : IxR X (fun x y H Q => r x y H Q \/ r' x y H Q) := by
 intro value slice pins s σ H x y v u Q I rx ry q hs
 rcases q with q | q
 . exact h value slice pins s σ H x y v u Q I rx ry q hs
 . exact h' value slice pins s σ H x y v u Q I rx ry q hs
theorem pe_ix {r : R2} (hr : IxR X r) (ha : PE X a ta) (hb : PE X b tb) (hs : b5w b) : PE X (.Subscript a b pos) (tOp r ta tb) := by
 intro pins s σ H Q I h
 exact Subscript_ (binT ha hb I h fun v u s2 x y H2 I2 rx ry q => hr a b pins s2 σ H2 x y v u Q I2 rx ry q (hs _ _))
def rIxL (K : PySem.W.Frag) : R2 := fun x y H Q => ∃ p xs i v, x = .ref p /\ y = .int i /\ SqL K H p xs /\ atI xs i = some v /\ Q v H
def rIxT (K : PySem.W.Frag) : R2 := fun x y H Q => ∃ p xs i v, x = .ref p /\ y = .int i /\ SqT K H p xs /\ atI xs i = some v /\ Q v H
def rIxS : R2 := fun x y H Q => ∃ z i c, x = .str z /\ y = .int i /\ z.length <= sizeLine /\ atI z.cps.toList i = some c /\ Q (.str ⟨#[c]⟩) H
theorem ix_list : IxR X (rIxL X.K) := by
 intro value slice pins s σ H x y v u Q I rx ry h hs
 obtain ⟨p, xs, i, z, rfl, rfl, hq, he, q⟩ := h
 cases rx
 obtain ⟨t, rfl⟩ := ry
 obtain ⟨its, r, pl, hz⟩ := I.list hq
 obtain ⟨j, h1, h2, h3, h4, h5⟩ := b0x he
 obtain ⟨w, ew, rw'⟩ := r.get h2
 have hl := r.length
 have hn := a7g
 have fin : EP X pins σ Q w s := ⟨z, H, I, rw', q⟩
 by_cases h0 : 0 <= i
 . have hj : i.toNat = j := by
     rw [seqIndex_of h0 h5] at h1
     exact Option.some.inj h1
   exact item_listR pl.isList h0 (by omega) (by rw [hj]; simpa using ew) fin hs
 . have hj : (i + (its.toArray.size : Int)).toNat = j := by
     rw [seqIndex_neg (by omega) h4] at h1
     rw [List.size_toArray, <- hl]
     exact Option.some.inj h1
   exact subscriptTail_builtinR (x := w) pl.isList.typeIs slot_list_getitem.lookup
     (wpAny_getItem_list_neg (Q := fun r s' => r = w /\ EP X pins σ Q r s') pl.isList (by omega) (by rw [List.size_toArray] <;> omega) (by omega) (by rw [hj]; simpa using ew) ⟨rfl, fin⟩) hs
theorem ix_tup : IxR X (rIxT X.K) := by
 intro value slice pins s σ H x y v u Q I rx ry h hs
 obtain ⟨p, xs, i, z, rfl, rfl, hq, he, q⟩ := h
 cases rx
 obtain ⟨t, rfl⟩ := ry
 obtain ⟨its, r, pl, hz⟩ := I.tuple hq
 obtain ⟨j, h1, h2, h3, h4, h5⟩ := b0x he
 obtain ⟨w, ew, rw'⟩ := r.get h2
 have hl := r.length
 have hn := a7g
 have fin : EP X pins σ Q w s := ⟨z, H, I, rw', q⟩
 exact subscriptTail_builtinR (x := w) pl.typeIs slot_tuple_getitem.lookup
   (getItem_tuple (j := j) (Q := fun r s' => r = w /\ EP X pins σ Q r s') pl (by omega) (by omega) (by rw [List.size_toArray, <- hl]; exact h1) (by simpa using ew) ⟨rfl, fin⟩) hs
theorem ix_str : IxR X rIxS := by
 intro value slice pins s σ H x y v u Q I rx ry h hs
 obtain ⟨z, i, c, rfl, rfl, hz, he, q⟩ := h
 obtain ⟨t, rfl⟩ := rx
 obtain ⟨t', rfl⟩ := ry
 obtain ⟨j, h1, h2, h3, h4, h5⟩ := b0x he
 have hl : z.cps.toList.length = z.length := by simp [Str.length]
 rw [hl] at h1 h4 h5
 have hn := a7g
 exact tail_any (typeIs_str s z t) slot_str_getitem.lookup (getItem_str (c := c) (by
   have e1 : decide (i < -(2 ^ 63 : Int)) = false := decide_eq_false (by omega)
   have e2 : decide (i >= 2 ^ 63) = false := decide_eq_false (by omega)
   rw [e1, e2, Bool.or_false]) (by rw [h1]; simpa using h2) ⟨.str ⟨#[c]⟩, H, I.tok _, ⟨_, rfl⟩, q⟩) hs
def rIx (K : PySem.W.Frag) : R2 := fun x y H Q => rIxL K x y H Q \/ rIxT K x y H Q \/ rIxS x y H Q
theorem a0e : IxR X (rIx X.K) := ix_list.or (ix_tup.or ix_str)
theorem b2q (its : List Value) (n j : Nat) (u : Value) : Obj.mapSeq (·.setIfInBounds j u) { cls := .type "list", data := .seq its.toArray n } = { cls := .type "list", data := .seq (its.set j u).toArray n } := by
 simp [Obj.mapSeq]
theorem Inv.lst {pins : List (Addr × Obj)} {σ : St} {H : Hp} {s : Shared} {p : Addr} {xs : List V} (I : Inv X pins σ H s) (h : H p = some (.lst xs)) :
   ∃ (its : List Value) (n : Nat), Vals xs its /\ s.heap.get? p = some { cls := .type "list", data := .seq its.toArray n } /\ xs.length <= sizeLine := by
 obtain ⟨z, its, n, r, e⟩ := I.hok p _ h
 exact ⟨its, n, r, e, z⟩
theorem Inv.lstUpd {pins : List (Addr × Obj)} {σ : St} {H : Hp} {s : Shared} {p : Addr} {xs ys : List V} {its its' : List Value} {n n' : Nat} {f : Obj -> Obj} (I : Inv X pins σ H s) (h : H p = some (.lst xs))
   (ho : s.heap.get? p = some { cls := .type "list", data := .seq its.toArray n }) (hf : f { cls := .type "list", data := .seq its.toArray n } = { cls := .type "list", data := .seq its'.toArray n' }) (r : Vals ys its') (hz : ys.length <= sizeLine) (t : Nat) :
   Inv X pins σ (upd H p (.lst ys)) { s with heap := s.heap.update p f, toks := t } := by
 have e : (s.heap.update p f).get? p = some { cls := .type "list", data := .seq its'.toArray n' } := by
   rw [Heap.get?_update_self f ho (by rw [hf] <;> rfl), hf]
 refine I.write (x := p) (e := p) (by rw [h]; trivial) (.inl rfl) (fun b u hb q => (Heap.get?_update_other _ _ (Ne.symm hb)).trans q) ⟨_, e⟩ ?_
 exact ⟨hz, its', n', r, e⟩
def rSetL : V -> V -> V -> Hp -> (Hp -> Prop) -> Prop := fun o i v H Q => ∃ p xs k j, o = .ref p /\ i = .int k /\ H p = some (.lst xs) /\ ixN xs.length k = some j /\ Q (upd H p (.lst (xs.set j v)))
theorem b56 : PSet X rSetL := by
 intro pins s σ H o i v ov iv u Q I ro ri rv h
 obtain ⟨p, xs, k, j, rfl, rfl, hp, hj, q⟩ := h
 cases ro
 obtain ⟨t, rfl⟩ := ri
 obtain ⟨its, n, r, ho, hz⟩ := I.lst hp
 obtain ⟨h1, h2, h3, h4⟩ := b4y hj
 have hl := r.length
 have hn := a7g
 have I' : Inv X pins σ (upd H p (.lst (xs.set j v))) { s with heap := s.heap.update p (Obj.mapSeq (·.setIfInBounds j u)) } :=
   I.lstUpd hp ho (b2q its n j u) (r.set rv j) (by rw [List.length_set]; exact hz) s.toks
 by_cases h0 : 0 <= k
 . have hk : k.toNat = j := by
     rw [seqIndex_of h0 h4] at h1
     exact Option.some.inj h1
   exact PySem.W.ki_setAt ho h0 (by omega) (by rw [List.size_toArray, <- hl]; exact h4) (by rw [hk]; exact ⟨_, I', q⟩)
 . have hk : (k + (its.toArray.size : Int)).toNat = j := by
     rw [seqIndex_neg (by omega) h3] at h1
     rw [List.size_toArray, <- hl]
     exact Option.some.inj h1
   exact PySem.W.ki_setBack ho (by omega) (by rw [List.size_toArray, <- hl]; exact h3) (by omega) (by rw [hk]; exact ⟨_, I', q⟩)
theorem a8s (lo hi : Option Int) (n : Nat) : (sliceBounds lo hi none n).1 = ((HT.sIx n 0 lo : Nat) : Int) /\ (sliceBounds lo hi none n).2.1 = ((HT.sIx n n hi : Nat) : Int) /\ (sliceBounds lo hi none n).2.2 = 1 := by
 refine ⟨?_, ?_, rfl⟩
 . cases lo with
   | none => simp [sliceBounds, HT.sIx]
   | some i =>
     simp only [sliceBounds, HT.sIx, Option.getD_none, show (1 : Int) > 0 by decide, if_true]
     by_cases h : i < 0
     . simp only [h, if_true] <;> omega
     . simp only [h, if_false] <;> omega
 . cases hi with
   | none => simp [sliceBounds, HT.sIx]
   | some i =>
     simp only [sliceBounds, HT.sIx, Option.getD_none, show (1 : Int) > 0 by decide, if_true]
     by_cases h : i < 0
     . simp only [h, if_true] <;> omega
     . simp only [h, if_false] <;> omega
theorem a7t (its : List Value) (lo hi : Option Int) : slicePick its.toArray lo hi none = ((its.drop (HT.sIx its.length 0 lo)).take (HT.sIx its.length its.length hi - HT.sIx its.length 0 lo)).toArray := by
 obtain ⟨h1, h2, h3⟩ := a8s lo hi its.toArray.size
 unfold slicePick
 rw [h1, h2, h3]
 simp only [sliceRange_one, pick_run, List.size_toArray] <;> rfl
def rSlL (K : PySem.W.Frag) : V -> Option Int -> Option Int -> Hp -> VK -> Prop := fun x lo hi H Q => ∃ a xs, x = .ref a /\ SqL K H a xs /\ ∀ p, H p = none -> Q (.ref p) (upd H p (.lst (cutV xs lo hi)))
theorem sl_list : SlR X (rSlL X.K) := by
 intro pins s σ H x v vl vu lo hi sl Q I rx hs pl pu h
 obtain ⟨a, xs, rfl, hx, q⟩ := h
 cases rx
 obtain ⟨its, r, ht, hz⟩ := I.list hx
 have hlen := r.length
 refine ⟨"list", _, slot_list_getitem.lookup, ht.isList.typeIs, ?_⟩
 refine wpAny_getItem_list_slice ht.isList hs pl pu .none (by simp) ?_ (by rw [List.size_toArray] <;> omega)
 rw [a7t, <- hlen]
 refine ⟨.ref s.heap.objs.size, _, I.laid (t' := s.toks) (o := .lst (cutV xs lo hi)) (fun b ob q => Heap.get?_push_of_some _ q) (Nat.le_refl _) ?_, rfl, q _ (I.hok.fresh (Nat.le_refl _))⟩
 exact ⟨Nat.le_trans (b0t xs lo hi) hz, _, 0, (r.drop (HT.sIx xs.length 0 lo)).take (HT.sIx xs.length xs.length hi - HT.sIx xs.length 0 lo), Heap.get?_push_size _ rfl⟩
noncomputable def a3x : V -> Bool
 | .non => true
 | .bl _ => true
 | .int _ => true
 | .str _ => true
 | _ => false
noncomputable def eqV : V -> V -> Bool
 | .non, .non => true
 | .bl a, .bl b => a == b
 | .bl a, .int b => (if a then 1 else 0) == b
 | .int a, .bl b => a == (if b then 1 else 0)
 | .int a, .int b => a == b
 | .str a, .str b => a == b
 | _, _ => false
theorem eqAt_V {A : Around} {s : Shared} {y x : V} {u v : Value} (ry : RelV y u) (rx : RelV x v) (fy : a3x y = true) (fx : a3x x = true) : SeqAt.EqAt A s u v (eqV y x) := by
 cases y with
 | non =>
   cases ry
   cases x with
   | non => cases rx; exact SeqAt.EqAt.same _
   | bl b => cases rx; exact SeqAt.EqAt.none_bool b
   | int b => obtain ⟨t, rfl⟩ := rx; exact SeqAt.EqAt.none_int b t
   | str b => obtain ⟨t, rfl⟩ := rx; exact SeqAt.EqAt.none_str b t
   | _ => exact absurd (show false = true from fx) Bool.false_ne_true
 | bl a =>
   cases ry
   cases x with
   | non => cases rx; exact SeqAt.EqAt.bool_none a
   | bl b => cases rx; exact SeqAt.EqAt.bool_bool a b
   | int b => obtain ⟨t, rfl⟩ := rx; exact SeqAt.EqAt.bool_int a b t
   | str b => obtain ⟨t, rfl⟩ := rx; exact SeqAt.EqAt.bool_str a b t
   | _ => exact absurd (show false = true from fx) Bool.false_ne_true
 | int a =>
   obtain ⟨t', rfl⟩ := ry
   cases x with
   | non => cases rx; exact SeqAt.EqAt.int_none a t'
   | bl b => cases rx; exact SeqAt.EqAt.int_bool a t' b
   | int b => obtain ⟨t, rfl⟩ := rx; exact SeqAt.EqAt.int_int a t' b t
   | str b => obtain ⟨t, rfl⟩ := rx; exact SeqAt.EqAt.int_str a t' b t
   | _ => exact absurd (show false = true from fx) Bool.false_ne_true
 | str a =>
   obtain ⟨t', rfl⟩ := ry
   cases x with
   | non => cases rx; exact SeqAt.EqAt.str_none a t'
   | bl b => cases rx; exact SeqAt.EqAt.str_bool a t' b
   | int b => obtain ⟨t, rfl⟩ := rx; exact SeqAt.EqAt.str_int a t' b t
   | str b => obtain ⟨t, rfl⟩ := rx; exact SeqAt.EqAt.str_str a t' b t
   | _ => exact absurd (show false = true from fx) Bool.false_ne_true
 | _ => exact absurd (show false = true from fy) Bool.false_ne_true
noncomputable def eqU (x : V) (u : Value) : Bool := match u with
 | .none => eqV .non x
 | .bool b => eqV (.bl b) x
 | .int i _ => eqV (.int i) x
 | .str z _ => eqV (.str z) x
 | _ => false
theorem b5g {x y : V} {u : Value} (r : RelV y u) (f : a3x y = true) : eqU x u = eqV y x := by
 cases y with
 | non => cases r; rfl
 | bl b => cases r; rfl
 | int i => obtain ⟨t, rfl⟩ := r; rfl
 | str z => obtain ⟨t, rfl⟩ := r; rfl
 | _ => exact absurd (show false = true from f) Bool.false_ne_true
theorem a6u {x : V} : ∀ {xs : List V} {us : List Value}, Vals xs us -> xs.all a3x = true -> us.any (eqU x) = xs.any fun y => eqV y x
 | _, _, .nil, _ => rfl
 | y :: xs, u :: us, .cons r t, f => by
   rw [List.all_cons, Bool.and_eq_true] at f
   rw [List.any_cons, List.any_cons, b5g r f.1, a6u t f.2]
theorem a3g {A : Around} {s : Shared} {x : V} {v : Value} (rx : RelV x v) (fx : a3x x = true) : ∀ {xs : List V} {us : List Value}, Vals xs us -> xs.all a3x = true -> ∀ u ∈ us, SeqAt.EqAt A s u v (eqU x u)
 | _, _, .nil, _ => fun u hu => by cases hu
 | y :: xs, u :: us, .cons r t, f => fun u' hu => by
   rw [List.all_cons, Bool.and_eq_true] at f
   rcases List.mem_cons.mp hu with rfl | hu
   . rw [b5g r f.1]; exact eqAt_V r rx f.1 fx
   . exact a3g rx fx t f.2 u' hu
noncomputable def inV (x : V) (xs : List V) : Bool := xs.any fun y => eqV y x
def rIn (K : PySem.W.Frag) (neg : Bool) : R2 := fun x y H Q => ∃ p xs, y = .ref p /\ (SqL K H p xs \/ SqT K H p xs) /\ a3x x = true /\ xs.all a3x = true /\ Q (.bl (if neg then !inV x xs else inV x xs)) H
theorem op_in_seq : OpR X (compareOp .In) (rIn X.K false) := by
 intro pins s σ H x y v u Q I rx ry h
 obtain ⟨p, xs, rfl, hq, fx, fs, q⟩ := h
 cases ry
 rcases hq with hq | hq
 . obtain ⟨its, r, pl, hz⟩ := I.list hq
   refine SeqAt.in_listAt (eqU x) pl.isList (fun w hw => a3g rx fx r fs w (by simpa using hw)) ⟨.bl _, H, I, rfl, ?_⟩
   rw [show its.toArray.any (eqU x) = its.any (eqU x) by simp, a6u r fs]
   exact q
 . obtain ⟨its, r, pl, hz⟩ := I.tuple hq
   refine SeqAt.in_tupleAt (eqU x) pl (fun w hw => a3g rx fx r fs w (by simpa using hw)) ⟨.bl _, H, I, rfl, ?_⟩
   rw [show its.toArray.any (eqU x) = its.any (eqU x) by simp, a6u r fs]
   exact q
theorem op_notIn_seq : OpR X (compareOp .NotIn) (rIn X.K true) := by
 intro pins s σ H x y v u Q I rx ry h
 obtain ⟨p, xs, rfl, hq, fx, fs, q⟩ := h
 cases ry
 rcases hq with hq | hq
 . obtain ⟨its, r, pl, hz⟩ := I.list hq
   refine SeqAt.notIn_listAt (eqU x) pl.isList (fun w hw => a3g rx fx r fs w (by simpa using hw)) ⟨.bl _, H, I, rfl, ?_⟩
   rw [show its.toArray.any (eqU x) = its.any (eqU x) by simp, a6u r fs]
   exact q
 . obtain ⟨its, r, pl, hz⟩ := I.tuple hq
   refine SeqAt.notIn_tupleAt (eqU x) pl (fun w hw => a3g rx fx r fs w (by simpa using hw)) ⟨.bl _, H, I, rfl, ?_⟩
   rw [show its.toArray.any (eqU x) = its.any (eqU x) by simp, a6u r fs]
   exact q
theorem CallR.or {f : Value} {r r' : List V -> Hp -> VK -> Prop} (h : CallR X f r) (h' : CallR X f r') : CallR X f (fun xs H Q => r xs H Q \/ r' xs H Q) := by
 intro pins s σ H xs us Q I rs q
 rcases q with q | q
 . exact h pins s σ H xs us Q I rs q
 . exact h' pins s σ H xs us Q I rs q
def tyV (K : PySem.W.Frag) (T : String) (x : V) (H : Hp) : Prop := match x with
 | .str _ => T = "str"
 | .int _ => T = "int"
 | .ref p => (T = "list" /\ ∃ xs, SqL K H p xs) \/ (T = "tuple" /\ ∃ o, K.lookup p = some o /\ o.cls = .type "tuple" /\ o.dict = none) \/
     (T = "dict" /\ ((∃ kvs, H p = some (.dK kvs)) \/ ∃ kvs, H p = some (.dT kvs))) \/ (T = "set" /\ ∃ S n, H p = some (.set S n))
 | _ => False
theorem tyV_is {pins : List (Addr × Obj)} {σ : St} {H : Hp} {s : Shared} {T : String} {x : V} {v : Value} (I : Inv X pins σ H s) (r : RelV x v) (ty : tyV X.K T x H) :
   s.TypeIs v T /\ ∀ a, v = .ref a -> ∃ ob, s.heap.get? a = some ob /\ ob.dict = none := by
 cases x with
 | str z =>
   obtain ⟨t, rfl⟩ := r
   cases (show T = "str" from ty)
   exact ⟨typeIs_str s z t, fun _ e => nomatch e⟩
 | int i =>
   obtain ⟨t, rfl⟩ := r
   cases (show T = "int" from ty)
   exact ⟨typeIs_int s i t, fun _ e => nomatch e⟩
 | ref p =>
   cases r
   rcases ty with ⟨rfl, xs, hq⟩ | ⟨rfl, o, hk, hc, hd⟩ | ⟨rfl, hk⟩ | ⟨rfl, S, n, hk⟩
   . obtain ⟨its, _, pl, _⟩ := I.list hq
     refine ⟨pl.isList.typeIs, fun a e => ?_⟩
     cases e
     obtain ⟨o, n, e, c, hd, _⟩ := pl
     exact ⟨o, e, hd⟩
   . refine ⟨⟨o, I.kIn p o hk, hc⟩, fun a e => ?_⟩
     cases e
     exact ⟨o, I.kIn _ o hk, hd⟩
   . have z : ∃ o, s.heap.get? p = some o /\ o.ExactDict := by
       rcases hk with ⟨kvs, hk⟩ | ⟨kvs, hk⟩
       . obtain ⟨_, _, _, _, o, _, _, e, ex, _⟩ := I.hok p _ hk
         exact ⟨o, e, ex⟩
       . obtain ⟨_, _, _, _, o, _, _, e, ex, _⟩ := I.hok p _ hk
         exact ⟨o, e, ex⟩
     obtain ⟨o, e, ex⟩ := z
     refine ⟨⟨o, e, ex.1⟩, fun a e2 => ?_⟩
     cases e2
     exact ⟨o, e, ex.2.1⟩
   . obtain ⟨o, _, _, _, e, ex, _⟩ := I.hok p _ hk
     refine ⟨⟨o, e, ex.1⟩, fun a e2 => ?_⟩
     cases e2
     exact ⟨o, e, ex.2.1⟩
 | _ => exact False.elim ty
def tBM0 (K : PySem.W.Frag) (T : String) (r : V -> List V -> Hp -> VK -> Prop) (to : TE) : TE := fun σ H Q => to σ H fun x H1 => tyV K T x H1 /\ r x [] H1 Q
def tBM (K : PySem.W.Frag) (T : String) (r : V -> List V -> Hp -> VK -> Prop) (to : TE) (t : TA) : TE := fun σ H Q => to σ H fun x H1 => tyV K T x H1 /\ t σ H1 fun xs H2 => r x xs H2 Q
variable {o e : Expr} {es : List Expr} {to : TE} {t : TA} {name : Str} {apos cpos : Pos} {T id : String} {r : V -> List V -> Hp -> VK -> Prop}
theorem a8w (pa : PlainAttrs T) (slot : Slot T name id) (hty : typeOf (.builtin id) = pure (.type "method_descriptor")) (hm : MtR X id r) (ho : PE X o to)
   (hbase : attributeBase o name X.env (eval o X.env) = eval o X.env := by rfl) (hline : (apos.endLine == cpos.line) = true := by rfl) : PE X (.Call (.Attribute o name apos) [] [] cpos) (tBM0 X.K T r to) := by
 intro pins s σ H Q I h
 refine wpAny_Call_method0_late hbase hline (thn (ho pins s σ H _ I h) fun v s1 zz9 => ?_)
 obtain ⟨x, H1, I1, r1, ty, q1⟩ := zz9
 obtain ⟨h1, h2⟩ := tyV_is I1 r1 ty
 exact ⟨T, id, pa, slot, hty, h1, h2, Calls.callWith_builtin rfl (PySem.evalArgs_none (hm pins s1 σ H1 x [] v [] Q I1 r1 .nil q1))⟩
theorem pe_bm (pa : PlainAttrs T) (slot : Slot T name id) (hty : typeOf (.builtin id) = pure (.type "method_descriptor")) (hm : MtR X id r) (ho : PE X o to) (ha : PA X (e :: es) t)
   (hbase : attributeBase o name X.env (eval o X.env) = eval o X.env := by rfl)
   (hfew : ((backTo cpos (starEach (e :: es) X.env)).all (fun x => !x.1) && (backToKw cpos (keywordEach [] X.env)).all (fun x => x.1.isSome)
     && decide ((e :: es).length + ([] : List Keyword).length + (if ([] : List Keyword).isEmpty then 0 else 1) < 30)) = true := by rfl)
   (hline : (apos.endLine == cpos.line) = true := by rfl) (hs : starEach (e :: es) X.env = (false, eval e X.env) :: starEach es X.env := by rfl) (hplain : (backTo cpos (starEach es X.env)).any (·.1) = false := by rfl) :
   PE X (.Call (.Attribute o name apos) (e :: es) [] cpos) (tBM X.K T r to t) := by
 intro pins s σ H Q I h
 refine wpAny_Call_method_late hbase hfew hline rfl (thn (ho pins s σ H _ I h) fun v s1 zz9 => ?_)
 obtain ⟨x, H1, I1, r1, ty, q1⟩ := zz9
 obtain ⟨h1, h2⟩ := tyV_is I1 r1 ty
 refine ⟨T, id, pa, slot, hty, h1, h2, ?_⟩
 have hA := ha cpos pins s1 σ H1 _ I1 q1
 rw [hs] at hA |-
 refine Calls.callWith_builtin (by show (false || (backTo cpos (starEach es X.env)).any (·.1)) = false; rw [hplain] <;> rfl) (Calls.evalArgs_plain ?_)
 exact thn hA fun us s2 ⟨vs, H2, I2, r2, q2⟩ => hm pins s2 σ H2 x vs v us Q I2 r1 r2 q2
/- xs.append(e), list.index on a module's tuple .. are MtR facts of 06m -/
end
def MtM (X : Cx) (id : String) (r : V -> List V -> Hp -> VK -> Prop) : Prop :=
 ∀ (pins : List (Addr × Obj)) (s : Shared) (σ : St) (H : Hp) (x : V) (xs : List V) (v : Value) (us : List Value) (Q : VK), Inv X pins σ H s -> RelV x v -> Vals xs us -> r x xs H Q ->
   wpAny (model X.prog X.w) X.A (call (.builtin id) (v :: us)) (EP X pins σ Q) X.xe s
theorem Vals.one : ∀ {x : V} {us : List Value}, Vals [x] us -> ∃ u, us = [u] /\ RelV x u
 | _, _, .cons r .nil => ⟨_, rfl, r⟩
theorem Vals.zero : ∀ {us : List Value}, Vals [] us -> us = []
 | _, .nil => rfl
theorem Vals.eraseIdx : ∀ {xs : List V} {us : List Value} (i : Nat), Vals xs us -> Vals (xs.eraseIdx i) (us.eraseIdx i)
 | _, _, _, .nil => .nil
 | _, _, 0, .cons _ t => t
 | _, _, i + 1, .cons r t => .cons r (Vals.eraseIdx i t)
theorem Vals.reverse {xs : List V} {us : List Value} (h : Vals xs us) : Vals xs.reverse us.reverse := by
 induction h with
 | nil => exact .nil
 | cons r t ih => rw [List.reverse_cons, List.reverse_cons]; exact Vals.append ih (.cons r .nil)
theorem a9c {α : Type} : ∀ (l : List α) (i : Nat), (l.eraseIdx i).length <= l.length
 | [], _ => Nat.le_refl _
 | _ :: _, 0 => Nat.le_succ _
 | _ :: r, i + 1 => Nat.succ_le_succ (a9c r i)
section
variable {X : Cx} {pins : List (Addr × Obj)} {σ : St} {H : Hp} {s : Shared} {l b : Addr} {xs ys zs : List V}
theorem Inv.lset {its its' : List Value} {n : Nat} {f : Array Value -> Array Value} {t' : Nat} (I : Inv X pins σ H s) (hH : H l = some (.lst xs))
   (e : s.heap.get? l = some { cls := .type "list", data := .seq its.toArray n }) (hf : f its.toArray = its'.toArray) (hv : Vals ys its') (hz : ys.length <= sizeLine) :
   Inv X pins σ (upd H l (.lst ys)) { s with heap := s.heap.update l (Obj.mapSeq f), toks := t' } := by
 have q := PySem.IsL.update e f
 rw [hf] at q
 refine I.write (x := l) (e := l) (by rw [hH]; exact trivial) (.inl rfl) (fun b' u hb hu => (Heap.get?_update_other s.heap (Obj.mapSeq f) (Ne.symm hb)).trans hu) ⟨_, q⟩ ?_
 exact ⟨hz, its', _, hv, q⟩
theorem Inv.lnew {its : List Value} {t' : Nat} (I : Inv X pins σ H s) (hv : Vals ys its) (hz : ys.length <= sizeLine) :
   Inv X pins σ (upd H s.heap.objs.size (.lst ys)) { s with heap := s.heap.push { cls := .type "list", data := .seq its.toArray }, toks := t' } :=
 I.laid (fun _ _ q => Heap.get?_push_of_some _ q) (Nat.le_refl _) ⟨hz, its, 0, hv, Heap.get?_push_size _ rfl⟩
theorem Inv.fresh (I : Inv X pins σ H s) : H s.heap.objs.size = none := I.hok.fresh (Nat.le_refl _)
theorem Inv.lstM (I : Inv X pins σ H s) (hH : H l = some (.lst xs)) : xs.length <= sizeLine /\ ∃ (its : List Value) (n : Nat), Vals xs its /\ xs.length = its.length /\ s.heap.get? l = some { cls := .type "list", data := .seq its.toArray n } := by
 obtain ⟨z, its, n, r, e⟩ := I.hok l _ hH
 exact ⟨z, its, n, r, r.length, e⟩
end
section
variable {X : Cx}
def rAppend : V -> List V -> Hp -> VK -> Prop := fun x vs H Q => ∃ l xs y, x = .ref l /\ vs = [y] /\ H l = some (.lst xs) /\ xs.length < sizeLine /\ Q .non (upd H l (.lst (xs ++ [y])))
theorem a09 : MtM X "list.append" rAppend := by
 intro pins s σ H x vs v us Q I rx rv h
 obtain ⟨l, xs, y, rfl, rfl, hH, hz, q⟩ := h
 cases rx
 obtain ⟨u, rfl, ru⟩ := rv.one
 obtain ⟨z, its, n, r, hl, e⟩ := I.lstM hH
 refine call_meets F.slot_list_append ⟨_, e, rfl⟩ F.entry_list_append (F.args_list_append_2 _ _) (PySem.list_append l its.toArray n u (by rw [List.size_toArray]; omega)) ⟨e, ?_⟩
 refine ⟨.non, _, I.lset (its' := its ++ [u]) hH e (by simp) (r.append (.cons ru .nil)) ?_, rfl, q⟩
 rw [List.length_append, List.length_singleton]
 omega
def rPopAt : V -> List V -> Hp -> VK -> Prop := fun x vs H Q => ∃ l xs i k y, x = .ref l /\ vs = [.int i] /\ H l = some (.lst xs) /\ -(2 ^ 63) <= i /\ i < 2 ^ 63 /\ seqIndex? i xs.length = some k /\ xs[k]? = some y /\ Q y (upd H l (.lst (xs.eraseIdx k)))
theorem b6y : MtM X "list.pop" rPopAt := by
 intro pins s σ H x vs v us Q I rx rv h
 obtain ⟨l, xs, i, k, y, rfl, rfl, hH, h1, h2, hk, hy, q⟩ := h
 cases rx
 obtain ⟨u, rfl, ru⟩ := rv.one
 obtain ⟨t, rfl⟩ := ru
 obtain ⟨z, its, n, r, hl, e⟩ := I.lstM hH
 obtain ⟨w, hw, rw'⟩ := r.get hy
 refine call_meets F.slot_list_pop ⟨_, e, rfl⟩ F.entry_list_pop (F.args_list_pop_2 _ _)
   (MeetsSeq.list_pop_at l its.toArray n i t k w (fitsIndex_both h1 h2) (by rw [List.size_toArray, <- hl]; exact hk) (by rw [<- Array.getElem?_toList]; exact hw) (by rw [List.size_toArray]; omega)) ⟨e, ?_⟩
 refine ⟨y, _, I.lset (its' := its.eraseIdx k) hH e ?_ (r.eraseIdx k) ?_, rw', q⟩
 . show its.toArray.eraseIdxIfInBounds k = (its.eraseIdx k).toArray
   rw [List.eraseIdxIfInBounds_toArray]
 . have := a9c xs k
   omega
def rReverse : V -> List V -> Hp -> VK -> Prop := fun x vs H Q => ∃ l xs, x = .ref l /\ vs = [] /\ H l = some (.lst xs) /\ Q .non (upd H l (.lst xs.reverse))
theorem b2p : MtM X "list.reverse" rReverse := by
 intro pins s σ H x vs v us Q I rx rv h
 obtain ⟨l, xs, rfl, rfl, hH, q⟩ := h
 cases rx
 have hus := rv.zero
 subst hus
 obtain ⟨z, its, n, r, hl, e⟩ := I.lstM hH
 refine call_meets F.slot_list_reverse ⟨_, e, rfl⟩ F.entry_list_reverse (F.args_list_reverse_1 _) (AutoSeq1.list_reverse_list_0 l its.toArray n (by rw [List.size_toArray]; omega)) ⟨e, ?_⟩
 refine ⟨.non, _, I.lset (its' := its.reverse) hH e (by simp) r.reverse ?_, rfl, q⟩
 rw [List.length_reverse]
 omega
def rClear : V -> List V -> Hp -> VK -> Prop := fun x vs H Q => ∃ l xs, x = .ref l /\ vs = [] /\ H l = some (.lst xs) /\ Q .non (upd H l (.lst []))
theorem b1l : MtM X "list.clear" rClear := by
 intro pins s σ H x vs v us Q I rx rv h
 obtain ⟨l, xs, rfl, rfl, hH, q⟩ := h
 cases rx
 have hus := rv.zero
 subst hus
 obtain ⟨z, its, n, r, hl, e⟩ := I.lstM hH
 refine call_meets F.slot_list_clear ⟨_, e, rfl⟩ F.entry_list_clear (F.args_list_clear_1 _) (AutoSeq1.list_clear_list_0 l its.toArray n (by rw [List.size_toArray]; omega)) ⟨e, ?_⟩
 exact ⟨.non, _, I.lset (its' := []) (ys := []) hH e rfl .nil (Nat.zero_le _), rfl, q⟩
def rCat : R2 := fun x y H Q => ∃ l b xs zs, x = .ref l /\ y = .ref b /\ H l = some (.lst xs) /\ H b = some (.lst zs) /\ xs.length + zs.length <= sizeLine /\ ∀ p, H p = none -> Q (.ref p) (upd H p (.lst (xs ++ zs)))
theorem op_cat : OpR X (binaryOp .Add) rCat := by
 intro pins s σ H x y v u Q I rx ry h
 obtain ⟨l, b, xs, zs, rfl, rfl, hH, hB, hz, q⟩ := h
 cases rx
 cases ry
 obtain ⟨z, its, n, r, hl, e⟩ := I.lstM hH
 obtain ⟨z2, its2, n2, r2, hl2, e2⟩ := I.lstM hB
 refine PySem.P.add_list e e2 ?_ (by rw [List.size_toArray, List.size_toArray]; omega)
 have ea : its.toArray ++ its2.toArray = (its ++ its2).toArray := by simp
 rw [ea]
 exact ⟨.ref _, _, I.lnew (t' := s.toks) (r.append r2) (by rw [List.length_append]; omega), rfl, q _ I.fresh⟩
end
section
variable {prog : Program} {w : World} {A : Around} {E : Value -> Shared -> Prop} {s : Shared}
set_option maxRecDepth 100000 in
end
section
variable {X : Cx}
end
end L2
namespace Att
open PySem PySem.W PySem.Calls PyProof.Rows
theorem a6j {P : Params} {h : Heap} : ∀ (ns : List Int) (vs : List Value), WellAll P h vs (ns.map WData.int) -> IntsAre vs ns := by
 intro ns
 induction ns with
 | nil =>
   intro vs w
   rw [List.map_nil] at w
   cases w
   exact .nil
 | cons n ns ih =>
   intro vs w
   rw [List.map_cons] at w
   cases w with
   | cons a b =>
     cases a
     exact .cons _ _ (ih _ b)
theorem script_of {l : OpenLaw} {n : Nat} (hn : l.most = some n) {P : Params} {h : Heap} {args : List WData} {vals : List Value}
   (hpre : l.row.toRowW.claim.pre args = true) (hwl : WellAll P h vals args) :
   ∃ a vs ns, vals = [Value.ref a] /\ args = [WData.list (ns.map WData.int)] /\ h.get? a = some { cls := .type "list", data := .seq vs.toArray } /\ IntsAre vs ns /\ ns.length <= n := by
 have hsh : WShape.hasAll [] args [.list .int] = true := (pre_splitW hpre).1
 have hc : l.pre.holds [] { args := args } = true := (pre_splitW hpre).2
 obtain ⟨d, r, rfl, h1, h2⟩ := hasAllW_cons hsh
 obtain rfl := hasAllW_nil h2
 obtain ⟨xs, rfl, h3⟩ := hasW_list h1
 obtain ⟨ns, rfl⟩ := items_int h3
 have hlen : ns.length <= n := by
   unfold OpenLaw.pre at hc
   have h4 : (WTm.not (.lt (.lit (.int (n : Int))) (.len (.arg 0)))).holds [] { args := [.list (ns.map .int)] } = true := by
     have h4 := (holds_andW hc).1
     rw [hn] at h4
     exact h4
   have h5 := condW_of h4 (w_not (w_lt w_lit (w_len_list (w_arg rfl))))
   rw [List.length_map] at h5
   refine Nat.le_of_not_lt fun q => ?_
   have q' : (n : Int) < ((ns.length : Nat) : Int) := by omega
   first
     | (rw [decide_eq_true q'] at h5; exact absurd h5 (by decide))
     | (simp at h5; omega)
 cases hwl with
 | cons w1 w2 =>
   cases w2
   cases w1 with
   | list ho hall => exact ⟨_, _, ns, rfl, rfl, ho, a6j ns _ hall, hlen⟩
theorem post_true (l : OpenLaw) (args : List WData) : l.row.toRowW.claim.post args (.bool true) args = true :=
 postW_of (r := l.row.toRowW) (X := (true == true))
   (show WShape.has [] (.bool true) .bool = true by first | rfl | decide | simp [WShape.has, WShape.arms, WShape.armsAll])
   (show (WTm.eq .res (.lit (.bool true))).value [] { args := args, res := some (.bool true), after := args } = some (.bool (true == true)) from w_eq_bool (w_res rfl) w_lit) rfl
section
variable {prog : Program} {w : World} {A : Around} {E : Value -> Shared -> Prop} {s : Shared} {K : Frag}
end
end Att
namespace L2
open PySem PySem.Spec PyProof.Rows
theorem a8n : ∀ {vs : List Value} {ns : List Int}, IntsAre vs ns -> Vals (ns.map V.int) vs
 | _, _, .nil => .nil
 | _, _, .cons n t h => .cons ⟨t, rfl⟩ (a8n h)
def Only (H : Hp) : Prop := ∀ b, H b = none \/ ∃ o xs, H b = some (.frz o (.lst xs))
end L2
/- THE LAST THEOREM (shape; LID, My.* are yours):
  My.Adr: a structure of the addresses that your layer names (classes, functions); My.Txt K t: a structure (Prop) of the equations over K;
  My.txt_mk : {K} {implicit addresses ..} (e1 : nsIn K mainGlobals "law" = some (some (.ref f))) (e2 : K.lookup f = some ⟨oc, od, .func (fnOf "law" "law" params body scope dV kV doc pm an cdv ct), sl⟩) (e3 : codeIn K cdv "law" = true) .. : ∃ t, My.Txt K t
set_option maxRecDepth 100000 in
(the tactic k_is has no namespace: write k_is) -/
namespace L2
open PySem PySem.Spec PyProof.Rows
noncomputable def a6k (s : Stmt) (j : Nat) : Stmt := match s with
 | .ClassDef _ _ _ body _ _ _ _ _ _ _ => body.getD j (.Pass ⟨0, 0, 0, 0⟩)
 | _ => .Pass ⟨0, 0, 0, 0⟩
noncomputable def a04 (s : Stmt) : Arguments := match s with
 | .FunctionDef _ a _ _ _ _ _ _ _ _ => a
 | _ => { posonlyargs := [], args := [], vararg := none, kwonlyargs := [], kw_defaults := [], kwarg := none, defaults := [] }
noncomputable def a0u (s : Stmt) : List Stmt := match s with
 | .FunctionDef _ _ b _ _ _ _ _ _ _ => b
 | _ => []
noncomputable def a0c (s : Stmt) : Scope := match s with
 | .FunctionDef _ _ _ _ _ _ sc _ _ _ => sc
 | _ => { kind := .function, names := [], isGenerator := false, isCoroutine := false }
noncomputable abbrev CX0 : CXT := fun _ _ _ _ _ _ => False
abbrev E0 : XK := fun _ _ _ => False
structure Fun (K : PySem.W.Frag) (x qual : Str) (st : Stmt) (f : Addr) (fd : FuncData) : Prop where
 ex : ∃ (oc : Value) (od : Option Addr) (kV doc pm : Value) (an : Option Addr) (cdv ct : Value) (osl : Array (Option Value)),
   fd = PySem.W.fnOf x qual (a04 st) (a0u st) (a0c st) .none kV doc pm an cdv ct /\ K.lookup f = some ⟨oc, od, .func fd, osl⟩ /\ PySem.W.codeIn K cdv qual = true
 kp : PySem.W.keepIn K (.ref f) = true
section
variable {P : Program} {w : World} {K : PySem.W.Frag} {mg : Str -> Option Value} {base : Heap}
theorem Fun.binds {x qual : Str} {st : Stmt} {f : Addr} {fd : FuncData} {ps : List Str} (F : Fun K x qual st f fd)
   (h : ∀ (kV doc pm : Value) (an : Option Addr) (cdv ct : Value) (us : List Value), us.length = ps.length -> bindArgs (PySem.W.fnOf x qual (a04 st) (a0u st) (a0c st) .none kV doc pm an cdv ct) ⟨us, []⟩ = pure (ps.zip us)) : Binds K fd ps [] := by
 obtain ⟨oc, od, kV, doc, pm, an, cdv, ct, osl, rfl, lk, hcd⟩ := F.ex
 exact .all (h kV doc pm an cdv ct)
theorem a6l {x qual : Str} {st : Stmt} {f : Addr} {oc : Value} {od an : Option Addr} {osl : Array (Option Value)} {kV doc pm cdv ct : Value} (l : K.lookup f = some ⟨oc, od, .func (PySem.W.fnOf x qual (a04 st) (a0u st) (a0c st) .none kV doc pm an cdv ct), osl⟩)
   (c : PySem.W.codeIn K cdv qual = true) (k : PySem.W.keepIn K (.ref f) = true) : Fun K x qual st f (PySem.W.fnOf x qual (a04 st) (a0u st) (a0c st) .none kV doc pm an cdv ct) := ⟨⟨oc, od, kV, doc, pm, an, cdv, ct, osl, rfl, l, c⟩, k⟩
end
theorem hu_of {A : Around} {k : Nat} (hr : Room k A) : A.units + 1 < cLine := Nat.lt_of_le_of_lt (Nat.add_le_add_left (by decide : 1 <= 64) _) hr.units
theorem a35 {n : Nat} (h : n <= 1000) : n < sizeLine := Nat.lt_of_le_of_lt h (by decide)
section
variable {X : Cx}
theorem pv (i : Nat) {x : Str} {pos : Pos} (hN : X.N[i]? = some x := by rfl) (hv : Vis X.env.scope x := by first | exact Or.inl rfl | exact Or.inr (Or.inl rfl) | exact Or.inr (Or.inr rfl)) (hd : (x == ("__debug__" : Str)) = false := by decide)
   (hcd : (x == ("__classdict__" : Str)) = false := by decide) : PE X (.Name x pos) (tVar i) := pe_var hN hv hd hcd
end
theorem ite2 {c A B : Prop} [Decidable c] (h1 : c -> A) (h2 : ¬ c -> B) : if c then A else B := by
 by_cases h : c
 . rw [if_pos h]
   exact h1 h
 . rw [if_neg h]
   exact h2 h
def Same (H H' : Hp) : Prop := ∀ b o, H b = some o -> H' b = some o
theorem Same.refl (H : Hp) : Same H H := fun _ _ h => h
theorem Same.trans {H H1 H2 : Hp} (a : Same H H1) (b : Same H1 H2) : Same H H2 := fun c o h => b c o (a c o h)
theorem Same.free {H H' : Hp} (e : Same H H') {l : Addr} (h : H' l = Option.none) : H l = Option.none := by
 cases q : H l with
 | none => rfl
 | some o =>
   rw [e l o q] at h
   cases h
theorem Same.seq {K : PySem.W.Frag} {H H' : Hp} {a : Addr} {xs : List V} (e : Same H H') (h : SqL K H a xs) : SqL K H' a xs := by
 rcases h with (h | ⟨o, h⟩) | h
 . exact .inl (.inl (e _ _ h))
 . exact .inl (.inr ⟨o, e _ _ h⟩)
 . exact .inr h
section
variable {κ : Type} [DecidableEq κ]
noncomputable def valV (kvs : List (κ × V)) (k : κ) : Option V := (kvs.find? fun kv => decide (kv.1 = k)).map (·.2)
noncomputable def putK (kvs : List (κ × V)) (k : κ) (v : V) : List (κ × V) :=
 if (kvs.any fun kv => decide (kv.1 = k)) = true then kvs.map (fun kv => if kv.1 = k then (kv.1, v) else kv) else kvs ++ [(k, v)]
theorem a5j {p : κ × V} {r : List (κ × V)} {k : κ} (e : p.1 = k) : valV (p :: r) k = some p.2 := by simp [valV, List.find?_cons, e]
theorem a5k {p : κ × V} {r : List (κ × V)} {k : κ} (e : ¬ p.1 = k) : valV (p :: r) k = valV r k := by simp [valV, List.find?_cons, e]
theorem a7l (k : κ) : ∀ kvs : List (κ × V), (kvs.any fun kv => decide (kv.1 = k)) = (valV kvs k).isSome
 | [] => rfl
 | p :: r => by
   rw [List.any_cons]
   by_cases e : p.1 = k
   . simp only [a5j e, decide_eq_true e, Bool.true_or, Option.isSome_some]
   . rw [a5k e, decide_eq_false e, Bool.false_or]; exact a7l k r
theorem a3w (kvs : List (κ × V)) (k : κ) (v : V) : (putK kvs k v).length <= kvs.length + 1 := by
 unfold putK
 split
 . rw [List.length_map]; omega
 . rw [List.length_append, List.length_cons, List.length_nil]; omega
theorem RelO.isSome_eq {o : Option V} {u : Option Value} (r : RelO o u) : o.isSome = u.isSome := by
 cases o with
 | none => cases u with
   | none => rfl
   | some _ => exact (show False from r).elim
 | some _ => cases u with
   | none => exact (show False from r).elim
   | some _ => rfl
theorem RelO.getD {o : Option V} {u : Option Value} {d : V} {d' : Value} (r : RelO o u) (rd : RelV d d') : RelV (o.getD d) (u.getD d') := by
 cases o with
 | none => cases u with
   | none => exact rd
   | some _ => exact (show False from r).elim
 | some _ => cases u with
   | none => exact (show False from r).elim
   | some _ => exact r
theorem KV.val {kvs : List (κ × V)} {vs : List (κ × Value)} (r : KV kvs vs) (k : κ) : RelO (valV kvs k) (valueAt vs k) := by
 unfold KV at r
 induction r with
 | nil => exact True.intro
 | @cons p q ps qs h t ih =>
   obtain ⟨h1, h2⟩ := h
   by_cases e : p.1 = k
   . have e' : q.1 = k := h1.symm.trans e
     have b : valueAt (q :: qs) k = some q.2 := by simp [valueAt, List.find?_cons, e']
     rw [a5j e, b]; exact h2
   . have e' : ¬ q.1 = k := fun z => e (h1.trans z)
     have b : valueAt (q :: qs) k = valueAt qs k := by simp [valueAt, List.find?_cons, e']
     rw [a5k e, b]; exact ih
theorem KV.any {kvs : List (κ × V)} {vs : List (κ × Value)} (r : KV kvs vs) (k : κ) : (kvs.any fun kv => decide (kv.1 = k)) = vs.any fun kv => decide (kv.1 = k) := by
 unfold KV at r
 induction r with
 | nil => rfl
 | cons h t ih => rw [List.any_cons, List.any_cons, ih, h.1]
theorem KV.repl {kvs : List (κ × V)} {vs : List (κ × Value)} (r : KV kvs vs) (k : κ) {y : V} {u : Value} (ry : RelV y u) :
   KV (kvs.map fun kv => if kv.1 = k then (kv.1, y) else kv) (vs.map fun kv => if kv.1 = k then (kv.1, u) else kv) := by
 unfold KV at r |-
 induction r with
 | nil => exact .nil
 | @cons p q ps qs h t ih =>
   rw [List.map_cons, List.map_cons]
   refine .cons ?_ ih
   obtain ⟨h1, h2⟩ := h
   by_cases e : p.1 = k
   . rw [if_pos e, if_pos (h1.symm.trans e)]; exact ⟨h1, ry⟩
   . rw [if_neg e, if_neg (fun z => e (h1.trans z))]; exact ⟨h1, h2⟩
theorem KV.put {kvs : List (κ × V)} {vs : List (κ × Value)} (r : KV kvs vs) (k : κ) {y : V} {u : Value} (ry : RelV y u) : KV (putK kvs k y) (stored vs k u) := by
 unfold putK stored
 rw [r.any k]
 by_cases e : (vs.any fun kv => decide (kv.1 = k)) = true
 . rw [if_pos e, if_pos e]; exact r.repl k ry
 . rw [if_neg e, if_neg e]; exact Paired.snoc r ⟨rfl, ry⟩
theorem KV.length {kvs : List (κ × V)} {vs : List (κ × Value)} (r : KV kvs vs) : kvs.length = vs.length := Paired.length r
end
theorem a9e {P : Program} {w : World} {k : Key} {u : Value} (r : RelV (kV k) u) : (a0y P w).is k u = true := by
 cases k with
 | inl i => obtain ⟨t, e⟩ := (show ∃ t, u = Value.int i t from r); subst e; exact b0d P w i t
 | inr x => obtain ⟨t, e⟩ := (show ∃ t, u = Value.str x t from r); subst e; exact b0c P w x t
theorem a9h {P : Program} {w : World} : ∀ {ks : List Key} {us : List Value}, Vals (ks.map kV) us -> ItemsAre (a0y P w) ks us
 | [], _, r => by rw [List.map_nil] at r; cases r; exact .nil
 | k :: ks, _, r => by
   rw [List.map_cons] at r
   cases r with
   | cons h t => exact .cons (a9e h) (a9h t)
abbrev KT (H : Hp) : List (List Key × V) -> List (List Key × Addr × Value) -> Prop := Paired fun p q => p.1 = q.1 /\ H q.2.1 = some (.tup (p.1.map kV)) /\ RelV p.2 q.2.2
theorem KT.val {H : Hp} {kvs : List (List Key × V)} {xs : List (List Key × Addr × Value)} (r : KT H kvs xs) (k : List Key) : RelO (valV kvs k) ((atKey xs k).map (·.2)) := by
 induction r with
 | nil => exact True.intro
 | @cons p q ps qs h t ih =>
   obtain ⟨h1, _, h2⟩ := h
   by_cases e : p.1 = k
   . have e' : q.1 = k := h1.symm.trans e
     have b : atKey (q :: qs) k = some q.2 := by simp [atKey, List.find?_cons, e']
     rw [a5j e, b]; exact h2
   . have e' : ¬ q.1 = k := fun z => e (h1.trans z)
     have b : atKey (q :: qs) k = atKey qs k := by simp [atKey, List.find?_cons, e']
     rw [a5k e, b]; exact ih
theorem KT.repl {H : Hp} {kvs : List (List Key × V)} {xs : List (List Key × Addr × Value)} (r : KT H kvs xs) (k : List Key) {y : V} {u : Value} (ry : RelV y u) :
   KT H (kvs.map fun kv => if kv.1 = k then (kv.1, y) else kv) (xs.map (putAt k u)) := by
 induction r with
 | nil => exact .nil
 | @cons p q ps qs h t ih =>
   rw [List.map_cons, List.map_cons]
   refine .cons ?_ ih
   obtain ⟨h1, h2, h3⟩ := h
   unfold putAt
   by_cases e : p.1 = k
   . rw [if_pos e, if_pos (h1.symm.trans e)]; exact ⟨h1, h2, ry⟩
   . rw [if_neg e, if_neg (fun z => e (h1.trans z))]; exact ⟨h1, h2, h3⟩
theorem KT.put {H : Hp} {kvs : List (List Key × V)} {xs : List (List Key × Addr × Value)} (r : KT H kvs xs) (k : List Key) {b : Addr} {y : V} {u : Value} (hb : H b = some (.tup (k.map kV))) (ry : RelV y u) :
   KT H (putK kvs k y) (storedH xs k b u) := by
 have e : (kvs.any fun kv => decide (kv.1 = k)) = (atKey xs k).isSome := by
   rw [a7l, (r.val k).isSome_eq, Option.isSome_map]
 unfold putK storedH
 rw [e]
 by_cases q : (atKey xs k).isSome = true
 . rw [if_pos q, if_pos q]; exact r.repl k ry
 . rw [if_neg q, if_neg q]; exact Paired.snoc r ⟨rfl, hb, ry⟩
theorem KT.keeps {H H' : Hp} {kvs : List (List Key × V)} {xs : List (List Key × Addr × Value)} (r : KT H kvs xs) (ht : ∀ b ys, H b = some (.tup ys) -> H' b = some (.tup ys)) : KT H' kvs xs :=
 Paired.mapP r fun _ _ z => ⟨z.1, ht _ _ z.2.1, z.2.2⟩
section
variable {P : Program} {w : World} {H : Hp} {h : Heap} {a : Addr}
theorem rd_of {u : HO} (ok : HOk P w H h) (e : Rd H a u) : ObjOk P w H h a u := e.ok ok
theorem a5g {kvs : List (Key × V)} (ok : HOk P w H h) (e : Rd H a (.dK kvs)) : kvs.length <= sizeLine /\ (a == sysModules) = false /\ ∃ vs, KV kvs vs /\ h.DictOf (a0y P w) a vs :=
 show ObjOk P w H h a (.dK kvs) from rd_of ok e
theorem b7g {kvs : List (Key × V)} (ok : HOk P w H h) (e : H a = some (.dK kvs)) : kvs.length <= sizeLine /\ (a == sysModules) = false /\ ∃ vs, KV kvs vs /\ h.DictOf (a0y P w) a vs := a5g ok (.inl e)
theorem a7h {ks : List Key} (ok : HOk P w H h) (e : H a = some (.tup (ks.map kV))) : (tupleKind (a0y P w)).is h ks a := by
 obtain ⟨_, its, r, o, h1, h2, n, h3⟩ := (show ObjOk P w H h a (.tup (ks.map kV)) from ok a _ e)
 exact ⟨o, its.toArray, n, h1, h2, h3, by simpa using a9h r⟩
theorem b0p {kvs : List (List Key × V)} (ok : HOk P w H h) (e : Rd H a (.dT kvs)) : kvs.length <= sizeLine /\ (a == sysModules) = false /\
   ∃ xs, KT H kvs xs /\ h.DictOfH (tupleKind (a0y P w)) a xs := by
 obtain ⟨z, y, xs, r, o, es, ep, h1, h2, h3, h4, h5⟩ := (show ObjOk P w H h a (.dT kvs) from rd_of ok e)
 refine ⟨z, y, xs, r, o, es, ep, h1, h2, h3, h4, fun x hx => ?_, h5⟩
 have all : ∀ {l : List (List Key × V)} {m : List (List Key × Addr × Value)}, KT H l m -> ∀ x ∈ m, (tupleKind (a0y P w)).is h x.1 x.2.1 := by
   intro l m q
   induction q with
   | nil => intro x hx; exact nomatch hx
   | @cons p q ps qs hq t ih =>
     intro x hx
     rcases List.mem_cons.mp hx with e | hx
     . subst e
       exact a7h ok (by rw [<- hq.1]; exact hq.2.1)
     . exact ih x hx
 exact all r x hx
theorem dt_of {kvs : List (List Key × V)} (ok : HOk P w H h) (e : H a = some (.dT kvs)) : kvs.length <= sizeLine /\ (a == sysModules) = false /\
   ∃ xs, KT H kvs xs /\ h.DictOfH (tupleKind (a0y P w)) a xs := b0p ok (.inl e)
end
def DGet (H : Hp) (a : Addr) (y : V) (r : Option V) : Prop :=
 (∃ kvs k, Rd H a (.dK kvs) /\ y = kV k /\ r = valV kvs k) \/ ∃ kvs k b, Rd H a (.dT kvs) /\ y = .ref b /\ H b = some (.tup (k.map kV)) /\ r = valV kvs k
def DPut (H : Hp) (a : Addr) (y v : V) (H' : Hp) : Prop :=
 (∃ kvs k, H a = some (.dK kvs) /\ y = kV k /\ kvs.length < sizeLine /\ H' = upd H a (.dK (putK kvs k v))) \/
 ∃ kvs k b, H a = some (.dT kvs) /\ y = .ref b /\ H b = some (.tup (k.map kV)) /\ kvs.length < sizeLine /\ H' = upd H a (.dT (putK kvs k v))
theorem DGet.k {H : Hp} {a : Addr} {kvs : List (Key × V)} {k : Key} (e : H a = some (.dK kvs)) : DGet H a (kV k) (valV kvs k) := .inl ⟨kvs, k, .inl e, rfl, rfl⟩
theorem DPut.k {H : Hp} {a : Addr} {kvs : List (Key × V)} {k : Key} {v : V} (e : H a = some (.dK kvs)) (hl : kvs.length < sizeLine) : DPut H a (kV k) v (upd H a (.dK (putK kvs k v))) := .inl ⟨kvs, k, e, rfl, hl, rfl⟩
section
variable {X : Cx} {pins : List (Addr × Obj)} {σ : St} {H : Hp} {s : Shared} {a : Addr} {y v : V} {u r : Value} {o : Option V} {A : Around} {E : Value -> Shared -> Prop}
theorem Inv.big (I : Inv X pins σ H s) : sysModules < s.heap.objs.size := by
 have h : mainGlobals < s.heap.objs.size := (I.mod.glob.keeps I.bk).lt
 exact Nat.lt_trans (by decide) h
theorem b5o {Q : Value -> Shared -> Prop} (hu : A.units + 1 < cLine) (I : Inv X pins σ H s) (g : DGet H a y (some v)) (ry : RelV y u) (h : ∀ w' s', Inv X pins σ H s' -> RelV v w' -> Q w' s') :
   wpAny (model X.prog X.w) A (getItem (.ref a) u) Q E s := by
 rcases g with ⟨kvs, k, e, ey, l⟩ | ⟨kvs, k, b, e, ey, eb, l⟩
 . subst ey
   obtain ⟨z, hd, vs, rel, dd⟩ := a5g I.hok e
   obtain ⟨w', hw, rw'⟩ := RelO.some_of (v := v) (o := valueAt vs k) (by rw [l]; exact rel.val k)
   exact wpAny_getItem_of (a9e ry) dd.mapOf hw (h w' _ (I.tok _) rw')
 . subst ey
   cases (show u = Value.ref b from ry)
   obtain ⟨z, hd, xs, rel, dd⟩ := b0p I.hok e
   obtain ⟨w', hw, rw'⟩ := RelO.some_of (v := v) (o := (atKey xs k).map (·.2)) (by rw [l]; exact rel.val k)
   obtain ⟨p, hp, hp2⟩ := Option.map_eq_some_iff.mp hw
   refine wpAny_getItem_heap (tupleKind_room_in1 hu) (a7h I.hok eb) dd hp ?_
   rw [hp2]
   exact h w' _ (I.tok _) rw'
theorem d_in {Q : Value -> Shared -> Prop} (hu : A.units + 1 < cLine) (I : Inv X pins σ H s) (g : DGet H a y o) (ry : RelV y u) (h : ∀ s', Inv X pins σ H s' -> Q (.bool o.isSome) s') :
   wpAny (model X.prog X.w) A (compareOp .In u (.ref a)) Q E s := by
 rcases g with ⟨kvs, k, e, ey, l⟩ | ⟨kvs, k, b, e, ey, eb, l⟩
 . subst ey
   obtain ⟨z, hd, vs, rel, dd⟩ := a5g I.hok e
   refine wpAny_in_of (a9e ry) hd dd.mapOf ?_
   rw [<- (rel.val k).isSome_eq, <- l]
   exact h _ (I.tok _)
 . subst ey
   cases (show u = Value.ref b from ry)
   obtain ⟨z, hd, xs, rel, dd⟩ := b0p I.hok e
   refine wpAny_in_heap (tupleKind_room_in1 hu) (a7h I.hok eb) hd dd ?_
   have q := (rel.val k).isSome_eq
   rw [Option.isSome_map] at q
   rw [<- q, <- l]
   exact h _ (I.tok _)
theorem d_notIn {Q : Value -> Shared -> Prop} (hu : A.units + 1 < cLine) (I : Inv X pins σ H s) (g : DGet H a y o) (ry : RelV y u) (h : ∀ s', Inv X pins σ H s' -> Q (.bool (!o.isSome)) s') :
   wpAny (model X.prog X.w) A (compareOp .NotIn u (.ref a)) Q E s := by
 rcases g with ⟨kvs, k, e, ey, l⟩ | ⟨kvs, k, b, e, ey, eb, l⟩
 . subst ey
   obtain ⟨z, hd, vs, rel, dd⟩ := a5g I.hok e
   refine wpAny_notIn_of (a9e ry) hd dd.mapOf ?_
   rw [<- (rel.val k).isSome_eq, <- l]
   exact h _ (I.tok _)
 . subst ey
   cases (show u = Value.ref b from ry)
   obtain ⟨z, hd, xs, rel, dd⟩ := b0p I.hok e
   refine wpAny_notIn_heap (tupleKind_room_in1 hu) (a7h I.hok eb) hd dd ?_
   have q := (rel.val k).isSome_eq
   rw [Option.isSome_map] at q
   rw [<- q, <- l]
   exact h _ (I.tok _)
theorem b0s {h' : Heap} {t' : Nat} {ob : HO} (I : Inv X pins σ H s) (mu : Mut (H a)) (hs : Heap.SameBut a s.heap h') (he : ∃ q, h'.get? a = some q) (new : ObjOk X.prog X.w (upd H a ob) h' a ob) :
   Inv X pins σ (upd H a ob) { s with heap := h', toks := t' } :=
 I.write (x := a) (e := a) mu (.inl rfl) (fun b q hb z => (hs.2 b hb).trans z) he new
theorem b5k {P : Program} {w : World} {H' : Hp} {h' : Heap} {kvs : List (Key × V)} {vs : List (Key × Value)} (z : kvs.length <= sizeLine) (hd : (a == sysModules) = false) (rel : KV kvs vs) (dd : h'.DictOf (a0y P w) a vs) :
   ObjOk P w H' h' a (.dK kvs) := ⟨z, hd, vs, rel, dd⟩
theorem b5n {H' : Hp} {Q : Unit -> Shared -> Prop} (hu : A.units + 1 < cLine) (I : Inv X pins σ H s) (g : DPut H a y v H') (ry : RelV y u) (rv : RelV v r) (h : ∀ s', Inv X pins σ H' s' -> Q () s') :
   wpAny (model X.prog X.w) A (setItem (.ref a) u r) Q E s := by
 rcases g with ⟨kvs, k, e, ey, l, eH⟩ | ⟨kvs, k, b, e, ey, eb, l, eH⟩
 . subst ey eH
   obtain ⟨z, hd, vs, rel, dd⟩ := b7g I.hok e
   have hz : vs.length <= sizeLine := by rw [<- rel.length]; exact z
   have hl : (putK kvs k v).length <= sizeLine := by have := a3w kvs k v; omega
   refine wpAny_setItem_pairs (hsz := hz) (a9e ry) dd fun h' dd' hs => h _ ?_
   have he : ∃ q, h'.get? a = some q := let ⟨q, _, _, hq, _⟩ := dd'; ⟨q, hq⟩
   exact b0s I (by rw [e]; exact True.intro) hs he (b5k hl hd (rel.put k rv) dd')
 . subst ey eH
   cases (show u = Value.ref b from ry)
   obtain ⟨z, hd, xs, rel, dd⟩ := dt_of I.hok e
   have hz : xs.length <= sizeLine := by rw [<- Paired.length rel]; exact z
   have hl : (putK kvs k v).length <= sizeLine := by have := a3w kvs k v; omega
   refine wpAny_setItem_heap (hsz := hz) (tupleKind_room_in1 hu) (a7h I.hok eb) dd fun h' dd' hs => h _ ?_
   obtain ⟨q, es, ep, hq, h2, h3, h4, _, h5⟩ := dd'
   refine b0s I (by rw [e]; exact True.intro) hs ⟨q, hq⟩ ⟨hl, hd, _, (rel.put k eb rv).keeps fun c ys ec => ?_, q, es, ep, hq, h2, h3, h4, h5⟩
   rw [a0l (b4b ec e (fun z => nomatch z))]
   exact ec
end
section
variable {X : Cx} {pins : List (Addr × Obj)} {σ : St} {H : Hp} {s : Shared} {a : Addr} {kvs : List (Key × V)} {k : Key} {u : Value} {A : Around} {E : Value -> Shared -> Prop}
theorem d_len {Q : Value -> Shared -> Prop} (I : Inv X pins σ H s) (e : Rd H a (.dK kvs)) (h : ∀ t s', Inv X pins σ H s' -> Q (.int kvs.length t) s') : wpAny (model X.prog X.w) A (call (.builtin "len") [.ref a]) Q E s := by
 obtain ⟨z, hd, vs, rel, dd⟩ := a5g I.hok e
 refine call_len_dict hd dd (by rw [<- rel.length]; rw [sizeLine_eq] at z; omega) ?_
 rw [<- rel.length]
 exact h _ _ (I.tok _)
end
def NoSl (i : Expr) : Prop := ∀ ov iv, subscripted i false ov iv = operate [ov, iv] (getItem ov iv)
theorem subD_of {prog : Program} {w : World} {A : Around} {E : Value -> Shared -> Prop} {s : Shared} {env : Env} {value slice : Expr} {pos : Pos} {T id : String} {Q : Value -> Shared -> Prop}
   (hl : typeLookup (.type T) "__getitem__" = pure (some (.builtin id))) (hs : NoSl slice)
   (h : wpAny (model prog w) A (eval value env) (fun o s₁ => wpAny (model prog w) A (eval slice env) (fun i s₂ => s₂.TypeIs o T /\ wpAny (model prog w) A (getItem o i) Q E s₂) E s₁) E s) :
   wpAny (model prog w) A (eval (.Subscript value slice pos) env) Q E s := by
 refine Subscript_ (wpAny_mono h (fun o s₁ h₁ => wpAny_mono h₁ (fun i s₂ h₂ => ?_) fun _ _ x => x) fun _ _ x => x)
 obtain ⟨hT, h₂⟩ := h₂
 unfold subscriptTail
 refine wpAny_bind ?_
 rw [getitemInPython_of_ne hT.not_modules]
 refine wpAny_bind (wpAny_specialOf hT hl ?_)
 have fin : wpAny (model prog w) A (subscripted slice false o i) (fun r s₃ => wpAny (model prog w) A (letTemporaryGo value o r >>= fun _ => pure r) Q E s₃) E s₂ := by
   rw [hs o i]
   exact wpAny_operating (wpAny_mono h₂ (fun r s₃ h₃ => wpAny_bind (wpAny_letTemporaryGo (wpAny_pure h₃))) fun _ _ x => x)
 first
   | exact wpAny_pure (wpAny_bind fin)
   | exact wpAny_bind (wpAny_pure (wpAny_bind fin))
   | exact wpAny_bind fin
theorem b0q {X : Cx} {pins : List (Addr × Obj)} {σ : St} {H : Hp} {s : Shared} {a : Addr} {y : V} {o : Option V} (I : Inv X pins σ H s) (g : DGet H a y o) : s.TypeIs (.ref a) "dict" := by
 rcases g with ⟨kvs, k, e, _, _⟩ | ⟨kvs, k, b, e, _, _, _⟩
 . obtain ⟨_, _, vs, _, dd⟩ := a5g I.hok e
   exact dd.typeIs
 . obtain ⟨_, _, xs, _, dd⟩ := b0p I.hok e
   exact dd.typeIs
def tDGet (td ty : TE) : TE := fun σ H Q => td σ H fun x H1 => ty σ H1 fun y H2 => ∃ a v, x = .ref a /\ DGet H2 a y (some v) /\ Q v H2
def tDIn (ty td : TE) : TE := fun σ H Q => ty σ H fun y H1 => td σ H1 fun x H2 => ∃ a o, x = .ref a /\ DGet H2 a y o /\ Q (.bl o.isSome) H2
def tDNotIn (ty td : TE) : TE := fun σ H Q => ty σ H fun y H1 => td σ H1 fun x H2 => ∃ a o, x = .ref a /\ DGet H2 a y o /\ Q (.bl (!o.isSome)) H2
noncomputable def sDPut (td ty tv : TE) : TS := fun D σ H => tv σ H fun v H1 => td σ H1 fun x H2 => ty σ H2 fun y H3 => ∃ a H4, x = .ref a /\ DPut H3 a y v H4 /\ D.nx σ H4
section
variable {X : Cx} {o i e value : Expr} {pos pos' tpos : Pos} {td ty tv : TE}
theorem pe_dget (hu : X.A.units + 1 < cLine) (ho : PE X o td) (hi : PE X i ty) (hs : NoSl i) : PE X (.Subscript o i pos) (tDGet td ty) := by
 intro pins s σ H Q I h
 refine subD_of PySem.F.slot_dict_getitem.lookup hs (thn (ho pins s σ H _ I h) fun u s1 ⟨x, H1, I1, rx, q1⟩ => thn (hi pins s1 σ H1 _ I1 q1) fun iv s2 zz9 => ?_)
 obtain ⟨y, H2, I2, ry, a, v, ex, g, q2⟩ := zz9
 subst ex
 obtain rfl : u = Value.ref a := rx
 exact ⟨b0q I2 g, b5o hu I2 g ry fun w' s3 I3 rw' => ⟨v, H2, I3, rw', q2⟩⟩
theorem pc_din (hu : X.A.units + 1 < cLine) (hi : PE X i ty) (ho : PE X o td) : PC X .In i o (tDIn ty td) := by
 intro pins s σ H Q I h
 refine thn (hi pins s σ H _ I h) fun iv s1 ⟨y, H1, I1, ry, q1⟩ => thn (ho pins s1 σ H1 _ I1 q1) fun u s2 zz9 => ?_
 obtain ⟨x, H2, I2, rx, a, ov, ex, g, q2⟩ := zz9
 subst ex
 obtain rfl : u = Value.ref a := rx
 exact d_in hu I2 g ry fun s3 I3 => ⟨.bl ov.isSome, H2, I3, rfl, q2⟩
theorem b30 (hu : X.A.units + 1 < cLine) (hi : PE X i ty) (ho : PE X o td) : PC X .NotIn i o (tDNotIn ty td) := by
 intro pins s σ H Q I h
 refine thn (hi pins s σ H _ I h) fun iv s1 ⟨y, H1, I1, ry, q1⟩ => thn (ho pins s1 σ H1 _ I1 q1) fun u s2 zz9 => ?_
 obtain ⟨x, H2, I2, rx, a, ov, ex, g, q2⟩ := zz9
 subst ex
 obtain rfl : u = Value.ref a := rx
 exact d_notIn hu I2 g ry fun s3 I3 => ⟨.bl (!ov.isSome), H2, I3, rfl, q2⟩
theorem ps_dput (hu : X.A.units + 1 < cLine) (ho : PE X o td) (hi : PE X i ty) (hv : PE X value tv) (hs : swapsWith value (some (.Subscript o i pos')) pos.line X.env = pure false) :
   PS X (.Assign [.Subscript o i pos'] value pos) (sDPut td ty tv) := by
 intro pins s σ H D I h
 refine wpAny_Assign_Subscript (thn (hv pins s σ H _ I h) fun r s1 ⟨v, H1, I1, rv, q1⟩ => thn (ho pins s1 σ H1 _ I1 q1) fun u s2 ⟨x, H2, I2, rx, q2⟩ => thn (hi pins s2 σ H2 _ I2 q2) fun iv s3 ⟨y, H3, I3, ry, a, H4, ex, g, q3⟩ => ?_) hs
 subst ex
 obtain rfl : u = Value.ref a := rx
 exact b5n hu I3 g ry rv fun s4 I4 => ⟨σ, H4, I4, q3⟩
end
theorem b10 {P : Program} {w : World} {H : Hp} (h : Heap) (hb : sysModules < h.objs.size) : ObjOk P w H (h.push { cls := .type "dict", data := .dict #[] }) h.objs.size (.dK []) :=
 ⟨Nat.zero_le _, beq_eq_false_iff_ne.mpr (Ne.symm (Nat.ne_of_lt hb)), [], .nil, Heap.DictOf.new h⟩
def tDNewK : TE := fun _ H Q => ∀ p, H p = none -> Q (.ref p) (upd H p (.dK []))
section
variable {X : Cx} {pos : Pos}
theorem pe_dnewK : PE X (.Dict [] [] pos) tDNewK := fun pins s σ H Q I h =>
 wpAny_Dict_empty ⟨.ref s.heap.objs.size, _, I.laid (a := s.heap.objs.size) (o := .dK []) (t' := s.toks) (fun _ _ q => Heap.get?_push_of_some _ q) (Nat.le_refl _) (b10 s.heap I.big), rfl, h _ (I.hok.fresh (Nat.le_refl _))⟩
end
def b24 : List (TE × TE) -> St -> Hp -> (List (V × V) -> Hp -> Prop) -> Prop
 | [], _, H, Q => Q [] H
 | (tk, tv) :: r, σ, H, Q => tk σ H fun x H1 => tv σ H1 fun y H2 => b24 r σ H2 fun ps H3 => Q ((x, y) :: ps) H3
abbrev VV : List (V × V) -> List (Value × Value) -> Prop := Paired fun p q => RelV p.1 q.1 /\ RelV p.2 q.2
def PPs (X : Cx) (pos : Pos) (keys : List (Option Expr)) (values : List Expr) (trs : List (TE × TE)) : Prop :=
 ∀ (pins : List (Addr × Obj)) (s : Shared) (σ : St) (H : Hp) (Q : List (V × V) -> Hp -> Prop), Inv X pins σ H s -> b24 trs σ H Q ->
   wpAny (model X.prog X.w) X.A (evalPairs (pairTrees keys values X.env pos)) (fun vs s' => ∃ ps H', Inv X pins σ H' s' /\ VV ps vs /\ Q ps H') X.xe s
theorem pps_nil {X : Cx} {pos : Pos} : PPs X pos [] [] [] := fun pins s σ H Q I h => pairTrees_nil_walk ⟨[], H, I, .nil, h⟩
theorem b6i {X : Cx} {pos : Pos} {k v : Expr} {ks : List (Option Expr)} {vs : List Expr} {tk tv : TE} {trs : List (TE × TE)} (hk : PE X k tk) (hv : PE X v tv) (hr : PPs X pos ks vs trs) :
   PPs X pos (some k :: ks) (v :: vs) ((tk, tv) :: trs) := fun pins s σ H Q I h =>
 pairTrees_cons_walk (thn (hk pins s σ H _ I h) fun u s1 ⟨x, H1, I1, rx, q1⟩ => thn (hv pins s1 σ H1 _ I1 q1) fun w2 s2 ⟨y, H2, I2, ry, q2⟩ =>
   thn (hr pins s2 σ H2 _ I2 q2) fun ws s3 ⟨ps, H3, I3, rel, q3⟩ => ⟨(x, y) :: ps, H3, I3, .cons ⟨rx, ry⟩ rel, q3⟩)
noncomputable def a7f (kvs more : List (Key × V)) : List (Key × V) := more.foldl (fun acc kv => putK acc kv.1 kv.2) kvs
theorem KV.merge : ∀ {more : List (Key × V)} {rs : List (Key × Value)} {kvs : List (Key × V)} {vs : List (Key × Value)}, KV more rs -> KV kvs vs -> KV (a7f kvs more) (merged vs rs) := by
 intro more rs kvs vs r
 unfold KV at r
 induction r generalizing kvs vs with
 | nil => intro q; exact q
 | @cons p q ps qs h t ih =>
   intro r0
   have e : KV (putK kvs p.1 p.2) (stored vs q.1 q.2) := by
     have := r0.put p.1 h.2
     rw [<- h.1]; exact this
   exact ih e
theorem a4g : ∀ (more kvs : List (Key × V)), (a7f kvs more).length <= kvs.length + more.length
 | [], kvs => by show kvs.length <= kvs.length + 0; omega
 | p :: r, kvs => by
   have h1 := a4g r (putK kvs p.1 p.2)
   have h2 := a3w kvs p.1 p.2
   show (a7f (putK kvs p.1 p.2) r).length <= _
   rw [List.length_cons]; omega
theorem a7k {P : Program} {w : World} : ∀ {kvs : List (Key × V)} {ws : List (Value × Value)}, VV (kvs.map fun kv => (kV kv.1, kv.2)) ws -> ∃ rs, Carries (a0y P w) ws rs /\ KV kvs rs
 | [], _, r => by rw [List.map_nil] at r; cases r; exact ⟨[], True.intro, .nil⟩
 | p :: kvs, _, r => by
   rw [List.map_cons] at r
   cases r with
   | @cons a b as bs h t =>
     obtain ⟨rs, c, q⟩ := a7k (P := P) (w := w) t
     obtain ⟨b1, b2⟩ := b
     exact ⟨(p.1, b2) :: rs, ⟨a9e h.1, rfl, c⟩, .cons ⟨rfl, h.2⟩ q⟩
def tDisp (trs : List (TE × TE)) : TE := fun σ H Q => ∀ p, H p = none -> b24 trs σ (upd H p (.dK [])) fun ps H2 => H2 p = some (.dK []) /\ ∃ kvs : List (Key × V), ps = kvs.map (fun kv => (kV kv.1, kv.2)) /\ kvs.length <= 15 /\ Q (.ref p) (upd H2 p (.dK (a7f [] kvs)))
theorem pe_disp {X : Cx} {pos : Pos} {keys : List (Option Expr)} {values : List Expr} {trs : List (TE × TE)} (h : PPs X pos keys values trs) (hall : keys.all (·.isSome) = true) (hl : keys.length = values.length) (h0 : keys ≠ [])
   (h15 : keys.length <= 15) : PE X (.Dict keys values pos) (tDisp trs) := by
 intro pins s σ H Q I q
 have hn := I.hok.fresh (Nat.le_refl s.heap.objs.size)
 have I1 := I.laid (a := s.heap.objs.size) (o := .dK []) (h' := s.heap.push { cls := .type "dict", data := .dict #[] }) (t' := s.toks) (fun _ _ q => Heap.get?_push_of_some _ q) (Nat.le_refl _) (b10 s.heap I.big)
 refine wpAny_Dict_walk (knd := a0y X.prog X.w) hall hl h0 h15 (thn (h pins _ σ _ _ I1 (q _ hn)) fun ws s2 zz9 => ?_)
 obtain ⟨ps, H2, I2, rel, e, kvs, ep, lk, q2⟩ := zz9
 subst ep
 obtain ⟨rs, c, rk⟩ := a7k (P := X.prog) (w := X.w) rel
 obtain ⟨z, hd, vs0, r0, dd⟩ := b7g I2.hok e
 cases r0
 refine ⟨rs, c, dd, fun h' dd' hs => ⟨.ref s.heap.objs.size, _, ?_, rfl, q2⟩⟩
 have hz : (a7f [] kvs).length <= sizeLine := by
   have h1 := a4g kvs []
   rw [List.length_nil] at h1
   rw [sizeLine_eq]; omega
 have he : ∃ q, h'.get? s.heap.objs.size = some q := let ⟨q, _, _, hq, _⟩ := dd'; ⟨q, hq⟩
 exact b0s I2 (by rw [e]; exact True.intro) hs he (b5k hz hd (rk.merge .nil) dd')
structure M1 (X : Cx) (o : Expr) (m : Str) (apos : Pos) (e : Expr) (cpos : Pos) : Prop where
 base : attributeBase o m X.env (eval o X.env) = eval o X.env
 few : ((backTo cpos (starEach [e] X.env)).all (fun x => !x.1) && (backToKw cpos (keywordEach [] X.env)).all (fun x => x.1.isSome)
   && decide (([e] : List Expr).length + ([] : List Keyword).length + (if ([] : List Keyword).isEmpty then 0 else 1) < 30)) = true
 line : (apos.endLine == cpos.line) = true
 trees : backTo cpos (starEach [e] X.env) = [(false, eval e X.env)]
def IsD (H : Hp) (a : Addr) : Prop := (∃ kvs, Rd H a (.dK kvs)) \/ ∃ kvs, Rd H a (.dT kvs)
theorem isD_at {X : Cx} {pins : List (Addr × Obj)} {σ : St} {H : Hp} {s : Shared} {a : Addr} (I : Inv X pins σ H s) (d : IsD H a) :
   s.TypeIs (.ref a) "dict" /\ (∀ b, Value.ref a = .ref b -> ∃ ob, s.heap.get? b = some ob /\ ob.dict = none) /\ (a == sysModules) = false := by
 rcases d with ⟨kvs, e⟩ | ⟨kvs, e⟩
 . obtain ⟨_, hd, vs, _, dd⟩ := a5g I.hok e
   refine ⟨dd.typeIs, fun b q => ?_, hd⟩
   cases q
   obtain ⟨ob, _, _, h1, h2, _⟩ := dd
   exact ⟨ob, h1, h2.2.1⟩
 . obtain ⟨_, hd, xs, _, dd⟩ := b0p I.hok e
   refine ⟨dd.typeIs, fun b q => ?_, hd⟩
   cases q
   obtain ⟨ob, _, _, h1, h2, _⟩ := dd
   exact ⟨ob, h1, h2.2.1⟩
section
variable {X : Cx} {pins : List (Addr × Obj)} {σ : St} {H : Hp} {s : Shared} {a : Addr} {y d : V} {u r : Value} {o : Option V} {A : Around} {E : Value -> Shared -> Prop}
theorem d_get1 {Q : Value -> Shared -> Prop} (hu : A.units + 1 < cLine) (I : Inv X pins σ H s) (g : DGet H a y o) (ry : RelV y u) (h : ∀ w' s', Inv X pins σ H s' -> RelV (o.getD .non) w' -> Q w' s') :
   wpAny (model X.prog X.w) A (call (.builtin "dict.get") [.ref a, u]) Q E s := by
 rcases g with ⟨kvs, k, e, ey, l⟩ | ⟨kvs, k, b, e, ey, eb, l⟩
 . subst ey
   obtain ⟨z, hd, vs, rel, dd⟩ := a5g I.hok e
   refine call_meetsIn PySem.F.slot_dict_get dd.typeIs PySem.F.entry_dict_get (PySem.F.args_dict_get_2 _ _) (meets_dict_get (a0y X.prog X.w) a (a9e ry) hd) ⟨_, dd.mapOf, h _ _ (I.tok _) ?_⟩
   rw [l]
   exact (rel.val k).getD rfl
 . subst ey
   cases (show u = Value.ref b from ry)
   obtain ⟨z, hd, xs, rel, dd⟩ := b0p I.hok e
   refine call_meetsIn PySem.F.slot_dict_get dd.typeIs PySem.F.entry_dict_get (PySem.F.args_dict_get_2 _ _) (meetsH_dict_get (tupleKind (a0y X.prog X.w)) a b hd) ⟨tupleKind_room_in1 hu, k, xs, a7h I.hok eb, dd, h _ _ (I.tok _) ?_⟩
   rw [l]
   exact (rel.val k).getD rfl
end
def tDGet1 (td ty : TE) : TE := fun σ H Q => td σ H fun x H1 => ∃ a, x = .ref a /\ IsD H1 a /\ ty σ H1 fun y H2 => ∃ o, DGet H2 a y o /\ Q (o.getD .non) H2
section
variable {X : Cx} {o e f : Expr} {apos cpos : Pos} {td ty tx : TE}
theorem b6n (hu : X.A.units + 1 < cLine) (ho : PE X o td) (he : PE X e ty) (m : M1 X o "get" apos e cpos) : PE X (.Call (.Attribute o "get" apos) [e] [] cpos) (tDGet1 td ty) := by
 intro pins s σ H Q I h
 refine wpAny_Call_method m.base m.few m.line PySem.F.plainAttrs_dict PySem.F.slot_dict_get PySem.F.type_dict_get (thn (ho pins s σ H _ I h) fun u s1 zz9 => ?_)
 obtain ⟨x, H1, I1, rx, a, ex, d, q1⟩ := zz9
 subst ex
 obtain rfl : u = Value.ref a := rx
 obtain ⟨t1, t2, _⟩ := isD_at I1 d
 refine ⟨t1, t2, ?_⟩
 rw [m.trees]
 refine Calls.callWith_builtin rfl (Calls.evalArgs_plain (Calls.spliced_cons (thn (he pins s1 σ H1 _ I1 q1) fun iv s2 ⟨y, H2, I2, ry, ov, g, q2⟩ => Calls.spliced_nil ?_)))
 exact d_get1 hu I2 g ry fun w' s3 I3 rw' => ⟨_, H2, I3, rw', q2⟩
end
section
variable {X : Cx} {pins : List (Addr × Obj)} {σ : St} {H : Hp} {s : Shared} {a : Addr} {kvs : List (Key × V)} {A : Around} {E : Value -> Shared -> Prop}
end
section
variable {X : Cx} {pins : List (Addr × Obj)} {σ : St} {H : Hp} {s : Shared} {a : Addr} {y : V} {u : Value} {A : Around} {E : Value -> Shared -> Prop}
end
section
variable {X : Cx}
theorem b5t : CallR X (.builtin "len") (fun xs H Q => ∃ a kvs, xs = [V.ref a] /\ H a = some (.dK kvs) /\ Q (.int kvs.length) H) := by
 intro pins s σ H xs us Q I r h
 obtain ⟨a, kvs, rfl, ha, q⟩ := h
 obtain ⟨u, rfl, ru⟩ := b54 r
 cases ru
 exact d_len I (.inl ha) fun t s' I' => ⟨.int kvs.length, H, I', ⟨t, rfl⟩, q⟩
end
section
variable {κ : Type} [DecidableEq κ]
end
structure Has (P : Program) (w : World) (K : PySem.W.Frag) (mg : Str -> Option Value) (base : Heap) (CX : CXT) (k : Nat) (x : Str) (ps : List Str) (sp : Sp) : Prop where
 ex : ∃ f fd, FnOk P w K mg base CX k f fd ps sp /\ mg x = some (.ref f) /\ PySem.W.keepIn K (.ref f) = true /\ Binds K fd ps []
section
variable {X : Cx} {CX : CXT} {k : Nat} {ps : List Str} {sp : Sp} {E : XK} {x : Str} {p pos : Pos} {e : Expr} {es : List Expr} {t : TA}
end
section
variable {X : Cx}
theorem a1c : OpR X (binaryOp .Mult) (rI IntMulOk fun i j => .int (i * j)) := opI fun _ _ _ _ _ _ _ hc q => mul_int q hc
structure BigDiv (X : Cx) : Prop where
 seer : X.base.NoSeer
 tree : X.prog.given.tree = none
 stk : X.stack = X.env :: X.outer
 gen : X.env.scope.isGenerator = false
 co : X.env.scope.isCoroutine = false
 dp : X.A.depth + 100 < recursionLimit
theorem BigDiv.room {pins : List (Addr × Obj)} {σ : St} {H : Hp} {s : Shared} (B : BigDiv X) (I : Inv X pins σ H s) : PylongRoom (model X.prog X.w) X.A s :=
 PylongRoom.of I.nolimit B.dp (SeerAt.of (B.seer.keeps I.bk) B.tree (by rw [I.ok.frames, B.stk]) B.gen B.co I.ok.blt I.ok.glob)
theorem b1i (B : BigDiv X) : OpR X (binaryOp .FloorDiv) (rI (fun _ j => j ≠ 0) fun i j => .int (i.fdiv j)) := by
 intro pins s σ H x y v u Q I rx ry h
 obtain ⟨i, j, rfl, rfl, hc, q⟩ := h
 obtain ⟨t, rfl⟩ := rx
 obtain ⟨t', rfl⟩ := ry
 exact floordiv_int hc ⟨.int (i.fdiv j), H, I.tok _, ⟨_, rfl⟩, q⟩ (.inr (B.room I))
end
section
variable {X : Cx}
end
section
variable {X : Cx} {st : Stmt} {rest : List Stmt} {t u : TS}
end
theorem NoSeer.hid {h : Heap} {a : Addr} {o : Obj} {H : Hp} (hN : h.NoSeer) (ha : h.get? a = some o) (hc : o.cls = .type "list") (hA : ∀ b, H b ≠ none -> b = a)
   (nsK : ∀ {b : Addr} {m : Str -> Option Value}, h.Ns b m -> (hidT h H).Ns b m) : (hidT h H).NoSeer where
 statics := let ⟨mc, x, y⟩ := hN.statics; ⟨mc, nsK x, y⟩
 mods := let ⟨mc, x, y⟩ := hN.mods; ⟨mc, nsK x, y⟩
 imp := let ⟨mc, x, y⟩ := hN.imp; ⟨mc, nsK x, y⟩
 main := by
   obtain ⟨mg, bm, ob, x, y, z, c, d⟩ := hN.main
   refine ⟨mg, bm, ob, nsK x, y, b1w z ?_, c, d⟩
   cases q : H bm with
   | none => rfl
   | some u =>
     have e : bm = a := hA bm (by rw [q]; simp)
     subst e
     rw [ha] at z
     cases z
     rw [hc] at c
     exact absurd c (by decide)
theorem b4o {P : Program} {w : World} {K : PySem.W.Frag} {mg mb : Str -> Option Value} {CX : CXT} {k : Nat} {fa a : Addr} {fd : FuncData} {x : Str} {sp : Sp} {s₁ : Shared} {vs : List Value} {ns : List Int}
   (KX : K.In s₁.heap) (hns : s₁.heap.Ns mainGlobals mg) (hb : s₁.heap.Ns builtinsNs mb) (hbb : ∀ x : Str, x ≠ "__name__" -> mb x = bootBuiltins x) (hlim : s₁.heap.NoLimit) (hsee : s₁.heap.NoSeer) (hg : s₁.gens = #[])
   (ha : s₁.heap.get? a = some { cls := .type "list", data := .seq vs.toArray }) (hi : IntsAre vs ns) (hl : ns.length <= sizeLine) (hr : Room k callerA)
   (F : ∀ base : Heap, K.In base -> base.Ns mainGlobals mg -> base.NoSeer -> FnOk P w K mg base CX k fa fd [x] sp) (hbind : ∀ (s : Shared) (u : Value), BindsTo s fd ⟨[u], []⟩ [(x, u)])
   (hsp : ∀ H : Hp, Only H -> SqL K H a (ns.map V.int) -> sp [.ref a] H (fun v _ => v = .bl true) fun _ _ _ => False)
   (hCX : ∀ H e s', CX [] H s₁ (fun _ _ _ => False) e s' -> False) :
   codeAny (model P w) callerA (.call (.ref fa) ⟨[.ref a], []⟩) (fun r s' => r = .ok (.ret (.bool true)) /\ OldK s₁.heap s'.heap /\ s'.os = s₁.os /\ AllBare s'.gens) s₁ := by
 have rv := a8n hi
 have lenV := hi.length
 have core : ∀ H : Hp, Only H -> SqL K H a (ns.map V.int) -> HOk P w H s₁.heap -> (∀ b, H b ≠ none -> b = a) -> (H a ≠ none -> K.lookup a = none) ->
     codeAny (model P w) callerA (.call (.ref fa) ⟨[.ref a], []⟩) (fun r s' => r = .ok (.ret (.bool true)) /\ OldK s₁.heap s'.heap /\ s'.os = s₁.os /\ AllBare s'.gens) s₁ := by
   intro H hO hS hok hA hK
   have base_of : ∀ {b : Addr} {o : Obj}, s₁.heap.get? b = some o -> H b = none -> (hidT s₁.heap H).get? b = some o := fun e n => b1w e n
   have noA : ∀ {b : Addr} {o : Obj} {es : Array DictEntry} {ep : Nat}, s₁.heap.get? b = some o -> o.data = .dict es ep -> H b = none := fun {b o es ep} e d => by
     cases q : H b with
     | none => rfl
     | some u =>
       have e' : b = a := hA b (by rw [q]; simp)
       subst e'
       rw [ha] at e; cases e
       have d' : Data.seq vs.toArray _ = Data.dict es ep := d
       cases d'
   have nsK : ∀ {b : Addr} {m : Str -> Option Value}, s₁.heap.Ns b m -> (hidT s₁.heap H).Ns b m := fun {b m} ⟨o, es, ep, e, d, r⟩ => ⟨o, es, ep, base_of e (noA e d), d, r⟩
   have hKb : K.In (hidT s₁.heap H) := fun b o e => base_of (KX b o e) (by
     cases q : H b with
     | none => rfl
     | some u =>
       have e' : b = a := hA b (by rw [q]; simp)
       subst e'
       rw [hK (by rw [q]; simp)] at e; cases e)
   have hM : Mod K mg (hidT s₁.heap H) := ⟨hKb, nsK hns, ⟨mb, nsK hb, hbb⟩, let ⟨mc, h1, h2⟩ := hlim; ⟨mc, nsK h1, h2⟩⟩
   have hSe : (hidT s₁.heap H).NoSeer := NoSeer.hid hsee ha rfl hA nsK
   have e0 : Env0 P w K mg (hidT s₁.heap H) callerA [] s₁ H := ⟨rfl, hM, fun b o e => of_hidT e, Nat.le_of_eq (b44 _ _), trivial, fun b hb => absurd (show b ∈ ([] : List Addr) from hb) (by simp), hok, .of_eq hg⟩
   refine codeAny_mono ((F _ hKb (nsK hns) hSe).run callerA [] s₁ H ⟨[.ref a], []⟩ [.ref a] [.ref a] _ _ hr e0 (hbind s₁ (.ref a)) (.cons rfl .nil) (hsp H hO hS)) fun r s' h => ?_
   cases r with
   | error e => exact (hCX H e s' h).elim
   | ok fl =>
     cases fl with
     | next => exact False.elim h
     | brk => exact False.elim h
     | cont => exact False.elim h
     | ret u =>
       obtain ⟨v, H', os, bare, un, hok', r', q⟩ := h
       have q' : v = .bl true := q
       subst q'
       obtain rfl : u = Value.bool true := r'
       refine ⟨rfl, OldK.of_keep fun b o e => ?_, os, bare⟩
       cases q : H b with
       | none => exact un.keep b o e q (by intro z; exact absurd (show b ∈ ([] : List Addr) from z) (by simp)) (by simp)
       | some u =>
         rcases hO b with z | ⟨ob, xs, z⟩
         . rw [q] at z; cases z
         . have z2 := un.frzs b ob _ z
           obtain ⟨e1, _⟩ := hok b _ z
           obtain ⟨e2, _⟩ := hok' b _ z2
           rw [e] at e1; cases e1
           exact e2
 cases hk : K.lookup a with
 | some o =>
   have e := KX a o hk
   rw [ha] at e
   cases e
   refine core (fun _ => none) (fun _ => .inl rfl) (.inr ⟨_, vs.toArray, _, hk, rfl, rfl, rfl, by rw [List.size_toArray, lenV]; exact hl, by simpa using rv⟩) (fun b u z => by have z' : (none : Option HO) = some u := z; cases z') (fun b z => absurd rfl z) fun z => absurd rfl z
 | none =>
   refine core (fun b => if b = a then some (.frz { cls := .type "list", data := .seq vs.toArray } (.lst (ns.map V.int))) else none) (fun b => ?_) (.inl (.inr ⟨{ cls := .type "list", data := .seq vs.toArray }, if_pos rfl⟩)) (fun b u z => ?_) (fun b z => ?_) fun _ => hk
   . by_cases hb : b = a
     . exact .inr ⟨_, _, if_pos hb⟩
     . exact .inl (if_neg hb)
   . by_cases hb : b = a
     . have z' := (if_pos hb).symm.trans z
       cases z'
       subst hb
       exact ⟨ha, by rw [List.length_map]; exact hl, vs, _, rv, ha⟩
     . have z' := (if_neg hb).symm.trans z
       cases z'
   . by_cases hb : b = a
     . exact hb
     . exact absurd (if_neg hb) z
structure Script (n : Nat) (ns : List Int) : Prop where
 len : ns.length <= n
 bits : ∀ i ∈ ns, Builtin.Int.intBits i <= 2 ^ 20
theorem b0v {ns : List Int} (h : PySem.W.WData.layableAll [PySem.W.WData.list (ns.map PySem.W.WData.int)] = true) : ∀ i ∈ ns, Builtin.Int.intBits i <= 2 ^ 20 := fun i hi => by
 have h1 := (PySem.W.layW_cons h).1
 have h2 := PySem.W.layableW_item h1 (.int i) (List.mem_map.mpr ⟨i, hi, rfl⟩)
 have h3 := (PySem.W.layableW_iff.mp h2).2.2
 simpa only [PySem.W.WData.weight, Builtin.Int.intBits] using h3
section
open PySem.W PySem.Calls
theorem a9q {l : PySem.W.OpenLaw} {n : Nat} {q : Program} {a2j : List Str} {XP : (Str -> Option Value) -> Heap -> Prop} {YP : World -> Heap -> Prop} {d : DefRec}
   (hn : l.most = some n) (hdf : d.params.defaults = [])
   (call : ∀ (w : World) (s₀ s₁ : Shared) (mg mb : Str -> Option Value) (fa : Addr) (o : Obj) (pm cd doc : Value) (a : Addr) (vs : List Value) (ns : List Int),
     PySem.W.Ground q a2j [] XP w s₀ mg mb s₁.heap -> YP w s₁.heap ->
     s₁.heap.get? fa = some o -> o.data = .func (docDef d.name d.params d.body d.scope pm cd doc) -> s₁.heap.CodeRec cd d.name -> mg d.name = some (.ref fa) ->
     s₁.heap.get? a = some { cls := .type "list", data := .seq vs.toArray } -> IntsAre vs ns -> Script n ns -> s₁.gens = #[] ->
     codeAny (model l.prog w) callerA (.call (.ref fa) ⟨[.ref a], []⟩) (fun r s' => r = .ok (.ret (.bool true)) /\ OldK s₁.heap s'.heap /\ s'.os = s₁.os /\ AllBare s'.gens) s₁) :
   PySem.W.WalkO q a2j XP YP l.row.toRowW d [] (fun f vs => PySem.call f vs) := by
 intro w s₀ s₁ mg mb G Y fa o pm cd doc dV kV ho hd hcd hD hmg hg args vals as hpre hlay hrd hwl hlo
 obtain rfl : dV = .none := Dflts.none hD hdf
 obtain rfl : kV = .none := Dflts.noKw hD
 obtain ⟨a, vs, ns, rfl, rfl, hobj, hints, hlen⟩ := Att.script_of hn hpre hwl
 refine enter_call (codeAny_mono (call w s₀ s₁ mg mb fa o pm cd doc a vs ns G Y ho (fd_plain hd) hcd hmg hobj hints ⟨hlen, b0v hlay⟩ hg) fun r s' hq => ?_)
 obtain ⟨rfl, h2, h3, h4⟩ := hq
 exact ⟨.inl ⟨.bool true, .bool true, [], rfl, fun _ => rfl, .bool true, Att.post_true l _, fun _ => ⟨List.Pairwise.nil, fun _ hm => (nomatch hm)⟩⟩, h2, h3, h4⟩
end
theorem walk_ofB {l : PySem.W.OpenLaw} {n k : Nat} {q : Program} {a2j : List Str} {XP : (Str -> Option Value) -> Heap -> Prop} {YP : World -> Heap -> Prop} {d : DefRec} {K : Params -> PySem.W.Frag} {CX : CXT} {sp : PySem.W.Frag -> Sp} {x : Str}
   (hn : l.most = some n) (hn2 : n <= sizeLine) (hdf : d.params.defaults = []) (hr : Room k callerA) (him : importsNone q = true)
   (hY : ∀ (w : World) (h : Heap), YP w h -> (K w.params).In h)
   (F : ∀ (w : World) (mg : Str -> Option Value) (fa : Addr) (h : Heap), (K w.params).In h -> h.Ns mainGlobals mg -> mg d.name = some (.ref fa) ->
     ∃ fd : FuncData, (∀ (s : Shared) (u : Value), BindsTo s fd ⟨[u], []⟩ [(x, u)]) /\
       ∀ base : Heap, (K w.params).In base -> base.Ns mainGlobals mg -> base.NoSeer -> FnOk l.prog w (K w.params) mg base CX k fa fd [x] (sp (K w.params)))
   (hsp : ∀ (K : PySem.W.Frag) (H : Hp) (a : Addr) (ns : List Int), Script n ns -> Only H -> SqL K H a (ns.map V.int) -> sp K [.ref a] H (fun v _ => v = .bl true) fun _ _ _ => False)
   (hCX : ∀ (H : Hp) (s : Shared) (e : Value) (s' : Shared), CX [] H s (fun _ _ _ => False) e s' -> False) :
   PySem.W.WalkO q a2j XP YP l.row.toRowW d [] (fun f vs => PySem.call f vs) := by
 refine a9q hn hdf fun w s₀ s₁ mg mb fa o pm cd doc a vs ns G Y ho hd hcd hmg hobj hints hsc hg => ?_
 have KX := hY w _ Y
 obtain ⟨fd, hb, hF⟩ := F w mg fa _ KX G.T.g hmg
 exact b4o KX G.T.g G.T.b G.T.builtins G.T.nolimit (G.T.seer him) hg hobj hints (Nat.le_trans hsc.len hn2) hr hF hb (fun H hO hS => hsp (K w.params) H a ns hsc hO hS) fun H e s' => hCX H s₁ e s'
open PySem PySem.Spec PySem.Calls PyProof.Rows
structure Air (B : Heap) (l : List Env) (a : Addr) (h : Heap) : Prop where
 stay : B.StaysIn h
 new : B.get? a = none
 frm : h.FunFrames B l
def Trc (B : Heap) (a : Addr) (cls a0 : Value) (m : Option Value) (h : Heap) : Prop := match m with
 | none => ∃ oe vs, h.get? a = some oe /\ oe.cls = cls /\ oe.data = .fields vs /\ vs[0]? = some a0 /\ vs[1]? = some .none
 | some fl => h.TracedAtW B a cls a0 fl
def NoD (a : Addr) (h : Heap) : Prop := ∃ oe vs, h.get? a = some oe /\ oe.dict = none /\ oe.data = .fields vs /\ vs[2]? = some .none
theorem a67 (o : Obj) (f : Array Value -> Array Value) : (Obj.mapFields f o).dict = o.dict := by
 obtain ⟨c, d, dt, sl⟩ := o
 cases dt <;> rfl
section
variable {M : Model} {A : Around} {E : Value -> Shared -> Prop} {s : Shared} {B : Heap} {env : Env} {outer l : List Env} {L a : Addr} {cls a0 : Value} {m : Option Value}
theorem entryD {base : Heap} {e : Addr} {oe : Obj} {vs : Array Value} {head : Value} {hadNext : Bool} {Q : Unit -> Shared -> Prop}
   (hfr : A.frames = some (env :: outer)) (hl : s.heap.FunFrames base (env :: outer)) (hf : env.frame = some L)
   (he : s.heap.get? e = some oe) (hkb : base.StaysIn s.heap) (hen : base.get? e = none) (hd : oe.data = .fields vs) (hsz : 1 < vs.size) (h0 : vs[0]? = some a0) (hnd : oe.dict = none) (h2 : vs[2]? = some .none)
   (h : ∀ h', Heap.NotedW base (env :: outer) e oe.cls a0 (rawInt L) s.heap h' -> NoD e h' -> Q () { s with heap := h' }) :
   wpAny M A (do let a <- frameOf env; let pl <- entryPlaceOf L hadNext; let b <- EntryCells.newEntry head a .none (rawInt L) .none pl; setField (.ref e) 1 b) Q E s := by
 have hene : e ∉ (env :: outer).filterMap (·.frame) := fun hm => by
   obtain ⟨_, o, ho, hnf⟩ := hl.mem hm
   rw [he] at ho; injection ho with ho; subst ho; exact hnf vs hd
 refine wpAny_bind (wpAny_frameOf_fun hfr hl hf fun h₁ hs₁ => ?_)
 refine wpAny_bind (wpAny_entryPlaceOf fun pl hpl => ?_)
 unfold EntryCells.newEntry newFields
 refine wpAny_bind (wpAny_newObj_type ?_ (hpl.sizeOk5 _ _ _ _ _))
 have he₁ : h₁.get? e = some oe := (hs₁.2.1 e hene).trans he
 have kb₁ : base.StaysIn h₁ := fun b o hbo => (hs₁.2.1 b fun hm => by rw [(hl.mem hm).1] at hbo; cases hbo).trans (hkb b o hbo)
 have he₂ := Heap.get?_push_of_some (h := h₁) { cls := .type "traceback", dict := none, data := .fields ([head, .ref L, .none, rawInt L, .none] ++ (if pl.isEmpty then List.replicate 6 Value.none else pl)).toArray } he₁
 have hTe : h₁.objs.size ≠ e := Nat.ne_of_gt (Heap.lt_size he₁)
 have hd₃ := Obj.data_mapFields hd (·.setIfInBounds 1 (Value.ref h₁.objs.size))
 have he₃ := Heap.get?_update_self (Obj.mapFields (·.setIfInBounds 1 (Value.ref h₁.objs.size))) he₂ (Obj.isFreed_of_fields hd₃)
 refine wpAny_setField he₂ hd hsz (h _ ?_ ⟨_, _, he₃, (a67 _ _).trans hnd, hd₃, by rw [Array.getElem?_setIfInBounds_ne (by decide)]; exact h2⟩)
 have hT₃ := (Heap.get?_update_other (h₁.push { cls := .type "traceback", dict := none, data := .fields ([head, .ref L, .none, rawInt L, .none] ++ (if pl.isEmpty then List.replicate 6 Value.none else pl)).toArray })
   (Obj.mapFields (·.setIfInBounds 1 (Value.ref h₁.objs.size))) (Ne.symm hTe)).trans (Heap.get?_push_size h₁ rfl)
 have keep : ∀ b o, b ≠ e -> h₁.get? b = some o ->
     ((h₁.push { cls := .type "traceback", dict := none, data := .fields ([head, .ref L, .none, rawInt L, .none] ++ (if pl.isEmpty then List.replicate 6 Value.none else pl)).toArray }).update e (Obj.mapFields (·.setIfInBounds 1 (Value.ref h₁.objs.size)))).get? b = some o :=
   fun b o hbe hb => by
     rw [Heap.get?_update_other _ _ (Ne.symm hbe)]
     exact Heap.get?_push_of_some _ hb
 have noRecord : ∀ b o, s.heap.get? b = some o -> (∀ vs, o.data ≠ .fields vs) -> b ≠ e := fun b o hb hnf q => by
   rw [q, he] at hb; injection hb with hb; subst hb; exact hnf vs hd
 refine ⟨fun b o hbo => keep b o (fun q => by rw [q, hen] at hbo; cases hbo) (kb₁ b o hbo), hl.of_keeps fun b o hb hnf => ?_, ?_, fun b o hb hnf => ?_⟩
 . obtain ⟨sl, hs⟩ := hs₁.2.2 b o hb
   exact ⟨_, keep b _ (noRecord b o hb hnf) hs, rfl⟩
 . exact ⟨_, _, h₁.objs.size, _, _, he₃, ⟨Obj.cls_mapFields _ _, by rw [Array.getElem?_setIfInBounds_ne (by decide)]; exact h0⟩, hd₃, by simp [hsz], kb₁.fresh, hTe, hT₃, rfl, by first | (simp; done) | (rcases hpl with rfl | ⟨_, _, _, _, _, _, _, rfl⟩ <;> simp)⟩
 . obtain ⟨sl, hs⟩ := hs₁.2.2 b o hb
   exact ⟨sl, keep b _ (noRecord b o hb hnf) hs⟩
theorem b0a {Q : Unit -> Shared -> Prop} (hfr : A.frames = some (env :: outer)) (hf : env.frame = some L) (air : Air B (env :: outer) a s.heap) (tr : Trc B a cls a0 m s.heap) (nd : NoD a s.heap)
   (hm : m = none \/ m = some .none \/ m = some (rawInt L))
   (hQ : ∀ h', Air B (env :: outer) a h' -> h'.TracedAtW B a cls a0 (rawInt L) -> NoD a h' -> s.heap.UpToSlots h' -> Q () { s with heap := h' }) : wpAny M A (noteFrame (.ref a) env) Q E s := by
 obtain ⟨ox, vx, hox, hdx, hvx, hv2⟩ := nd
 rcases hm with rfl | rfl | rfl
 . obtain ⟨oe, vs, he, rfl, hd, h0, h1⟩ := tr
   rw [hox] at he; cases he
   have e2 := hd.symm.trans hvx
   injection e2 with e2
   subst e2
   unfold noteFrame
   simp only [hf]
   refine wpAny_bind (wpAny_field hox hd h1 ?_)
   rw [if_neg (by decide)]
   refine entryD hfr air.frm hf hox air.stay air.new hd (Array.getElem?_eq_some_iff.mp h1).1 h0 hdx hv2 fun h' hN hn => ?_
   obtain ⟨k1, k2, k3, k4⟩ := hN
   exact hQ h' ⟨k1, air.new, k2⟩ k3 hn k4
 . obtain ⟨oe, vs, T, oT, ts, he, ⟨hcls, h0⟩, hd, h1, hnT, hTe, hT, hdT, h3⟩ := tr
   rw [hox] at he; cases he
   have e2 := hd.symm.trans hvx
   injection e2 with e2
   subst e2
   subst hcls
   unfold noteFrame
   simp only [hf]
   refine wpAny_bind (wpAny_field hox hd h1 ?_)
   rw [if_pos (show (Value.ref T != Value.none) = true from by simp)]
   refine wpAny_bind (wpAny_field hT hdT h3 ?_)
   rw [if_neg (show ¬ ((Value.none == rawInt L) = true) from by simp [rawInt])]
   refine wpAny_bind (wpAny_setField hT hdT (Array.getElem?_eq_some_iff.mp h3).1 ?_)
   have other : ∀ b, b ≠ T -> (s.heap.update T (Obj.mapFields (·.setIfInBounds 3 Value.none))).get? b = s.heap.get? b := fun b hb => Heap.get?_update_other _ _ (Ne.symm hb)
   have noRecord : ∀ b o, s.heap.get? b = some o -> (∀ vs, o.data ≠ .fields vs) -> b ≠ T := fun b o hb hnf q => by
     rw [q, hT] at hb; injection hb with hb; subst hb; exact hnf ts hdT
   refine entryD hfr (air.frm.of_keeps fun b o hb hnf => ⟨o, (other b (noRecord b o hb hnf)).trans hb, rfl⟩) hf ((other a (Ne.symm hTe)).trans hox)
     (fun b o hbo => (other b fun q => by rw [q, hnT] at hbo; cases hbo).trans (air.stay b o hbo)) air.new hd (Array.getElem?_eq_some_iff.mp h1).1 h0 hdx hv2
     fun h' ⟨x1, x2, x3, x4⟩ hn => hQ h' ⟨x1, air.new, x2⟩ x3 hn fun b o hb hnf => x4 b o ((other b (noRecord b o hb hnf)).trans hb) hnf
 . refine wpAny_noteFrame_againW hf tr ?_
   exact hQ s.heap air tr ⟨ox, vx, hox, hdx, hvx, hv2⟩ (.refl _)
theorem a2m {f : Option Addr} {fl : Value} {Q : Unit -> Shared -> Prop} (air : Air B l a s.heap) (tr : s.heap.TracedAtW B a cls a0 fl) (nd : NoD a s.heap)
   (hQ : ∀ h', Air B l a h' -> h'.TracedAtW B a cls a0 (f.elim Value.none fun x => rawInt x) -> NoD a h' -> s.heap.UpToSlots h' -> Q () { s with heap := h' }) : wpAny M A (setFlight (.ref a) f) Q E s := by
 obtain ⟨oe, vs, T, oT, ts, he, hcls, hd, h1, hnT, hTe, hT, hdT, h3⟩ := tr
 obtain ⟨ox, vx, hox, hdx, hvx, hv2⟩ := nd
 have hsz3 : 3 < ts.size := (Array.getElem?_eq_some_iff.mp h3).1
 have other : ∀ b, b ≠ T -> (s.heap.update T (Obj.mapFields (·.setIfInBounds 3 (f.elim Value.none fun x => rawInt x)))).get? b = s.heap.get? b :=
   fun b hb => Heap.get?_update_other _ _ (Ne.symm hb)
 have noRecord : ∀ b o, s.heap.get? b = some o -> (∀ vs, o.data ≠ .fields vs) -> b ≠ T := fun b o hb hnf q => by
   rw [q, hT] at hb; injection hb with hb; subst hb; exact hnf ts hdT
 unfold setFlight
 refine wpAny_bind (wpAny_field he hd h1 ?_)
 rw [if_pos (show (Value.ref T != Value.none) = true from by simp)]
 refine wpAny_setField hT hdT hsz3 (hQ _ ⟨fun b o hbo => (other b fun q => by rw [q, hnT] at hbo; cases hbo).trans (air.stay b o hbo), air.new,
   air.frm.of_keeps fun b o hb hnf => ⟨o, (other b (noRecord b o hb hnf)).trans hb, rfl⟩⟩ ?_ ⟨ox, vx, (other a (Ne.symm hTe)).trans hox, hdx, hvx, hv2⟩ fun b o hb hnf => ⟨o.slots, (other b (noRecord b o hb hnf)).trans hb⟩)
 exact ⟨oe, vs, T, _, _, (other a (Ne.symm hTe)).trans he, hcls, hd, h1, hnT, hTe, Heap.get?_update_self _ hT (Obj.isFreed_of_fields (Obj.data_mapFields hdT _)), Obj.data_mapFields hdT _, by simp [hsz3]⟩
end
def Old (X : Cx) (H : Hp) (b : Addr) : Prop :=
 H b ≠ none \/ (∃ o, X.s₀.heap.get? b = some o) \/ (∃ x, X.env.cells.lookup x = some b) \/ (∃ p ∈ X.pn, p.1 = b) \/ b = X.env.locals
def Cov (X : Cx) (H : Hp) (B h : Heap) : Prop := ∀ b o, h.get? b = some o -> Old X H b -> b ∉ frs X.stack -> B.get? b = some o
structure Exn (X : Cx) (H : Hp) (B : Heap) (a : Addr) (cls a0 : Value) (m : Option Value) (h : Heap) : Prop where
 air : Air B X.stack a h
 tr : Trc B a cls a0 m h
 md : m = none \/ m = some .none \/ m = some (rawInt X.env.locals)
 cov : Cov X H B h
 nd : NoD a h
structure Plain (X : Cx) : Prop where
 stk : X.stack = X.env :: X.outer
 frm : X.env.frame = some X.env.locals
 ex : X.ex = []
noncomputable abbrev RX := St -> Hp -> Value -> Addr -> Prop
def XS (X : Cx) (R : RX) : Value -> Shared -> Prop := fun e s' =>
 ∃ a σ H B cls a0 m, e = .ref a /\ Inv X [] σ H s' /\ Exn X H B a cls a0 m s'.heap /\ R σ H cls a
theorem ObjOk.get {P : Program} {w : World} {H : Hp} {h : Heap} {a : Addr} {o : HO} (x : ObjOk P w H h a o) : ∃ ob, h.get? a = some ob := by
 cases o with
 | lst xs => obtain ⟨_, _, _, _, e⟩ := x; exact ⟨_, e⟩
 | tup xs => obtain ⟨_, _, _, o, e, _⟩ := x; exact ⟨_, e⟩
 | dK kvs => obtain ⟨_, _, _, _, o, _, _, e, _⟩ := x; exact ⟨_, e⟩
 | dT kvs => obtain ⟨_, _, _, _, o, _, _, e, _⟩ := x; exact ⟨_, e⟩
 | set S n => obtain ⟨o, _, _, _, e, _⟩ := x; exact ⟨_, e⟩
 | ins C dx fs => obtain ⟨_, _, _, e, _⟩ := x; exact ⟨_, e⟩
 | own y => exact x
 | xd fs => obtain ⟨_, ⟨_, _, _, e, _⟩, _⟩ := x; exact ⟨_, e⟩
 | rng lo hi => obtain ⟨_, _, _, e⟩ := x; exact ⟨_, e⟩
 | frz ob u => obtain ⟨e, _⟩ := x; exact ⟨_, e⟩
 | tbl ps => exact ⟨_, (show h.get? a = some _ from x)⟩
 | met f y => exact ⟨_, (show h.get? a = some _ from x)⟩
 | ext φ => exact x.2.1
section
variable {X : Cx} {σ : St} {H : Hp} {s : Shared} {B h' : Heap}
theorem Inv.old (P : Plain X) {pins : List (Addr × Obj)} (I : Inv X pins σ H s) {b : Addr} (o : Old X H b) : ∃ ob, s.heap.get? b = some ob := by
 rcases o with o | ⟨ob, e⟩ | ⟨x, e⟩ | ⟨p, hp, rfl⟩ | rfl
 . cases q : H b with
   | none => exact absurd q o
   | some u => exact (I.hok b u q).get
 . exact I.base.there b ob e (by rw [P.ex]; simp)
 . obtain ⟨v, ob, e, _⟩ := I.cell x b e
   exact ⟨ob, e⟩
 . exact ⟨_, (I.pin p (List.mem_append_left _ hp)).1⟩
 . obtain ⟨m, ⟨o, _, _, e, _⟩, _⟩ := I.loc
   exact ⟨o, e⟩
theorem Inv.redo (I : Inv X [] σ H s) (cov : Cov X H B s.heap) (frm : s.heap.FunFrames B X.stack) (st : B.StaysIn h') (up : s.heap.UpToSlots h') : Inv X [] σ H { s with heap := h' } := by
 have kp : ∀ b o, s.heap.get? b = some o -> Old X H b -> b ∉ frs X.stack -> h'.get? b = some o := fun b o e q n => st _ _ (cov b o e q n)
 have sl : ∀ b o, s.heap.get? b = some o -> b ∈ frs X.stack -> ∃ sl, h'.get? b = some { o with slots := sl } := fun b o e n => by
   obtain ⟨_, o', e', hd⟩ := frm.mem n
   rw [e] at e'; cases e'
   exact up b o e hd
 have any : ∀ b o, s.heap.get? b = some o -> Old X H b -> ∃ sl, h'.get? b = some { o with slots := sl } := fun b o e q => by
   by_cases n : b ∈ frs X.stack
   . exact sl b o e n
   . exact ⟨o.slots, kp b o e q n⟩
 have cellK : ∀ x c, X.env.cells.lookup x = some c -> ∀ v, s.heap.IsCell c v -> h'.IsCell c v := fun x c e v ⟨o, ho, hd⟩ => by
   obtain ⟨sl, q⟩ := any c o ho (.inr (.inr (.inl ⟨x, e⟩)))
   exact ⟨_, q, hd⟩
 refine ⟨I.ok, I.os, I.bare, ⟨fun b o e n hb hx => ?_, fun b o e n hb hx => ?_, I.base.free, fun b o e hx => ?_, I.base.tups, I.base.frzs, I.base.tbls⟩, ?_, fun x c e => ?_, I.free, I.freeC, fun p hp => ?_, fun b u q => ?_, I.len⟩
 . refine kp b o (I.base.keep b o e n hb hx) (.inr (.inl ⟨o, e⟩)) fun z => ?_
   rcases List.mem_cons.mp (I.stkSub b z) with q | q
   . exact absurd q (Nat.ne_of_lt (Nat.lt_of_lt_of_le (Heap.lt_size e) I.ok.above))
   . exact hb q
 . obtain ⟨s1, e1⟩ := I.base.slot b o e n hb hx
   obtain ⟨s2, e2⟩ := any b _ e1 (.inr (.inl ⟨o, e⟩))
   exact ⟨s2, e2⟩
 . obtain ⟨o', e1⟩ := I.base.there b o e hx
   obtain ⟨s2, e2⟩ := any b _ e1 (.inr (.inl ⟨o, e⟩))
   exact ⟨_, e2⟩
 . obtain ⟨m, hn, hl⟩ := I.loc
   refine ⟨m, up.ns hn, fun i x v e1 e2 e3 => ?_⟩
   obtain ⟨u, r, l⟩ := hl i x v e1 e2 e3
   refine ⟨u, r, ?_⟩
   rcases l with l | ⟨k, c, e, z⟩
   . exact .inl l
   . exact .inr ⟨k, c, e, cellK x c e _ z⟩
 . obtain ⟨v, z⟩ := I.cell x c e
   exact ⟨v, cellK x c e v z⟩
 . have hp' : p ∈ X.pn := by simpa using hp
   obtain ⟨e, n, ne, nf, d⟩ := I.pin p hp
   refine ⟨kp p.1 p.2 e (.inr (.inr (.inr (.inl ⟨p, hp', rfl⟩)))) fun z => ?_, n, ne, nf, d⟩
   rcases List.mem_cons.mp (I.stkSub _ z) with q | q
   . exact ne q
   . exact nf q
 . have hnn : ∀ c u, H c = some u -> c ∉ frs X.stack := fun c u e z => by
     rw [I.stkFree c z] at e; cases e
   refine (I.hok b u q).stay (fun c v hc r => ?_) (fun _ r => r) fun _ _ r => r
   rcases hc with rfl | hc
   . exact kp c v r (.inl (by rw [q]; simp)) (hnn c _ q)
   . exact kp c v r (.inl (by rw [hc]; simp)) (hnn c _ hc)
theorem Cov.redo (P : Plain X) (I : Inv X [] σ H s) (cov : Cov X H B s.heap) (st : B.StaysIn h') : Cov X H B h' := fun b o e q n => by
 obtain ⟨ob, e0⟩ := I.old P q
 have e1 := cov b ob e0 q n
 have e2 := st _ _ e1
 rw [e] at e2
 cases e2
 exact e1
end
section
variable {X : Cx} {R : RX}
def Thr (X : Cx) (R : RX) : Prop := ∀ e s', XS X R e s' -> X.xe e s'
theorem Plain.wish (P : Plain X) (E : Value -> Shared -> Prop) : Plain (X.wish E) := ⟨P.stk, P.frm, P.ex⟩
theorem XS.unwish {E : Value -> Shared -> Prop} {e : Value} {s' : Shared} (h : XS (X.wish E) R e s') : XS X R e s' := by
 obtain ⟨a, σ, H, B, cls, a0, m, rfl, I, ex, r⟩ := h
 exact ⟨a, σ, H, B, cls, a0, m, rfl, I.unwish, ⟨ex.air, ex.tr, ex.md, ex.cov, ex.nd⟩, r⟩
theorem b00 : Thr (X.wish (XS X R)) R := fun e s' h => h.unwish
theorem a8x (P : Plain X) (ok : X.A.frames = some X.stack) : PassesOwn (model X.prog X.w) X.A X.env (XS X R) := by
 rintro e s' ⟨a, σ, H, B, cls, a0, m, rfl, I, ex, r⟩
 have hfr : X.A.frames = some (X.env :: X.outer) := by rw [ok, P.stk]
 have air : Air B (X.env :: X.outer) a s'.heap := by have := ex.air; rw [P.stk] at this; exact this
 unfold notedBy
 refine b0a hfr P.frm air ex.tr ex.nd ex.md fun h1 air1 tr1 nd1 up1 => ?_
 have air1' : Air B X.stack a h1 := by rw [P.stk]; exact air1
 have I1 : Inv X [] σ H { s' with heap := h1 } := I.redo ex.cov ex.air.frm air1.stay up1
 have cov1 : Cov X H B h1 := Cov.redo P I ex.cov air1.stay
 unfold cameBackBy
 obtain ⟨oe, vs, T, oT, ts, he, hcls, hd, hv1, _⟩ := id tr1
 refine wpAny_bind (wpAny_field (s := { s' with heap := h1 }) he hd hv1 ?_)
 rw [if_neg (show ¬ ((Value.ref T == Value.none) = true) from by simp)]
 rw [P.frm]
 have key : wpAny (model X.prog X.w) X.A (setFlight (.ref a) (some X.env.locals)) (fun _ s'' => XS X R (.ref a) s'') (XS X R) { s' with heap := h1 } :=
   a2m (s := { s' with heap := h1 }) (f := some X.env.locals) air1' tr1 nd1 fun h2 air2 tr2 nd2 up2 =>
     ⟨a, σ, H, B, cls, a0, some (rawInt X.env.locals), rfl, I1.redo cov1 air1'.frm air2.stay up2, ⟨air2, tr2, .inr (.inr rfl), Cov.redo P I1 cov1 air2.stay, nd2⟩, r⟩
 first
   | exact wpAny_bind (wpAny_pure key)
   | exact key
end
noncomputable def CXE (P : Program) (w : World) : CXT := fun outer H s E e s' => ∃ a H' B cls a0, e = .ref a /\ s'.os = s.os /\ AllBare s'.gens /\ Un (frs outer) [] H H' s.heap s'.heap /\ HOk P w H' s'.heap /\
 Air B outer a s'.heap /\ s'.heap.TracedAtW B a cls a0 .none /\ NoD a s'.heap /\ (∀ b o, s'.heap.get? b = some o -> (H' b ≠ none \/ ∃ o0, s.heap.get? b = some o0) -> b ∉ frs outer -> B.get? b = some o) /\ E cls none H'
section
variable {X : Cx} {R : RX} {pins : List (Addr × Obj)} {σ : St} {H : Hp} {s s' : Shared} {e : Value} {E : XK}
theorem XS.of_call (P : Plain X) (I : Inv X pins σ H s) (h : CXE X.prog X.w X.stack H s E e s') (hE : ∀ cls H' a, E cls none H' -> R σ H' cls a) : XS X R e s' := by
 obtain ⟨a, H', B, cls, a0, rfl, os, bare, un, hok, air, tr, nd, cov, q⟩ := h
 have I2 : Inv X pins σ H' s' := I.call' os un hok bare fun b z => absurd z (by simp)
 refine ⟨a, σ, H', B, cls, a0, some .none, rfl, I2.pins_of (fun p hp => absurd hp (by simp)), ⟨air, tr, .inr (.inl rfl), fun b o e0 q0 n => cov b o e0 ?_ n, nd⟩, hE _ _ _ q⟩
 rcases q0 with q0 | q0
 . exact .inl q0
 . right
   rcases q0 with ⟨ob, e⟩ | ⟨x, e⟩ | ⟨p, hp, rfl⟩ | rfl
   . exact I.base.there b ob e (by rw [P.ex]; simp)
   . obtain ⟨v, ob, e, _⟩ := I.cell x b e
     exact ⟨ob, e⟩
   . exact ⟨_, (I.pin p (List.mem_append_left _ hp)).1⟩
   . obtain ⟨m, ⟨o, _, _, e, _⟩, _⟩ := I.loc
     exact ⟨o, e⟩
theorem Thr.call (T : Thr X R) (P : Plain X) (I : Inv X pins σ H s) (h : CXE X.prog X.w X.stack H s (fun cls _ H' => ∀ a, R σ H' cls a) e s') : X.xe e s' :=
 T e s' (XS.of_call P I h fun cls H' a q => q a)
end
theorem plain_cx {CX : CXT} {P : Program} {w : World} {K : PySem.W.Frag} {mg : Str -> Option Value} {base : Heap} {N : List Str} {qual : Str} {scope : Scope} {f : Addr} {cd : Value} {A : Around} {outer : List Env} {s : Shared} {H : Hp} {E : XK} :
   Plain (cxOf CX P w K mg base N qual scope f cd A outer s H E) := ⟨rfl, rfl, rfl⟩
theorem b1q {P : Program} {w : World} {K : PySem.W.Frag} {mg : Str -> Option Value} {base : Heap} {N : List Str} {qual : Str} {scope : Scope} {f : Addr} {cd : Value} {A : Around} {outer : List Env} {s : Shared} {H : Hp} {E : XK} :
   Thr (cxOf (CXE P w) P w K mg base N qual scope f cd A outer s H E) (fun _ H' cls _ => E cls none H') := by
 rintro e s' ⟨a, σ, H', B, cls, a0, m, rfl, I, ex, r⟩
 have hfr : (A.deeper (envOfC qual scope s.heap.objs.size f cd)).frames = some (envOfC qual scope s.heap.objs.size f cd :: outer) := I.ok.frames
 show wpAny (model P w) (A.deeper (envOfC qual scope s.heap.objs.size f cd)) (leaving (envOfC qual scope s.heap.objs.size f cd) (.ref a)) (fun _ s'' => CXE P w outer H s E (.ref a) s'') (fun e' s'' => CXE P w outer H s E e' s'') s'
 unfold leaving
 refine wpAny_bind (b0a (L := s.heap.objs.size) hfr rfl ex.air ex.tr ex.nd ex.md fun h1 air1 tr1 nd1 up1 => ?_)
 have I1 : Inv (cxOf (CXE P w) P w K mg base N qual scope f cd A outer s H E) [] σ H' { s' with heap := h1 } := I.redo ex.cov ex.air.frm air1.stay up1
 have cov1 := Cov.redo plain_cx I ex.cov air1.stay
 refine a2m (s := { s' with heap := h1 }) (f := none) air1 tr1 nd1 fun h2 air2 tr2 nd2 up2 => ?_
 have I2 : Inv (cxOf (CXE P w) P w K mg base N qual scope f cd A outer s H E) [] σ H' { s' with heap := h2 } := I1.redo cov1 air1.frm air2.stay up2
 have cov2 := Cov.redo plain_cx I1 cov1 air2.stay
 refine ⟨a, H', B, cls, a0, rfl, I2.os, I2.bare, I2.base, I2.hok, ⟨air2.stay, air2.new, ?_⟩, tr2, nd2, fun b o e0 q0 n => ?_, r⟩
 . obtain ⟨_, _, k⟩ := air2.frm
   exact k
 . refine cov2 b o e0 ?_ fun z => ?_
   . rcases q0 with q0 | q0
     . exact .inl q0
     . exact .inr (.inl q0)
   . rcases List.mem_cons.mp (I2.stkSub b z) with q | q
     . subst q
       rcases q0 with q0 | ⟨o0, q0⟩
       . exact q0 I2.free
       . exact absurd (Nat.lt_of_lt_of_le (Heap.lt_size q0) I2.ok.above) (Nat.lt_irrefl _)
     . exact n q
noncomputable abbrev Cx.by (X : Cx) (R : RX) : Cx := X.wish (XS X R)
theorem PSs.unthr {X : Cx} {R : RX} {st : List Stmt} {t : TS} (T : Thr X R) (h : PSs (X.by R) st t) : PSs X st t := fun pins s σ H D I hw =>
 wpAny_mono (h pins s σ H D (I.wish _) hw) (fun _ _ q => q.unwish) fun e s' q => T e s' q
abbrev rE (E : XK) : RX := fun _ H' cls _ => E cls none H'
theorem Fun.okX {P : Program} {w : World} {K : PySem.W.Frag} {mg : Str -> Option Value} {base : Heap} {x qual : Str} {st : Stmt} {f : Addr} {fd : FuncData} {N ps : List Str} {k : Nat} {sp : Sp} (F : Fun K x qual st f fd) (S : FnScope N ps (a0c st)) (len : ∀ vs H Q E, sp vs H Q E -> vs.length = ps.length)
   (hbody : ∀ (cdv : Value) (A : Around) (outer : List Env) (s : Shared) (H : Hp) (vs : List V) (Q : VK) (E : XK), Room k (A.deeper (envOfC qual (a0c st) s.heap.objs.size f cdv)) -> sp vs H Q E ->
     ∃ t, PSs ((cxOf (CXE P w) P w K mg base N qual (a0c st) f cdv A outer s H E).by (rE E)) (a0u st) t /\ t { nx := fun _ H' => Q .non H', rt := Q } (start N vs) H) : FnOk P w K mg base (CXE P w) (k + 1) f fd ps sp := by
 obtain ⟨oc, od, kV, doc, pm, an, cdv, ct, osl, rfl, lk, hcd⟩ := F.ex
 refine fn_of lk hcd S len fun A outer s H vs Q E hr hsp => ?_
 obtain ⟨t, h, q⟩ := hbody cdv A outer s H vs Q E hr hsp
 exact ⟨t, h.unthr b1q, q⟩
section
variable {X : Cx} {k : Nat} {f C : Addr} {fd : FuncData} {ps : List Str} {sp : Sp} {R : RX} {x m : Str} {p pos apos : Pos} {e o : Expr} {es : List Expr} {ta : TE} {t : TA}
theorem a9z {pins : List (Addr × Obj)} {σ : St} {H : Hp} {s : Shared} {Q : VK} {us : List Value} {vs : List V} (F : FnOk X.prog X.w X.K X.mg X.base (CXE X.prog X.w) k f fd ps sp) (hr : Room k X.A) (hb : Binds X.K fd ps []) (T : Thr X R) (Pl : Plain X)
   (I : Inv X pins σ H s) (r : Vals vs us) (h : sp vs H Q (fun cls _ H' => ∀ a, R σ H' cls a)) : wpAny (model X.prog X.w) X.A (call (.ref f) us) (EP X pins σ Q) X.xe s := by
 have hl : us.length = ps.length := by rw [<- r.length]; exact F.len _ _ _ _ h
 have hb' := hb s us I.kIn (by rw [List.append_nil]; exact hl)
 rw [List.append_nil] at hb'
 refine wpAny_call (codeAny_mono (F.run X.A X.stack s H ⟨us, []⟩ us vs Q _ hr I.env0 hb' r h) fun r s' hq => ?_)
 cases r with
 | error e => exact T.call Pl I hq
 | ok fl =>
   cases fl with
   | ret u => exact I.after hq
   | next => exact False.elim hq
   | brk => exact False.elim hq
   | cont => exact False.elim hq
def tCallX (sp : Sp) (R : RX) (t : TA) : TE := fun σ H Q => t σ H fun vs H1 => sp vs H1 Q (fun cls _ H' => ∀ a, R σ H' cls a)
def tMethX (C : Addr) (m : Str) (sp : Sp) (R : RX) (ta : TE) (t : TA) : TE := fun σ H Q => ta σ H fun x H1 => ∃ a dx fs, x = .ref a /\ H1 a = some (.ins C dx fs) /\ fs.lookup m = none /\
 t σ H1 fun vs H2 => sp (x :: vs) H2 Q (fun cls _ H' => ∀ a, R σ H' cls a)
theorem b6o (h : Has X.prog X.w X.K X.mg X.base (CXE X.prog X.w) k x ps sp) (hr : Room k X.A) (hg : Gl X x) (T : Thr X R) (Pl : Plain X) (ha : PA X (e :: es) t)
   (hdb : (x == ("__debug__" : Str)) = false := by decide) (he : starEach (e :: es) X.env = (false, eval e X.env) :: starEach es X.env := by rfl) (hpl : (backTo pos (starEach es X.env)).any (·.1) = false := by rfl) :
   PE X (.Call (.Name x p) (e :: es) [] pos) (tCallX sp R t) := by
 intro pins s σ H Q I hw
 obtain ⟨f, fd, F, hm, hk, hb⟩ := h.ex
 refine wpAny_Call_Name_kw (a29 I hg hm ?_ hdb)
 refine PySem.W.callWith_K (h₀ := X.base) I.ok.mod.kin hk (thn (ha pos pins s σ H _ I hw) fun us s1 ⟨vs, H1, I1, r, q⟩ => ⟨I1.kIn, ?_⟩) he hpl
 exact a9z F hr hb T Pl I1 r q
structure HasM (P : Program) (w : World) (K : PySem.W.Frag) (mg : Str -> Option Value) (base : Heap) (CX : CXT) (k : Nat) (C : Addr) (m : Str) (ps : List Str) (sp : Sp) : Prop where
 cl : Cls K C
 ex : ∃ f fd, FnOk P w K mg base CX k f fd ps sp /\ Meth K C m f /\ Binds K fd ps []
theorem b6l {pl : Sem Bool} (h : HasM X.prog X.w X.K X.mg X.base (CXE X.prog X.w) k C m ps sp) (hr : Room k X.A) (T : Thr X R) (Pl : Plain X) (ho : PE X o ta) (ha : PA X (e :: es) t)
   (hst : starEach (e :: es) X.env = (false, eval e X.env) :: starEach es X.env := by rfl) (hpl : (backTo pos (starEach es X.env)).any (·.1) = false := by rfl)
   (ht : eval (.Call (.Attribute o m apos) (e :: es) [] pos) X.env = (do
     let ov <- eval o X.env
     standAt apos.atName
     let (f, first) <- holding [ov] (getMethod ov m pl)
     callWith pos f first (backTo pos (starEach (e :: es) X.env)) (backToKw pos (keywordEach [] X.env))) := by rfl) :
   PE X (.Call (.Attribute o m apos) (e :: es) [] pos) (tMethX C m sp R ta t) := by
 intro pins s σ H Q I hw
 obtain ⟨f, fd, F, hm, hb⟩ := h.ex
 refine PySem.W.methodCall_KW (pl := pl) (thn (ho pins s σ H _ I hw) fun u s1 ⟨x, H1, I1, rx, a, dx, fs, ex, ea, l, q⟩ => ?_) ht
 subst ex
 obtain rfl : u = Value.ref a := rx
 refine a7i I1 ea h.cl hm l ?_
 refine PySem.W.callWith_K (first := [.ref a]) (h₀ := X.base) I.ok.mod.kin hm.kp (thn (ha pos pins s1 σ H1 _ I1 q) fun us s2 ⟨vs, H2, I2, r, q2⟩ => ⟨I2.kIn, ?_⟩) hst hpl
 exact a9z (us := .ref a :: us) (vs := .ref a :: vs) F hr hb T Pl I2 (.cons rfl r) q2
end
abbrev bmV : List Value := [.type "ValueError", .type "Exception", .type "BaseException", .type "object"]
structure ExCls (K : PySem.W.Frag) (mg : Str -> Option Value) (x : Str) (C : Addr) : Prop where
 bound : mg x = some (.ref C)
 exc : PySem.W.excIn K C bmV "ValueError.__new__" = true
theorem ExCls.obj {K : PySem.W.Frag} {mg : Str -> Option Value} {x : Str} {C : Addr} (O : ExCls K mg x C) {h : Heap} (X : K.In h) :
   ∃ bm N nm q bs hdct sn sub ab col dd k0 k1 k2 k3 k5 mN, h.get? C = some (excClassObj nm q C N bs bm hdct sn sub ab col dd k0 k1 k2 k3 k5 "ValueError.__new__") /\ h.Ns N mN /\ mN "__init__" = none /\ OwnTail h bmV bm := by
 have q := O.exc
 unfold PySem.W.excIn at q
 split at q
 . rename_i dd cd sl ho
   split at q
   . rename_i C' bm k0 k1 k2 k3 n k5 hm hs
     simp only [Bool.and_eq_true, beq_iff_eq, Bool.not_eq_true'] at q
     obtain ⟨⟨⟨⟨⟨rfl, rfl⟩, hdel⟩, ht⟩, hok⟩, hni⟩ := q
     obtain ⟨nm, bs, mro, ns, qn, hd, sn, sub, ab, col, del⟩ := cd
     dsimp only at hm hdel hok hni
     subst hm hdel
     have hsl : sl = #[k0, k1, k2, k3, some (.builtin "ValueError.__new__"), k5] := by
       obtain ⟨l⟩ := sl
       simp only at hs
       rw [hs]
     subst hsl
     exact ⟨bm, ns, nm, qn, bs, hd, sn, sub, ab, col, dd, k0, k1, k2, k3, k5, _, X _ _ ho, .of_isNs (PySem.W.isNs_of_in X hok), PySem.W.nsMap_none_of_in X hok hni, PySem.W.tail_of_in X ht⟩
   . cases q
 . cases q
section
variable {X : Cx} {R : RX} {x : Str} {C : Addr} {np cpos pos : Pos} {e : Expr} {es : List Expr} {t : TA}
theorem XS.made (Pl : Plain X) {pins : List (Addr × Obj)} {σ : St} {H : Hp} {s : Shared} {h' : Heap} {a : Addr} {us : List Value} (I : Inv X pins σ H s) (hx : Heap.MadeExcOf s.heap h' a (.ref C) us) (r : R σ H (.ref C) a) : XS X R (.ref a) { s with heap := h' } := by
 obtain ⟨tt, he, htn, htt⟩ := hx.there
 have I1 : Inv X [] σ H { s with heap := h' } := (I.kept (t' := s.toks) hx.keeps).pins_of fun p hp => absurd hp (by simp)
 refine ⟨a, σ, H, PySem.W.hideAll s.heap (frs X.stack), .ref C, .ref tt, none, rfl, I1, ⟨⟨fun b o q => hx.keeps _ _ (PySem.W.of_hideAll _ q), ?_, ?_⟩, ⟨_, _, he, rfl, rfl, rfl, rfl⟩, .inl rfl, fun b o q old n => ?_, ⟨_, _, he, rfl, rfl, rfl⟩⟩, r⟩
 . cases q : (PySem.W.hideAll s.heap (frs X.stack)).get? a with
   | none => rfl
   | some o =>
     have := PySem.W.of_hideAll _ q
     rw [hx.new] at this; cases this
 . refine Heap.FunFrames.of_keeps (fun b o q _ => ⟨o, hx.keeps b o q, rfl⟩) (PySem.W.funFrames_hide I.stack fun env he a ha => ?_)
   exact List.mem_filterMap.mpr ⟨env, he, ha⟩
 . obtain ⟨ob, e0⟩ := I.old Pl old
   have e1 := hx.keeps _ _ e0
   rw [q] at e1; cases e1
   exact PySem.W.hideAll_get _ e0 n
noncomputable def tRaise (R : RX) (C : Addr) (t : TA) : TS := fun _ σ H => t σ H fun vs H1 => vs.length <= sizeLine /\ ∀ a, R σ H1 (.ref C) a
theorem b6h (T : Thr X R) (Pl : Plain X) (O : ExCls X.K X.mg x C) (hc : X.calm = true) (hg : Gl X x) (ha : PA X (e :: es) t)
   (hd : (x == ("__debug__" : Str)) = false := by decide) (he : starEach (e :: es) X.env = (false, eval e X.env) :: starEach es X.env := by rfl) (hpl : (backTo cpos (starEach es X.env)).any (·.1) = false := by rfl) :
   PS X (.Raise (some (.Call (.Name x np) (e :: es) [] cpos)) none pos) (tRaise R C t) := by
 intro pins s σ H D I hw
 obtain ⟨tl, N, nm, q, bs, hdct, sn, sub, ab, col, dd, k0, k1, k2, k3, k5, mN, hC, hN, hni, Tl⟩ := O.obj I.ok.mod.kin
 refine wpAny_Raise_call_subT (C := C) (nm := nm) (q := q) (N := N) (bs := bs) (bm := tl) (hdct := hdct) (sn := sn) (sub := sub) (ab := ab) (col := col) (dd := dd) (k0 := k0) (k1 := k1) (k2 := k2) (k3 := k3) (k5 := k5)
   PySem.F.excBase_ValueError (mN := mN) (Tl.hasType PySem.F.excBase_ValueError.hasBase) (I.ok.hd hc) (by rw [he]; show (false || (backTo cpos (starEach es X.env)).any (·.1)) = false; rw [hpl]; rfl) hni (a29 I hg O.bound ⟨rfl, ?_⟩ hd)
 rw [he]
 have h2 := ha cpos pins s σ H _ I hw
 rw [he] at h2
 refine Calls.evalArgs_plain (wpAny_mono h2 (fun us s2 ⟨vs, H2, I2, r2, z2, q2⟩ => ⟨rfl, by rw [<- r2.length]; exact z2, I2.bk _ _ hC, hN.keeps I2.bk, Tl.keeps I2.bk, fun h' a hx => ?_⟩) fun _ _ y => y)
 exact T _ _ (XS.made Pl I2 hx (q2 a))
end
noncomputable abbrev Cx.pin (X : Cx) (pn : List (Addr × Obj)) : Cx := { X with pn := pn }
section
variable {X : Cx} {pins : List (Addr × Obj)} {σ : St} {H : Hp} {s : Shared}
theorem Cx.Ok.pin (ok : X.Ok) (pn : List (Addr × Obj)) : (X.pin pn).Ok :=
 ⟨ok.mod, ok.kind, ok.glob, ok.blt, ok.above, ok.inj, ok.has, ok.cab, ok.hd, ok.frames, ok.stk, ok.exf, ok.bs, ok.bsz, ok.noex, ok.exfs, ok.funs, ok.frf⟩
theorem Cx.Ok.unpin {pn : List (Addr × Obj)} (ok : (X.pin pn).Ok) : X.Ok :=
 ⟨ok.mod, ok.kind, ok.glob, ok.blt, ok.above, ok.inj, ok.has, ok.cab, ok.hd, ok.frames, ok.stk, ok.exf, ok.bs, ok.bsz, ok.noex, ok.exfs, ok.funs, ok.frf⟩
theorem Inv.topin (I : Inv X pins σ H s) : Inv (X.pin (X.pn ++ pins)) [] σ H s :=
 ⟨I.ok.pin _, I.os, I.bare, I.base, I.loc, I.cell, I.free, I.freeC, fun p hp => I.pin p (by simpa using hp), I.hok, I.len⟩
theorem Inv.ofpin (I : Inv (X.pin (X.pn ++ pins)) [] σ H s) : Inv X pins σ H s :=
 ⟨I.ok.unpin, I.os, I.bare, I.base, I.loc, I.cell, I.free, I.freeC, fun p hp => I.pin p (by simpa using hp), I.hok, I.len⟩
theorem SP.ofpin {D : Ends} {f : Flow} {s' : Shared} (h : SP (X.pin (X.pn ++ pins)) [] D f s') : SP X pins D f s' := by
 cases f with
 | next => obtain ⟨σ', H', I, q⟩ := h; exact ⟨σ', H', I.ofpin, q⟩
 | brk => obtain ⟨σ', H', I, q⟩ := h; exact ⟨σ', H', I.ofpin, q⟩
 | cont => obtain ⟨σ', H', I, q⟩ := h; exact ⟨σ', H', I.ofpin, q⟩
 | ret u => obtain ⟨v, σ', H', I, r, q⟩ := h; exact ⟨v, σ', H', I.ofpin, r, q⟩
theorem Plain.pin (P : Plain X) (pn : List (Addr × Obj)) : Plain (X.pin pn) := ⟨P.stk, P.frm, P.ex⟩
end
noncomputable abbrev TH := Ends -> Value -> Addr -> St -> Hp -> Prop
def PH (X : Cx) (hs : List ExceptHandler) (t : TH) : Prop :=
 ∀ (s : Shared) (σ : St) (H : Hp) (D : Ends) (B : Heap) (a : Addr) (cls a0 : Value), Inv X [] σ H s -> Exn X H B a cls a0 (some .none) s.heap -> t D cls a σ H ->
   wpAny (model X.prog X.w) X.A (handleBy (.ref a) X.env hs) (SP X [] D) X.xe s
noncomputable def tTry (tb : RX -> TS) (th : TH) (to : TS) : TS := fun D σ H => tb (fun σ' H' cls a => th D cls a σ' H') { D with nx := to D } σ H
theorem ps_try {X : Cx} {body orelse : List Stmt} {h₀ : ExceptHandler} {hs : List ExceptHandler} {pos : Pos} {tb : RX -> TS} {th : TH} {to : TS} (Pl : Plain X)
   (hb : ∀ pn R, PSs ((X.pin pn).by R) body (tb R)) (hh : ∀ pn, PH (X.pin pn) (h₀ :: hs) th) (ho : PSs X orelse to) : PS X (.Try body (h₀ :: hs) orelse [] pos) (tTry tb th to) := by
 intro pins s σ H D I hw
 refine wpAny_Try_except (wpAny_mono (hb (X.pn ++ pins) _ [] s σ H _ (I.topin.wish _) hw) (fun f s1 q => ?_) (fun e s1 hx => ?_))
 . have q' : SP X pins { D with nx := to D } f s1 := SP.ofpin (SP.unwish q)
   cases f with
   | next =>
     obtain ⟨σ', H', I1, q1⟩ := q'
     exact ho pins s1 σ' H' D I1 q1
   | brk => exact q'
   | cont => exact q'
   | ret u => exact q'
 . obtain ⟨a, σ1, H1, B, cls, a0, m, rfl, I1, ex, r⟩ := hx
   have hfr : X.A.frames = some (X.env :: X.outer) := by rw [I.ok.frames, Pl.stk]
   have air : Air B (X.env :: X.outer) a s1.heap := by have := ex.air; rw [show (X.pin (X.pn ++ pins)).stack = X.env :: X.outer from Pl.stk] at this; exact this
   refine b0a hfr Pl.frm air ex.tr ex.nd ex.md fun h1 air1 tr1 nd1 up1 => ?_
   have I2 : Inv (X.pin (X.pn ++ pins)) [] σ1 H1 { s1 with heap := h1 } := I1.redo ex.cov ex.air.frm air1.stay up1
   have cov2 := Cov.redo (Pl.pin _) I1 ex.cov air1.stay
   have air1' : Air B (X.pin (X.pn ++ pins)).stack a h1 := by rw [show (X.pin (X.pn ++ pins)).stack = X.env :: X.outer from Pl.stk]; exact air1
   refine a2m (s := { s1 with heap := h1 }) (f := none) air1' tr1 nd1 fun h2 air2 tr2 nd2 up2 => ?_
   have I3 : Inv (X.pin (X.pn ++ pins)) [] σ1 H1 { s1 with heap := h2 } := I2.redo cov2 air1'.frm air2.stay up2
   have cov3 := Cov.redo (Pl.pin _) I2 cov2 air2.stay
   exact wpAny_mono (hh (X.pn ++ pins) { s1 with heap := h2 } σ1 H1 D B a cls a0 I3 ⟨air2, tr2, .inr (.inl rfl), cov3, nd2⟩ r) (fun f s4 q => q.ofpin) fun _ _ q => q
section
variable {X : Cx} {R : RX}
theorem ph_nil (T : Thr X R) (Pl : Plain X) : PH X [] (fun _ cls a σ H => R σ H cls a) := by
 intro s σ H D B a cls a0 I ex r
 obtain ⟨oe, vs, Tb, oT, ts, he, hcls, hd, hv1, _⟩ := id ex.tr
 refine wpAny_handleBy_nil ?_
 unfold PySem.passOn
 refine wpAny_bind (wpAny_field he hd hv1 ?_)
 rw [if_neg (show ¬ ((Value.ref Tb == Value.none) = true) from by simp)]
 rw [Pl.frm]
 have key : wpAny (model X.prog X.w) X.A (do setFlight (.ref a) (some X.env.locals); throw (.ref a)) (SP X [] D) X.xe s :=
   wpAny_bind (a2m (f := some X.env.locals) ex.air ex.tr ex.nd fun h2 air2 tr2 nd2 up2 => wpAny_throw (T _ _ ⟨a, σ, H, B, cls, a0, some (rawInt X.env.locals), rfl, I.redo ex.cov ex.air.frm air2.stay up2, ⟨air2, tr2, .inr (.inr rfl), Cov.redo Pl I ex.cov air2.stay, nd2⟩, r⟩))
 first
   | exact wpAny_bind (wpAny_pure key)
   | exact key
def excφ (a : Addr) (cls : Value) : Heap -> Prop := fun h => ∃ o vs, h.get? a = some o /\ o.cls = cls /\ o.dict = none /\ o.data = .fields vs /\ vs[2]? = some .none
theorem Exn.fresh {H : Hp} {B : Heap} {a : Addr} {cls a0 : Value} {m : Option Value} {s : Shared} {σ : St} (Pl : Plain X) (I : Inv X [] σ H s) (ex : Exn X H B a cls a0 m s.heap) : ¬ Old X H a := fun old => by
 obtain ⟨oe, vs, he, hd⟩ : ∃ oe vs, s.heap.get? a = some oe /\ oe.data = .fields vs := by
   have tr := ex.tr
   cases m with
   | none => obtain ⟨oe, vs, he, _, hd, _⟩ := tr; exact ⟨oe, vs, he, hd⟩
   | some fl => obtain ⟨oe, vs, T, oT, ts, he, hcls, hd, _⟩ := tr; exact ⟨oe, vs, he, hd⟩
 have := ex.cov a oe he old fun z => by
   obtain ⟨_, o, e, nd⟩ := ex.air.frm.mem z
   rw [he] at e; cases e
   exact nd _ hd
 rw [ex.air.new] at this
 cases this
theorem Inv.track {H : Hp} {B : Heap} {a : Addr} {cls a0 : Value} {m : Option Value} {s : Shared} {σ : St} (Pl : Plain X) (I : Inv X [] σ H s) (ex : Exn X H B a cls a0 m s.heap) : Inv X [] σ (upd H a (.ext (excφ a cls))) s := by
 have nf := ex.fresh Pl I
 have hn : H a = none := by
   cases q : H a with
   | none => rfl
   | some u => exact absurd (.inl (by rw [q]; simp)) nf
 obtain ⟨oe, vs, he, hc, hdn, hdv⟩ : ∃ oe vs, s.heap.get? a = some oe /\ oe.cls = cls /\ oe.dict = none /\ oe.data = .fields vs /\ vs[2]? = some .none := by
   have tr := ex.tr
   obtain ⟨ox, vx, hox, hdx, hvx, hv2⟩ := ex.nd
   cases m with
   | none => obtain ⟨oe, vs, he, hc, hd, _⟩ := tr; rw [hox] at he; cases he; exact ⟨ox, vx, hox, hc, hdx, hvx, hv2⟩
   | some fl => obtain ⟨oe, vs, T, oT, ts, he, hcls, hd, _⟩ := tr; rw [hox] at he; cases he; exact ⟨ox, vx, hox, hcls.1, hdx, hvx, hv2⟩
 have ne : ∀ b u, H b = some u -> b ≠ a := fun b u q z => by subst z; rw [hn] at q; cases q
 refine ⟨I.ok, I.os, I.bare, ⟨I.base.keep, I.base.slot, fun b o e n hx => ?_, I.base.there, fun b xs e => ?_, fun b o u e => ?_, fun b ps e => ?_⟩, I.loc, I.cell, ?_, fun x c e => ?_, fun p hp => ?_, fun b u q => ?_, I.len⟩
 . rw [a0l (show b ≠ a from fun z => nf (.inr (.inl ⟨o, by rw [<- z]; exact e⟩)))]
   exact I.base.free b o e n hx
 . have e' := I.base.tups b xs e
   rw [a0l (ne b _ e')]; exact e'
 . have e' := I.base.frzs b o u e
   rw [a0l (ne b _ e')]; exact e'
 . obtain ⟨m1, e'⟩ := I.base.tbls b ps e
   exact ⟨m1, by rw [a0l (ne b _ e')]; exact e'⟩
 . rw [a0l (fun z => nf (.inr (.inr (.inr (.inr z.symm)))))]
   exact I.free
 . rw [a0l (show c ≠ a from fun z => nf (.inr (.inr (.inl ⟨x, by rw [<- z]; exact e⟩))))]
   exact I.freeC x c e
 . obtain ⟨e, n, n1, n2, d⟩ := I.pin p hp
   have hp' : p ∈ X.pn := by simpa using hp
   exact ⟨e, by rw [a0l (fun z => nf (.inr (.inr (.inr (.inl ⟨p, hp', z⟩)))))]; exact n, n1, n2, d⟩
 . by_cases hb : b = a
   . subst hb
     rw [a0p] at q
     cases q
     exact ⟨⟨oe, vs, he, hc, hdn, hdv⟩, ⟨oe, he⟩, fun h1 h2 ⟨o, ws, e1, c1⟩ k => ⟨o, ws, k o e1, c1⟩⟩
   . rw [a0l hb] at q
     exact (I.hok b u q).stay (fun _ _ _ r => r) (fun c r => by rw [a0l (ne c _ r)]; exact r) fun c xs r => by rw [a0l (ne c _ r)]; exact r
end
noncomputable abbrev Cx.hand (X : Cx) (a : Addr) : Cx := { X with A := X.A.mark (some (.ref a)), calm := false, xe := fun _ _ => False }
section
variable {X : Cx} {pins : List (Addr × Obj)} {σ : St} {H : Hp} {s : Shared}
theorem Cx.Ok.hand (ok : X.Ok) (a : Addr) : (X.hand a).Ok :=
 ⟨ok.mod, ok.kind, ok.glob, ok.blt, ok.above, ok.inj, ok.has, ok.cab, fun z => absurd z (by simp), ok.frames, ok.stk, ok.exf, ok.bs, ok.bsz, ok.noex, ok.exfs, ok.funs, ok.frf⟩
theorem Inv.hand (I : Inv X pins σ H s) (a : Addr) : Inv (X.hand a) pins σ H s :=
 ⟨I.ok.hand a, I.os, I.bare, I.base, I.loc, I.cell, I.free, I.freeC, I.pin, I.hok, I.len⟩
theorem Inv.unhand {a : Addr} (ok : X.Ok) (I : Inv (X.hand a) pins σ H s) : Inv X pins σ H s :=
 ⟨ok, I.os, I.bare, I.base, I.loc, I.cell, I.free, I.freeC, I.pin, I.hok, I.len⟩
theorem SP.unhand {a : Addr} {D : Ends} {f : Flow} {s' : Shared} (ok : X.Ok) (h : SP (X.hand a) pins D f s') : SP X pins D f s' := by
 cases f with
 | next => obtain ⟨σ', H', I, q⟩ := h; exact ⟨σ', H', I.unhand ok, q⟩
 | brk => obtain ⟨σ', H', I, q⟩ := h; exact ⟨σ', H', I.unhand ok, q⟩
 | cont => obtain ⟨σ', H', I, q⟩ := h; exact ⟨σ', H', I.unhand ok, q⟩
 | ret u => obtain ⟨v, σ', H', I, r, q⟩ := h; exact ⟨v, σ', H', I.unhand ok, r, q⟩
end
section
variable {X : Cx} {x n : Str} {C : Addr} {np hp : Pos} {b₀ : Stmt} {suite : List Stmt} {rest : List ExceptHandler} {ts : Addr -> TS} {tr : TH}
theorem a6o {s : Shared} {σ : St} {H : Hp} {B : Heap} {a : Addr} {cls a0 c : Value} {b : Bool} {A : Around} {E : Value -> Shared -> Prop} {Q : Bool -> Shared -> Prop} (I : Inv X [] σ H s) (ex : Exn X H B a cls a0 (some .none) s.heap)
   (hx : PySem.W.exmOne X.K cls c = some b) (q : Q b s) : wpAny (model X.prog X.w) A (excMatches (.ref a) c) Q E s := by
 obtain ⟨oe, vs, Tb, oT, tt, he, hcls, hd, hv1, _⟩ := id ex.tr
 obtain ⟨rfl, _⟩ := hcls
 exact (PySem.W.exm_one I.kIn ((PySem.W.Looks.ld he).andThen .now) hx).here q
theorem ph_cons (Pl : Plain X) (hm : X.mg x = some (.ref C)) (hg : Gl X x) (hs : ∀ a, PSs (X.hand a) (b₀ :: suite) (ts a)) (hr : PH X rest tr) (hd : (x == ("__debug__" : Str)) = false := by decide) :
   PH X (.ExceptHandler (some (.Name x np)) none (b₀ :: suite) hp :: rest)
     (fun D cls a σ H => ∃ b, PySem.W.exmOne X.K cls (.ref C) = some b /\ if b = true then ts a D σ H else tr D cls a σ H) := by
 intro s σ H D B a cls a0 I ex hw
 obtain ⟨b, hx, hw⟩ := hw
 refine wpAny_handleBy_cons (codeAny_handlers_test ?_) (by intro q; cases q)
 refine a29 (X := X.hand a) (I.hand a) hg hm (a6o I ex hx ?_) hd
 cases b with
 | false => exact hr s σ H D B a cls a0 I ex hw
 | true =>
   refine codeAny_handlers_suite ?_
   refine a2m (f := none) ex.air ex.tr ex.nd fun h2 air2 tr2 nd2 up2 => ?_
   have I2 := I.redo ex.cov ex.air.frm air2.stay up2
   exact wpAny_mono (hs a [] _ σ H D (I2.hand a) hw) (fun f s' q => q.unhand I.ok) fun _ _ z => z.elim
theorem ph_as {i : Nat} (Pl : Plain X) (hN : X.N.Nodup) (hi : X.N[i]? = some n) (hl : X.env.scope.names.lookup n = some .local) (hm : X.mg x = some (.ref C)) (hg : Gl X x) (hs : ∀ a, PSs (X.hand a) (b₀ :: suite) (ts a)) (hr : PH X rest tr)
   (hd : (x == ("__debug__" : Str)) = false := by decide) :
   PH X (.ExceptHandler (some (.Name x np)) (some n) (b₀ :: suite) hp :: rest)
     (fun D cls a σ H => ∃ b, PySem.W.exmOne X.K cls (.ref C) = some b /\
       if b = true then H a = none -> ts a { nx := fun σ' H' => D.nx (σ'.set i none) H', rt := D.rt, bk := fun σ' H' => D.bk (σ'.set i none) H', ct := fun σ' H' => D.ct (σ'.set i none) H' } (σ.set i (some (.ref a))) (upd H a (.ext (excφ a cls)))
       else tr D cls a σ H) := by
 intro s σ H D B a cls a0 I ex hw
 obtain ⟨b, hx, hw⟩ := hw
 refine wpAny_handleBy_cons (codeAny_handlers_test ?_) (by intro q; cases q)
 refine a29 (X := X.hand a) (I.hand a) hg hm (a6o I ex hx ?_) hd
 cases b with
 | false => exact hr s σ H D B a cls a0 I ex hw
 | true =>
   have hna : H a = none := by
     cases q : H a with
     | none => rfl
     | some u => exact absurd (.inl (by rw [q]; simp)) (ex.fresh Pl I)
   have hw := hw hna
   refine codeAny_handlers_suite_as ?_
   refine a2m (f := none) ex.air ex.tr ex.nd fun h2 air2 tr2 nd2 up2 => ?_
   have I2 := I.redo ex.cov ex.air.frm air2.stay up2
   have ex2 : Exn X H B a cls a0 (some .none) h2 := ⟨air2, tr2, .inr (.inl rfl), Cov.redo Pl I ex.cov air2.stay, nd2⟩
   have I3 := Inv.track Pl I2 ex2
   refine a31 (X := X.hand a) (I3.hand a) hN hi (.inl hl) (v := .ref a) rfl (fun s3 I4 => ?_) (.inr hl)
   -- behind the suite the name goes
   have goes : ∀ {σ' : St} {H' : Hp} {s' : Shared} {A : Around} {E : Value -> Shared -> Prop} {Q : Unit -> Shared -> Prop}, Inv (X.hand a) [] σ' H' s' -> (∀ s'', Inv X [] (σ'.set i none) H' s'' -> Q () s'') ->
       wpAny (model X.prog X.w) A (do bindName X.env n .none; unbindBehindTheSuite X.env n hp) Q E s' := by
     intro σ' H' s' A E Q J k
     have J := J.unhand I.ok
     obtain ⟨m, hn, hlk⟩ := id J.loc
     have hcls : (X.env.scope.kind == .class || (X.env.scope.kind == .module && X.env.locals != X.env.globals)) = false := by rw [J.ok.kind]; rfl
     refine wpAny_nameGoes_keeps (show X.env.kindOf n = some .local from hl) hn hcls fun h' v hn' sb => k _ ?_
     have hcl : ∀ y c, X.env.cells.lookup y = some c -> ∀ u, s'.heap.IsCell c u -> h'.IsCell c u := fun y c e u z => z.sameBut sb (J.cne y c e)
     have sm : ∀ b, b ≠ X.env.locals -> h'.get? b = s'.heap.get? b := fun b hb => sb.2 b hb
     refine ⟨J.ok, J.os, J.bare, ⟨fun b o e n hb hx => ?_, fun b o e n hb hx => ?_, J.base.free, fun b o e hx => ?_, J.base.tups, J.base.frzs, J.base.tbls⟩, ⟨_, hn', fun j y v' e1 e2 e3 => ?_⟩, fun y c e => ?_, J.free, J.freeC, fun p hp => ?_, fun b u q => ?_, by rw [List.length_set]; exact J.len⟩
     . exact (sm b (Nat.ne_of_lt (Nat.lt_of_lt_of_le (Heap.lt_size e) J.ok.above))).trans (J.base.keep b o e n hb hx)
     . obtain ⟨sl, e1⟩ := J.base.slot b o e n hb hx
       exact ⟨sl, (sm b (Nat.ne_of_lt (Nat.lt_of_lt_of_le (Heap.lt_size e) J.ok.above))).trans e1⟩
     . obtain ⟨o', e1⟩ := J.base.there b o e hx
       exact ⟨o', (sm b (Nat.ne_of_lt (Nat.lt_of_lt_of_le (Heap.lt_size e) J.ok.above))).trans e1⟩
     . have hj : j ≠ i := by
         rintro rfl
         rw [List.getElem?_set_self (by
           have := (List.getElem?_eq_some_iff.mp hi).1
           rw [J.len]; exact this)] at e2
         cases e2
       rw [List.getElem?_set_ne (Ne.symm hj)] at e2
       obtain ⟨u, r, l⟩ := hlk j y v' e1 e2 e3
       refine ⟨u, r, ?_⟩
       rcases l with ⟨k1, e⟩ | ⟨k1, c, e, z⟩
       . refine .inl ⟨k1, ?_⟩
         have : y ≠ n := fun e => hj (a74 hN e1 (e ▸ hi))
         simp [this, e]
       . exact .inr ⟨k1, c, e, hcl y c e _ z⟩
     . obtain ⟨u, z⟩ := J.cell y c e
       exact ⟨u, hcl y c e u z⟩
     . obtain ⟨e, n1, n2, n3, d⟩ := J.pin p hp
       exact ⟨(sm p.1 n2).trans e, n1, n2, n3, d⟩
     . have hnl : ∀ c u, H' c = some u -> c ≠ X.env.locals := fun c u e z => by rw [z, J.free] at e; cases e
       refine (J.hok b u q).stay (fun c v hc r => (sm c ?_).trans r) (fun _ r => r) fun _ _ r => r
       rcases hc with rfl | hc
       . exact hnl c _ q
       . exact hnl c _ hc
   refine wpAny_mono (hs a [] s3 _ _ _ I4 hw) (fun f s' q => ?_) fun _ _ z => z.elim
   cases f with
   | next =>
     obtain ⟨σ', H', J, q⟩ := q
     exact goes J fun s'' J' => ⟨_, H', J', q⟩
   | brk =>
     obtain ⟨σ', H', J, q⟩ := q
     exact goes J fun s'' J' => ⟨_, H', J', q⟩
   | cont =>
     obtain ⟨σ', H', J, q⟩ := q
     exact goes J fun s'' J' => ⟨_, H', J', q⟩
   | ret u =>
     obtain ⟨v, σ', H', J, r, q⟩ := q
     exact goes J fun s'' J' => ⟨v, _, H', J', r, q⟩
end
structure CompOk (X : Cx) (scope : Scope) (cl : List (Str × Addr)) (Nc : List Str) (js : List (Option Nat)) : Prop where
 clos : closureFor scope X.env = pure cl
 sub : ∀ n c, cl.lookup n = some c -> X.env.cells.lookup n = some c
 cell : ∀ y ∈ scope.names, y.2 ≠ .cell
 kind : scope.kind = .function
 names : ∀ x ∈ scope.names, x.2 = .local -> scope.names.lookup x.1 = some .local
 has : ∀ x, ((relabel scope X.env).names.lookup x = some .cell \/ (relabel scope X.env).names.lookup x = some .free) -> ∃ c, cl.lookup x = some c
 len : js.length = Nc.length
 free : ∀ (k j : Nat), js[k]? = some (some j) -> ∃ x c, Nc[k]? = some x /\ X.N[j]? = some x /\ X.env.scope.names.lookup x = some .cell /\ cl.lookup x = some c /\ (relabel scope X.env).names.lookup x = some .cell
noncomputable abbrev a0o (X : Cx) (pins : List (Addr × Obj)) (Nc : List Str) (scope : Scope) (cl : List (Str × Addr)) (C : Addr) (fp : List Addr) (s : Shared) (H : Hp) : Cx :=
 { X with N := Nc, s₀ := s, H₀ := H, env := compEnvC scope cl C X.env, outer := X.stack, stack := X.stack, ex := fp, fn := fun _ => false, pn := X.pn ++ pins, xe := fun _ _ => False }
noncomputable def sigC (js : List (Option Nat)) (σ : St) : St := js.map fun o => o.bind fun j => (σ[j]?).join
section
variable {X : Cx} {pins : List (Addr × Obj)} {σ : St} {H : Hp} {s : Shared} {Nc : List Str} {scope : Scope} {cl : List (Str × Addr)} {js : List (Option Nat)} {fp : List Addr}
theorem a7j (O : CompOk X scope cl Nc js) (I : Inv X pins σ H s) (hfp : ∀ b ∈ fp, FpOk X pins H b /\ b < s.heap.objs.size) {h₁ : Heap} {t : Nat} (hns : h₁.Ns s.heap.objs.size (fun _ => none))
   (hk : ∀ b o, s.heap.get? b = some o -> h₁.get? b = some o) :
   Inv (a0o X pins Nc scope cl s.heap.objs.size fp s H) [] (sigC js σ) H { s with heap := h₁, toks := t } := by
 have cb : ∀ x c, cl.lookup x = some c -> c < s.heap.objs.size := fun x c e => by
   obtain ⟨v, o, e, _⟩ := I.cell x c (O.sub x c e)
   exact Heap.lt_size e
 refine ⟨⟨I.ok.mod, O.kind, I.ok.glob, I.ok.blt, Nat.le_refl _, fun x y c e1 e2 => I.ok.inj x y c (O.sub _ _ e1) (O.sub _ _ e2), O.has, fun _ _ z => absurd z (by simp), I.ok.hd, I.ok.frames, .inl rfl, fun b hb => ?_,
   I.bs, Nat.le_trans I.ok.bsz I.sz, fun b o e hb => ?_, fun b hb z => ?_, I.stack, I.stkFree⟩, rfl, I.bare, Un.kept hk, ⟨_, hns, fun k x v e1 e2 e3 => ?_⟩, fun x c e => ?_, I.hok.fresh (Nat.le_refl _), fun x c e => I.freeC x c (O.sub x c e), fun p hp => ?_, I.hok.kept hk, ?_⟩
 . exact ⟨Nat.ne_of_lt (hfp b hb).2, fun x c e => (hfp b hb).1.2.2.2.2.1 x c (O.sub x c e)⟩
 . -- a thing of the base is no iterator of ours
   obtain ⟨⟨_, _, _, h4, _⟩, _⟩ := hfp b hb
   rcases h4 with z | z
   . exact I.ok.noex b o e z
   . exact absurd (Nat.lt_of_lt_of_le (Heap.lt_size (I.ok.bs b o e).1) z) (Nat.lt_irrefl _)
 . rcases List.mem_cons.mp (I.stkSub b z) with q | q
   . exact (hfp b hb).1.2.1 q
   . exact (hfp b hb).1.2.2.1 q
 . unfold sigC at e2
   rw [List.getElem?_map] at e2
   cases ej : js[k]? with
   | none => rw [ej] at e2; cases e2
   | some oj =>
     rw [ej] at e2
     cases oj with
     | none => cases e2
     | some j =>
       have e2 : (σ[j]?).join = some v := Option.some.inj e2
       obtain ⟨x', c, f1, f2, f3, f4, f5⟩ := O.free k j ej
       rw [show Nc[k]? = some x from e1] at f1
       cases f1
       have e2' : σ[j]? = some (some v) := by
         cases q : σ[j]? with
         | none => rw [q] at e2; cases e2
         | some q' => rw [q] at e2; cases q' with
           | none => cases e2
           | some z => cases e2; rfl
       obtain ⟨m, hn, hl⟩ := I.loc
       obtain ⟨u, r, l⟩ := hl j x v f2 e2' (.inr (.inl f3))
       refine ⟨u, r, .inr ⟨.inl f5, c, f4, ?_⟩⟩
       rcases l with ⟨k1, _⟩ | ⟨_, c', g1, g2⟩
       . have : X.env.scope.names.lookup x = some .local := k1
         rw [f3] at this; cases this
       . rw [O.sub x c f4] at g1
         cases g1
         obtain ⟨o, ho, hd⟩ := g2
         exact ⟨o, hk _ _ ho, hd⟩
 . obtain ⟨v, o, ho, hd⟩ := I.cell x c (O.sub x c e)
   exact ⟨v, o, hk _ _ ho, hd⟩
 . have hp : p ∈ X.pn ++ pins := by simpa using hp
   obtain ⟨e, n, n1, n2, d⟩ := I.pin p hp
   refine ⟨hk _ _ e, n, Nat.ne_of_lt (Heap.lt_size e), fun z => ?_, d⟩
   rcases List.mem_cons.mp (I.stkSub _ z) with q | q
   . exact n1 q
   . exact n2 q
 . show (js.map _).length = Nc.length
   rw [List.length_map, O.len]
theorem b12 {C : Addr} {σ' : St} {H' : Hp} {s' : Shared} {qs : List (Addr × Obj)} (I : Inv X pins σ H s) (hfp : ∀ b ∈ fp, FpOk X pins H b) (J : Inv (a0o X pins Nc scope cl C fp s H) qs σ' H' s') : Inv X pins σ H' s' :=
 I.call' (ch := fp) J.os J.base J.hok J.bare fun b hb => by
   obtain ⟨_, h2, _, h4, h5, h6⟩ := hfp b hb
   exact ⟨h4, h2, h5, h6⟩
end
noncomputable def a3b (env : Env) (ifs : List Expr) : Sem Bool := forIn ifs true fun c r => if r = true then do let ok <- isTrue c env (eval c env); pure (ForInStep.yield ok) else pure (ForInStep.yield r)
theorem ifs_nil {M : Model} {A : Around} {E : Value -> Shared -> Prop} {s : Shared} {env : Env} {Q : Bool -> Shared -> Prop} (h : Q true s) : wpAny M A (a3b env []) Q E s := wpAny_pure h
theorem ifs_one {M : Model} {A : Around} {E : Value -> Shared -> Prop} {s : Shared} {env : Env} {c : Expr} {Q : Bool -> Shared -> Prop} (h : wpAny M A (isTrue c env (eval c env)) Q E s) : wpAny M A (a3b env [c]) Q E s := by
 unfold a3b
 simp only [List.forIn_cons, List.forIn_nil, if_true]
 refine wpAny_bind (wpAny_bind (wpAny_mono h (fun b s' q => wpAny_pure ?_) fun _ _ x => x))
 exact wpAny_pure q
theorem b0u {prog : Program} {w : World} {A : Around} {R : Result -> Shared -> Prop} {s : Shared} {elt target iter : Expr} {ifs : List Expr} {scope : Scope} {pos : Pos} {it acc : Value} {env : Env} (I : Nat -> Shared -> Prop)
   (turn : ∀ n s, I n s -> wpAny (model prog w) A (pyNext it) (fun r s₁ => match r with
     | none => R (.ok .next) s₁
     | some v => wpAny (model prog w) A (letOwnedTupleGo target it v) (fun _ s₂ => wpAny (model prog w) A (assign target env v) (fun _ s₃ => wpAny (model prog w) A (a3b env ifs) (fun b s₄ =>
         if b = true then wpAny (model prog w) A (eval elt env) (fun x s₅ => wpAny (model prog w) A (call (.builtin "list.append") [acc, x]) (fun _ s₆ => ∃ m, m < n /\ I m s₆) (fun _ _ => False) s₅) (fun _ _ => False) s₄
         else ∃ m, m < n /\ I m s₄) (fun _ _ => False) s₃) (fun _ _ => False) s₂) (fun _ _ => False) s₁) (fun _ _ => False) s)
   (n : Nat) (h : I n s) :
   codeAny (model prog w) A (.compLoop (.ListComp elt [⟨target, iter, ifs, 0⟩] scope pos) 0 it acc env) R s := by
 refine codeAny_loop rfl I (fun n s hI => ?_) n h
 show wpAny _ _ ((compTurn (.ListComp elt [⟨target, iter, ifs, 0⟩] scope pos) 0 it acc env).onRaise (fun x => do noteFrame x env; theTreesLotGoes x)) _ _ s
 refine wpAny_noted ?_
 have no : ∀ {E : Value -> Shared -> Prop} (e : Value) (s' : Shared), False -> E e s' := fun _ _ f => f.elim
 rw [compTurn_list]
 refine wpAny_bind (wpAny_standAt (wpAny_bind (wpAny_mono (turn n s hI) (fun r s₁ h₁ => ?_) no)))
 cases r with
 | none => exact wpAny_pure h₁
 | some v =>
   refine wpAny_bind (wpAny_mono h₁ (fun _ s₂ h₂ => wpAny_bind (wpAny_mono h₂ (fun _ s₃ h₃ => ?_) no)) no)
   show wpAny (model prog w) A (a3b env ifs >>= _) _ _ s₃
   refine wpAny_bind (wpAny_mono h₃ (fun b s₄ h₄ => ?_) no)
   cases b with
   | true =>
     rw [if_pos rfl] at h₄
     exact wpAny_bind (wpAny_bind (wpAny_mono h₄ (fun x s₅ h5 => wpAny_bind (wpAny_mono h5 (fun _ s₆ h6 => wpAny_pure (wpAny_pure ⟨rfl, h6⟩)) no)) no))
   | false =>
     rw [if_neg Bool.false_ne_true] at h₄
     exact wpAny_bind (wpAny_pure (wpAny_pure ⟨rfl, h₄⟩))
def PIfs (X : Cx) (ifs : List Expr) (t : TT) : Prop :=
 ∀ (pins : List (Addr × Obj)) (s : Shared) (σ : St) (H : Hp) (Q : Bool -> Hp -> Prop), Inv X pins σ H s -> t σ H Q -> wpAny (model X.prog X.w) X.A (a3b X.env ifs) (TP X pins σ Q) X.xe s
theorem pif_nil {X : Cx} : PIfs X [] (fun _ H Q => Q true H) := fun _ _ _ H _ I h => ifs_nil ⟨H, I, h⟩
theorem pif_one {X : Cx} {c : Expr} {t : TT} (h : PT X c t) : PIfs X [c] t := fun pins s σ H Q I hw => ifs_one (h pins s σ H Q I hw)
def tCompW (J : It) (l : Addr) (g : TG) (ti : TT) (te : TE) (Qk : Hp -> Prop) (W : Nat -> Nat -> List V -> St -> Hp -> Prop) : Prop :=
 ∀ i m ys σ H, W i m ys σ H -> H l = some (.lst ys) /\ ((J.stop i H /\ Qk H) \/ (J.go i H /\ ys.length < sizeLine /\ ∀ x H', J.yld i H x H' -> g x σ H' fun σ2 H2 => ti σ2 H2 fun b H3 =>
   if b = true then te σ2 H3 fun y H4 => H4 l = some (.lst ys) /\ ∃ m', m' < m /\ W (i + 1) m' (ys ++ [y]) σ2 (upd H4 l (.lst (ys ++ [y]))) else ∃ m', m' < m /\ W (i + 1) m' ys σ2 H3))
def tComp (js : List (Option Nat)) (wi : TI) (g : TG) (ti : TT) (te : TE) : TE := fun σ H Q => wi σ H fun J H1 => ∀ l, H1 l = none -> ∃ W : Nat -> Nat -> List V -> St -> Hp -> Prop, (∃ m, W 0 m [] (sigC js σ) (upd H1 l (.lst []))) /\ tCompW J l g ti te (Q (.ref l)) W
section
variable {X : Cx} {Nc : List Str} {scope : Scope} {cl : List (Str × Addr)} {js : List (Option Nat)} {tg iter elt : Expr} {ifs : List Expr} {g : TG} {ti : TT} {te : TE} {wi : TI} {pos : Pos}
theorem b11 {pins : List (Addr × Obj)} {H₀ : Hp} {s₀ s : Shared} {C l it : Addr} {fp : List Addr} {J : It} {tn : Nat -> Heap -> Prop} {Qk : Hp -> Prop} {W : Nat -> Nat -> List V -> St -> Hp -> Prop} {RR : Result -> Shared -> Prop} {σc : St} {H : Hp} (hc : X.calm = true)
   (hg : ∀ pins C fp s H, PG (a0o X pins Nc scope cl C fp s H) tg g) (hti : ∀ pins C fp s H, PIfs (a0o X pins Nc scope cl C fp s H) ifs ti) (he : ∀ pins C fp s H, PE (a0o X pins Nc scope cl C fp s H) elt te)
   (T : Turn X.prog X.w X.K tg J fp it tn) (w : tCompW J l g ti te Qk W) {m0 : Nat} (w0 : W 0 m0 [] σc H)
   (I : Inv (a0o X pins Nc scope cl C fp s₀ H₀) [] σc H s) (st : tn 0 s.heap) (hfp : ∀ b ∈ fp, FpOk (a0o X pins Nc scope cl C fp s₀ H₀) [] H b)
   (hRR : ∀ qs σ' H' s', Inv (a0o X pins Nc scope cl C fp s₀ H₀) qs σ' H' s' -> (∀ b ∈ fp, H' b = none) -> Qk H' -> RR (.ok .next) s') :
   codeAny (model X.prog X.w) X.A (.compLoop (.ListComp elt [⟨tg, iter, ifs, 0⟩] scope pos) 0 (.ref it) (.ref l) (compEnvC scope cl C X.env)) RR s := by
 have stat : ∀ {H' : Hp}, (∀ b ∈ fp, H' b = none) -> ∀ b ∈ fp, FpOk (a0o X pins Nc scope cl C fp s₀ H₀) [] H' b := fun hn b hb => ⟨hn b hb, (hfp b hb).2⟩
 refine b0u (fun n s' => ∃ i ys σ' H', Inv (a0o X pins Nc scope cl C fp s₀ H₀) [] σ' H' s' /\ tn i s'.heap /\ (∀ b ∈ fp, H' b = none) /\ W i n ys σ' H') ?_ m0 ⟨0, [], σc, H, I, st, fun b hb => (hfp b hb).1, w0⟩
 rintro n s3 ⟨i, ys, σ3, H3, I3, st3, fr3, w3⟩
 obtain ⟨hl, w4⟩ := w i n ys σ3 H3 w3
 rcases w4 with ⟨stop, qn⟩ | ⟨go, hz, step⟩
 . refine thn (T.done (a0o X pins Nc scope cl C fp s₀ H₀) rfl rfl rfl hc i [] s3 σ3 H3 _ I3 (stat fr3) st3 stop) fun r s4 zz9 => ?_
   obtain ⟨hr, I4⟩ := zz9
   subst hr
   exact hRR [] σ3 H3 s4 I4 fr3 qn
 . refine thn (T.item (a0o X pins Nc scope cl C fp s₀ H₀) rfl rfl rfl hc i [] s3 σ3 H3 _ I3 (stat fr3) st3 go) fun r s4 zz9 => ?_
   obtain ⟨u, hr, h4⟩ := zz9
   subst hr
   refine thn h4 fun _ s5 zz9 => ?_
   obtain ⟨x, H5, I5, r5, y5, st5, fr5⟩ := zz9
   have I5' := I5.pinned (stat fr5) (T.obj _ _ st5)
   refine thn (hg pins C fp s₀ H₀ _ s5 σ3 H5 x u _ I5' r5 (step x H5 y5)) fun _ s6 zz9 => ?_
   obtain ⟨σ6, H6, I6, q6⟩ := zz9
   refine thn (hti pins C fp s₀ H₀ _ s6 σ6 H6 _ I6 q6) fun b s7 zz9 => ?_
   obtain ⟨H7, I7, q7⟩ := zz9
   have again : ∀ {σ7 : St} {H8 : Hp} {s8 : Shared} {ys' : List V}, Inv (a0o X pins Nc scope cl C fp s₀ H₀) ([] ++ a53 fp s5.heap) σ7 H8 s8 -> (∃ m', m' < n /\ W (i + 1) m' ys' σ7 H8) ->
       ∃ m, m < n /\ ∃ i ys σ' H', Inv (a0o X pins Nc scope cl C fp s₀ H₀) [] σ' H' s8 /\ tn i s8.heap /\ (∀ b ∈ fp, H' b = none) /\ W i m ys σ' H' := fun {σ7 H8 s8 ys'} I8 w8 => by
     obtain ⟨m', hm, w8⟩ := w8
     refine ⟨m', hm, i + 1, ys', σ7, H8, I8.unpinned, T.keep _ _ _ st5 fun b hb o e => (I8.pin (b, o) (List.mem_append_right _ (List.mem_append_right _ (a2h hb e)))).1, fun b hb => ?_, w8⟩
     obtain ⟨o, e, d⟩ := T.obj _ _ st5 b hb
     exact (I8.pin (b, o) (List.mem_append_right _ (List.mem_append_right _ (a2h hb e)))).2.1
   cases b with
   | true =>
     rw [if_pos rfl] at q7 |-
     refine thn (he pins C fp s₀ H₀ _ s7 σ6 H7 _ I7 q7) fun y s8 zz9 => ?_
     obtain ⟨vy, H8, I8, r8, hl8, q8⟩ := zz9
     refine thn (a09 (X := a0o X pins Nc scope cl C fp s₀ H₀) _ s8 σ6 H8 (.ref l) [vy] (.ref l) [y] (fun _ H9 => H9 = upd H8 l (.lst (ys ++ [vy]))) I8 rfl (.cons r8 .nil) ⟨l, ys, vy, rfl, rfl, hl8, hz, rfl⟩) fun _ s9 zz9 => ?_
     obtain ⟨_, H9, I9, _, e9⟩ := zz9
     subst e9
     exact again I9 q8
   | false =>
     rw [if_neg Bool.false_ne_true] at q7 |-
     exact again I7 q7
theorem pe_comp (O : CompOk X scope cl Nc js) (hc : X.calm = true) (hi : PI X tg iter wi) (hg : ∀ pins C fp s H, PG (a0o X pins Nc scope cl C fp s H) tg g) (hti : ∀ pins C fp s H, PIfs (a0o X pins Nc scope cl C fp s H) ifs ti)
   (he : ∀ pins C fp s H, PE (a0o X pins Nc scope cl C fp s H) elt te) (hs : ∀ x, foldedSetIterable iter X.env x = pure x := by intro _; rfl) :
   PE X (.ListComp elt [⟨tg, iter, ifs, 0⟩] scope pos) (tComp js wi g ti te) := by
 intro pins s σ H Q I hw
 rw [eval_ListComp]
 refine wpAny_comprehension_free (use := none) rfl hs O.clos O.kind O.names (thn (hi pins s σ H _ I hw) fun v s1 h1 => thn h1 fun itv s2 h2 => ?_)
 obtain ⟨it, fp, tn, J, H2, e, I2, T, st2, f2, r2⟩ := h2
 subst e
 refine wpAny_newObj_type ?_
 have hl0 : H2 s2.heap.objs.size = none := I2.hok.fresh (Nat.le_refl _)
 obtain ⟨W, ⟨m0, w0⟩, w⟩ := r2 s2.heap.objs.size hl0
 have k3 : ∀ b o, s2.heap.get? b = some o -> (s2.heap.push { cls := .type "list", data := .seq ([] : List Value).toArray }).get? b = some o := fun b o e => Heap.get?_push_of_some _ e
 have I3 : Inv X pins σ (upd H2 s2.heap.objs.size (.lst [])) { s2 with heap := s2.heap.push { cls := .type "list", data := .seq ([] : List Value).toArray } } :=
   I2.laid (t' := s2.toks) k3 (Nat.le_refl _) ⟨Nat.zero_le _, [], 0, .nil, Heap.get?_push_size _ rfl⟩
 have fpl : ∀ b ∈ fp, b < s2.heap.objs.size := fun b hb => by
   obtain ⟨o, e, _⟩ := T.obj _ _ st2 b hb
   exact Heap.lt_size e
 have f3 : ∀ b ∈ fp, FpOk X pins (upd H2 s2.heap.objs.size (.lst [])) b := fun b hb => ⟨by rw [a0l (Nat.ne_of_lt (fpl b hb))]; exact (f2 b hb).1, (f2 b hb).2⟩
 have sz3 : (s2.heap.push { cls := .type "list", data := .seq ([] : List Value).toArray }).objs.size = s2.heap.objs.size + 1 := Heap.size_push _ _
 refine wpAny_newFunctionEnv O.cell (by intro y hy; simp at hy) (fun h₁ hns₁ hsb₁ => ?_) O.kind
 have k4 : ∀ b o, (s2.heap.push { cls := .type "list", data := .seq ([] : List Value).toArray }).get? b = some o -> h₁.get? b = some o := fun b o e =>
   (hsb₁.2 b (Nat.ne_of_lt (Heap.lt_size e))).trans (Heap.get?_push_of_some _ e)
 have Ic := a7j (Nc := Nc) (js := js) (fp := fp) (t := s2.toks) O I3 (fun b hb => ⟨f3 b hb, by show b < (s2.heap.push _).objs.size; rw [sz3]; exact Nat.lt_succ_of_lt (fpl b hb)⟩) (h₁ := h₁) hns₁ k4
 have st4 : tn 0 h₁ := T.keep _ _ _ st2 fun b hb o e => k4 b o (k3 b o e)
 have fC : FpOk X pins (upd H2 s2.heap.objs.size (.lst [])) (s2.heap.push { cls := .type "list", data := .seq ([] : List Value).toArray }).objs.size := I3.fpOk (Nat.le_refl _) (I3.hok.fresh (Nat.le_refl _))
 have loop : ∀ s4 : Shared, s4 = { s2 with heap := h₁, toks := s2.toks } -> codeAny (model X.prog X.w) X.A (.compLoop (.ListComp elt [⟨tg, iter, ifs, 0⟩] scope pos) 0 (.ref it) (.ref s2.heap.objs.size) (compEnvC scope cl (s2.heap.push { cls := .type "list", data := .seq ([] : List Value).toArray }).objs.size X.env))
     (compPost (model X.prog X.w) X.A X.xe none (EP X pins σ Q) (.ref s2.heap.objs.size) (s2.heap.push { cls := .type "list", data := .seq ([] : List Value).toArray }).objs.size) s4 := by
   rintro s4 rfl
   refine b11 (s₀ := { s2 with heap := s2.heap.push { cls := .type "list", data := .seq ([] : List Value).toArray } }) hc hg hti he T w w0 Ic st4 (fun b hb => ?_) fun qs σ' H' s' J' fr' q' => ?_
   . obtain ⟨g1, g2, g3, g4, g5, g6⟩ := f3 b hb
     refine ⟨g1, Nat.ne_of_lt (by show b < (s2.heap.push _).objs.size; rw [sz3]; exact Nat.lt_succ_of_lt (fpl b hb)), fun z => ?_, .inl hb, fun x c e => g5 x c (O.sub x c e), fun p hp => g6 p (by simpa using hp)⟩
     rcases List.mem_cons.mp (I3.stkSub b z) with q | q
     . exact g2 q
     . exact g3 q
   . obtain ⟨mC, hnC, _⟩ := J'.loc
     have I5 : Inv X pins σ H' s' := b12 I3 f3 J'
     refine ⟨mC, hnC, fun h' sb => ⟨.ref s2.heap.objs.size, H', ?_, rfl, q'⟩⟩
     exact I5.turned (t' := s'.toks) (fun b o hb e => (sb.2 b hb).trans e) J'.free fC.2.1 fC.2.2.2.1 fC.2.2.2.2.1 fC.2.2.2.2.2
 exact codeAny_compStart_list (loop _ rfl) (T.self X.A 0 _ _ _ st4 (loop _ rfl))
theorem b3r {i : Nat} {y : Str} {py spos : Pos} (hN : X.N.Nodup) (hiN : X.N[i]? = some y) (hyl : X.env.scope.names.lookup y = some .local) (O : CompOk X scope cl Nc js) (hc : X.calm = true) (hi : PI X tg iter wi) (hg : ∀ pins C fp s H, PG (a0o X pins Nc scope cl C fp s H) tg g) (hti : ∀ pins C fp s H, PIfs (a0o X pins Nc scope cl C fp s H) ifs ti)
   (he : ∀ pins C fp s H, PE (a0o X pins Nc scope cl C fp s H) elt te) (hsw : swapsWith (.ListComp elt [⟨tg, iter, ifs, 0⟩] scope pos) (some (.Name y py)) spos.line X.env = pure true) (hs : ∀ x, foldedSetIterable iter X.env x = pure x := by intro _; rfl) :
   PS X (.Assign [.Name y py] (.ListComp elt [⟨tg, iter, ifs, 0⟩] scope pos) spos) (tAsg (tComp js wi g ti te) (gName i)) := by
 intro pins s σ H D I hw
 rw [exec_Assign_Name_used _ _ _ _ hsw]
 refine wpAny_bind (wpAny_standAt (wpAny_bind ?_))
 show wpAny _ X.A (do let _ <- comprehension (.ListComp elt [⟨tg, iter, ifs, 0⟩] scope pos) scope X.env _ (newList []) false (eval iter X.env) (some (assign (.Name y py) X.env))) _ _ s
 refine wpAny_bind (wpAny_mono (wpAny_comprehension_free (use := some (assign (.Name y py) X.env)) (Q := fun _ s' => SP X pins D .next s') rfl hs O.clos O.kind O.names ?_) (fun _ s' hq => wpAny_pure (wpAny_pure hq)) fun _ _ e => e)
 refine (thn (hi pins s σ H _ I hw) fun v s1 h1 => thn h1 fun itv s2 h2 => ?_)
 obtain ⟨it, fp, tn, J, H2, e, I2, T, st2, f2, r2⟩ := h2
 subst e
 refine wpAny_newObj_type ?_
 have hl0 : H2 s2.heap.objs.size = none := I2.hok.fresh (Nat.le_refl _)
 obtain ⟨W, ⟨m0, w0⟩, w⟩ := r2 s2.heap.objs.size hl0
 have k3 : ∀ b o, s2.heap.get? b = some o -> (s2.heap.push { cls := .type "list", data := .seq ([] : List Value).toArray }).get? b = some o := fun b o e => Heap.get?_push_of_some _ e
 have I3 : Inv X pins σ (upd H2 s2.heap.objs.size (.lst [])) { s2 with heap := s2.heap.push { cls := .type "list", data := .seq ([] : List Value).toArray } } :=
   I2.laid (t' := s2.toks) k3 (Nat.le_refl _) ⟨Nat.zero_le _, [], 0, .nil, Heap.get?_push_size _ rfl⟩
 have fpl : ∀ b ∈ fp, b < s2.heap.objs.size := fun b hb => by
   obtain ⟨o, e, _⟩ := T.obj _ _ st2 b hb
   exact Heap.lt_size e
 have f3 : ∀ b ∈ fp, FpOk X pins (upd H2 s2.heap.objs.size (.lst [])) b := fun b hb => ⟨by rw [a0l (Nat.ne_of_lt (fpl b hb))]; exact (f2 b hb).1, (f2 b hb).2⟩
 have sz3 : (s2.heap.push { cls := .type "list", data := .seq ([] : List Value).toArray }).objs.size = s2.heap.objs.size + 1 := Heap.size_push _ _
 refine wpAny_newFunctionEnv O.cell (by intro y hy; simp at hy) (fun h₁ hns₁ hsb₁ => ?_) O.kind
 have k4 : ∀ b o, (s2.heap.push { cls := .type "list", data := .seq ([] : List Value).toArray }).get? b = some o -> h₁.get? b = some o := fun b o e =>
   (hsb₁.2 b (Nat.ne_of_lt (Heap.lt_size e))).trans (Heap.get?_push_of_some _ e)
 have Ic := a7j (Nc := Nc) (js := js) (fp := fp) (t := s2.toks) O I3 (fun b hb => ⟨f3 b hb, by show b < (s2.heap.push _).objs.size; rw [sz3]; exact Nat.lt_succ_of_lt (fpl b hb)⟩) (h₁ := h₁) hns₁ k4
 have st4 : tn 0 h₁ := T.keep _ _ _ st2 fun b hb o e => k4 b o (k3 b o e)
 have fC : FpOk X pins (upd H2 s2.heap.objs.size (.lst [])) (s2.heap.push { cls := .type "list", data := .seq ([] : List Value).toArray }).objs.size := I3.fpOk (Nat.le_refl _) (I3.hok.fresh (Nat.le_refl _))
 have loop : ∀ s4 : Shared, s4 = { s2 with heap := h₁, toks := s2.toks } -> codeAny (model X.prog X.w) X.A (.compLoop (.ListComp elt [⟨tg, iter, ifs, 0⟩] scope pos) 0 (.ref it) (.ref s2.heap.objs.size) (compEnvC scope cl (s2.heap.push { cls := .type "list", data := .seq ([] : List Value).toArray }).objs.size X.env))
     (compPost (model X.prog X.w) X.A X.xe (some (assign (.Name y py) X.env)) (fun _ s' => SP X pins D .next s') (.ref s2.heap.objs.size) (s2.heap.push { cls := .type "list", data := .seq ([] : List Value).toArray }).objs.size) s4 := by
   rintro s4 rfl
   refine b11 (s₀ := { s2 with heap := s2.heap.push { cls := .type "list", data := .seq ([] : List Value).toArray } }) hc hg hti he T w w0 Ic st4 (fun b hb => ?_) fun qs σ' H' s' J' fr' q' => ?_
   . obtain ⟨g1, g2, g3, g4, g5, g6⟩ := f3 b hb
     refine ⟨g1, Nat.ne_of_lt (by show b < (s2.heap.push _).objs.size; rw [sz3]; exact Nat.lt_succ_of_lt (fpl b hb)), fun z => ?_, .inl hb, fun x c e => g5 x c (O.sub x c e), fun p hp => g6 p (by simpa using hp)⟩
     rcases List.mem_cons.mp (I3.stkSub b z) with q | q
     . exact g2 q
     . exact g3 q
   . obtain ⟨mC, hnC, _⟩ := J'.loc
     have I5 : Inv X pins σ H' s' := b12 I3 f3 J'
     have neC : (s2.heap.push { cls := .type "list", data := .seq ([] : List Value).toArray }).objs.size ≠ X.env.locals := fC.2.1
     show wpAny _ X.A (assign (.Name y py) X.env (.ref s2.heap.objs.size)) _ _ s'
     refine wpAny_assign_Name (a8q I5 hN hiN (.inl hyl) (v := .ref s2.heap.objs.size) rfl (fun s6 I6 ⟨a6, sb6, ha6⟩ => ?_) (.inr hyl))
     have nea : a6 ≠ (s2.heap.push { cls := .type "list", data := .seq ([] : List Value).toArray }).objs.size := by
       rcases ha6 with z | z
       . rw [z]; exact fun z => neC z.symm
       . exact fC.2.2.2.2.1 y a6 z
     refine ⟨mC, hnC.sameBut sb6 nea.symm, fun h' sb => ⟨_, H', ?_, q'⟩⟩
     exact I6.turned (t' := s6.toks) (fun b o hb e => (sb.2 b hb).trans e) J'.free fC.2.1 fC.2.2.2.1 fC.2.2.2.2.1 fC.2.2.2.2.2
 exact codeAny_compStart_list (loop _ rfl) (T.self X.A 0 _ _ _ st4 (loop _ rfl))
end
mutual
inductive Rep (K : PySem.W.Frag) (H : Hp) : V -> PyData -> Prop where
 | non : Rep K H .non .none
 | bl (b : Bool) : Rep K H (.bl b) (.bool b)
 | int (i : Int) : Rep K H (.int i) (.int i)
 | str (x : Str) : Rep K H (.str x) (.str x)
 | lst {a : Addr} {xs : List V} {ds : List PyData} (e : SqL K H a xs) (r : Reps K H xs ds) : Rep K H (.ref a) (.list ds)
 | tup {a : Addr} {xs : List V} {ds : List PyData} (e : SqT K H a xs) (r : Reps K H xs ds) : Rep K H (.ref a) (.tuple ds)
inductive Reps (K : PySem.W.Frag) (H : Hp) : List V -> List PyData -> Prop where
 | nil : Reps K H [] []
 | cons {x : V} {d : PyData} {xs : List V} {ds : List PyData} (h : Rep K H x d) (t : Reps K H xs ds) : Reps K H (x :: xs) (d :: ds)
end
section
variable {X : Cx} {pins : List (Addr × Obj)} {σ : St} {H : Hp} {s : Shared}
mutual
theorem Rep.reads (I : Inv X pins σ H s) : ∀ {x : V} {d : PyData} {v : Value}, Rep X.K H x d -> RelV x v -> ∃ as, Reads s.heap v d as
 | _, _, _, .non, r => by cases (show _ = Value.none from r); exact ⟨_, .none⟩
 | _, _, _, .bl b, r => by cases (show _ = Value.bool b from r); exact ⟨_, .bool b⟩
 | _, _, _, .int i, r => by obtain ⟨t, rfl⟩ := r; exact ⟨_, .int i t⟩
 | _, _, _, .str x, r => by obtain ⟨t, rfl⟩ := r; exact ⟨_, .str x t⟩
 | _, _, _, @Rep.lst _ _ a xs ds e rs, r => by
   cases (show _ = Value.ref a from r)
   obtain ⟨its, rv, pl, _⟩ := I.list e
   obtain ⟨as, q⟩ := Reps.reads I rs rv
   obtain ⟨o, ho, hc, n, hd⟩ := pl.isList
   exact ⟨_, .list ho hc hd (by simpa using q)⟩
 | _, _, _, @Rep.tup _ _ a xs ds e rs, r => by
   cases (show _ = Value.ref a from r)
   obtain ⟨its, rv, ⟨o, ho, hc, n, hd⟩, _⟩ := I.tuple e
   obtain ⟨as, q⟩ := Reps.reads I rs rv
   exact ⟨_, .tuple ho hc hd (by simpa using q)⟩
theorem Reps.reads (I : Inv X pins σ H s) : ∀ {xs : List V} {ds : List PyData} {us : List Value}, Reps X.K H xs ds -> Vals xs us -> ∃ as, ReadsAll s.heap us ds as
 | _, _, _, .nil, r => by cases r; exact ⟨_, .nil⟩
 | _, _, _, .cons h t, r => by
   cases r with
   | cons r1 r2 =>
     obtain ⟨as, q1⟩ := Rep.reads I h r1
     obtain ⟨bs, q2⟩ := Reps.reads I t r2
     exact ⟨_, .cons q1 q2⟩
end
end
def rEqD (K : PySem.W.Frag) (neg : Bool) : R2 := fun x y H Q => ∃ dx dy, Rep K H x dx /\ Rep K H y dy /\ SeqAt.shaped dx = true /\ SeqAt.shaped dy = true /\ Q (.bl (if neg then !PyData.eqv dx dy else PyData.eqv dx dy)) H
section
variable {X : Cx}
theorem op_eqD (hu : X.A.units + 64 < cLine) : OpR X (compareOp .Eq) (rEqD X.K false) := by
 intro pins s σ H x y v u Q I rx ry h
 obtain ⟨dx, dy, h1, h2, s1, s2, q⟩ := h
 obtain ⟨as, r1⟩ := h1.reads I rx
 obtain ⟨bs, r2⟩ := h2.reads I ry
 exact SeqAt.compareEq_shaped r1 r2 s1 s2 hu ⟨.bl _, H, I, rfl, q⟩
theorem op_neD (hu : X.A.units + 64 < cLine) : OpR X (compareOp .NotEq) (rEqD X.K true) := by
 intro pins s σ H x y v u Q I rx ry h
 obtain ⟨dx, dy, h1, h2, s1, s2, q⟩ := h
 obtain ⟨as, r1⟩ := h1.reads I rx
 obtain ⟨bs, r2⟩ := h2.reads I ry
 exact SeqAt.compareNe_shaped r1 r2 s1 s2 hu ⟨.bl _, H, I, rfl, q⟩
end
mutual
theorem b1y : ∀ d : PyData, d.canLay0 = true -> PyData.eqv d d = true
 | .none, _ => by simp [PyData.eqv]
 | .bool b, _ => by simp [PyData.eqv]
 | .int i, _ => by simp [PyData.eqv]
 | .str x, _ => by simp [PyData.eqv]
 | .list xs, h => by rw [PyData.eqv]; exact a3y xs (by simpa only [PyData.canLay0] using h)
 | .tuple xs, h => by rw [PyData.eqv]; exact a3y xs (by simpa only [PyData.canLay0] using h)
 | .dict _, h => by simp [PyData.canLay0] at h
theorem a3y : ∀ ds : List PyData, PyData.canLayAll0 ds = true -> PyData.eqvAll ds ds = true
 | [], _ => by simp [PyData.eqvAll]
 | d :: ds, h => by
   have h : d.canLay0 = true /\ PyData.canLayAll0 ds = true := by simpa only [PyData.canLayAll0, Bool.and_eq_true] using h
   rw [PyData.eqvAll, b1y d h.1, a3y ds h.2]
   rfl
end
noncomputable def Itw (n : Nat) (f : Nat -> V) : It := ⟨fun i _ => i < n, fun i H x H' => H' = H /\ x = f i, fun i _ => i = n⟩
theorem a7a {P : Program} {w : World} {K : PySem.W.Frag} {tg : Expr} {it : Addr} {n : Nat} {f : Nat -> V} {Pv : Nat -> Value -> Prop} {tn : Nat -> Heap -> Prop}
   (W : ∀ A : Around, A.handled = none -> Walks P w A it [it] [it] n Pv tn) (hv : ∀ i v, i < n -> Pv i v -> RelV (f i) v)
   (ho : ∀ i h, tn i h -> ∃ o nm vs, h.get? it = some o /\ o.cls = .type nm /\ o.data = .fields vs /\ ["enumerate", "zip", "dict_itemiterator", "dict_reverseitemiterator", "odict_iterator", "itertools.zip_longest", "itertools.pairwise"].contains nm = false)
   (self : ∀ (A : Around) (i : Nat) (s : Shared) (Q : Value -> Shared -> Prop) (E : Value -> Shared -> Prop), tn i s.heap -> Q (.ref it) s -> wpAny (model P w) A (pyIter (.ref it)) Q E s) :
   Turn P w K tg (Itw n f) [it] it tn where
 mem := by simp
 obj := fun i h st b hb => by
   have e : b = it := by simpa using hb
   subst e
   obtain ⟨o, nm, vs, e, _, d, _⟩ := ho i h st
   exact ⟨o, e, fun v z => by rw [d] at z; cases z⟩
 keep := fun i h h' st k => (W { depth := 0, handled := none } rfl).frame i h h' st k
 item := by
   intro X hP hw hK hc i pins s σ H E I hf st hg
   subst hP hw hK
   obtain ⟨f0, f1, f2, f3, f4, f5⟩ := hf it (by simp)
   refine (W X.A (I.ok.hd hc)).item i s _ _ hg st fun v h' tk hpv st' kk => ?_
   have I1 : Inv X pins σ H { s with heap := h', toks := tk } := I.turned (fun b o hb e => kk b o (by simpa using hb) e) f0 f1 f3 f4 f5
   obtain ⟨o, nm, vs, e, c, d, nn⟩ := ho _ _ st'
   exact ⟨v, rfl, b46 (s := { s with heap := h', toks := tk }) e c d nn ⟨f i, H, I1, hv i v hg hpv, ⟨rfl, rfl⟩, st', fun b hb => (hf b hb).1⟩⟩
 done := by
   intro X hP hw hK hc i pins s σ H E I hf st hg
   subst hP hw hK
   obtain ⟨f0, f1, f2, f3, f4, f5⟩ := hf it (by simp)
   have hg : i = n := hg
   subst hg
   exact (W X.A (I.ok.hd hc)).done s _ _ st fun h' tk kk => ⟨rfl, I.turned (fun b o hb e => kk b o (by simpa using hb) e) f0 f1 f3 f4 f5⟩
 self := self
section
variable {X : Cx} {tg : Expr}
noncomputable def signV (x : Str) (i : Nat) : V := .str ⟨#[x.cps.getD i 0]⟩
def iStr (tl : TE) : TI := fun σ H R => tl σ H fun v H1 => ∃ x, v = .str x /\ R (Itw x.cps.size (signV x)) H1
theorem b08 {x : Str} {i : Nat} {v : Value} (hi : i < x.cps.size) (h : SignAt x i v) : RelV (signV x i) v := by
 obtain ⟨c, u, e, rfl⟩ := h
 refine ⟨u, ?_⟩
 have e2 : x.cps.getD i 0 = c := by simp [e]
 rw [e2]
theorem pi_str {l : Expr} {tl : TE} (hl : PE X l tl) : PI X tg l (iStr tl) := by
 intro pins s σ H R I h
 refine thn (hl pins s σ H _ I h) fun v s1 zz9 => ?_
 obtain ⟨y, H1, I1, r1, x, e1, q1⟩ := zz9
 subst e1
 obtain ⟨t, rfl⟩ := r1
 cases ha : x.cps.all (· < 128)
 . refine wpAny_pyIter_wide ha ?_
   exact ⟨s1.heap.objs.size, [s1.heap.objs.size], _, _, H1, rfl, I1.kept (t' := s1.toks) fun b o e => Heap.get?_push_of_some _ e, a7a (fun A hA => Walks.strWide hA _ x t) (fun i v hi hp => b08 hi hp)
     (fun i h ⟨o, e, c, d⟩ => ⟨o, _, _, e, c, d, by decide⟩) (fun _ _ _ _ _ st q => wpAny_pyIter_striter_wide st q), ⟨_, Heap.get?_push_size _ rfl, rfl, rfl⟩,
     fun b hb => by
       have e : b = s1.heap.objs.size := by simpa using hb
       subst e
       exact I1.fpOk (Nat.le_refl _) (I1.hok.fresh (Nat.le_refl _)), q1⟩
 . refine wpAny_pyIter_ascii ha ?_
   exact ⟨s1.heap.objs.size, [s1.heap.objs.size], _, _, H1, rfl, I1.kept (t' := s1.toks) fun b o e => Heap.get?_push_of_some _ e, a7a (fun A hA => Walks.strAscii hA _ x t) (fun i v hi hp => b08 hi hp)
     (fun i h ⟨o, e, c, d⟩ => ⟨o, _, _, e, c, d, by decide⟩) (fun _ _ _ _ _ st q => wpAny_pyIter_striter_ascii st q), ⟨_, Heap.get?_push_size _ rfl, rfl, rfl⟩,
     fun b hb => by
       have e : b = s1.heap.objs.size := by simpa using hb
       subst e
       exact I1.fpOk (Nat.le_refl _) (I1.hok.fresh (Nat.le_refl _)), q1⟩
def rSlS : V -> Option Int -> Option Int -> Hp -> VK -> Prop := fun x lo hi H Q => ∃ z, x = .str z /\ z.length <= sizeLine /\ Q (.str (Txt.slice z lo hi)) H
theorem sl_str : SlR X rSlS := by
 intro pins s σ H x v vl vu lo hi sl Q I rx hs pl pu h
 obtain ⟨z, rfl, hz, q⟩ := h
 obtain ⟨t, rfl⟩ := rx
 have fin : ∀ t' k, EP X pins σ Q (.str (Txt.slice z lo hi) t') { s with toks := k } := fun t' k => ⟨.str _, H, I.tok _, ⟨t', rfl⟩, q⟩
 have hle : (Txt.slice z lo hi).length <= sizeLine := Nat.le_trans (Txt.slice_le z _ _) hz
 refine ⟨"str", _, F.slot_str_getitem.lookup, typeIs_str _ _ _, ?_⟩
 cases pl with
 | none =>
   cases pu with
   | none => exact wpAny_getItem_str_slice (l := none) (u := none) (st := none) hs rfl (post_val_or_str ⟨hle, fun t' k => fin t' k⟩)
   | int j uj => exact wpAny_getItem_str_slice (l := none) (u := some (j, uj)) (st := none) hs rfl (post_val_or_str ⟨hle, fun t' k => fin t' k⟩)
 | int i ui =>
   cases pu with
   | none => exact wpAny_getItem_str_slice (l := some (i, ui)) (u := none) (st := none) hs rfl (post_val_or_str ⟨hle, fun t' k => fin t' k⟩)
   | int j uj => exact wpAny_getItem_str_slice (l := some (i, ui)) (u := some (j, uj)) (st := none) hs rfl (post_val_or_str ⟨hle, fun t' k => fin t' k⟩)
def gLst (K : PySem.W.Frag) (n : Nat) (t : TGs) : TG := fun v σ H Q => ∃ a xs, v = .ref a /\ SqL K H a xs /\ xs.length = n /\ t xs σ H Q
theorem pg_lst {es : List Expr} {k : Nat} {t : TGs} {n : Nat} {pos : Pos} (hc : X.calm = true) (h : PGs X es t)
   (hn : (assignEach es X.env).length = n := by rfl) (hst : (assignEach es X.env).findIdx? (·.1) = none := by rfl) : PG X (.Tuple es k pos) (gLst X.K n t) := by
 intro pins s σ H v u Q I r hw
 obtain ⟨a, xs, e1, hq, hl, hw⟩ := hw
 subst e1
 cases r
 obtain ⟨its, rv, pl, hz⟩ := I.list hq
 rw [assign_Tuple]
 refine wpAny_bind (wpAny_standAt ?_)
 unfold unpack
 have hsz : (assignEach es X.env).length = its.toArray.size := by simp [hn, <- hl, rv.length]
 rw [hsz, hst]
 refine wpAny_bind (wpAny_holding (PySem.W.kun_itemsOf (I.ok.hd hc) pl.isList fun h' hx => ?_))
 have I1 : Inv X pins σ H { s with heap := h' } := I.kept (t' := s.toks) fun b o e => hx b o (Nat.ne_of_lt (Heap.lt_size e)) e
 exact h pins _ σ H xs _ Q I1 (by simpa using rv) hw
def rIndex (K : PySem.W.Frag) : V -> List V -> Hp -> VK -> Prop := fun x vs H Q => ∃ a xs y j, x = .ref a /\ vs = [y] /\ SqL K H a xs /\ xs.all a3x = true /\ a3x y = true /\ j < xs.length /\ (∀ z, xs[j]? = some z -> eqV z y = true) /\ (∀ m z, m < j -> xs[m]? = some z -> eqV z y = false) /\ Q (.int j) H
theorem b6z : MtR X "list.index" (rIndex X.K) := by
 intro pins s σ H x vs v us Q I rx rv h
 obtain ⟨a, xs, y, j, rfl, rfl, hq, ha, hy, hj, h1, h2, q⟩ := h
 cases rx
 obtain ⟨u, rfl, ru⟩ := rv.one
 obtain ⟨its, r, pl, hz⟩ := I.list hq
 obtain ⟨⟨oc, od, dt, sl⟩, n, e, hoc, hod, hdt⟩ := pl
 dsimp only at hoc hod hdt
 subst hoc hod hdt
 have hlen := r.length
 have hit : ∀ (m : Nat) (hm : m < its.toArray.size), ∃ z, xs[m]? = some z /\ RelV z its.toArray[m] := fun m hm => by
   have hm' : m < xs.length := by simpa [hlen] using hm
   obtain ⟨w', e1, e2⟩ := r.get (i := m) (x := xs[m]) (by simp)
   refine ⟨xs[m], by simp, ?_⟩
   have : its.toArray[m] = w' := by
     have : its[m]? = some w' := e1
     rw [List.getElem?_eq_some_iff] at this
     obtain ⟨_, e3⟩ := this
     simpa using e3
   rw [this]; exact e2
 have fl : ∀ z, z ∈ xs -> a3x z = true := fun z hz => List.all_eq_true.mp ha z hz
 have hval : ∀ (m : Nat) (hm : m < its.toArray.size) z, xs[m]? = some z -> eqU y its.toArray[m] = eqV z y := fun m hm z hz => by
   obtain ⟨z', e1, e2⟩ := hit m hm
   rw [hz] at e1; cases e1
   exact b5g e2 (fl z (List.mem_of_getElem? hz))
 refine call_meets F.slot_list_index ⟨_, e, rfl⟩ F.entry_list_index (F.args_list_index_2 _ _) (SeqAt.list_indexAt a its.toArray n none sl u (eqU y) j (by simp; omega) ?_ ?_ ?_) ⟨e, ?_, ?_⟩
 . have := a7g; omega
 . obtain ⟨z, e1, _⟩ := hit j (by simp; omega)
   rw [hval j (by simp; omega) z e1]
   exact h1 z e1
 . intro m hm hmj
   obtain ⟨z, e1, _⟩ := hit m hm
   rw [hval m hm z e1]
   exact h2 m z hmj e1
 . intro w' hw
   exact a3g ru hy r ha w' (by simpa using hw)
 . exact ⟨.int j, H, I.tok _, ⟨_, rfl⟩, q⟩
end
open PySem PySem.W PySem.Spec PySem.Calls PyProof.Rows
structure ExLook (K : Frag) (D : Addr) : Prop where
 cl : (clsIn K D).isSome = true
 ga : findIn K (.ref D) "__getattribute__" = some (some (.builtin "BaseException.__getattribute__"))
 gn : findIn K (.ref D) "__getattr__" = some none
 ha : findIn K (.ref D) "__class__" = some (some (.builtin "object.__class__"))
 hn : specialIn K (.builtin "object.__class__") "__get__" = some (some (.builtin "getset_descriptor.__get__"))
 tk : takesIn K (.builtin "object.__class__") = some true
 hm : mroIn K D (.type "object") = some true
 hb : mroIn K D (.type "BaseException") = some true
section
variable {prog : Program} {w : World} {A : Around} {E : Value -> Shared -> Prop} {s : Shared} {K : Frag} {x D : Addr} {ox : Obj}
theorem b7c (L : ExLook K D) : findObj K D none "__class__" = some (.bind (.builtin "getset_descriptor.__get__") (.builtin "object.__class__")) := by
 obtain ⟨cd, hc⟩ := Option.isSome_iff_exists.mp L.cl
 unfold findObj
 rw [hc, Option.bind_some, L.ha, Option.bind_some]
 simp [L.hn, L.tk]
theorem exc_ga {tk : Tok} {R : Result -> Shared -> Prop} (L : ExLook K D) (X : K.In s.heap) (I : InstAt s.heap x ox D none) (h : R (.ok (.ret (.ref D))) s) :
   codeAny (model prog w) A (.call (.builtin "BaseException.__getattribute__") ⟨[.ref x, .str "__class__" tk], []⟩) R s := by
 obtain ⟨hh, g, d, t, os⟩ := s
 have L0 := I.type (M := model prog w)
 have L1 := looks_find (M := model prog w) X I (b7c L)
 have L2 := looks_mroIn (M := model prog w) X L.hb
 refine codeAny_call_builtin F.attr_ValueError.ga.plain F.entry_bexc_ga ?_
 have hk : builtinKind "BaseException.__getattribute__" = some .slot := by decide +kernel
 have hsplit : splitId "BaseException.__getattribute__" = some ("BaseException", "__getattribute__") := by decide +kernel
 have ha := F.args_bexc_ga (.ref x) (.str "__class__" tk)
 have chk : ∀ {Q : Unit -> Shared -> Prop} {E : Value -> Shared -> Prop} {A' : Around}, Q () ⟨hh, g, d, t, os⟩ -> wpAny (model prog w) A' (checkBuiltinCall "BaseException.__getattribute__" ⟨[.ref x, .str "__class__" tk], []⟩) Q E ⟨hh, g, d, t, os⟩ := by
   intro Q E A' hq
   simp only [checkBuiltinCall, hk, hsplit]
   refine wpAny_bind ?_
   unfold isInstance
   refine wpAny_bind (L0.at (L2.at ?_))
   rw [if_neg (by decide)]
   repeat (first | wp_step)
   all_goals exact hq
 refine chk ?_
 unfold Builtin.«object.__getattribute__»
 refine wpAny_bind (wpAny_pure ?_)
 refine wpAny_bind (wpAny_pure ?_)
 refine wpAny_bind (L0.at (wpAny_bind (L1.at ?_)))
 show wpAny _ _ (holding [_] (call (.builtin "getset_descriptor.__get__") [.builtin "object.__class__", .ref x, .ref D]) >>= ret) _ _ _
 refine wpAny_bind (wpAny_holding (wpAny_call (class_get (s := ⟨hh, g, d, t, os⟩) X I L.hm ?_)))
 exact wpAny_pure h
theorem b5d {Q : Option Value -> Shared -> Prop} (L : ExLook K D) (X : K.In s.heap) (I : InstAt s.heap x ox D none) (h : Q (some (.ref D)) { s with toks := s.toks + 1 }) :
   wpAny (model prog w) A (getAttr? (.ref x) "__class__") Q E s := by
 obtain ⟨hh, g, d, t, os⟩ := s
 have L0 := I.type (M := model prog w)
 have L1 := looks_findIn (M := model prog w) X L.ga
 have L2 := looks_findIn (M := model prog w) X L.gn
 unfold getAttr? getAttrBy? getAttrBy
 refine wpAny_bind (wpAny_mkText (wpAny_bind (wpAny_attempt (wpAny_holding (wpAny_bind (L0.at (wpAny_bind (L1.at ?_))))))))
 have hx2 : (Value.builtin "BaseException.__getattribute__" == Value.builtin "object.__getattribute__") = false := by decide +kernel
 dsimp only
 rw [if_neg (by rw [hx2]; simp)]
 unfold getAttrByItsOwn hookBefore callGetattribute boundAndCalled
 rw [if_pos (show onTheHeap (Value.ref D) = true from rfl)]
 refine wpAny_bind (L2.at ?_)
 refine wpAny_bind (wpAny_attempt (wpAny_holding ?_))
 rw [if_neg (by simp)]
 refine wpAny_bind (wpAny_of_eq (F.attr_ValueError.ga.bind (.ref x)) ?_)
 refine wpAny_call (exc_ga (s := ⟨hh, g, d, t + 1, os⟩) L X I ?_)
 refine handed_on rfl ?_
 exact wpAny_pure h
theorem b64 {a : Addr} (L : ExLook K D) : KitX K (.ref a) (.ref D) (fun h => ∃ ox, InstAt h a ox D none) where
 ty := fun _ _ _ ⟨_, I⟩ => I.type
 it := fun _ _ X _ => by
   obtain ⟨cdD, hcD⟩ := Option.isSome_iff_exists.mp L.cl
   unfold clsIn at hcD
   split at hcD
   . rename_i c' d' cd' sl' ho
     intro A' Q' E' s' k q
     unfold isType loadHead
     exact wpAny_bind (wpAny_loadPart (k _ _ (X _ _ ho)) (wpAny_pure q))
   . cases hcD
 ne := fun h tp dd its n sl X htp => by
   obtain ⟨cdD, hcD⟩ := Option.isSome_iff_exists.mp L.cl
   refine Bool.eq_false_iff.mpr fun q => ?_
   have e : D = tp := Value.ref.inj (beq_iff_eq.mp q)
   subst e
   unfold clsIn at hcD
   split at hcD
   . rename_i c' d' cd' sl' ho
     have z := (X _ _ ho).symm.trans htp
     cases z
   . cases hcD
 ca := fun X ⟨_, I⟩ k => b5d L X I k
theorem excφ.inst {a : Addr} {h : Heap} (e : excφ a (.ref D) h) : ∃ ox, InstAt h a ox D none := by
 obtain ⟨o, vs, e1, e2, e3, e4, _⟩ := e
 refine ⟨o, e1, e2, ?_, ?_⟩
 . unfold notCls; rw [e4]
 . rw [e3]; trivial
end
noncomputable def clsV : V -> Option Value
 | .ref a => some (.ref a)
 | .ty n => some (.type n)
 | _ => none
theorem b13 {y : V} {cv u : Value} (e : clsV y = some cv) (r : RelV y u) : u = cv := by
 cases y <;> first | (cases e; done) | (cases e; exact r)
theorem a5c {X : Cx} : CallR X (.builtin "isinstance") (fun xs H Q => ∃ a D y cv b, xs = [.ref a, y] /\ H a = some (.ext (excφ a (.ref D))) /\ ExLook X.K D /\ clsV y = some cv /\ kitOne X.K (.ref D) cv = some b /\ Q (.bl b) H) := by
 intro pins s σ H xs us Q I r h
 obtain ⟨a, D, y, cv, b, rfl, hH, L, hy, e, q⟩ := h
 obtain ⟨u, u', rfl, rx, ru⟩ := b53 r
 cases (show u = Value.ref a from rx)
 cases b13 hy ru
 have hφ := (I.hok a _ hH).1
 exact kia_one (b64 L) I.kIn (excφ.inst hφ) e (fun z => nomatch z) fun tk => ⟨.bl b, H, I.tok tk, rfl, q⟩
theorem a9l {X : Cx} : CallR X (.builtin "isinstance") (fun xs H Q => ∃ x y t cv b, xs = [x, y] /\ TyOf X.K H x t /\ clsV y = some cv /\ kitOne X.K t cv = some b /\ Q (.bl b) H) := by
 intro pins s σ H xs us Q I r h
 obtain ⟨x, y, t, cv, b, rfl, ty, hy, e, q⟩ := h
 obtain ⟨u, u', rfl, rx, ru⟩ := b53 r
 cases b13 hy ru
 exact b40 I rx ty e fun tk => ⟨.bl b, H, I.tok tk, rfl, q⟩
theorem a8i : entryFor table "proto.unchain" = some Builtin.«proto.unchain» := entryFor_of_tree (by kernel_rfl)
theorem a65 {prog : Program} {w : World} {A : Around} {E : Value -> Shared -> Prop} {s : Shared} {it l a : Addr} {i : Nat} {items} {Q : Option Value -> Shared -> Prop} {oe : Obj} {vs : Array Value} (hh : A.handled = some (.ref a))
   (he : s.heap.get? a = some oe) (hde : oe.data = .fields vs) (h2 : vs[2]? = some .none) (hai : a ≠ it)
   (hit : s.heap.IsListIter it l i) (hl : s.heap.IsList l items) (hx : items[i]? = none)
   (hQ : ∀ h', Heap.ExtBut it s.heap h' -> Q none { s with heap := h' }) : wpAny (model prog w) A (pyNext (.ref it)) Q E s := by
 obtain ⟨o, ho, hc, hd⟩ := id hit
 obtain ⟨ol, hol, _, nl, hdl⟩ := hl
 unfold pyNext
 refine wpAny_bind (wpAny_attempt (wpAny_callSpecial?_slot (name := Str.ofString "__next__") hit.typeIs slot_listiter_next
   (wpAny_call_entry slot_listiter_next hit.typeIs entry_listiter_next ?_ (args_listiter_next _))))
 show wpAny _ _ (field (.ref it) 0 >>= _) _ _ s
 refine wpAny_bind (wpAny_field ho hd (x := .ref l) rfl ?_)
 show wpAny _ _ (if (Value.ref l == Value.none) = true then _ else _) _ _ s
 rw [if_neg (show ¬ ((Value.ref l == Value.none) = true) from Bool.false_ne_true)]
 show wpAny _ _ (field (.ref it) 1 >>= _) _ _ s
 refine wpAny_bind (wpAny_field ho hd (x := .int i 0) rfl ?_)
 show wpAny _ _ (seqItems? (.ref l) >>= _) _ _ s
 refine wpAny_bind (wpAny_seqItems hol hdl ?_)
 simp only [Int.toNat_natCast, hx]
 refine wpAny_bind (wpAny_rule (wpAny_bind (wpAny_setField ho hd (by simp) ?_)))
 have hae : (s.heap.update it (Obj.mapFields (·.setIfInBounds 0 Value.none))).get? a = some oe := (Heap.get?_update_other _ _ (Ne.symm hai)).trans he
 show wpAny _ _ (newExc (.type "StopIteration") [] >>= _) _ _ _
 refine wpAny_bind ?_
 simp only [newExc, newTuple]
 refine wpAny_bind (wpAny_newObj_type ?_ (by size_fits))
 refine wpAny_bind (m := firstArgMember _ _) (wpAny_of_eq (a := Value.none) (by first | rfl | (simp only [firstArgMember]; rfl)) ?_)
 refine wpAny_newObj_type ?_ (by size_fits)
 simp only [raiseNew]
 refine wpAny_bind (wpAny_handled ?_)
 rw [show A.in1.handled = some (.ref a) from hh]
 have hlt : a < ((s.heap.update it (Obj.mapFields (·.setIfInBounds 0 Value.none))).push { cls := .type "tuple", data := .seq #[] }).objs.size := by
   rw [Heap.size_push]
   exact Nat.lt_succ_of_lt (Heap.lt_size hae)
 have keep : Heap.ExtBut it s.heap (((s.heap.update it (Obj.mapFields (·.setIfInBounds 0 Value.none))).push { cls := .type "tuple", data := .seq #[] }).push { cls := .type "StopIteration", data := .fields (#[.ref (s.heap.update it (Obj.mapFields (·.setIfInBounds 0 Value.none))).objs.size, .none, .none, .none, .bool false, .none] ++ ownMembersOf (.type "StopIteration") []) }) :=
   ((Heap.SameBut.update ..).extBut.push _).push _
 have hN := Heap.get?_push_size ((s.heap.update it (Obj.mapFields (·.setIfInBounds 0 Value.none))).push { cls := .type "tuple", data := .seq #[] }) (o := { cls := .type "StopIteration", data := .fields (#[.ref (s.heap.update it (Obj.mapFields (·.setIfInBounds 0 Value.none))).objs.size, .none, .none, .none, .bool false, .none] ++ ownMembersOf (.type "StopIteration") []) }) rfl
 have ha2 := Heap.get?_push_of_some (h := (s.heap.update it (Obj.mapFields (·.setIfInBounds 0 Value.none))).push { cls := .type "tuple", data := .seq #[] }) { cls := .type "StopIteration", data := .fields (#[.ref (s.heap.update it (Obj.mapFields (·.setIfInBounds 0 Value.none))).objs.size, .none, .none, .none, .bool false, .none] ++ ownMembersOf (.type "StopIteration") []) } (Heap.get?_push_of_some { cls := .type "tuple", data := .seq #[] } hae)
 have old : ∀ b o, s.heap.get? b = some o -> b < ((s.heap.update it (Obj.mapFields (·.setIfInBounds 0 Value.none))).push { cls := .type "tuple", data := .seq #[] }).objs.size := fun b o e => by
   rw [Heap.size_push, Heap.size_after_update]
   exact Nat.lt_succ_of_lt (Heap.lt_size e)
 generalize hN' : ((s.heap.update it (Obj.mapFields (·.setIfInBounds 0 Value.none))).push { cls := .type "tuple", data := .seq #[] }).objs.size = N at hlt hN old |-
 generalize hH : ((s.heap.update it (Obj.mapFields (·.setIfInBounds 0 Value.none))).push { cls := .type "tuple", data := .seq #[] }).push { cls := .type "StopIteration", data := .fields (#[.ref (s.heap.update it (Obj.mapFields (·.setIfInBounds 0 Value.none))).objs.size, .none, .none, .none, .bool false, .none] ++ ownMembersOf (.type "StopIteration") []) } = HH at keep hN ha2 |-
 dsimp only
 have hne : a ≠ N := Nat.ne_of_lt hlt
 rw [if_pos (show (Value.ref a != Value.ref N) = true from bne_iff_ne.mpr fun z => hne (Value.ref.inj z))]
 refine wpAny_bind (wpAny_holding (wpAny_runValue (codeAny_builtin a8i ?_)))
 unfold Builtin.«proto.unchain»
 refine wpAny_bind (wpAny_field (s := { s with heap := HH }) ha2 hde h2 ?_)
 rw [if_pos (by decide)]
 refine wpAny_bind (wpAny_pure ?_)
 refine wpAny_pure ?_
 show wpAny _ _ (updateField N 2 (.ref a) >>= fun _ => throw (.ref N)) _ _ { s with heap := HH }
 refine wpAny_bind ?_
 unfold updateField
 refine wpAny_bind (wpAny_load hN ?_)
 dsimp only
 rw [if_pos (by simp; omega)]
 refine wpAny_update hN (wpAny_throw ?_)
 refine wpAny_bind (wpAny_isInstance (T := "StopIteration") (b := true) ⟨_, Heap.get?_update_self _ hN rfl, rfl⟩ isSubtype_stop ?_)
 refine wpAny_pure (hQ _ fun b o hb e => ?_)
 rw [Heap.get?_update_other _ _ (Nat.ne_of_gt (old b o e))]
 exact keep b o hb e
noncomputable def tForH (K : PySem.W.Frag) (a : Addr) (tl : TE) (g : TG) (tb : TS) : TS := fun D σ H => tl σ H fun x H1 => ∃ p xs, x = .ref p /\ SqL K H1 p xs /\ ∃ W : Nat -> Nat -> St -> Hp -> Prop, (∃ m, W 0 m σ H1) /\
 ∀ i m σ H, W i m σ H -> SqL K H p xs /\ (∃ cls, H a = some (.ext (excφ a cls))) /\ ((xs.length <= i /\ D.nx σ H) \/
   ∃ x, xs[i]? = some x /\ ∃ N : St -> Hp -> Prop, (∀ σ' H', N σ' H' -> ∃ m', m' < m /\ W (i + 1) m' σ' H') /\ g x σ H fun σ2 H2 => tb { D with nx := N, ct := N, bk := D.nx } σ2 H2)
section
variable {X : Cx} {tg l : Expr} {body : List Stmt} {tl : TE} {g : TG} {tb : TS} {pos : Pos} {a : Addr}
theorem ps_forH (hp : PassesOwn (model X.prog X.w) X.A X.env X.xe) (hh : X.A.handled = some (.ref a)) (hl : PE X l tl) (hg : PG X tg g) (hb : PSs X body tb)
   (hs : ∀ x, foldedSetIterable l X.env x = pure x := by intro _; rfl) : PS X (.For tg l body [] pos) (tForH X.K a tl g tb) := by
 intro pins s σ H D I h
 refine wpAny_For (thn (hl pins s σ H _ I h) fun v s1 ⟨y, H1, I1, r1, p, xs, e1, hq, W, ⟨m0, w0⟩, turn⟩ => ?_) hs
 subst e1
 cases r1
 obtain ⟨its, rv, pl, hz⟩ := I1.list hq
 refine wpAny_pyIter_list pl.isList ?_
 have I2 : Inv X pins σ H1 { s1 with heap := s1.heap.push { cls := .type "list_iterator", data := .fields #[.ref p, .int 0 0] } } := I1.kept (t' := s1.toks) fun b o e => Heap.get?_push_of_some _ e
 have f2 : FpOk X pins H1 s1.heap.objs.size := I1.fpOk (Nat.le_refl _) (I1.hok.fresh (Nat.le_refl _))
 have stat : ∀ {H' : Hp}, H' s1.heap.objs.size = none -> FpOk X pins H' s1.heap.objs.size := fun hn => ⟨hn, f2.2⟩
 refine codeAny_forLoop_any (fun n s' => ∃ i σ' H', Inv X pins σ' H' s' /\ s'.heap.IsListIter s1.heap.objs.size p i /\ H' s1.heap.objs.size = none /\ W i n σ' H') ?_ m0 ⟨0, σ, H1, I2, ⟨_, Heap.get?_push_size _ rfl, rfl, rfl⟩, f2.1, w0⟩
 rintro n s3 ⟨i, σ3, H3, I3, st3, fr3, w3⟩
 obtain ⟨hq3, ⟨cls, ha3⟩, w4⟩ := turn i n σ3 H3 w3
 obtain ⟨its3, rv3, pl3, _⟩ := I3.list hq3
 obtain ⟨f0, f1, fz, f3, f4, f5⟩ := stat fr3
 rcases w4 with ⟨stop, qn⟩ | ⟨x, hx, N, hN, step⟩
 . obtain ⟨⟨oe, vs, he, hc, hdn, hdv, hv2⟩, _⟩ := (I3.hok a _ ha3)
   have hai : a ≠ s1.heap.objs.size := fun z => by rw [z, fr3] at ha3; cases ha3
   refine wpAny_passesOwn hp (a65 hh he hdv hv2 hai st3 pl3.isList (by have := rv3.length; simp; omega) fun h' eb => ?_)
   exact wpAny_execs_nil ⟨σ3, H3, I3.turned (t' := s3.toks) (fun b o hb e => eb b o hb e) f0 f1 f3 f4 f5, qn⟩
 . obtain ⟨u, hu, ru⟩ := rv3.get hx
   refine wpAny_passesOwn hp (wpAny_pyNext_list_item st3 pl3.isList (x := u) (by simpa using hu) fun h' st' sb => ?_)
   have I4 : Inv X pins σ3 H3 { s3 with heap := h' } := I3.turned (t' := s3.toks) (fun b o hb e => (sb.2 b hb).trans e) f0 f1 f3 f4 f5
   obtain ⟨o, e, c, d⟩ := id st'
   refine wpAny_passesOwn hp (b46 (s := { s3 with heap := h' }) e c d (by decide) ?_)
   have I4' : Inv X (pins ++ a53 [s1.heap.objs.size] h') σ3 H3 { s3 with heap := h' } := I4.pinned (fun b hb => by
       have e : b = s1.heap.objs.size := by simpa using hb
       subst e
       exact stat fr3) fun b hb => by
       have e' : b = s1.heap.objs.size := by simpa using hb
       subst e'
       exact ⟨o, e, fun v z => by rw [d] at z; cases z⟩
   refine wpAny_passesOwn hp (thn (hg _ { s3 with heap := h' } σ3 H3 x u _ I4' ru step) fun _ s6 zz9 => ?_)
   obtain ⟨σ6, H6, I6, q6⟩ := zz9
   refine wpAny_passesOwn hp (thn (hb _ s6 σ6 H6 _ I6 q6) fun f s7 q7 => ?_)
   have again : ∀ {σ7 : St} {H7 : Hp}, Inv X (pins ++ a53 [s1.heap.objs.size] h') σ7 H7 s7 -> N σ7 H7 -> ∃ m, m < n /\ ∃ i σ' H', Inv X pins σ' H' s7 /\ s7.heap.IsListIter s1.heap.objs.size p i /\ H' s1.heap.objs.size = none /\ W i m σ' H' := fun {σ7 H7} I7 n7 => by
     obtain ⟨m', hm, w7⟩ := hN σ7 H7 n7
     have pin := I7.pin (s1.heap.objs.size, o) (List.mem_append_right _ (List.mem_append_right _ (a2h (by simp) e)))
     exact ⟨m', hm, i + 1, σ7, H7, I7.unpinned, ⟨o, pin.1, c, d⟩, pin.2.1, w7⟩
   cases f with
   | next => obtain ⟨σ7, H7, I7, n7⟩ := q7; exact again I7 n7
   | cont => obtain ⟨σ7, H7, I7, n7⟩ := q7; exact again I7 n7
   | brk => obtain ⟨σ7, H7, I7, q7⟩ := q7; exact ⟨σ7, H7, I7.unpinned, q7⟩
   | ret v => obtain ⟨x7, σ7, H7, I7, r7, q7⟩ := q7; exact ⟨x7, σ7, H7, I7.unpinned, r7, q7⟩
end
structure RoomH (k : Nat) (A : Around) : Prop where
 dp : A.depth + 3 * k + 5 < recursionLimit
 un : A.units + 16 * k + 200 < cLine
theorem Room.hand {k : Nat} {A : Around} (r : Room k A) (a : Addr) : RoomH k (A.mark (some (.ref a))) := ⟨r.dp, r.un⟩
theorem RoomH.deeper {k : Nat} {A : Around} (r : RoomH (k + 1) A) (env : Env) : RoomH k (A.deeper env) :=
 ⟨by have := r.dp; show A.depth + 1 + 3 * k + 5 < _; omega, by have := r.un; show A.units + 3 + 16 * k + 200 < _; omega⟩
structure FnOkH (P : Program) (w : World) (K : PySem.W.Frag) (mg : Str -> Option Value) (base : Heap) (k : Nat) (f : Addr) (fd : FuncData) (ps : List Str) (sp : Addr -> Sp) : Prop where
 len : ∀ a vs H Q E, sp a vs H Q E -> vs.length = ps.length
 run : ∀ (A : Around) (a : Addr) (outer : List Env) (s : Shared) (H : Hp) (args : Args) (us : List Value) (vs : List V) (Q : VK) (E : XK), RoomH k A -> A.handled = some (.ref a) -> Env0 P w K mg base A outer s H -> BindsTo s fd args (ps.zip us) -> Vals vs us -> sp a vs H Q E ->
   codeAny (model P w) A (.call (.ref f) args) (CR CX0 outer P w H s Q E) s
structure HasH (P : Program) (w : World) (K : PySem.W.Frag) (mg : Str -> Option Value) (base : Heap) (k : Nat) (x : Str) (ps : List Str) (sp : Addr -> Sp) : Prop where
 ex : ∃ f fd, FnOkH P w K mg base k f fd ps sp /\ mg x = some (.ref f) /\ PySem.W.keepIn K (.ref f) = true /\ Binds K fd ps []
section
variable {X : Cx} {k : Nat} {ps : List Str} {sp : Addr -> Sp} {x : Str} {p pos : Pos} {e : Expr} {es : List Expr} {t : TA} {a : Addr}
theorem b3y (h : HasH X.prog X.w X.K X.mg X.base k x ps sp) (hr : RoomH k X.A) (hh : X.A.handled = some (.ref a)) (hg : Gl X x) (ha : PA X (e :: es) t)
   (hdb : (x == ("__debug__" : Str)) = false := by decide) (he : starEach (e :: es) X.env = (false, eval e X.env) :: starEach es X.env := by rfl) (hpl : (backTo pos (starEach es X.env)).any (·.1) = false := by rfl) :
   PE X (.Call (.Name x p) (e :: es) [] pos) (tCall (sp a) [] E0 t) := by
 intro pins s σ H Q I hw
 obtain ⟨f, fd, F, hm, hk, hb⟩ := h.ex
 refine wpAny_Call_Name_kw (a29 I hg hm ?_ hdb)
 refine PySem.W.callWith_K (h₀ := X.base) I.ok.mod.kin hk (thn (ha pos pins s σ H _ I hw) fun us s1 ⟨vs, H1, I1, r, q⟩ => ⟨I1.kIn, ?_⟩) he hpl
 have q : sp a vs H1 Q E0 := by
   have q' : sp a (vs ++ []) H1 Q E0 := q
   rw [List.append_nil] at q'
   exact q'
 have hl : us.length = ps.length := by rw [<- r.length]; exact F.len _ _ _ _ _ q
 have hb' := hb s1 us I1.kIn (by rw [List.append_nil]; exact hl)
 rw [List.append_nil] at hb'
 refine wpAny_call (codeAny_mono (F.run X.A a X.stack s1 H1 ⟨us, []⟩ us vs Q _ hr hh I1.env0 hb' r q) fun r s' hq => ?_)
 cases r with
 | error e => exact False.elim hq
 | ok fl =>
   cases fl with
   | ret u => exact I1.after hq
   | next => exact False.elim hq
   | brk => exact False.elim hq
   | cont => exact False.elim hq
end
noncomputable abbrev cxH (P : Program) (w : World) (K : PySem.W.Frag) (mg : Str -> Option Value) (base : Heap) (N : List Str) (qual : Str) (scope : Scope) (f : Addr) (cd : Value) (A : Around) (outer : List Env) (s : Shared) (H : Hp) (E : XK) : Cx :=
 { cxOf CX0 P w K mg base N qual scope f cd A outer s H E with calm := false, xe := fun _ _ => False }
theorem b2u {P : Program} {w : World} {K : PySem.W.Frag} {mg : Str -> Option Value} {base : Heap} {N ps : List Str} {qual : Str} {scope : Scope} {f : Addr} {cd : Value} {A : Around} {outer : List Env} {s s1 : Shared} {H : Hp} {E : XK} {us : List Value} {vs : List V}
   (S : FnScope N ps scope) (e0 : Env0 P w K mg base A outer s H) (hl : vs.length = ps.length) (r : Vals vs us)
   (x : InCallC s s.heap.objs.size (bindL (envOfC qual scope s.heap.objs.size f cd).kindOf (ps.zip us) fun _ => none) (cellsFrom (s.heap.objs.size + 1) scope.names []) (bindC (envOfC qual scope s.heap.objs.size f cd).kindOf (ps.zip us) fun _ => none) s1) :
   Inv (cxH P w K mg base N qual scope f cd A outer s H E) [] (start N vs) H s1 := by
 have e1 : Env0 P w K mg base { A with handled := none } outer s H := ⟨e0.frames, e0.mod, e0.bs, e0.bsz, e0.funs, e0.frf, e0.hok, e0.bare⟩
 have I := a9j (CX := CX0) (E := E) (A := { A with handled := none }) S rfl e1 hl r x
 have ok := I.ok
 exact ⟨⟨ok.mod, ok.kind, ok.glob, ok.blt, ok.above, ok.inj, ok.has, ok.cab, fun z => absurd z (by simp), Around.frames_deeper e0.frames, ok.stk, ok.exf, ok.bs, ok.bsz, ok.noex, ok.exfs, ok.funs, ok.frf⟩,
   I.os, I.bare, I.base, I.loc, I.cell, I.free, I.freeC, I.pin, I.hok, I.len⟩
theorem Fun.okH {P : Program} {w : World} {K : PySem.W.Frag} {mg : Str -> Option Value} {base : Heap} {x qual : Str} {st : Stmt} {f : Addr} {fd : FuncData} {N ps : List Str} {k : Nat} {sp : Addr -> Sp} (F : Fun K x qual st f fd) (S : FnScope N ps (a0c st)) (len : ∀ a vs H Q E, sp a vs H Q E -> vs.length = ps.length)
   (hbody : ∀ (cdv : Value) (A : Around) (a : Addr) (outer : List Env) (s : Shared) (H : Hp) (vs : List V) (Q : VK) (E : XK), RoomH k (A.deeper (envOfC qual (a0c st) s.heap.objs.size f cdv)) -> (A.deeper (envOfC qual (a0c st) s.heap.objs.size f cdv)).handled = some (.ref a) -> sp a vs H Q E ->
     ∃ t, PSs (cxH P w K mg base N qual (a0c st) f cdv A outer s H E) (a0u st) t /\ t { nx := fun _ H' => Q .non H', rt := Q } (start N vs) H) : FnOkH P w K mg base (k + 1) f fd ps sp := by
 obtain ⟨oc, od, kV, doc, pm, an, cdv, ct, osl, rfl, lk, hcd⟩ := F.ex
 refine ⟨len, fun A a outer s H args us vs Q E hr hh e0 hb r hsp => ?_⟩
 have hl := len _ _ _ _ _ hsp
 have KX : K.In s.heap := e0.mod.kin.keeps fun b o e => (e0.bs b o e).1
 have lim : s.heap.NoLimit := e0.mod.nolimit.keeps fun b o e => (e0.bs b o e).1
 have hkind : ∀ y ∈ ps.zip us, (a0c st).names.lookup y.1 = some .local \/ ((a0c st).names.lookup y.1 = some .cell /\ ((cellsFrom (s.heap.objs.size + 1) (a0c st).names []).lookup y.1).isSome = true) := fun ⟨n, v⟩ hy => by
   rcases S.par n (List.of_mem_zip hy).1 with q | q
   . exact .inl q
   . exact .inr ⟨q, PySem.W.cellsFrom_some _ _ _ (.inl q)⟩
 refine codeAny_call_function (by have := hr.dp; omega) (KX _ _ lk) rfl S.co S.gen rfl (PySem.W.codeRec_of KX hcd) (hb _ _ _ _ ?_)
 refine wpAny_newFunctionEnv_cells S.kind hkind fun env he s1 x => ?_
 subst he
 refine ⟨lim.keeps x.toInCall.keep, codeAny_func ?_⟩
 obtain ⟨t, ht, hq⟩ := hbody cdv A a outer s H vs Q E (hr.deeper _) hh hsp
 have I : Inv (cxH P w K mg base N qual (a0c st) f cdv A outer s H E) [] (start N vs) H s1 := b2u S e0 hl r x
 refine wpAny_mono (ht [] s1 (start N vs) H _ I hq) (fun fl s' hs => ?_) fun e s' hs => hs.elim
 have fin : ∀ {σ' : St} {H' : Hp} {v : V} {u : Value}, Inv (cxH P w K mg base N qual (a0c st) f cdv A outer s H E) [] σ' H' s' -> RelV v u -> Q v H' -> CE outer P w H s Q u s' :=
   fun {σ' H' v u} J rv q => ⟨v, H', J.os, J.bare, J.base, J.hok, rv, q⟩
 cases fl with
 | ret u =>
   obtain ⟨v, σ', H', J, rv, q⟩ := hs
   exact fin J rv q
 | next =>
   obtain ⟨σ', H', J, q⟩ := hs
   exact fin (v := V.non) (u := Value.none) J rfl q
 | brk =>
   obtain ⟨_, _, _, q⟩ := hs
   exact False.elim q
 | cont =>
   obtain ⟨_, _, _, q⟩ := hs
   exact False.elim q
section
variable {X : Cx} {pins : List (Addr × Obj)} {σ : St} {H : Hp} {s : Shared}
theorem Inv.adopt {b : Addr} {o : HO} (I : Inv X pins σ H s) (f : FpOk X pins H b) (hs : X.s₀.heap.objs.size <= b) (ok : ObjOk X.prog X.w (upd H b o) s.heap b o) : Inv X pins σ (upd H b o) s := by
 obtain ⟨hn, hL, hfs, _, hc, hp⟩ := f
 have ne : ∀ c u, H c = some u -> c ≠ b := fun c u q z => by subst z; rw [hn] at q; cases q
 refine ⟨I.ok, I.os, I.bare, ⟨I.base.keep, I.base.slot, fun c oc e n hx => ?_, I.base.there, fun c xs e => ?_, fun c oc u e => ?_, fun c ps e => ?_⟩, I.loc, I.cell, ?_, fun x c e => ?_, fun p hp' => ?_, fun c u q => ?_, I.len⟩
 . rw [a0l (show c ≠ b from fun z => absurd (Nat.lt_of_lt_of_le (Heap.lt_size e) (by rw [z]; exact hs)) (Nat.lt_irrefl _))]
   exact I.base.free c oc e n hx
 . have e' := I.base.tups c xs e
   rw [a0l (ne c _ e')]; exact e'
 . have e' := I.base.frzs c oc u e
   rw [a0l (ne c _ e')]; exact e'
 . obtain ⟨m1, e'⟩ := I.base.tbls c ps e
   exact ⟨m1, by rw [a0l (ne c _ e')]; exact e'⟩
 . rw [a0l (Ne.symm hL)]; exact I.free
 . rw [a0l (hc x c e)]; exact I.freeC x c e
 . obtain ⟨e, n, n1, n2, d⟩ := I.pin p hp'
   exact ⟨e, by rw [a0l (hp p hp')]; exact n, n1, n2, d⟩
 . by_cases hb : c = b
   . subst hb
     rw [a0p] at q
     cases q
     exact ok
   . rw [a0l hb] at q
     exact (I.hok c u q).stay (fun _ _ _ r => r) (fun c' r => by rw [a0l (ne c' _ r)]; exact r) fun c' xs r => by rw [a0l (ne c' _ r)]; exact r
def viewφ (T : String) (p a : Addr) : Heap -> Prop := fun h => h.get? p = some { cls := .type T, data := .fields #[.ref a] }
def b6c (T : String) : V -> List V -> Hp -> VK -> Prop := fun x vs H Q => ∃ a kvs, x = .ref a /\ vs = [] /\ Rd H a (.dK kvs) /\ ∀ p, H p = none -> Q (.ref p) (upd H p (.ext (viewφ T p a)))
theorem b21 {T : String} {a : Addr} {Q : VK} (I : Inv X pins σ H s) (h : ∀ p, H p = none -> Q (.ref p) (upd H p (.ext (viewφ T p a)))) :
   EP X pins σ Q (.ref s.heap.objs.size) { s with heap := s.heap.push { cls := .type T, data := .fields #[.ref a] } } := by
 refine ⟨.ref s.heap.objs.size, _, I.laid (t' := s.toks) (fun b ob q => Heap.get?_push_of_some _ q) (Nat.le_refl _) ?_, rfl, h _ (I.hok.fresh (Nat.le_refl _))⟩
 exact ⟨Heap.get?_push_size _ rfl, ⟨_, Heap.get?_push_size _ rfl⟩, fun h1 h2 e k => k _ e⟩
theorem a89 : MtR X "dict.values" (b6c "dict_values") := by
 intro pins s σ H x vs v us Q I rx rv h
 obtain ⟨a, kvs, rfl, rfl, hd, q⟩ := h
 cases rx; cases rv
 obtain ⟨_, lo, ws, _, hD⟩ := a5g I.hok hd
 exact call_meetsIn PySem.F.slot_dict_values hD.typeIs PySem.F.entry_dict_values (PySem.F.args_dict_values_1 _) (meets_dict_values (a0y X.prog X.w) a lo) ⟨⟨ws, hD⟩, b21 I q⟩
theorem b1k : MtR X "dict.items" (b6c "dict_items") := by
 intro pins s σ H x vs v us Q I rx rv h
 obtain ⟨a, kvs, rfl, rfl, hd, q⟩ := h
 cases rx; cases rv
 obtain ⟨_, lo, ws, _, hD⟩ := a5g I.hok hd
 exact call_meetsIn PySem.F.slot_dict_items hD.typeIs PySem.F.entry_dict_items (PySem.F.args_dict_items_1 _) (meets_dict_items (a0y X.prog X.w) a lo) ⟨⟨ws, hD⟩, b21 I q⟩
theorem b52 {kvs : List (Key × V)} {ws : List (Key × Value)} (r : KV kvs ws) : Vals (kvs.map (·.2)) (ws.map (·.2)) := by
 induction r with
 | nil => exact .nil
 | cons h _ ih => exact .cons h.2 ih
theorem KV.at {kvs : List (Key × V)} {ws : List (Key × Value)} (r : KV kvs ws) {j : Nat} {k : Key} {u : Value} (h : ws[j]? = some (k, u)) : ∃ v, kvs[j]? = some (k, v) /\ RelV v u := by
 induction r generalizing j with
 | nil => simp at h
 | cons h1 _ ih =>
   cases j with
   | zero =>
     simp only [List.getElem?_cons_zero, Option.some.injEq] at h
     rename_i p q _ _ _
     subst h
     refine ⟨p.2, ?_, h1.2⟩
     simp only [List.getElem?_cons_zero, Option.some.injEq]
     exact Prod.ext h1.1 rfl
   | succ j => exact ih (by simpa using h)
theorem a5i (hc : X.calm = true) : CallR X (.type "list") (fun xs H Q => ∃ p a kvs, xs = [.ref p] /\ H p = some (.ext (viewφ "dict_values" p a)) /\ Rd H a (.dK kvs) /\ ∀ l, H l = none -> Q (.ref l) (upd H l (.lst (kvs.map (·.2))))) := by
 intro pins s σ H xs us Q I r h
 obtain ⟨p, a, kvs, rfl, hp, hd, q⟩ := h
 obtain ⟨u, rfl, ru⟩ := r.one
 cases ru
 obtain ⟨hz, lo, ws, rel, hD⟩ := a5g I.hok hd
 obtain ⟨ep, hat⟩ := hD.dictAt
 have hv : s.heap.get? p = some { cls := .type "dict_values", data := .fields #[.ref a] } := (I.hok p _ hp).1
 refine PySem.W.kdl_call (PySem.W.kdl_values (knd := a0y X.prog X.w) (kvs := ws) (ep := ep)) (I.ok.hd hc) ⟨⟨_, hv, rfl, rfl⟩, hat⟩ (by rw [<- rel.length]; exact hz) fun h' tk acc c hk hl hi => ?_
 have e : acc.toList = ws.map (·.2) := PySem.W.kdl_vals_eq acc.toList (by rw [Array.length_toList]; exact hi.1) fun j v e => hi.2 j v (by rw [<- Array.getElem?_toList]; exact e)
 refine ⟨.ref s.heap.objs.size, _, I.laid (t' := tk) (o := .lst (kvs.map (·.2))) hk (Nat.le_refl _) ⟨by rw [List.length_map]; exact hz, ws.map (·.2), c, b52 rel, ?_⟩, rfl, q _ (I.hok.fresh (Nat.le_refl _))⟩
 rw [hl, <- e]
def Prs (H : Hp) : List Addr -> List (Key × V) -> Prop := Paired fun a kv => H a = some (.tup [kV kv.1, kv.2])
theorem b1c {kvs : List (Key × V)} {ws : List (Key × Value)} {lo : Addr} (rel : KV kvs ws) (hs : X.s₀.heap.objs.size <= lo) :
   ∀ {as : List Addr} {j : Nat} {H : Hp}, Inv X pins σ H s -> (∀ a ∈ as, lo < a /\ FpOk X pins H a) -> as.Pairwise (· < ·) -> as.length + j = ws.length ->
     (∀ (i : Nat) (a : Addr), as[i]? = some a -> ∃ key k x, ws[j + i]? = some (k, x) /\ (a0y X.prog X.w).is k key = true /\ s.heap.get? a = some { cls := .type "tuple", data := .seq #[key, x] }) ->
     ∃ H', Inv X pins σ H' s /\ (∀ b, (∀ a ∈ as, b ≠ a) -> H' b = H b) /\ Prs H' as (kvs.drop j)
 | [], j, H, I, _, _, hl, _ => ⟨H, I, fun _ _ => rfl, by
     rw [List.drop_of_length_le (by rw [rel.length]; simp at hl; omega)]
     exact .nil⟩
 | a :: as, j, H, I, hf, hp, hl, hv => by
   obtain ⟨key, k, x, e1, hk, e2⟩ := hv 0 a rfl
   obtain ⟨v, e3, rv⟩ := rel.at e1
   have rk : RelV (kV k) key := by
     rcases a03 hk with ⟨i, t, rfl, rfl⟩ | ⟨x, t, rfl, rfl⟩
     . exact ⟨t, rfl⟩
     . exact ⟨t, rfl⟩
   obtain ⟨hlo, fa⟩ := hf a List.mem_cons_self
   have hpa := List.pairwise_cons.mp hp
   have I1 : Inv X pins σ (upd H a (.tup [kV k, v])) s := I.adopt fa (Nat.le_trans hs (Nat.le_of_lt hlo)) ⟨by show 2 <= sizeLine; decide, [key, x], .cons rk (.cons rv .nil), _, e2, rfl, _, rfl⟩
   have hne : ∀ b ∈ as, b ≠ a := fun b hb z => absurd (hpa.1 b hb) (by rw [z]; exact Nat.lt_irrefl _)
   obtain ⟨H', I', k1, k2⟩ := b1c rel hs (as := as) (j := j + 1) I1 (fun b hb => ⟨(hf b (List.mem_cons_of_mem _ hb)).1, by
     have f := (hf b (List.mem_cons_of_mem _ hb)).2
     exact ⟨by rw [a0l (hne b hb)]; exact f.1, f.2⟩⟩) hpa.2 (by simp at hl |-; omega) (fun i b hb => by
     obtain ⟨key', k', x', g1, g2, g3⟩ := hv (i + 1) b (by simpa using hb)
     exact ⟨key', k', x', by rw [<- g1]; congr 1; omega, g2, g3⟩)
   refine ⟨H', I', fun b hb => ?_, ?_⟩
   . rw [k1 b fun c hc => hb c (List.mem_cons_of_mem _ hc), a0l (hb a List.mem_cons_self)]
   . have e3' : kvs[j]? = some (k, v) := by simpa using e3
     have hlt : j < kvs.length := (List.getElem?_eq_some_iff.mp e3').1
     have hd : kvs.drop j = (k, v) :: kvs.drop (j + 1) := by
       rw [List.drop_eq_getElem_cons hlt]
       congr 1
       exact (List.getElem?_eq_some_iff.mp e3').2
     rw [hd]
     refine .cons ?_ k2
     rw [k1 a fun b hb z => hne b hb z.symm, a0p]
theorem a6q (hc : X.calm = true) : CallR X (.type "list") (fun xs H Q => ∃ p a kvs, xs = [.ref p] /\ H p = some (.ext (viewφ "dict_items" p a)) /\ Rd H a (.dK kvs) /\
   ∀ l as H1, H l = none -> (∀ a ∈ as, H a = none /\ a ≠ l) -> (∀ b, (∀ a ∈ as, b ≠ a) -> H1 b = upd H l (.lst (as.map V.ref)) b) -> Prs H1 as kvs -> Q (.ref l) H1) := by
 intro pins s σ H xs us Q I r h
 obtain ⟨p, a, kvs, rfl, hp, hd, q⟩ := h
 obtain ⟨u, rfl, ru⟩ := r.one
 cases ru
 obtain ⟨hz, lo, ws, rel, hD⟩ := a5g I.hok hd
 obtain ⟨ep, hat⟩ := hD.dictAt
 have hv : s.heap.get? p = some { cls := .type "dict_items", data := .fields #[.ref a] } := (I.hok p _ hp).1
 refine PySem.W.kdx_call (knd := a0y X.prog X.w) (kvs := ws) (ep := ep) (I.ok.hd hc) ⟨_, hv, rfl, rfl⟩ hat (by rw [<- rel.length]; exact hz) fun h' tk acc c as hk hl hlen hG hacc => ?_
 have hl0 := I.hok.fresh (Nat.le_refl s.heap.objs.size)
 have vr : Vals (as.map V.ref) (as.map Value.ref) := by
   clear hlen hG hacc
   induction as with
   | nil => exact .nil
   | cons _ _ ih => exact .cons rfl ih
 have I1 : Inv X pins σ (upd H s.heap.objs.size (.lst (as.map V.ref))) { s with heap := h', toks := tk } := I.laid hk (Nat.le_refl _) ⟨by rw [List.length_map, hlen, <- rel.length]; exact hz, as.map Value.ref, c, vr, by rw [hl, <- hacc]⟩
 have fa : ∀ b ∈ as, s.heap.objs.size < b /\ FpOk X pins (upd H s.heap.objs.size (.lst (as.map V.ref))) b := fun b hb => by
   have hlt := hG.above b hb
   refine ⟨hlt, I.fpOk (Nat.le_of_lt hlt) ?_⟩
   rw [a0l (Nat.ne_of_gt hlt)]
   exact I.hok.fresh (Nat.le_of_lt hlt)
 obtain ⟨H', I', k1, k2⟩ := b1c (j := 0) rel I.sz I1 fa hG.rise (by omega) (fun i b hb => by
   obtain ⟨key, k, x, g1, g2, g3⟩ := hG.pairs i b hb
   exact ⟨key, k, x, by simpa using g1, g2, g3⟩)
 exact ⟨.ref s.heap.objs.size, H', I', rfl, q _ as H' hl0 (fun b hb => ⟨I.hok.fresh (Nat.le_of_lt (fa b hb).1), Nat.ne_of_gt (fa b hb).1⟩) k1 (by simpa using k2)⟩
end
inductive D where
 | non | bl (b : Bool) | int (i : Int) | str (x : Str) | lst (ds : List D) | tup (ds : List D) | scr (ds : List D) | ctp (ds : List D) | obj (p : Addr)
mutual
inductive RD (K : PySem.W.Frag) (F : Hp) : V -> D -> Prop where
 | non : RD K F .non .non
 | bl (b : Bool) : RD K F (.bl b) (.bl b)
 | int (i : Int) : RD K F (.int i) (.int i)
 | str (x : Str) : RD K F (.str x) (.str x)
 | lst {a : Addr} {xs : List V} {ds : List D} (e : F a = some (.lst xs)) (r : RDs K F xs ds) : RD K F (.ref a) (.lst ds)
 | scr {a : Addr} {xs : List V} {ds : List D} (e : SqL K F a xs) (r : RDs K F xs ds) : RD K F (.ref a) (.scr ds)
 | tup {a : Addr} {xs : List V} {ds : List D} (e : F a = some (.tup xs)) (r : RDs K F xs ds) : RD K F (.ref a) (.tup ds)
 | ctp {a : Addr} {xs : List V} {ds : List D} (e : SqT K F a xs) (r : RDs K F xs ds) : RD K F (.ref a) (.ctp ds)
 | obj (p : Addr) : RD K F (.ref p) (.obj p)
inductive RDs (K : PySem.W.Frag) (F : Hp) : List V -> List D -> Prop where
 | nil : RDs K F [] []
 | cons {x : V} {d : D} {xs : List V} {ds : List D} (h : RD K F x d) (t : RDs K F xs ds) : RDs K F (x :: xs) (d :: ds)
end
theorem Same.seqT {K : PySem.W.Frag} {H H' : Hp} {a : Addr} {xs : List V} (e : Same H H') (h : SqT K H a xs) : SqT K H' a xs := by
 rcases h with (h | ⟨o, h⟩) | h
 . exact .inl (.inl (e _ _ h))
 . exact .inl (.inr ⟨o, e _ _ h⟩)
 . exact .inr h
mutual
theorem RD.up {K : PySem.W.Frag} {F F' : Hp} (e : Same F F') : ∀ {x : V} {d : D}, RD K F x d -> RD K F' x d
 | _, _, .non => .non
 | _, _, .bl b => .bl b
 | _, _, .int i => .int i
 | _, _, .str x => .str x
 | _, _, .lst q rs => .lst (e _ _ q) (RDs.up e rs)
 | _, _, .scr q rs => .scr (e.seq q) (RDs.up e rs)
 | _, _, .tup q rs => .tup (e _ _ q) (RDs.up e rs)
 | _, _, .ctp q rs => .ctp (e.seqT q) (RDs.up e rs)
 | _, _, .obj p => .obj p
theorem RDs.up {K : PySem.W.Frag} {F F' : Hp} (e : Same F F') : ∀ {xs : List V} {ds : List D}, RDs K F xs ds -> RDs K F' xs ds
 | _, _, .nil => .nil
 | _, _, .cons h t => .cons (RD.up e h) (RDs.up e t)
end
section
variable {K : PySem.W.Frag} {F : Hp}
theorem RDs.length : ∀ {xs : List V} {ds : List D}, RDs K F xs ds -> xs.length = ds.length
 | _, _, .nil => rfl
 | _, _, .cons _ t => by simp [RDs.length t]
theorem RDs.get : ∀ {xs : List V} {ds : List D} {i : Nat} {d : D}, RDs K F xs ds -> ds[i]? = some d -> ∃ x, xs[i]? = some x /\ RD K F x d
 | _, _, _, _, .nil, e => by simp at e
 | _, _, 0, _, .cons h _, e => by simp at e; subst e; exact ⟨_, rfl, h⟩
 | _, _, i + 1, d, .cons _ t, e => by
   obtain ⟨x, h1, h2⟩ := RDs.get (i := i) (d := d) t (by simpa using e)
   exact ⟨x, by simpa using h1, h2⟩
theorem RDs.get' : ∀ {xs : List V} {ds : List D} {i : Nat} {x : V}, RDs K F xs ds -> xs[i]? = some x -> ∃ d, ds[i]? = some d /\ RD K F x d
 | _, _, _, _, .nil, e => by simp at e
 | _, _, 0, _, .cons h _, e => by simp at e; subst e; exact ⟨_, rfl, h⟩
 | _, _, i + 1, d, .cons _ t, e => by
   obtain ⟨x, h1, h2⟩ := RDs.get' (i := i) t (by simpa using e)
   exact ⟨x, by simpa using h1, h2⟩
theorem RDs.append : ∀ {xs ys : List V} {ds es : List D}, RDs K F xs ds -> RDs K F ys es -> RDs K F (xs ++ ys) (ds ++ es)
 | _, _, _, _, .nil, s => s
 | _, _, _, _, .cons h t, s => .cons h (RDs.append t s)
theorem RDs.set {x : V} {d : D} (r : RD K F x d) : ∀ {xs : List V} {ds : List D} (i : Nat), RDs K F xs ds -> RDs K F (xs.set i x) (ds.set i d)
 | _, _, _, .nil => .nil
 | _, _, 0, .cons _ t => .cons r t
 | _, _, i + 1, .cons q t => .cons q (RDs.set r i t)
theorem RDs.take : ∀ {xs : List V} {ds : List D} (n : Nat), RDs K F xs ds -> RDs K F (xs.take n) (ds.take n)
 | _, _, 0, _ => .nil
 | _, _, _ + 1, .nil => .nil
 | _, _, n + 1, .cons r t => .cons r (RDs.take n t)
theorem RDs.drop : ∀ {xs : List V} {ds : List D} (n : Nat), RDs K F xs ds -> RDs K F (xs.drop n) (ds.drop n)
 | _, _, 0, r => r
 | _, _, _ + 1, .nil => .nil
 | _, _, n + 1, .cons _ t => RDs.drop n t
theorem RDs.reverse : ∀ {xs : List V} {ds : List D}, RDs K F xs ds -> RDs K F xs.reverse ds.reverse
 | _, _, .nil => .nil
 | _, _, .cons r t => by
   rw [List.reverse_cons, List.reverse_cons]
   exact (RDs.reverse t).append (.cons r .nil)
theorem RDs.one' {xs : List V} {d : D} (r : RDs K F xs [d]) : ∃ x, xs = [x] /\ RD K F x d := by
 cases r with | cons h t => cases t; exact ⟨_, rfl, h⟩
theorem RDs.nil' {xs : List V} (r : RDs K F xs []) : xs = [] := by cases r; rfl
theorem RDs.two' {xs : List V} {d e : D} (r : RDs K F xs [d, e]) : ∃ x y, xs = [x, y] /\ RD K F x d /\ RD K F y e := by
 cases r with | cons h t => obtain ⟨y, rfl, hy⟩ := t.one'; exact ⟨_, _, rfl, h, hy⟩
end
inductive MO where
 | lst (ds : List D) | dic (kvs : List (Key × D)) | ins (C : Addr) (fs : List (Str × D)) | exc (cls : Value) | raw (u : HO)
noncomputable abbrev Mem := Addr -> Option MO
noncomputable def put (M : Mem) (p : Addr) (o : MO) : Mem := fun b => if b = p then some o else M b
noncomputable def del (M : Mem) (p : Addr) : Mem := fun b => if b = p then none else M b
theorem a0d {M : Mem} {p : Addr} {o : MO} : put M p o p = some o := by unfold put; rw [if_pos rfl]
theorem a0h {M : Mem} {p q : Addr} {o : MO} (h : q ≠ p) : put M p o q = M q := by unfold put; rw [if_neg h]
theorem a1e {M : Mem} {p : Addr} {o u : MO} : put (put M p o) p u = put M p u := by funext b; unfold put; split <;> rfl
theorem a5s {M : Mem} {p : Addr} : del M p p = none := by unfold del; rw [if_pos rfl]
theorem a3l {M : Mem} {p q : Addr} (h : q ≠ p) : del M p q = M q := by unfold del; rw [if_neg h]
theorem a3z {M : Mem} {p : Addr} {o : MO} (h : M p = none) : del (put M p o) p = M := by
 funext b; unfold del put
 by_cases hb : b = p
 . rw [if_pos hb, hb, h]
 . rw [if_neg hb, if_neg hb]
theorem a5n {M : Mem} {p q : Addr} {o u : MO} (h : p ≠ q) : put (put M p o) q u = put (put M q u) p o := by
 funext b; unfold put
 by_cases h1 : b = p
 . subst h1; rw [if_neg h, if_pos rfl, if_pos rfl]
 . by_cases h2 : b = q
   . rw [if_pos h2, if_neg h1, if_pos h2]
   . rw [if_neg h2, if_neg h1, if_neg h1, if_neg h2]
def Sub (M M' : Mem) : Prop := ∀ p o, M p = some o -> M' p = some o
theorem Sub.refl (M : Mem) : Sub M M := fun _ _ h => h
theorem Sub.put {M : Mem} {p : Addr} {o : MO} (h : M p = none) : Sub M (put M p o) := fun q u e => by
 rw [a0h (by rintro rfl; rw [h] at e; cases e)]; exact e
theorem Sub.trans {M M1 M2 : Mem} (a : Sub M M1) (b : Sub M1 M2) : Sub M M2 := fun p o h => b p o (a p o h)
def PF {κ : Type} (K : PySem.W.Frag) (F : Hp) : List (κ × V) -> List (κ × D) -> Prop := Paired fun p q => p.1 = q.1 /\ RD K F p.2 q.2
theorem PF.up {κ : Type} {K : PySem.W.Frag} {F F' : Hp} (e : Same F F') {a : List (κ × V)} {b : List (κ × D)} (h : PF K F a b) : PF K F' a b := Paired.mapP h fun _ _ q => ⟨q.1, q.2.up e⟩
def RO (K : PySem.W.Frag) (F : Hp) (a : Addr) : MO -> HO -> Prop
 | .lst ds, .lst vs => RDs K F vs ds
 | .dic kvs, .dK ws => PF K F ws kvs
 | .ins C fs, .ins C' _ ws => C' = C /\ PF K F ws fs
 | .exc c, .ext φ => φ = excφ a c
 | .raw u, u' => u' = u
 | _, _ => False
theorem RO.up {K : PySem.W.Frag} {F F' : Hp} (e : Same F F') {a : Addr} : ∀ {o : MO} {u : HO}, RO K F a o u -> RO K F' a o u := by
 intro o u h
 cases o <;> cases u <;> first
   | exact (False.elim h)
   | exact RDs.up e h
   | exact PF.up e h
   | exact ⟨h.1, PF.up e h.2⟩
   | exact h
section
variable {K : PySem.W.Frag} {F : Hp} {a : Addr} {u : HO}
theorem RO.isL {ds : List D} (h : RO K F a (.lst ds) u) : ∃ vs, u = .lst vs /\ RDs K F vs ds := by
 cases u <;> first | exact (False.elim h) | exact ⟨_, rfl, h⟩
theorem RO.isD {kvs : List (Key × D)} (h : RO K F a (.dic kvs) u) : ∃ ws, u = .dK ws /\ PF K F ws kvs := by
 cases u <;> first | exact (False.elim h) | exact ⟨_, rfl, h⟩
theorem RO.isI {C : Addr} {fs : List (Str × D)} (h : RO K F a (.ins C fs) u) : ∃ dx ws, u = .ins C dx ws /\ PF K F ws fs := by
 cases u <;> first | exact (False.elim h) | (obtain ⟨rfl, h⟩ := h; exact ⟨_, _, rfl, h⟩)
theorem RO.isX {c : Value} (h : RO K F a (.exc c) u) : u = .ext (excφ a c) := by
 cases u <;> first | exact (False.elim h) | (cases h; rfl)
end
structure AM (K : PySem.W.Frag) (F : Hp) (M : Mem) (H : Hp) : Prop where
 sub : Same F H
 dj : ∀ p o, M p = some o -> F p = none
 mem : ∀ p o, M p = some o -> ∃ u, H p = some u /\ RO K F p o u
theorem a1l {F : Hp} {p : Addr} {u : HO} (h : F p = none) : Same F (upd F p u) := fun b o e => by
 rw [a0l (by rintro rfl; rw [h] at e; cases e)]; exact e
section
variable {K : PySem.W.Frag} {F : Hp} {M : Mem} {H : Hp} {p : Addr} {o : MO} {u : HO}
theorem AM.fF (m : AM K F M H) (h : H p = none) : F p = none := m.sub.free h
theorem AM.fM (m : AM K F M H) (h : H p = none) : M p = none := by
 cases q : M p with
 | none => rfl
 | some o => obtain ⟨u, e, _⟩ := m.mem p o q; rw [h] at e; cases e
theorem AM.new (m : AM K F M H) (h : H p = none) (r : RO K F p o u) : AM K F (put M p o) (upd H p u) := by
 refine ⟨fun b x e => ?_, fun b x e => ?_, fun b x e => ?_⟩
 . exact a1l h b x (m.sub b x e)
 . by_cases hb : b = p
   . subst hb; exact m.fF h
   . rw [a0h hb] at e; exact m.dj b x e
 . by_cases hb : b = p
   . subst hb; rw [a0d] at e; cases e; exact ⟨u, a0p, r⟩
   . rw [a0h hb] at e
     obtain ⟨y, e1, r1⟩ := m.mem b x e
     exact ⟨y, by rw [a0l hb]; exact e1, r1⟩
theorem AM.frz (m : AM K F M H) (h : H p = none) : AM K (upd F p u) M (upd H p u) := by
 have hs := a1l (u := u) (m.fF h)
 refine ⟨fun b x e => ?_, fun b x e => ?_, fun b x e => ?_⟩
 . by_cases hb : b = p
   . subst hb; rw [a0p] at e |-; exact e
   . rw [a0l hb] at e |-; exact m.sub b x e
 . have hb : b ≠ p := by rintro rfl; rw [m.fM h] at e; cases e
   rw [a0l hb]; exact m.dj b x e
 . have hb : b ≠ p := by rintro rfl; rw [m.fM h] at e; cases e
   obtain ⟨y, e1, r1⟩ := m.mem b x e
   exact ⟨y, by rw [a0l hb]; exact e1, r1.up hs⟩
theorem AM.more (m : AM K F M H) (h : H p = none) : AM K F M (upd H p u) := by
 refine ⟨fun b x e => a1l h b x (m.sub b x e), m.dj, fun b x e => ?_⟩
 have hb : b ≠ p := by rintro rfl; rw [m.fM h] at e; cases e
 obtain ⟨y, e1, r1⟩ := m.mem b x e
 exact ⟨y, by rw [a0l hb]; exact e1, r1⟩
theorem AM.set {o' : MO} (m : AM K F M H) (h : M p = some o) (r : RO K F p o' u) : AM K F (put M p o') (upd H p u) := by
 refine ⟨fun b x e => ?_, fun b x e => ?_, fun b x e => ?_⟩
 . have hb : b ≠ p := by rintro rfl; rw [m.dj _ _ h] at e; cases e
   rw [a0l hb]; exact m.sub b x e
 . by_cases hb : b = p
   . subst hb; exact m.dj _ _ h
   . rw [a0h hb] at e; exact m.dj b x e
 . by_cases hb : b = p
   . subst hb; rw [a0d] at e; cases e; exact ⟨u, a0p, r⟩
   . rw [a0h hb] at e
     obtain ⟨y, e1, r1⟩ := m.mem b x e
     exact ⟨y, by rw [a0l hb]; exact e1, r1⟩
theorem AM.freeze {ds : List D} (m : AM K F M H) (h : M p = some (.lst ds)) : ∃ F', Same F F' /\ AM K F' (del M p) H /\ RD K F' (.ref p) (.lst ds) := by
 obtain ⟨y, e, r⟩ := m.mem p _ h
 obtain ⟨vs, rfl, r⟩ := r.isL
 have hs := a1l (u := .lst vs) (m.dj _ _ h)
 refine ⟨upd F p (.lst vs), hs, ⟨fun b x q => ?_, fun b x q => ?_, fun b x q => ?_⟩, .lst a0p (r.up hs)⟩
 . by_cases hb : b = p
   . subst hb; rw [a0p] at q; cases q; exact e
   . rw [a0l hb] at q; exact m.sub b x q
 . have hb : b ≠ p := by rintro rfl; rw [a5s] at q; cases q
   rw [a3l hb] at q
   rw [a0l hb]; exact m.dj b x q
 . have hb : b ≠ p := by rintro rfl; rw [a5s] at q; cases q
   rw [a3l hb] at q
   obtain ⟨y, e1, r1⟩ := m.mem b x q
   exact ⟨y, e1, r1.up hs⟩
theorem AM.less {M' : Mem} (m : AM K F M H) (h : Sub M' M) : AM K F M' H := ⟨m.sub, fun p o e => m.dj p o (h p o e), fun p o e => m.mem p o (h p o e)⟩
end
noncomputable abbrev G := List (Option D)
structure AG (K : PySem.W.Frag) (F : Hp) (Γ : G) (σ : St) : Prop where
 len : Γ.length = σ.length
 at' : ∀ (i : Nat) (d : D), Γ[i]? = some (some d) -> ∃ v, σ[i]? = some (some v) /\ RD K F v d
theorem AG.up {K : PySem.W.Frag} {F F' : Hp} {Γ : G} {σ : St} (a : AG K F Γ σ) (e : Same F F') : AG K F' Γ σ := ⟨a.len, fun i d h => let ⟨v, h1, h2⟩ := a.at' i d h; ⟨v, h1, h2.up e⟩⟩
theorem AG.set {K : PySem.W.Frag} {F : Hp} {Γ : G} {σ : St} {v : V} {d : D} (a : AG K F Γ σ) (r : RD K F v d) (i : Nat) : AG K F (Γ.set i (some d)) (σ.set i (some v)) := by
 refine ⟨by simp [a.len], fun j e h => ?_⟩
 by_cases hj : i = j
 . subst hj
   rw [List.getElem?_set] at h
   simp only [if_true] at h
   split at h
   . rename_i hl
     cases h
     refine ⟨v, ?_, r⟩
     rw [List.getElem?_set, if_pos rfl, if_pos (by rw [<- a.len]; exact hl)]
   . cases h
 . rw [List.getElem?_set_ne hj] at h |-
   exact a.at' j e h
theorem AG.unset {K : PySem.W.Frag} {F : Hp} {Γ : G} {σ : St} (a : AG K F Γ σ) (i : Nat) : AG K F (Γ.set i none) (σ.set i none) := by
 refine ⟨by simp [a.len], fun j e h => ?_⟩
 by_cases hj : i = j
 . subst hj
   rw [List.getElem?_set] at h
   simp only [if_true] at h
   split at h <;> cases h
 . rw [List.getElem?_set_ne hj] at h |-
   exact a.at' j e h
noncomputable abbrev AK := D -> Mem -> Prop
noncomputable abbrev AE := G -> Mem -> AK -> Prop
noncomputable abbrev AT := G -> Mem -> (Bool -> Mem -> Prop) -> Prop
noncomputable abbrev AA := G -> Mem -> (List D -> Mem -> Prop) -> Prop
structure AEnds where
 nx : G -> Mem -> Prop
 rt : AK
 bk : G -> Mem -> Prop := fun _ _ => False
 ct : G -> Mem -> Prop := fun _ _ => False
noncomputable abbrev AS := AEnds -> G -> Mem -> Prop
def selfE (X : Cx) (e : Expr) : TE := fun σ H Q => ∀ pins s, Inv X pins σ H s -> wpAny (model X.prog X.w) X.A (eval e X.env) (EP X pins σ Q) X.xe s
noncomputable def selfT (X : Cx) (e : Expr) : TT := fun σ H Q => ∀ pins s, Inv X pins σ H s -> wpAny (model X.prog X.w) X.A (isTrue e X.env (eval e X.env)) (TP X pins σ Q) X.xe s
noncomputable def selfW (X : Cx) (e : Expr) : TT := fun σ H Q => ∀ whole pins s, Inv X pins σ H s -> wpAny (model X.prog X.w) X.A (isTrue e X.env whole) (TP X pins σ Q) X.xe s
def selfA (X : Cx) (es : List Expr) : TA := fun σ H Q => ∀ pos pins s, Inv X pins σ H s -> wpAny (model X.prog X.w) X.A (spliced (backTo pos (starEach es X.env))) (AP X pins σ Q) X.xe s
noncomputable def selfS (X : Cx) (st : Stmt) : TS := fun D σ H => ∀ pins s, Inv X pins σ H s -> wpAny (model X.prog X.w) X.A (exec st X.env) (SP X pins D) X.xe s
noncomputable def selfSs (X : Cx) (st : List Stmt) : TS := fun D σ H => ∀ pins s, Inv X pins σ H s -> wpAny (model X.prog X.w) X.A (execs st X.env) (SP X pins D) X.xe s
def selfG (X : Cx) (tg : Expr) : TG := fun v σ H Q => ∀ pins s u, Inv X pins σ H s -> RelV v u -> wpAny (model X.prog X.w) X.A (assign tg X.env u) (fun _ s' => ∃ σ' H', Inv X pins σ' H' s' /\ Q σ' H') X.xe s
def selfGs (X : Cx) (ts : List Expr) : TGs := fun vs σ H Q => ∀ pins s us, Inv X pins σ H s -> Vals vs us -> wpAny (model X.prog X.w) X.A (assignInOrder ((assignEach ts X.env).map (·.2)) us) (fun _ s' => ∃ σ' H', Inv X pins σ' H' s' /\ Q σ' H') X.xe s
section
variable {X : Cx} {e : Expr} {es : List Expr} {st : Stmt} {sts : List Stmt} {σ : St} {H : Hp}
theorem a0m : PE X e (selfE X e) := fun pins s _ _ _ I h => h pins s I
theorem a25 : PT X e (selfT X e) := fun pins s _ _ _ I h => h pins s I
theorem b3n : PW X e (selfW X e) := fun w pins s _ _ _ I h => h w pins s I
theorem a1h : PA X es (selfA X es) := fun pos pins s _ _ _ I h => h pos pins s I
theorem b3q : PS X st (selfS X st) := fun pins s _ _ _ I h => h pins s I
theorem a1n : PSs X sts (selfSs X sts) := fun pins s _ _ _ I h => h pins s I
theorem a54 : PG X e (selfG X e) := fun pins s _ _ _ u _ I r h => h pins s u I r
theorem a7y : PGs X es (selfGs X es) := fun pins s _ _ _ us _ I r h => h pins s us I r
theorem PE.to {t : TE} {Q : VK} (h : PE X e t) (hw : t σ H Q) : selfE X e σ H Q := fun pins s I => h pins s σ H Q I hw
theorem PT.to {t : TT} {Q : Bool -> Hp -> Prop} (h : PT X e t) (hw : t σ H Q) : selfT X e σ H Q := fun pins s I => h pins s σ H Q I hw
theorem PW.to {t : TT} {Q : Bool -> Hp -> Prop} (h : PW X e t) (hw : t σ H Q) : selfW X e σ H Q := fun w pins s I => h w pins s σ H Q I hw
theorem PA.to {t : TA} {Q : List V -> Hp -> Prop} (h : PA X es t) (hw : t σ H Q) : selfA X es σ H Q := fun pos pins s I => h pos pins s σ H Q I hw
theorem PS.to {t : TS} {D : Ends} (h : PS X st t) (hw : t D σ H) : selfS X st D σ H := fun pins s I => h pins s σ H D I hw
theorem PSs.to {t : TS} {D : Ends} (h : PSs X sts t) (hw : t D σ H) : selfSs X sts D σ H := fun pins s I => h pins s σ H D I hw
theorem PG.to {t : TG} {v : V} {Q : St -> Hp -> Prop} (h : PG X e t) (hw : t v σ H Q) : selfG X e v σ H Q := fun pins s u I r => h pins s σ H v u Q I r hw
theorem PGs.to {t : TGs} {vs : List V} {Q : St -> Hp -> Prop} (h : PGs X es t) (hw : t vs σ H Q) : selfGs X es vs σ H Q := fun pins s us I r => h pins s σ H vs us Q I r hw
theorem selfE.mono {Q Q' : VK} (h : selfE X e σ H Q) (k : ∀ v H', Q v H' -> Q' v H') : selfE X e σ H Q' := fun pins s I => thn (h pins s I) fun _ _ ⟨v, H', J, r, q⟩ => ⟨v, H', J, r, k v H' q⟩
theorem selfT.mono {Q Q' : Bool -> Hp -> Prop} (h : selfT X e σ H Q) (k : ∀ v H', Q v H' -> Q' v H') : selfT X e σ H Q' := fun pins s I => thn (h pins s I) fun b _ ⟨H', J, q⟩ => ⟨H', J, k b H' q⟩
theorem selfW.mono {Q Q' : Bool -> Hp -> Prop} (h : selfW X e σ H Q) (k : ∀ v H', Q v H' -> Q' v H') : selfW X e σ H Q' := fun w pins s I => thn (h w pins s I) fun b _ ⟨H', J, q⟩ => ⟨H', J, k b H' q⟩
theorem selfA.mono {Q Q' : List V -> Hp -> Prop} (h : selfA X es σ H Q) (k : ∀ v H', Q v H' -> Q' v H') : selfA X es σ H Q' := fun pos pins s I => thn (h pos pins s I) fun _ _ ⟨v, H', J, r, q⟩ => ⟨v, H', J, r, k v H' q⟩
theorem selfG.mono {v : V} {Q Q' : St -> Hp -> Prop} (h : selfG X e v σ H Q) (k : ∀ σ' H', Q σ' H' -> Q' σ' H') : selfG X e v σ H Q' := fun pins s u I r => thn (h pins s u I r) fun _ _ ⟨σ', H', J, q⟩ => ⟨σ', H', J, k σ' H' q⟩
theorem selfGs.mono {vs : List V} {Q Q' : St -> Hp -> Prop} (h : selfGs X es vs σ H Q) (k : ∀ σ' H', Q σ' H' -> Q' σ' H') : selfGs X es vs σ H Q' := fun pins s u I r => thn (h pins s u I r) fun _ _ ⟨σ', H', J, q⟩ => ⟨σ', H', J, k σ' H' q⟩
structure EndsTo (D D' : Ends) : Prop where
 nx : ∀ σ H, D.nx σ H -> D'.nx σ H
 rt : ∀ v H, D.rt v H -> D'.rt v H
 bk : ∀ σ H, D.bk σ H -> D'.bk σ H
 ct : ∀ σ H, D.ct σ H -> D'.ct σ H
theorem SP.to {pins : List (Addr × Obj)} {D D' : Ends} (k : EndsTo D D') {f : Flow} {s : Shared} (h : SP X pins D f s) : SP X pins D' f s := by
 cases f with
 | next => obtain ⟨σ', H', I, q⟩ := h; exact ⟨σ', H', I, k.nx _ _ q⟩
 | brk => obtain ⟨σ', H', I, q⟩ := h; exact ⟨σ', H', I, k.bk _ _ q⟩
 | cont => obtain ⟨σ', H', I, q⟩ := h; exact ⟨σ', H', I, k.ct _ _ q⟩
 | ret u => obtain ⟨v, σ', H', I, r, q⟩ := h; exact ⟨v, σ', H', I, r, k.rt _ _ q⟩
theorem selfS.mono {D D' : Ends} (h : selfS X st D σ H) (k : EndsTo D D') : selfS X st D' σ H := fun pins s I => thn (h pins s I) fun _ _ q => q.to k
theorem selfSs.mono {D D' : Ends} (h : selfSs X sts D σ H) (k : EndsTo D D') : selfSs X sts D' σ H := fun pins s I => thn (h pins s I) fun _ _ q => q.to k
end
def PQ (K : PySem.W.Frag) (F : Hp) (Q : AK) : VK := fun v H' => ∃ d F' M', Same F F' /\ AM K F' M' H' /\ RD K F' v d /\ Q d M'
def PQb (K : PySem.W.Frag) (F : Hp) (Q : Bool -> Mem -> Prop) : Bool -> Hp -> Prop := fun b H' => ∃ F' M', Same F F' /\ AM K F' M' H' /\ Q b M'
def PQs (K : PySem.W.Frag) (F : Hp) (Q : List D -> Mem -> Prop) : List V -> Hp -> Prop := fun vs H' => ∃ ds F' M', Same F F' /\ AM K F' M' H' /\ RDs K F' vs ds /\ Q ds M'
def PQg (K : PySem.W.Frag) (F : Hp) (Q : G -> Mem -> Prop) : St -> Hp -> Prop := fun σ' H' => ∃ F' Γ' M', Same F F' /\ AG K F' Γ' σ' /\ AM K F' M' H' /\ Q Γ' M'
noncomputable def PQD (K : PySem.W.Frag) (F : Hp) (E : AEnds) : Ends := ⟨PQg K F E.nx, PQ K F E.rt, PQg K F E.bk, PQg K F E.ct⟩
section
variable {K : PySem.W.Frag} {F F1 : Hp}
theorem PQ.dn {Q : AK} (e : Same F F1) {v : V} {H : Hp} (h : PQ K F1 Q v H) : PQ K F Q v H := let ⟨d, F', M', a, b, c, q⟩ := h; ⟨d, F', M', e.trans a, b, c, q⟩
theorem PQb.dn {Q : Bool -> Mem -> Prop} (e : Same F F1) {v : Bool} {H : Hp} (h : PQb K F1 Q v H) : PQb K F Q v H := let ⟨F', M', a, b, q⟩ := h; ⟨F', M', e.trans a, b, q⟩
theorem PQg.dn {Q : G -> Mem -> Prop} (e : Same F F1) {v : St} {H : Hp} (h : PQg K F1 Q v H) : PQg K F Q v H := let ⟨d, F', M', a, b, c, q⟩ := h; ⟨d, F', M', e.trans a, b, c, q⟩
theorem PQD.dn {E : AEnds} (e : Same F F1) : EndsTo (PQD K F1 E) (PQD K F E) := ⟨fun _ _ h => PQg.dn e h, fun _ _ h => PQ.dn e h, fun _ _ h => PQg.dn e h, fun _ _ h => PQg.dn e h⟩
end
structure PEA (X : Cx) (F0 : Hp) (e : Expr) (t : AE)  : Prop where
 run : ∀ F Γ M σ H Q, Same F0 F -> AG X.K F Γ σ -> AM X.K F M H -> t Γ M Q -> selfE X e σ H (PQ X.K F Q)
structure PTA (X : Cx) (F0 : Hp) (e : Expr) (t : AT)  : Prop where
 run : ∀ F Γ M σ H Q, Same F0 F -> AG X.K F Γ σ -> AM X.K F M H -> t Γ M Q -> selfT X e σ H (PQb X.K F Q)
structure PWA (X : Cx) (F0 : Hp) (e : Expr) (t : AT)  : Prop where
 run : ∀ F Γ M σ H Q, Same F0 F -> AG X.K F Γ σ -> AM X.K F M H -> t Γ M Q -> selfW X e σ H (PQb X.K F Q)
structure PAA (X : Cx) (F0 : Hp) (es : List Expr) (t : AA)  : Prop where
 run : ∀ F Γ M σ H Q, Same F0 F -> AG X.K F Γ σ -> AM X.K F M H -> t Γ M Q -> selfA X es σ H (PQs X.K F Q)
structure PSA (X : Cx) (F0 : Hp) (st : Stmt) (t : AS)  : Prop where
 run : ∀ F Γ M σ H E, Same F0 F -> AG X.K F Γ σ -> AM X.K F M H -> t E Γ M -> selfS X st (PQD X.K F E) σ H
structure PSsA (X : Cx) (F0 : Hp) (sts : List Stmt) (t : AS)  : Prop where
 run : ∀ F Γ M σ H E, Same F0 F -> AG X.K F Γ σ -> AM X.K F M H -> t E Γ M -> selfSs X sts (PQD X.K F E) σ H
noncomputable abbrev AGt := D -> G -> Mem -> (G -> Mem -> Prop) -> Prop
noncomputable abbrev AGts := List D -> G -> Mem -> (G -> Mem -> Prop) -> Prop
structure PGA (X : Cx) (F0 : Hp) (tg : Expr) (t : AGt)  : Prop where
 run : ∀ F Γ M σ H v d Q, Same F0 F -> AG X.K F Γ σ -> AM X.K F M H -> RD X.K F v d -> t d Γ M Q -> selfG X tg v σ H (PQg X.K F Q)
structure PGsA (X : Cx) (F0 : Hp) (ts : List Expr) (t : AGts)  : Prop where
 run : ∀ F Γ M σ H vs ds Q, Same F0 F -> AG X.K F Γ σ -> AM X.K F M H -> RDs X.K F vs ds -> t ds Γ M Q -> selfGs X ts vs σ H (PQg X.K F Q)
def aV (i : Nat) : AE := fun Γ M Q => match Γ[i]? with | some (some d) => Q d M | _ => False
def aC (d : D) : AE := fun _ M Q => Q d M
theorem PQ.here {K : PySem.W.Frag} {F : Hp} {M : Mem} {H : Hp} {Q : AK} {v : V} {d : D} (m : AM K F M H) (r : RD K F v d) (q : Q d M) : PQ K F Q v H := ⟨d, F, M, .refl F, m, r, q⟩
theorem PQb.here {K : PySem.W.Frag} {F : Hp} {M : Mem} {H : Hp} {Q : Bool -> Mem -> Prop} {v : Bool} (m : AM K F M H) (q : Q v M) : PQb K F Q v H := ⟨F, M, .refl F, m, q⟩
theorem PQg.here {K : PySem.W.Frag} {F : Hp} {M : Mem} {H : Hp} {Q : G -> Mem -> Prop} {Γ : G} {σ : St} (m : AM K F M H) (g : AG K F Γ σ) (q : Q Γ M) : PQg K F Q σ H := ⟨F, Γ, M, .refl F, g, m, q⟩
section
variable {X : Cx} {F0 : Hp} {a b e : Expr} {es : List Expr} {pos : Pos} {ta tb te : AE} {i : Nat} {x : Str}
theorem paV (h : PE X e (tVar i)) : PEA X F0 e (aV i) := by
 refine ⟨?_⟩
 intro F Γ M σ H Q f0 g m hw
 unfold aV at hw
 split at hw
 . rename_i d hd
   obtain ⟨v, e1, r⟩ := g.at' i d hd
   exact h.to ⟨v, e1, .here m r hw⟩
 . exact hw.elim
theorem paC {v : V} {d : D} (h : PE X e (tC v)) (r : ∀ F, RD X.K F v d) : PEA X F0 e (aC d) := ⟨fun F Γ M σ H Q _ _ m hw => h.to (PQ.here m (r F) hw)⟩
theorem paI {n : Int} {j} : PEA X F0 (.Constant (.int n) j pos) (aC (.int n)) := paC pe_int fun _ => .int _
theorem paB {n : Bool} {j} : PEA X F0 (.Constant (.bool n) j pos) (aC (.bl n)) := paC pe_bl fun _ => .bl _
theorem paN {j} : PEA X F0 (.Constant .none j pos) (aC .non) := paC pe_non fun _ => .non
theorem paS {n : Str} {j} : PEA X F0 (.Constant (.str n) j pos) (aC (.str n)) := paC pe_str fun _ => .str _
theorem two (ha : PEA X F0 a ta) (hb : PEA X F0 b tb) {F : Hp} {Γ : G} {M : Mem} {σ : St} {H : Hp} {R : D -> D -> Mem -> Prop} (f0 : Same F0 F) (g : AG X.K F Γ σ) (m : AM X.K F M H) (h : ta Γ M fun x M1 => tb Γ M1 fun y M2 => R x y M2)
   {Q : V -> V -> Hp -> Prop} (k : ∀ F2 M2 H2 v u x y, Same F F2 -> AM X.K F2 M2 H2 -> RD X.K F2 v x -> RD X.K F2 u y -> R x y M2 -> Q v u H2) : selfE X a σ H fun v H1 => selfE X b σ H1 fun u H2 => Q v u H2 := by
 refine (ha.run F Γ M σ H _ f0 g m h).mono fun v H1 zz9 => ?_
 obtain ⟨x, F1, M1, s1, m1, r1, q1⟩ := zz9
 refine (hb.run F1 Γ M1 σ H1 _ (f0.trans s1) (g.up s1) m1 q1).mono fun u H2 zz9 => ?_
 obtain ⟨y, F2, M2, s2, m2, r2, q2⟩ := zz9
 exact k F2 M2 H2 v u x y (s1.trans s2) m2 (r1.up s2) r2 q2
noncomputable abbrev A2 := D -> D -> Mem -> AK -> Prop
def aOp (r : A2) (ta tb : AE) : AE := fun Γ M Q => ta Γ M fun x M1 => tb Γ M1 fun y M2 => r x y M2 Q
def LO (K : PySem.W.Frag) (r : R2) (a : A2) : Prop := ∀ (F : Hp) (M : Mem) (H : Hp) (x y : V) (dx dy : D) (Q : AK) (R : VK), AM K F M H -> RD K F x dx -> RD K F y dy -> a dx dy M Q -> (∀ v H', PQ K F Q v H' -> R v H') -> r x y H R
theorem paOp {op : Operator} {r : R2} {o : A2} (ho : OpR X (binaryOp op) r) (l : LO X.K r o) (ha : PEA X F0 a ta) (hb : PEA X F0 b tb) : PEA X F0 (.BinOp a op b pos) (aOp o ta tb) := by
 refine ⟨?_⟩
 intro F Γ M σ H Q f0 g m h
 exact (pe_op ho a0m a0m).to (two ha hb f0 g m h fun F2 M2 H2 v u x y s m2 r1 r2 q => l F2 M2 H2 v u x y Q _ m2 r1 r2 q fun _ _ z => z.dn s)
theorem a8y {op : CmpOp} {r : R2} {o : A2} (ho : OpR X (compareOp op) r) (l : LO X.K r o) (ha : PEA X F0 a ta) (hb : PEA X F0 b tb) (hm : behindInMarks op b = false) : PEA X F0 (.Compare a [op] [b] pos) (aOp o ta tb) := by
 refine ⟨?_⟩
 intro F Γ M σ H Q f0 g m h
 exact (pe_cmpR ho a0m a0m hm).to (two ha hb f0 g m h fun F2 M2 H2 v u x y s m2 r1 r2 q => l F2 M2 H2 v u x y Q _ m2 r1 r2 q fun _ _ z => z.dn s)
def aT (t : AE) : AT := fun Γ M Q => t Γ M fun d M' => match d with | .bl b => Q b M' | _ => False
theorem PQ.bool {K : PySem.W.Frag} {F : Hp} {Q : Bool -> Mem -> Prop} {v : V} {H : Hp} (h : PQ K F (fun d M' => match d with | .bl b => Q b M' | _ => False) v H) : ∃ k, v = .bl k /\ PQb K F Q k H := by
 obtain ⟨d, F', M', s, m, r, q⟩ := h
 cases r <;> first
   | exact ⟨_, rfl, F', M', s, m, q⟩
   | exact q.elim
theorem a0q {op : CmpOp} {r : R2} {o : A2} (ho : OpR X (compareOp op) r) (l : LO X.K r o) (ha : PEA X F0 a ta) (hb : PEA X F0 b tb) (hm : behindInMarks op b = false) : PTA X F0 (.Compare a [op] [b] pos) (aT (aOp o ta tb)) := by
 refine ⟨?_⟩
 intro F Γ M σ H Q f0 g m h
 refine (pt_cmpR ho a0m a0m hm).to (two ha hb f0 g m h fun F2 M2 H2 v u x y s m2 r1 r2 q => l F2 M2 H2 v u x y _ _ m2 r1 r2 q fun _ _ z => ?_)
 exact PQ.bool (z.dn s)
theorem ptV (h : PEA X F0 e te) (he : ∀ whole, isTrue e X.env whole = (do let v <- whole; standAt e.pos; holding [v] (truthy v)) := by intro _; rfl) : PTA X F0 e (aT te) := by
 refine ⟨?_⟩
 intro F Γ M σ H Q f0 g m hw
 refine (pt_val a0m he).to ((h.run F Γ M σ H _ f0 g m hw).mono fun v H1 z => PQ.bool z)
def aAnd (t u : AT) : AT := fun Γ M Q => t Γ M fun c M1 => if c = true then u Γ M1 Q else Q false M1
def aOr (t u : AT) : AT := fun Γ M Q => t Γ M fun c M1 => if c = true then Q true M1 else u Γ M1 Q
def aNot (t : AT) : AT := fun Γ M Q => t Γ M fun c M1 => Q (!c) M1
variable {tA tB : AT} {rest : List Expr}
theorem a3u (ha : PTA X F0 a tA) : PTA X F0 (.UnaryOp .Not a pos) (aNot tA) := by
 refine ⟨?_⟩
 intro F Γ M σ H Q f0 g m h
 exact (pt_not a25).to ((ha.run F Γ M σ H _ f0 g m h).mono fun c H1 z => z)
theorem b1a (ha : PTA X F0 a tA) : PWA X F0 (.BoolOp .And [a] pos) tA := ⟨fun F Γ M σ H Q f0 g m h => (pw_and1 a25).to (ha.run F Γ M σ H Q f0 g m h)⟩
theorem a39 (ha : PTA X F0 a tA) : PWA X F0 (.BoolOp .Or [a] pos) tA := ⟨fun F Γ M σ H Q f0 g m h => (pw_or1 a25).to (ha.run F Γ M σ H Q f0 g m h)⟩
theorem b6d (ha : PTA X F0 a tA) (hb : PWA X F0 (.BoolOp .And (b :: rest) pos) tB) : PWA X F0 (.BoolOp .And (a :: b :: rest) pos) (aAnd tA tB) := by
 refine ⟨?_⟩
 intro F Γ M σ H Q f0 g m h
 refine (pw_and a25 b3n).to ((ha.run F Γ M σ H _ f0 g m h).mono fun c H1 zz9 => ?_)
 obtain ⟨F1, M1, s1, m1, q1⟩ := zz9
 cases c with
 | true =>
   rw [if_pos rfl] at q1 |-
   exact (hb.run F1 Γ M1 σ H1 Q (f0.trans s1) (g.up s1) m1 q1).mono fun _ _ z => z.dn s1
 | false =>
   rw [if_neg Bool.false_ne_true] at q1 |-
   exact ⟨F1, M1, s1, m1, q1⟩
theorem pwOr (ha : PTA X F0 a tA) (hb : PWA X F0 (.BoolOp .Or (b :: rest) pos) tB) : PWA X F0 (.BoolOp .Or (a :: b :: rest) pos) (aOr tA tB) := by
 refine ⟨?_⟩
 intro F Γ M σ H Q f0 g m h
 refine (pw_or a25 b3n).to ((ha.run F Γ M σ H _ f0 g m h).mono fun c H1 zz9 => ?_)
 obtain ⟨F1, M1, s1, m1, q1⟩ := zz9
 cases c with
 | true =>
   rw [if_pos rfl] at q1 |-
   exact ⟨F1, M1, s1, m1, q1⟩
 | false =>
   rw [if_neg Bool.false_ne_true] at q1 |-
   exact (hb.run F1 Γ M1 σ H1 Q (f0.trans s1) (g.up s1) m1 q1).mono fun _ _ z => z.dn s1
theorem PWA.pt {t : AT} (h : PWA X F0 e t) : PTA X F0 e t := ⟨fun F Γ M σ H Q f0 g m hw pins s I => h.run F Γ M σ H Q f0 g m hw _ pins s I⟩
def aAndV (ta tb : AE) : AE := fun Γ M Q => aT ta Γ M fun c M1 => if c = true then tb Γ M1 Q else Q (.bl false) M1
def aOrV (ta tb : AE) : AE := fun Γ M Q => aT ta Γ M fun c M1 => if c = true then Q (.bl true) M1 else tb Γ M1 Q
def aNotV (ta : AE) : AE := fun Γ M Q => aT ta Γ M fun c M1 => Q (.bl (!c)) M1
theorem b31 {op} (h : PEA X F0 a ta) : PEA X F0 (.BoolOp op [a] pos) ta := ⟨fun F Γ M σ H Q f0 g m hw => (pe_one a0m).to (h.run F Γ M σ H Q f0 g m hw)⟩
theorem b33 (ha : PEA X F0 a ta) (hb : PEA X F0 (.BoolOp .And (b :: rest) pos) tb) : PEA X F0 (.BoolOp .And (a :: b :: rest) pos) (aAndV ta tb) := by
 refine ⟨?_⟩
 intro F Γ M σ H Q f0 g m h
 refine (pe_and a0m a0m).to ((ha.run F Γ M σ H _ f0 g m h).mono fun v H1 z => ?_)
 obtain ⟨c, rfl, F1, M1, s1, m1, q1⟩ := PQ.bool z
 refine ⟨c, rfl, ?_⟩
 cases c with
 | true =>
   rw [if_pos rfl] at q1 |-
   exact (hb.run F1 Γ M1 σ H1 Q (f0.trans s1) (g.up s1) m1 q1).mono fun _ _ z => z.dn s1
 | false =>
   rw [if_neg Bool.false_ne_true] at q1 |-
   exact ⟨_, F1, M1, s1, m1, .bl _, q1⟩
theorem paNot (ha : PEA X F0 a ta) : PEA X F0 (.UnaryOp .Not a pos) (aNotV ta) := by
 refine ⟨?_⟩
 intro F Γ M σ H Q f0 g m h
 refine (pe_not a0m).to ((ha.run F Γ M σ H _ f0 g m h).mono fun v H1 z => ?_)
 obtain ⟨c, rfl, F1, M1, s1, m1, q1⟩ := PQ.bool z
 exact ⟨c, rfl, _, F1, M1, s1, m1, .bl _, q1⟩
def aUn (r : D -> Mem -> AK -> Prop) (ta : AE) : AE := fun Γ M Q => ta Γ M fun x M1 => r x M1 Q
def LU (K : PySem.W.Frag) (r : V -> Hp -> VK -> Prop) (a : D -> Mem -> AK -> Prop) : Prop := ∀ (F : Hp) (M : Mem) (H : Hp) (x : V) (dx : D) (Q : AK) (R : VK), AM K F M H -> RD K F x dx -> a dx M Q -> (∀ v H', PQ K F Q v H' -> R v H') -> r x H R
theorem paUn {op : UnaryOp} {r : V -> Hp -> VK -> Prop} {o : D -> Mem -> AK -> Prop} (ho : UnR X (unaryOp op) r) (l : LU X.K r o) (ha : PEA X F0 a ta) : PEA X F0 (.UnaryOp op a pos) (aUn o ta) := by
 refine ⟨?_⟩
 intro F Γ M σ H Q f0 g m h
 exact (pe_un ho a0m).to ((ha.run F Γ M σ H _ f0 g m h).mono fun v H1 ⟨x, F1, M1, s1, m1, r1, q1⟩ => l F1 M1 H1 v x Q _ m1 r1 q1 fun _ _ z => z.dn s1)
theorem paIx {r : R2} {o : A2} (ho : IxR X r) (l : LO X.K r o) (ha : PEA X F0 a ta) (hb : PEA X F0 b tb) (hs : b5w b) : PEA X F0 (.Subscript a b pos) (aOp o ta tb) := by
 refine ⟨?_⟩
 intro F Γ M σ H Q f0 g m h
 exact (pe_ix ho a0m a0m hs).to (two ha hb f0 g m h fun F2 M2 H2 v u x y s m2 r1 r2 q => l F2 M2 H2 v u x y Q _ m2 r1 r2 q fun _ _ z => z.dn s)
def aNil : AA := fun _ M Q => Q [] M
def a68 (ta : AE) (tr : AA) : AA := fun Γ M Q => ta Γ M fun x M1 => tr Γ M1 fun xs M2 => Q (x :: xs) M2
variable {tt : AA}
theorem a0f : PAA X F0 [] aNil := ⟨fun F Γ M σ H Q _ _ m h => pa_nil.to ⟨[], F, M, .refl F, m, .nil, h⟩⟩
theorem a0a (ha : PEA X F0 e te) (hr : PAA X F0 es tt) (hs : starEach (e :: es) X.env = (false, eval e X.env) :: starEach es X.env := by rfl) : PAA X F0 (e :: es) (a68 te tt) := by
 refine ⟨?_⟩
 intro F Γ M σ H Q f0 g m h
 refine (a2v a0m a1h hs).to ((ha.run F Γ M σ H _ f0 g m h).mono fun v H1 zz9 => ?_)
 obtain ⟨x, F1, M1, s1, m1, r1, q1⟩ := zz9
 exact (hr.run F1 Γ M1 σ H1 _ (f0.trans s1) (g.up s1) m1 q1).mono fun vs H2 ⟨xs, F2, M2, s2, m2, r2, q2⟩ => ⟨x :: xs, F2, M2, s1.trans s2, m2, .cons (r1.up s2) r2, q2⟩
def aTup (t : AA) : AE := fun Γ M Q => t Γ M fun ds M1 => ds.length <= 1000 /\ Q (.tup ds) M1
def aLst (t : AA) : AE := fun Γ M Q => t Γ M fun ds M1 => ds.length <= 1000 /\ Q (.lst ds) M1
def aLstM (t : AA) : AE := fun Γ M Q => t Γ M fun ds M1 => ds.length <= 1000 /\ ∀ p, M1 p = none -> Q (.obj p) (put M1 p (.lst ds))
theorem b0h {n : Nat} (h : n <= 1000) : n <= sizeLine := Nat.le_of_lt (a35 h)
theorem a1w {x1} (h : PAA X F0 es tt) : PEA X F0 (.Tuple es x1 pos) (aTup tt) := by
 refine ⟨?_⟩
 intro F Γ M σ H Q f0 g m hw
 refine (pe_tup a1h).to ((h.run F Γ M σ H _ f0 g m hw).mono fun vs H1 zz9 => ?_)
 obtain ⟨ds, F1, M1, s1, m1, r1, hl, q1⟩ := zz9
 refine ⟨by rw [r1.length]; exact b0h hl, fun p hp => ⟨.tup ds, upd F1 p (.tup vs), M1, s1.trans (a1l (m1.fF hp)), m1.frz hp, .tup a0p (r1.up (a1l (m1.fF hp))), q1⟩⟩
theorem a4d (h : PAA X F0 es tt) : PEA X F0 (.List es pos) (aLst tt) := by
 refine ⟨?_⟩
 intro F Γ M σ H Q f0 g m hw
 refine (pe_lst a1h).to ((h.run F Γ M σ H _ f0 g m hw).mono fun vs H1 zz9 => ?_)
 obtain ⟨ds, F1, M1, s1, m1, r1, hl, q1⟩ := zz9
 refine ⟨by rw [r1.length]; exact b0h hl, fun p hp => ⟨.lst ds, upd F1 p (.lst vs), M1, s1.trans (a1l (m1.fF hp)), m1.frz hp, .lst a0p (r1.up (a1l (m1.fF hp))), q1⟩⟩
theorem a4c (h : PAA X F0 es tt) : PEA X F0 (.List es pos) (aLstM tt) := by
 refine ⟨?_⟩
 intro F Γ M σ H Q f0 g m hw
 refine (pe_lst a1h).to ((h.run F Γ M σ H _ f0 g m hw).mono fun vs H1 zz9 => ?_)
 obtain ⟨ds, F1, M1, s1, m1, r1, hl, q1⟩ := zz9
 exact ⟨by rw [r1.length]; exact b0h hl, fun p hp => ⟨.obj p, F1, _, s1, m1.new (o := .lst ds) hp r1, .obj p, q1 p (m1.fM hp)⟩⟩
def aFz (t : AE) : AE := fun Γ M Q => t Γ M fun d M' => match d with | .obj p => (match M' p with | some (.lst ds) => Q (.lst ds) (del M' p) | _ => False) | _ => False
theorem paFz (h : PEA X F0 e te) : PEA X F0 e (aFz te) := by
 refine ⟨?_⟩
 intro F Γ M σ H Q f0 g m hw
 refine (h.run F Γ M σ H _ f0 g m hw).mono fun v H1 zz9 => ?_
 obtain ⟨d, F1, M1, s1, m1, r1, q1⟩ := zz9
 cases r1 with
 | obj p =>
   try dsimp only at q1
   split at q1
   . rename_i ds hd
     obtain ⟨F2, s2, m2, r2⟩ := m1.freeze hd
     exact ⟨_, F2, _, s1.trans s2, m2, r2, q1⟩
   . exact q1.elim
 | _ => exact q1.elim
noncomputable abbrev A1s := List D -> Mem -> AK -> Prop
def b2x (r : A1s) (t : AA) : AE := fun Γ M Q => t Γ M fun ds M1 => r ds M1 Q
def LC (K : PySem.W.Frag) (r : List V -> Hp -> VK -> Prop) (a : A1s) : Prop := ∀ (F : Hp) (M : Mem) (H : Hp) (xs : List V) (ds : List D) (Q : AK) (R : VK), AM K F M H -> RDs K F xs ds -> a ds M Q -> (∀ v H', PQ K F Q v H' -> R v H') -> r xs H R
variable {p : Pos} {id T : String} {r : List V -> Hp -> VK -> Prop} {o : A1s}
theorem a02 (hc : CallR X (.builtin id) r) (l : LC X.K r o) (hg : Gl X x) (hm : X.mg x = none) (hv : bootBuiltins x = some (.builtin id)) (ha : PAA X F0 (e :: es) tt) (hn : x ≠ "__name__" := by decide) (hdb : (x == ("__debug__" : Str)) = false := by decide)
   (he : starEach (e :: es) X.env = (false, eval e X.env) :: starEach es X.env := by rfl) (hpl : (backTo pos (starEach es X.env)).any (·.1) = false := by rfl) : PEA X F0 (.Call (.Name x p) (e :: es) [] pos) (b2x o tt) := by
 refine ⟨?_⟩
 intro F Γ M σ H Q f0 g m hw
 exact (a4b hc hg hm hv a1h hn hdb he hpl).to ((ha.run F Γ M σ H _ f0 g m hw).mono fun vs H1 ⟨ds, F1, M1, s1, m1, r1, q1⟩ => l F1 M1 H1 vs ds Q _ m1 r1 q1 fun _ _ z => z.dn s1)
theorem b1f (hc : CallR X (.type T) r) (l : LC X.K r o) (hg : Gl X x) (hm : X.mg x = none) (hv : bootBuiltins x = some (.type T)) (ha : PAA X F0 (e :: es) tt) (hn : x ≠ "__name__" := by decide) (hdb : (x == ("__debug__" : Str)) = false := by decide)
   (he : starEach (e :: es) X.env = (false, eval e X.env) :: starEach es X.env := by rfl) (hpl : (backTo pos (starEach es X.env)).any (·.1) = false := by rfl) : PEA X F0 (.Call (.Name x p) (e :: es) [] pos) (b2x o tt) := by
 refine ⟨?_⟩
 intro F Γ M σ H Q f0 g m hw
 exact (a55 hc hg hm hv a1h hn hdb he hpl).to ((ha.run F Γ M σ H _ f0 g m hw).mono fun vs H1 ⟨ds, F1, M1, s1, m1, r1, q1⟩ => l F1 M1 H1 vs ds Q _ m1 r1 q1 fun _ _ z => z.dn s1)
noncomputable abbrev A1m := D -> List D -> Mem -> AK -> Prop
def LM (K : PySem.W.Frag) (r : V -> List V -> Hp -> VK -> Prop) (a : A1m) : Prop := ∀ (F : Hp) (M : Mem) (H : Hp) (x : V) (d : D) (xs : List V) (ds : List D) (Q : AK) (R : VK), AM K F M H -> RD K F x d -> RDs K F xs ds -> a d ds M Q -> (∀ v H', PQ K F Q v H' -> R v H') -> r x xs H R
noncomputable def a2e (M : Mem) : D -> String
 | .lst _ => "list" | .scr _ => "list" | .str _ => "str" | .tup _ => "tuple"
 | .obj p => (match M p with | some (.lst _) => "list" | some (.dic _) => "dict" | _ => "")
 | _ => ""
def aBM0 (T : String) (r : A1m) (to : AE) : AE := fun Γ M Q => to Γ M fun x M1 => a2e M1 x = T /\ r x [] M1 Q
def aBM (T : String) (r : A1m) (to : AE) (t : AA) : AE := fun Γ M Q => to Γ M fun x M1 => a2e M1 x = T /\ t Γ M1 fun xs M2 => r x xs M2 Q
end
def both {α β : Type} (a : Option α) (b : Option β) (R : α -> β -> Prop) : Prop := match a, b with | some x, some y => R x y | _, _ => False
def opt {α : Type} (a : Option α) (R : α -> Prop) : Prop := match a with | some x => R x | none => False
theorem a11 {α β : Type} {x : α} {y : β} {R : α -> β -> Prop} : both (some x) (some y) R = R x y := rfl
theorem a08 {α : Type} {x : α} {R : α -> Prop} : opt (some x) R = R x := rfl
theorem a69 {α β : Type} {a : Option α} {b : Option β} {R : α -> β -> Prop} (h : both a b R) : ∃ x y, a = some x /\ b = some y /\ R x y := by
 unfold both at h
 split at h
 . exact ⟨_, _, rfl, rfl, h⟩
 . exact h.elim
theorem a10 {α : Type} {a : Option α} {R : α -> Prop} (h : opt a R) : ∃ x, a = some x /\ R x := by
 unfold opt at h
 split at h
 . exact ⟨_, rfl, h⟩
 . exact h.elim
noncomputable def dl (M : Mem) : D -> Option (List D)
 | .lst ds => some ds
 | .obj p => (match M p with | some (.lst ds) => some ds | _ => none)
 | _ => none
noncomputable def dr (M : Mem) : D -> Option (List D)
 | .lst ds => some ds
 | .scr ds => some ds
 | .obj p => (match M p with | some (.lst ds) => some ds | _ => none)
 | _ => none
noncomputable def dq (M : Mem) : D -> Option (List D)
 | .lst ds => some ds
 | .scr ds => some ds
 | .tup ds => some ds
 | .ctp ds => some ds
 | .obj p => (match M p with | some (.lst ds) => some ds | _ => none)
 | _ => none
noncomputable def dd (M : Mem) : D -> Option (List (Key × D))
 | .obj p => (match M p with | some (.dic kvs) => some kvs | _ => none)
 | _ => none
section
variable {K : PySem.W.Frag} {F : Hp} {M : Mem} {H : Hp} {x : V} {d : D} {ds : List D}
theorem b5j (m : AM K F M H) (r : RD K F x d) (h : dl M d = some ds) : ∃ p vs, x = .ref p /\ H p = some (.lst vs) /\ RDs K F vs ds := by
 cases r <;> first
   | (unfold dl at h; cases h; done)
   | skip
 . rename_i a xs es e r
   cases h
   exact ⟨a, xs, rfl, m.sub _ _ e, r⟩
 . rename_i p
   unfold dl at h
   dsimp only at h
   split at h
   . rename_i ds' hd
     cases h
     obtain ⟨u, e, r⟩ := m.mem _ _ hd
     obtain ⟨vs, rfl, r⟩ := r.isL
     exact ⟨p, vs, rfl, e, r⟩
   . cases h
theorem a5a (m : AM K F M H) (r : RD K F x d) (h : dr M d = some ds) : ∃ p vs, x = .ref p /\ SqL K H p vs /\ RDs K F vs ds := by
 cases r <;> first
   | (unfold dr at h; cases h; done)
   | skip
 . rename_i a xs es e r
   cases h
   exact ⟨a, xs, rfl, .of (m.sub _ _ e), r⟩
 . rename_i a xs es e r
   cases h
   exact ⟨a, xs, rfl, m.sub.seq e, r⟩
 . rename_i p
   unfold dr at h
   dsimp only at h
   split at h
   . rename_i ds' hd
     cases h
     obtain ⟨u, e, r⟩ := m.mem _ _ hd
     obtain ⟨vs, rfl, r⟩ := r.isL
     exact ⟨p, vs, rfl, .of e, r⟩
   . cases h
theorem b5i (m : AM K F M H) (r : RD K F x d) (h : dq M d = some ds) : ∃ p vs, x = .ref p /\ (SqL K H p vs \/ SqT K H p vs) /\ RDs K F vs ds := by
 cases r <;> first
   | (unfold dq at h; cases h; done)
   | skip
 . rename_i a xs es e r
   cases h
   exact ⟨a, xs, rfl, .inl (.of (m.sub _ _ e)), r⟩
 . rename_i a xs es e r
   cases h
   exact ⟨a, xs, rfl, .inl (m.sub.seq e), r⟩
 . rename_i a xs es e r
   cases h
   exact ⟨a, xs, rfl, .inr (.of (m.sub _ _ e)), r⟩
 . rename_i a xs es e r
   cases h
   exact ⟨a, xs, rfl, .inr (m.sub.seqT e), r⟩
 . rename_i p
   unfold dq at h
   dsimp only at h
   split at h
   . rename_i ds' hd
     cases h
     obtain ⟨u, e, r⟩ := m.mem _ _ hd
     obtain ⟨vs, rfl, r⟩ := r.isL
     exact ⟨p, vs, rfl, .inl (.of e), r⟩
   . cases h
theorem a5b {kvs : List (Key × D)} (m : AM K F M H) (r : RD K F x d) (h : dd M d = some kvs) : ∃ p ws, x = .ref p /\ d = .obj p /\ M p = some (.dic kvs) /\ H p = some (.dK ws) /\ PF K F ws kvs := by
 cases r <;> first
   | (unfold dd at h; cases h; done)
   | skip
 rename_i p
 unfold dd at h
 dsimp only at h
 split at h
 . rename_i ds' hd
   cases h
   obtain ⟨u, e, r⟩ := m.mem _ _ hd
   obtain ⟨vs, rfl, r⟩ := r.isD
   exact ⟨p, vs, rfl, rfl, hd, e, r⟩
 . cases h
end
noncomputable def addF : D -> D -> Option D
 | .int i, .int j => some (.int (i + j))
 | .str s, .str t => some (.str (s ++ t))
 | _, _ => none
def addC : D -> D -> Prop
 | .str s, .str t => s.length + t.length <= sizeLine
 | _, _ => True
def oAdd : A2 := fun x y M Q => addC x y /\ opt (addF x y) fun d => Q d M
def rAdds : R2 := fun x y H Q => rI0 (fun i j => .int (i + j)) x y H Q \/ (∃ i j, x = .str i /\ y = .str j /\ i.length + j.length <= sizeLine /\ Q (.str (i ++ j)) H)
def oCatM : A2 := fun x y M Q => both (dl M x) (dl M y) fun xs ys => xs.length + ys.length <= 1000 /\ ∀ p, M p = none -> Q (.obj p) (put M p (.lst (xs ++ ys)))
def oCat : A2 := fun x y M Q => both (dl M x) (dl M y) fun xs ys => xs.length + ys.length <= 1000 /\ Q (.lst (xs ++ ys)) M
def oI (g : Int -> Int -> D) : A2 := fun x y M Q => match x, y with | .int i, .int j => Q (g i j) M | _, _ => False
def oIc (C : Int -> Int -> Prop) (g : Int -> Int -> D) : A2 := fun x y M Q => match x, y with | .int i, .int j => C i j /\ Q (g i j) M | _, _ => False
section
variable {X : Cx} {K : PySem.W.Frag}
theorem a1a : OpR X (binaryOp .Add) rAdds := op_add.or b2k
theorem lAdd : LO K rAdds oAdd := by
 intro F M H x y dx dy Q R m rx ry h k
 obtain ⟨hc, h⟩ := h
 cases rx <;> cases ry <;> first
   | exact h.elim
   | exact .inl ⟨_, _, rfl, rfl, k _ _ (.here m (.int _) h)⟩
   | exact .inr ⟨_, _, rfl, rfl, hc, k _ _ (.here m (.str _) h)⟩
theorem lCatM : LO K rCat oCatM := by
 intro F M H x y dx dy Q R m rx ry h k
 obtain ⟨xs, ys, h1, h2, hl, q⟩ := a69 h
 obtain ⟨p, vs, rfl, e1, r1⟩ := b5j m rx h1
 obtain ⟨p', ws, rfl, e2, r2⟩ := b5j m ry h2
 refine ⟨p, p', vs, ws, rfl, rfl, e1, e2, by rw [r1.length, r2.length]; exact b0h hl, fun l hn => k _ _ ⟨.obj l, F, _, .refl F, m.new (o := .lst (xs ++ ys)) hn (r1.append r2), .obj l, q l (m.fM hn)⟩⟩
theorem lI {g : Int -> Int -> V} {g' : Int -> Int -> D} (e : ∀ i j F, RD K F (g i j) (g' i j)) : LO K (rI0 g) (oI g') := by
 intro F M H x y dx dy Q R m rx ry h k
 cases rx <;> cases ry <;> first
   | exact h.elim
   | exact ⟨_, _, rfl, rfl, k _ _ (.here m (e _ _ F) h)⟩
theorem lIc {C : Int -> Int -> Prop} {g : Int -> Int -> V} {g' : Int -> Int -> D} (e : ∀ i j F, RD K F (g i j) (g' i j)) : LO K (rI C g) (oIc C g') := by
 intro F M H x y dx dy Q R m rx ry h k
 cases rx <;> cases ry <;> first
   | exact h.elim
   | exact ⟨_, _, rfl, rfl, h.1, k _ _ (.here m (e _ _ F) h.2)⟩
abbrev oSub : A2 := oI fun i j => .int (i - j)
abbrev oMul : A2 := oIc IntMulOk fun i j => .int (i * j)
abbrev oMod : A2 := oIc (fun _ j => 0 < j) fun i j => .int (i % j)
abbrev oPow : A2 := oIc CPow fun i j => .int (i ^ j.toNat)
abbrev oLt : A2 := oI fun i j => .bl (decide (i < j))
abbrev oGt : A2 := oI fun i j => .bl (decide (j < i))
abbrev oGe : A2 := oI fun i j => .bl (decide (j <= i))
abbrev oDivB : A2 := oIc (fun _ j => j ≠ 0) fun i j => .int (i.fdiv j)
abbrev oDiv : A2 := oIc CDiv fun i j => .int (i / j)
theorem lSub : LO K (rI0 fun i j => .int (i - j)) oSub := lI fun _ _ _ => .int _
theorem lMul : LO K (rI IntMulOk fun i j => .int (i * j)) oMul := lIc fun _ _ _ => .int _
theorem lMod : LO K (rI (fun _ j => 0 < j) fun i j => .int (i % j)) oMod := lIc fun _ _ _ => .int _
theorem lPow : LO K (rI CPow fun i j => .int (i ^ j.toNat)) oPow := lIc fun _ _ _ => .int _
theorem lLt : LO K (rI0 fun i j => .bl (decide (i < j))) oLt := lI fun _ _ _ => .bl _
theorem lGt : LO K (rI0 fun i j => .bl (decide (j < i))) oGt := lI fun _ _ _ => .bl _
theorem lGe : LO K (rI0 fun i j => .bl (decide (j <= i))) oGe := lI fun _ _ _ => .bl _
theorem lDivB : LO K (rI (fun _ j => j ≠ 0) fun i j => .int (i.fdiv j)) oDivB := lIc fun _ _ _ => .int _
theorem lDiv : LO K (rI CDiv fun i j => .int (i / j)) oDiv := lIc fun _ _ _ => .int _
def oNeg : D -> Mem -> AK -> Prop := fun x M Q => match x with | .int i => Q (.int (-i)) M | _ => False
theorem lNeg : LU K (rU fun i => .int (-i)) oNeg := by
 intro F M H x dx Q R m rx h k
 cases rx <;> first
   | exact h.elim
   | exact ⟨_, rfl, k _ _ (.here m (.int _) h)⟩
mutual
noncomputable def D.py : D -> PyData
 | .non => .none | .bl b => .bool b | .int i => .int i | .str x => .str x
 | .lst ds => .list (D.pys ds) | .scr ds => .list (D.pys ds) | .tup ds => .tuple (D.pys ds) | .ctp ds => .tuple (D.pys ds) | .obj _ => .none
noncomputable def D.pys : List D -> List PyData
 | [] => []
 | d :: ds => D.py d :: D.pys ds
end
mutual
/-- no thing of the store in it -/
noncomputable def D.flat : D -> Bool
 | .lst ds => D.flats ds | .scr ds => D.flats ds | .tup ds => D.flats ds | .ctp ds => D.flats ds | .obj _ => false
 | _ => true
noncomputable def D.flats : List D -> Bool
 | [] => true
 | d :: ds => D.flat d && D.flats ds
end
mutual
theorem RD.rep {F H : Hp} (s : Same F H) : ∀ {x : V} {d : D}, RD K F x d -> d.flat = true -> Rep K H x d.py
 | _, _, .non, _ => by simp only [D.py]; exact .non
 | _, _, .bl b, _ => by simp only [D.py]; exact .bl b
 | _, _, .int i, _ => by simp only [D.py]; exact .int i
 | _, _, .str x, _ => by simp only [D.py]; exact .str x
 | _, _, .lst q rs, h => by simp only [D.py]; exact .lst (.of (s _ _ q)) (RDs.rep s rs (by simpa only [D.flat] using h))
 | _, _, .scr q rs, h => by simp only [D.py]; exact .lst (s.seq q) (RDs.rep s rs (by simpa only [D.flat] using h))
 | _, _, .tup q rs, h => by simp only [D.py]; exact .tup (.of (s _ _ q)) (RDs.rep s rs (by simpa only [D.flat] using h))
 | _, _, .ctp q rs, h => by simp only [D.py]; exact .tup (s.seqT q) (RDs.rep s rs (by simpa only [D.flat] using h))
 | _, _, .obj p, h => by simp [D.flat] at h
theorem RDs.rep {F H : Hp} (s : Same F H) : ∀ {xs : List V} {ds : List D}, RDs K F xs ds -> D.flats ds = true -> Reps K H xs (D.pys ds)
 | _, _, .nil, _ => by simp only [D.pys]; exact .nil
 | _, _, .cons h t, e => by
   simp only [D.flats, Bool.and_eq_true] at e
   simp only [D.pys]
   exact .cons (RD.rep s h e.1) (RDs.rep s t e.2)
end
noncomputable def drf (M : Mem) : D -> D
 | .obj p => (match M p with | some (.lst ds) => .lst ds | _ => .obj p)
 | d => d
theorem a8j {F : Hp} {M : Mem} {H : Hp} {x : V} {d : D} (m : AM K F M H) (r : RD K F x d) (h : (drf M d).flat = true) : Rep K H x (drf M d).py := by
 cases d with
 | obj p =>
   unfold drf at h |-
   dsimp only at h |-
   cases r
   split at h
   . rename_i ds hd
     obtain ⟨u, e, r⟩ := m.mem _ _ hd
     obtain ⟨vs, rfl, r⟩ := r.isL
     simp only [D.py]
     exact .lst (.of e) (r.rep m.sub (by simpa only [D.flat] using h))
   . simp [D.flat] at h
 | _ => exact r.rep m.sub h
noncomputable def a4p : D -> D -> Bool
 | .non, .non => true | .non, .int _ => true | .int _, .non => true | .non, .bl _ => true | .bl _, .non => true | .non, .str _ => true | .str _, .non => true
 | .int _, .int _ => true | .bl _, .bl _ => true | .str _, .str _ => true
 | .int _, .str _ => true | .str _, .int _ => true | .bl _, .str _ => true | .str _, .bl _ => true
 | _, _ => false
noncomputable def eqS : D -> D -> Bool
 | .non, .non => true
 | .int a, .int b => decide (a = b)
 | .bl a, .bl b => decide (a = b)
 | .str a, .str b => decide (a = b)
 | _, _ => false
noncomputable def eqD (x y : D) : Bool := PyData.eqv x.py y.py
noncomputable def shD (d : D) : Bool := d.flat && SeqAt.shaped d.py
noncomputable def eqB (M : Mem) (x y : D) : Bool := if a4p x y = true then eqS x y else eqD (drf M x) (drf M y)
def eqC (M : Mem) (x y : D) : Prop := a4p x y = true \/ (shD (drf M x) = true /\ shD (drf M y) = true)
def oEq (neg : Bool) : A2 := fun x y M Q => eqC M x y /\ Q (.bl (if neg then !eqB M x y else eqB M x y)) M
def rEqs (K : PySem.W.Frag) : R2 := fun x y H Q => rEq x y H Q \/ rEqD K false x y H Q
def rNes (K : PySem.W.Frag) : R2 := fun x y H Q => rNe x y H Q \/ rEqD K true x y H Q
theorem a1k (hu : X.A.units + 64 < cLine) : OpR X (compareOp .Eq) (rEqs X.K) := op_eq.or (op_eqD hu)
theorem a15 (hu : X.A.units + 64 < cLine) : OpR X (compareOp .NotEq) (rNes X.K) := op_ne.or (op_neD hu)
theorem b3h {F : Hp} {x y : V} {dx dy : D} (rx : RD K F x dx) (ry : RD K F y dy) (h : a4p dx dy = true) : scal x y = true /\ decide (x = y) = eqS dx dy := by
 cases rx <;> cases ry <;> first
   | (simp [a4p] at h; done)
   | exact ⟨rfl, by simp [eqS]⟩
theorem lEq : LO K (rEqs K) (oEq false) := by
 intro F M H x y dx dy Q R m rx ry h k
 obtain ⟨hc, h⟩ := h
 by_cases hs : a4p dx dy = true
 . obtain ⟨h1, h2⟩ := b3h rx ry hs
   refine .inl ⟨h1, k _ _ (.here m (.bl _) ?_)⟩
   rw [h2]
   simpa [eqB, hs] using h
 . rcases hc with hc | ⟨h1, h2⟩
   . exact absurd hc hs
   unfold shD at h1 h2
   simp only [Bool.and_eq_true] at h1 h2
   exact .inr ⟨_, _, a8j m rx h1.1, a8j m ry h2.1, h1.2, h2.2, k _ _ (.here m (.bl _) (by simpa [eqB, hs, eqD] using h))⟩
theorem lNe : LO K (rNes K) (oEq true) := by
 intro F M H x y dx dy Q R m rx ry h k
 obtain ⟨hc, h⟩ := h
 by_cases hs : a4p dx dy = true
 . obtain ⟨h1, h2⟩ := b3h rx ry hs
   refine .inl ⟨h1, k _ _ (.here m (.bl _) ?_)⟩
   rw [h2]
   simpa [eqB, hs] using h
 . rcases hc with hc | ⟨h1, h2⟩
   . exact absurd hc hs
   unfold shD at h1 h2
   simp only [Bool.and_eq_true] at h1 h2
   exact .inr ⟨_, _, a8j m rx h1.1, a8j m ry h2.1, h1.2, h2.2, k _ _ (.here m (.bl _) (by simpa [eqB, hs, eqD] using h))⟩
noncomputable def b41 : D -> Bool | .non => true | _ => false
def oIsN (neg : Bool) : A2 := fun x y M Q => match y with | .non => Q (.bl (if neg then !b41 x else b41 x)) M | _ => False
theorem non_of {F : Hp} {x : V} {d : D} (r : RD K F x d) : decide (x = .non) = b41 d := by cases r <;> simp [b41]
theorem lIs : LO K (fun x y H Q => y = .non /\ Q (.bl (decide (x = .non))) H) (oIsN false) := by
 intro F M H x y dx dy Q R m rx ry h k
 cases ry <;> first
   | exact h.elim
   | exact ⟨rfl, k _ _ (.here m (.bl _) (by rw [non_of rx]; simpa [oIsN] using h))⟩
theorem b4q : LO K (fun x y H Q => y = .non /\ Q (.bl (!decide (x = .non))) H) (oIsN true) := by
 intro F M H x y dx dy Q R m rx ry h k
 cases ry <;> first
   | exact h.elim
   | exact ⟨rfl, k _ _ (.here m (.bl _) (by rw [non_of rx]; simpa [oIsN] using h))⟩
noncomputable def flD : D -> Bool | .non => true | .bl _ => true | .int _ => true | .str _ => true | _ => false
noncomputable def eqF : D -> D -> Bool
 | .non, .non => true
 | .bl a, .bl b => a == b
 | .bl a, .int b => (if a then 1 else 0) == b
 | .int a, .bl b => a == (if b then 1 else 0)
 | .int a, .int b => a == b
 | .str a, .str b => a == b
 | _, _ => false
noncomputable def inD (x : D) (ds : List D) : Bool := ds.any fun y => eqF y x
theorem b0n {F : Hp} {x : V} {d : D} (r : RD K F x d) : a3x x = flD d := by cases r <;> rfl
theorem a8h {F : Hp} : ∀ {xs : List V} {ds : List D}, RDs K F xs ds -> xs.all a3x = ds.all flD
 | _, _, .nil => rfl
 | _, _, .cons h t => by simp only [List.all_cons, b0n h, a8h t]
theorem b5h {F : Hp} {x y : V} {d e : D} (r : RD K F x d) (q : RD K F y e) (h : flD d = true) (h' : flD e = true) : eqV x y = eqF d e := by
 cases r <;> cases q <;> first | rfl | (simp [flD] at h; done) | (simp [flD] at h'; done)
theorem inD_of {F : Hp} {x : V} {d : D} (r : RD K F x d) (h : flD d = true) : ∀ {xs : List V} {ds : List D}, RDs K F xs ds -> ds.all flD = true -> inV x xs = inD d ds
 | _, _, .nil, _ => rfl
 | _, _, .cons q t, e => by
   simp only [List.all_cons, Bool.and_eq_true] at e
   have ih := inD_of r h t e.2
   unfold inV inD at ih |-
   rw [List.any_cons, List.any_cons, b5h q r e.1 h, ih]
noncomputable def hasS (j i : Str) : Bool := !(Builtin.Str.occurrences j i 0 j.length 1).isEmpty
noncomputable def inB (M : Mem) : D -> D -> Option Bool
 | .str i, .str j => some (hasS j i)
 | x, y => (dq M y).bind fun ds => if (flD x && ds.all flD) = true then some (inD x ds) else none
def oIn (neg : Bool) : A2 := fun x y M Q => opt (inB M x y) fun b => Q (.bl (if neg then !b else b)) M
def rIns (K : PySem.W.Frag) : R2 := fun x y H Q => rIn K false x y H Q \/ (∃ i j, x = .str i /\ y = .str j /\ Q (.bl (hasS j i)) H)
def b3m (K : PySem.W.Frag) : R2 := fun x y H Q => rIn K true x y H Q \/ (∃ i j, x = .str i /\ y = .str j /\ Q (.bl (!hasS j i)) H)
theorem b1h : OpR X (compareOp .In) (rIns X.K) := op_in_seq.or b34
theorem a58 : OpR X (compareOp .NotIn) (b3m X.K) := op_notIn_seq.or a8z
theorem lInG {neg : Bool} {r : R2} (hs : ∀ i j H R, R (.bl (if neg then !hasS j i else hasS j i)) H -> r (.str i) (.str j) H R) (hq : ∀ x p vs H R, (SqL K H p vs \/ SqT K H p vs) -> a3x x = true -> vs.all a3x = true -> R (.bl (if neg then !inV x vs else inV x vs)) H -> r x (.ref p) H R) : LO K r (oIn neg) := by
 intro F M H x y dx dy Q R m rx ry h k
 obtain ⟨b, hb, h⟩ := a10 h
 unfold inB at hb
 split at hb
 . cases rx; cases ry; cases hb
   exact hs _ _ _ _ (k _ _ (.here m (.bl _) h))
 . cases hd : dq M dy with
   | none => rw [hd] at hb; cases hb
   | some ds =>
     rw [hd] at hb
     simp only [Option.bind_some] at hb
     split at hb
     . rename_i hf
       cases hb
       simp only [Bool.and_eq_true] at hf
       obtain ⟨p, vs, rfl, e, r'⟩ := b5i m ry hd
       refine hq _ _ _ _ _ e (by rw [b0n rx]; exact hf.1) (by rw [a8h r']; exact hf.2) ?_
       rw [inD_of rx hf.1 r' hf.2]
       exact k _ _ (.here m (.bl _) h)
     . cases hb
theorem lIn : LO K (rIns K) (oIn false) := lInG (fun i j H R h => .inr ⟨i, j, rfl, rfl, by simpa using h⟩) fun x p vs H R e h1 h2 h => .inl ⟨p, vs, rfl, e, h1, h2, by simpa using h⟩
theorem b4p : LO K (b3m K) (oIn true) := lInG (fun i j H R h => .inr ⟨i, j, rfl, rfl, by simpa using h⟩) fun x p vs H R e h1 h2 h => .inl ⟨p, vs, rfl, e, h1, h2, by simpa using h⟩
theorem RDs.atI {F : Hp} {xs : List V} {ds : List D} {i : Int} {d : D} (r : RDs K F xs ds) (h : L2.atI ds i = some d) : ∃ x, L2.atI xs i = some x /\ RD K F x d := by
 unfold L2.atI at h |-
 rw [r.length]
 cases q : ixN ds.length i with
 | none => rw [q] at h; cases h
 | some j =>
   rw [q] at h
   exact r.get h
noncomputable def ixF (M : Mem) : D -> D -> Option D
 | .str z, .int i => (atI z.cps.toList i).map fun c => .str ⟨#[c]⟩
 | x, .int i => (dq M x).bind fun ds => atI ds i
 | _, _ => none
def ixC : D -> D -> Prop
 | .str z, .int _ => z.length <= sizeLine
 | _, _ => True
def oIx : A2 := fun x y M Q => ixC x y /\ opt (ixF M x y) fun d => Q d M
theorem lIx : LO K (rIx K) oIx := by
 intro F M H x y dx dy Q R m rx ry h k
 obtain ⟨hc, h⟩ := h
 obtain ⟨d, hd, hz⟩ := a10 h
 unfold ixF at hd
 split at hd
 . rename_i z i
   cases rx; cases ry
   cases ha : atI z.cps.toList i with
   | none => rw [ha] at hd; cases hd
   | some c =>
     rw [ha] at hd
     cases hd
     exact .inr (.inr ⟨_, _, c, rfl, rfl, hc, ha, k _ _ (.here m (.str _) hz)⟩)
 . rename_i i _
   cases hq : dq M dx with
   | none => rw [hq] at hd; cases hd
   | some ds =>
     rw [hq] at hd
     have hd : atI ds i = some d := hd
     obtain ⟨p, vs, rfl, e, r⟩ := b5i m rx hq
     obtain ⟨v, hv, rv⟩ := r.atI hd
     cases ry
     rcases e with e | e
     . exact .inl ⟨p, vs, _, v, rfl, rfl, e, hv, k _ _ (.here m rv hz)⟩
     . exact .inr (.inl ⟨p, vs, _, v, rfl, rfl, e, hv, k _ _ (.here m rv hz)⟩)
 . cases hd
end
noncomputable abbrev AO := G -> Mem -> (Option Int -> Mem -> Prop) -> Prop
noncomputable def selfO (X : Cx) (e : Option Expr) : TO := fun σ H Q => ∀ pins s, Inv X pins σ H s -> wpAny (model X.prog X.w) X.A (evalPart e X.env) (fun u s' => ∃ o H', Inv X pins σ H' s' /\ IsPart u o /\ Q o H') X.xe s
theorem b3s {X : Cx} {e : Option Expr} : PO X e (selfO X e) := fun pins s _ _ _ I h => h pins s I
theorem PO.to {X : Cx} {e : Option Expr} {σ : St} {H : Hp} {t : TO} {Q : Option Int -> Hp -> Prop} (h : PO X e t) (hw : t σ H Q) : selfO X e σ H Q := fun pins s I => h pins s σ H Q I hw
theorem selfO.mono {X : Cx} {e : Option Expr} {σ : St} {H : Hp} {Q Q' : Option Int -> Hp -> Prop} (h : selfO X e σ H Q) (k : ∀ v H', Q v H' -> Q' v H') : selfO X e σ H Q' := fun pins s I => thn (h pins s I) fun _ _ ⟨o, H', J, r, q⟩ => ⟨o, H', J, r, k o H' q⟩
def PQo (K : PySem.W.Frag) (F : Hp) (Q : Option Int -> Mem -> Prop) : Option Int -> Hp -> Prop := fun o H' => ∃ F' M', Same F F' /\ AM K F' M' H' /\ Q o M'
structure POA (X : Cx) (F0 : Hp) (e : Option Expr) (t : AO)  : Prop where
 run : ∀ F Γ M σ H Q, Same F0 F -> AG X.K F Γ σ -> AM X.K F M H -> t Γ M Q -> selfO X e σ H (PQo X.K F Q)
noncomputable def aNoPart : AO := fun _ M Q => Q none M
noncomputable def aPart (t : AE) : AO := fun Γ M Q => t Γ M fun d M1 => match d with | .int i => Q (some i) M1 | _ => False
def aSl (r : D -> Option Int -> Option Int -> Mem -> AK -> Prop) (te : AE) (tl th : AO) : AE := fun Γ M Q => te Γ M fun x M1 => tl Γ M1 fun l M2 => th Γ M2 fun u M3 => r x l u M3 Q
def LS (K : PySem.W.Frag) (r : V -> Option Int -> Option Int -> Hp -> VK -> Prop) (a : D -> Option Int -> Option Int -> Mem -> AK -> Prop) : Prop :=
 ∀ (F : Hp) (M : Mem) (H : Hp) (x : V) (d : D) (lo hi : Option Int) (Q : AK) (R : VK), AM K F M H -> RD K F x d -> a d lo hi M Q -> (∀ v H', PQ K F Q v H' -> R v H') -> r x lo hi H R
noncomputable def cut (ds : List D) (lo hi : Option Int) : List D := (ds.drop (HT.sIx ds.length 0 lo)).take (HT.sIx ds.length ds.length hi - HT.sIx ds.length 0 lo)
noncomputable def slF (M : Mem) (lo hi : Option Int) : D -> Option D
 | .str z => some (.str (Txt.slice z lo hi))
 | x => (dr M x).map fun ds => .lst (cut ds lo hi)
def slC : D -> Prop
 | .str z => z.length <= sizeLine
 | _ => True
def oSl : D -> Option Int -> Option Int -> Mem -> AK -> Prop := fun x lo hi M Q => slC x /\ opt (slF M lo hi x) fun d => Q d M
def oSlM : D -> Option Int -> Option Int -> Mem -> AK -> Prop := fun x lo hi M Q => (match dr M x with | some ds => ∀ p, M p = none -> Q (.obj p) (put M p (.lst (cut ds lo hi))) | none => False)
def rSls (K : PySem.W.Frag) : V -> Option Int -> Option Int -> Hp -> VK -> Prop := fun x lo hi H Q => rSlS x lo hi H Q \/ rSlL K x lo hi H Q
section
variable {X : Cx} {F0 : Hp} {e : Expr} {pos p2 : Pos} {te : AE} {lo hi : Option Expr} {tl th : AO} {K : PySem.W.Frag}
theorem poN : POA X F0 none aNoPart := ⟨fun F Γ M σ H Q _ _ m h => po_none.to ⟨F, M, .refl F, m, h⟩⟩
theorem poS (h : PEA X F0 e te) : POA X F0 (some e) (aPart te) := by
 refine ⟨?_⟩
 intro F Γ M σ H Q f0 g m hw
 refine (po_some a0m).to ((h.run F Γ M σ H _ f0 g m hw).mono fun v H1 zz9 => ?_)
 obtain ⟨d, F1, M1, s1, m1, r1, q1⟩ := zz9
 cases r1 <;> first
   | exact q1.elim
   | exact ⟨_, rfl, F1, M1, s1, m1, q1⟩
theorem paSl {r : V -> Option Int -> Option Int -> Hp -> VK -> Prop} {o : D -> Option Int -> Option Int -> Mem -> AK -> Prop} (hr : SlR X r) (l : LS X.K r o) (he : PEA X F0 e te) (hl : POA X F0 lo tl) (hh : POA X F0 hi th) :
   PEA X F0 (.Subscript e (.Slice lo hi none p2) pos) (aSl o te tl th) := by
 refine ⟨?_⟩
 intro F Γ M σ H Q f0 g m hw
 refine (b6k hr a0m b3s b3s).to ((he.run F Γ M σ H _ f0 g m hw).mono fun v H1 zz9 => ?_)
 obtain ⟨d, F1, M1, s1, m1, r1, q1⟩ := zz9
 refine (hl.run F1 Γ M1 σ H1 _ (f0.trans s1) (g.up s1) m1 q1).mono fun l1 H2 zz9 => ?_
 obtain ⟨F2, M2, s2, m2, q2⟩ := zz9
 refine (hh.run F2 Γ M2 σ H2 _ (f0.trans (s1.trans s2)) (g.up (s1.trans s2)) m2 q2).mono fun u1 H3 zz9 => ?_
 obtain ⟨F3, M3, s3, m3, q3⟩ := zz9
 exact l F3 M3 H3 v d l1 u1 Q _ m3 (r1.up (s2.trans s3)) q3 fun _ _ z => z.dn (s1.trans (s2.trans s3))
theorem cut_rep {F : Hp} {vs : List V} {ds : List D} (r : RDs K F vs ds) (lo hi : Option Int) : RDs K F (cutV vs lo hi) (cut ds lo hi) := by
 unfold cutV cut
 rw [r.length]
 exact (r.drop _).take _
theorem b3e : SlR X (rSls X.K) := sl_str.or sl_list
theorem lSl : LS K (rSls K) oSl := by
 intro F M H x d lo hi Q R m rx h k
 obtain ⟨hc, h⟩ := h
 obtain ⟨d', hd, hz⟩ := a10 h
 unfold slF at hd
 split at hd
 . cases rx; cases hd
   exact .inl ⟨_, rfl, hc, k _ _ (.here m (.str _) hz)⟩
 . cases hq : dr M d with
   | none => rw [hq] at hd; cases hd
   | some ds =>
     rw [hq] at hd
     cases hd
     obtain ⟨p, vs, rfl, e, r⟩ := a5a m rx hq
     exact .inr ⟨p, vs, rfl, e, fun l hn => k _ _ ⟨_, _, M, a1l (m.fF hn), m.frz hn, .lst a0p ((cut_rep r lo hi).up (a1l (m.fF hn))), hz⟩⟩
end
section
variable {X : Cx} {K : PySem.W.Frag}
noncomputable def lenF (M : Mem) : D -> Option Nat
 | .str z => some z.length
 | d => (match dd M d with | some kvs => some kvs.length | none => (dq M d).map List.length)
def lenC : D -> Prop
 | .str z => z.length <= sizeLine
 | _ => True
noncomputable def oLen : A1s := fun ds M Q => match ds with
 | [d] => lenC d /\ opt (lenF M d) fun n => Q (.int n) M
 | _ => False
def rLens (K : PySem.W.Frag) : List V -> Hp -> VK -> Prop := fun xs H Q => (∃ x n, xs = [x] /\ LenV K x H n /\ Q (.int n) H) \/ (∃ a kvs, xs = [V.ref a] /\ H a = some (.dK kvs) /\ Q (.int kvs.length) H)
theorem a0v : CallR X (.builtin "len") (rLens X.K) := call_len.or b5t
theorem PF.length {κ : Type} {F : Hp} {a : List (κ × V)} {b : List (κ × D)} (h : PF K F a b) : a.length = b.length := Paired.length h
theorem lLen : LC K (rLens K) oLen := by
 intro F M H xs ds Q R m r h k
 unfold oLen at h
 split at h
 . rename_i d
   obtain ⟨x, rfl, rx⟩ := r.one'
   obtain ⟨hc, h⟩ := h
   obtain ⟨n, hn, hz⟩ := a10 h
   unfold lenF at hn
   split at hn
   . cases rx; cases hn
     exact .inl ⟨_, _, rfl, ⟨hc, rfl⟩, k _ _ (.here m (.int _) hz)⟩
   . split at hn
     . rename_i kvs hd
       cases hn
       obtain ⟨p, ws, rfl, rfl, _, e, pf⟩ := a5b m rx hd
       exact .inr ⟨p, ws, rfl, e, k _ _ (.here m (.int _) (by rw [pf.length]; exact hz))⟩
     . cases hq : dq M d with
       | none => rw [hq] at hn; cases hn
       | some ds =>
         rw [hq] at hn
         cases hn
         obtain ⟨p, vs, rfl, e, r⟩ := b5i m rx hq
         refine .inl ⟨_, vs.length, rfl, ?_, k _ _ (.here m (.int _) (by rw [r.length]; exact hz))⟩
         rcases e with e | e
         . exact .inl ⟨vs, e, rfl⟩
         . exact .inr ⟨vs, e, rfl⟩
 . exact h.elim
noncomputable def oAbs : A1s := fun ds M Q => match ds with | [.int i] => Q (.int (if i < 0 then -i else i)) M | _ => False
theorem lAbs : LC K (fun xs H Q => ∃ i, xs = [.int i] /\ Q (.int (if i < 0 then -i else i)) H) oAbs := by
 intro F M H xs ds Q R m r h k
 unfold oAbs at h
 split at h
 . obtain ⟨x, rfl, rx⟩ := r.one'
   cases rx
   exact ⟨_, rfl, k _ _ (.here m (.int _) h)⟩
 . exact h.elim
noncomputable def oMax : A1s := fun ds M Q => match ds with | [.int i, .int j] => Q (.int (if j > i then j else i)) M | _ => False
theorem lMax : LC K (fun xs H Q => ∃ i j, xs = [.int i, .int j] /\ Q (.int (if j > i then j else i)) H) oMax := by
 intro F M H xs ds Q R m r h k
 unfold oMax at h
 split at h
 . obtain ⟨x, y, rfl, rx, ry⟩ := r.two'
   cases rx; cases ry
   exact ⟨_, _, rfl, k _ _ (.here m (.int _) h)⟩
 . exact h.elim
end
section
variable {X : Cx} {F0 : Hp} {e o : Expr} {es : List Expr} {apos cpos : Pos} {to : AE} {tt : AA} {K : PySem.W.Frag} {T id : String} {name : Str} {r : V -> List V -> Hp -> VK -> Prop} {q : A1m}
theorem b1s {F : Hp} {M : Mem} {H : Hp} {x : V} {d : D} (m : AM K F M H) (rx : RD K F x d) (h : a2e M d = T) (hT : T = "list" \/ T = "dict" \/ T = "str") : tyV K T x H := by
 cases rx <;> (unfold a2e at h; dsimp only at h) <;> first
   | (subst h; exact absurd hT (by decide))
   | (subst h; rfl)
   | skip
 . rename_i a xs ds e r
   subst h; exact .inl ⟨rfl, xs, .of (m.sub _ _ e)⟩
 . rename_i a xs ds e r
   subst h; exact .inl ⟨rfl, xs, m.sub.seq e⟩
 . rename_i p
   split at h
   . rename_i ds hd
     subst h
     obtain ⟨u, e, r⟩ := m.mem _ _ hd
     obtain ⟨vs, rfl, r⟩ := r.isL
     exact .inl ⟨rfl, vs, .of e⟩
   . rename_i ds hd
     subst h
     obtain ⟨u, e, r⟩ := m.mem _ _ hd
     obtain ⟨vs, rfl, r⟩ := r.isD
     exact .inr (.inr (.inl ⟨rfl, .inl ⟨vs, e⟩⟩))
   . subst h; exact absurd hT (by decide)
theorem paBM0 (pa : PlainAttrs T) (slot : Slot T name id) (hty : typeOf (.builtin id) = pure (.type "method_descriptor")) (hm : MtR X id r) (l : LM X.K r q) (ho : PEA X F0 o to) (hT : T = "list" \/ T = "dict" \/ T = "str" := by decide)
   (hbase : attributeBase o name X.env (eval o X.env) = eval o X.env := by rfl) (hline : (apos.endLine == cpos.line) = true := by rfl) : PEA X F0 (.Call (.Attribute o name apos) [] [] cpos) (aBM0 T q to) := by
 refine ⟨?_⟩
 intro F Γ M σ H Q f0 g m hw
 refine (a8w pa slot hty hm a0m hbase hline).to ((ho.run F Γ M σ H _ f0 g m hw).mono fun v H1 zz9 => ?_)
 obtain ⟨d, F1, M1, s1, m1, r1, hk, q1⟩ := zz9
 exact ⟨b1s m1 r1 hk hT, l F1 M1 H1 v d [] [] Q _ m1 r1 .nil q1 fun _ _ z => z.dn s1⟩
theorem paBM (pa : PlainAttrs T) (slot : Slot T name id) (hty : typeOf (.builtin id) = pure (.type "method_descriptor")) (hm : MtR X id r) (l : LM X.K r q) (ho : PEA X F0 o to) (ha : PAA X F0 (e :: es) tt) (hT : T = "list" \/ T = "dict" \/ T = "str" := by decide)
   (hbase : attributeBase o name X.env (eval o X.env) = eval o X.env := by rfl)
   (hfew : ((backTo cpos (starEach (e :: es) X.env)).all (fun x => !x.1) && (backToKw cpos (keywordEach [] X.env)).all (fun x => x.1.isSome)
     && decide ((e :: es).length + ([] : List Keyword).length + (if ([] : List Keyword).isEmpty then 0 else 1) < 30)) = true := by rfl)
   (hline : (apos.endLine == cpos.line) = true := by rfl) (hs : starEach (e :: es) X.env = (false, eval e X.env) :: starEach es X.env := by rfl) (hplain : (backTo cpos (starEach es X.env)).any (·.1) = false := by rfl) :
   PEA X F0 (.Call (.Attribute o name apos) (e :: es) [] cpos) (aBM T q to tt) := by
 refine ⟨?_⟩
 intro F Γ M σ H Q f0 g m hw
 refine (pe_bm pa slot hty hm a0m a1h hbase hfew hline hs hplain).to ((ho.run F Γ M σ H _ f0 g m hw).mono fun v H1 ⟨d, F1, M1, s1, m1, r1, hk, q1⟩ => ⟨b1s m1 r1 hk hT, ?_⟩)
 refine (ha.run F1 Γ M1 σ H1 _ (f0.trans s1) (g.up s1) m1 q1).mono fun vs H2 zz9 => ?_
 obtain ⟨ds, F2, M2, s2, m2, r2, q2⟩ := zz9
 exact l F2 M2 H2 v d vs ds Q _ m2 (r1.up s2) r2 q2 fun _ _ z => z.dn (s1.trans s2)
theorem a6d {F : Hp} {M : Mem} {H : Hp} {p : Addr} {ds : List D} (m : AM K F M H) (h : M p = some (.lst ds)) : ∃ vs, H p = some (.lst vs) /\ RDs K F vs ds := by
 obtain ⟨u, e, r⟩ := m.mem _ _ h
 obtain ⟨vs, rfl, r⟩ := r.isL
 exact ⟨vs, e, r⟩
def oAppend : A1m := fun x vs M Q => match x, vs with
 | .obj p, [y] => (match M p with | some (.lst ds) => ds.length < 1000 /\ Q .non (put M p (.lst (ds ++ [y]))) | _ => False)
 | _, _ => False
theorem a1x : LM K rAppend oAppend := by
 intro F M H x d xs ds Q R m rx r h k
 unfold oAppend at h
 split at h
 . cases rx
   rename_i p y
   split at h
   . rename_i es hd
     obtain ⟨vs, e, rr⟩ := a6d m hd
     obtain ⟨w, rfl, rw'⟩ := r.one'
     exact ⟨p, vs, w, rfl, rfl, e, by rw [rr.length]; exact a35 (Nat.le_of_lt h.1), k _ _ (.here (m.set hd (u := .lst (vs ++ [w])) (o' := .lst (es ++ [y])) (rr.append (.cons rw' .nil))) .non h.2)⟩
   . exact h.elim
 . exact h.elim
def oClear : A1m := fun x vs M Q => match x, vs with
 | .obj p, [] => (match M p with | some (.lst _) => Q .non (put M p (.lst [])) | _ => False)
 | _, _ => False
theorem lClear : LM K rClear oClear := by
 intro F M H x d xs ds Q R m rx r h k
 unfold oClear at h
 split at h
 . cases rx
   rename_i p
   split at h
   . rename_i es hd
     obtain ⟨vs, e, rr⟩ := a6d m hd
     cases r.nil'
     exact ⟨p, vs, rfl, rfl, e, k _ _ (.here (m.set hd (u := .lst []) (o' := .lst []) .nil) .non h)⟩
   . exact h.elim
 . exact h.elim
def oReverse : A1m := fun x vs M Q => match x, vs with
 | .obj p, [] => (match M p with | some (.lst ds) => Q .non (put M p (.lst ds.reverse)) | _ => False)
 | _, _ => False
theorem b63 : LM K rReverse oReverse := by
 intro F M H x d xs ds Q R m rx r h k
 unfold oReverse at h
 split at h
 . cases rx
   rename_i p
   split at h
   . rename_i es hd
     obtain ⟨vs, e, rr⟩ := a6d m hd
     cases r.nil'
     exact ⟨p, vs, rfl, rfl, e, k _ _ (.here (m.set hd (u := .lst vs.reverse) (o' := .lst es.reverse) rr.reverse) .non h)⟩
   . exact h.elim
 . exact h.elim
def oPop0 : A1m := fun x vs M Q => match x, vs with
 | .obj p, [.int 0] => (match M p with | some (.lst (d :: ds)) => Q d (put M p (.lst ds)) | _ => False)
 | _, _ => False
theorem lPop0 : LM K rPopAt oPop0 := by
 intro F M H x d xs ds Q R m rx r h k
 unfold oPop0 at h
 split at h
 . cases rx
   rename_i p
   split at h
   . rename_i d1 es hd
     obtain ⟨vs, e, rr⟩ := a6d m hd
     obtain ⟨w, rfl, rw'⟩ := r.one'
     cases rw'
     cases rr with
     | cons r1 r2 =>
       rename_i v1 vs1
       refine ⟨p, v1 :: vs1, 0, 0, v1, rfl, rfl, e, by decide, by decide, ?_, rfl, ?_⟩
       . unfold seqIndex?; simp
       . exact k _ _ (.here (m.set hd (u := .lst vs1) (o' := .lst es) r2) r1 h)
   . exact h.elim
 . exact h.elim
noncomputable def idxD (y : D) : List D -> Option Nat
 | [] => none
 | d :: ds => if eqF d y = true then some 0 else (idxD y ds).map (· + 1)
theorem a9k {y : D} : ∀ {ds : List D} {j : Nat}, idxD y ds = some j -> j < ds.length /\ (∀ z, ds[j]? = some z -> eqF z y = true) /\ ∀ m z, m < j -> ds[m]? = some z -> eqF z y = false
 | [], _, h => by cases h
 | d :: ds, j, h => by
   unfold idxD at h
   split at h
   . rename_i he
     cases h
     exact ⟨by simp, fun z hz => by simp at hz; subst hz; exact he, fun m z hm => absurd hm (Nat.not_lt_zero _)⟩
   . rename_i he
     cases q : idxD y ds with
     | none => rw [q] at h; cases h
     | some i =>
       rw [q] at h
       cases h
       obtain ⟨h1, h2, h3⟩ := a9k q
       refine ⟨by simp; omega, fun z hz => h2 z (by simpa using hz), fun m z hm hz => ?_⟩
       cases m with
       | zero => simp at hz; subst hz; simpa using he
       | succ m => exact h3 m z (by have hm : m + 1 < i + 1 := hm; omega) (by simpa using hz)
def oIndex : A1m := fun x vs M Q => match vs with
 | [y] => (match dr M x with | some ds => ds.all flD = true /\ flD y = true /\ (match idxD y ds with | some j => Q (.int j) M | none => False) | none => False)
 | _ => False
theorem lIndex : LM K (rIndex K) oIndex := by
 intro F M H x d xs ds Q R m rx r h k
 unfold oIndex at h
 split at h
 . split at h
   . rename_i es hd
     obtain ⟨p, vs, rfl, e, rr⟩ := a5a m rx hd
     obtain ⟨w, rfl, rw'⟩ := r.one'
     obtain ⟨h1, h2, h⟩ := h
     split at h
     . rename_i j hj
       obtain ⟨g1, g2, g3⟩ := a9k hj
       refine ⟨p, vs, w, j, rfl, rfl, e, by rw [a8h rr]; exact h1, by rw [b0n rw']; exact h2, by rw [rr.length]; exact g1, fun z hz => ?_, fun m' z hm hz => ?_, k _ _ (.here m (.int _) h)⟩
       . obtain ⟨dz, e1, e2⟩ := rr.get' hz
         rw [b5h e2 rw' (List.all_eq_true.mp h1 _ (List.mem_of_getElem? e1)) h2]
         exact g2 _ e1
       . obtain ⟨dz, e1, e2⟩ := rr.get' hz
         rw [b5h e2 rw' (List.all_eq_true.mp h1 _ (List.mem_of_getElem? e1)) h2]
         exact g3 _ _ hm e1
     . exact h.elim
   . exact h.elim
 . exact h.elim
end
noncomputable abbrev AX := G -> Mem -> Value -> Prop
def b4j (K : PySem.W.Frag) (F0 : Hp) (R : AX) : RX := fun σ H cls _ => ∃ F Γ M, Same F0 F /\ AG K F Γ σ /\ AM K F M H /\ R Γ M cls
theorem XS.imp {X : Cx} {R R' : RX} (h : ∀ σ H cls a, R σ H cls a -> R' σ H cls a) {e : Value} {s' : Shared} (x : XS X R e s') : XS X R' e s' := by
 obtain ⟨a, σ, H, B, cls, a0, m, e1, I, ex, r⟩ := x
 exact ⟨a, σ, H, B, cls, a0, m, e1, I, ex, h _ _ _ _ r⟩
theorem Thr.imp {X : Cx} {R R' : RX} (T : Thr X R') (h : ∀ σ H cls a, R σ H cls a -> R' σ H cls a) : Thr X R := fun e s' x => T e s' (x.imp h)
structure Cat (X : Cx) (F0 : Hp) (R : AX) : Prop where
 thr : Thr X (b4j X.K F0 R)
 pl : Plain X
 calm : X.calm = true
 pass : X.A.frames = some X.stack -> PassesOwn (model X.prog X.w) X.A X.env X.xe
 un : X.A.units + 64 < cLine
theorem un64 {X : Cx} {F0 : Hp} {R : AX} (c : Cat X F0 R) : X.A.units + 64 < cLine := c.un
theorem un1 {X : Cx} {F0 : Hp} {R : AX} (c : Cat X F0 R) : X.A.units + 1 < cLine := Nat.lt_of_le_of_lt (Nat.add_le_add_left (by decide : 1 <= 64) _) c.un
noncomputable abbrev SpA := List D -> Mem -> AK -> (Value -> Mem -> Prop) -> Prop
noncomputable def a0j (K : PySem.W.Frag) (sa : SpA) : Sp := fun vs H Q E => ∃ F ds M Qa Ea, AM K F M H /\ RDs K F vs ds /\ sa ds M Qa Ea /\ (∀ v H', PQ K F Qa v H' -> Q v H') /\ ∀ cls H', (∃ F' M', Same F F' /\ AM K F' M' H' /\ Ea cls M') -> E cls none H'
def Rt (Q : AK) : AK := fun d M => (∃ M', Sub M' M /\ Q d M') \/ ∃ p ds M', d = .obj p /\ M p = some (.lst ds) /\ Sub M' (del M p) /\ Q (.lst ds) M'
theorem Rt.now {Q : AK} {d : D} {M : Mem} (h : Q d M) : Rt Q d M := .inl ⟨M, .refl M, h⟩
theorem Rt.sub {Q : AK} {d : D} {M M' : Mem} (s : Sub M' M) (h : Q d M') : Rt Q d M := .inl ⟨M', s, h⟩
theorem Sub.del {M : Mem} {p : Addr} {o : MO} (h : M p = none) : Sub M (del (L2.put M p o) p) := by rw [a3z h]; exact .refl M
theorem Rt.fz {Q : AK} {p : Addr} {M : Mem} {ds : List D} (hp : M p = none) (h : Q (.lst ds) M) : Rt Q (.obj p) (put M p (.lst ds)) := .inr ⟨p, ds, M, rfl, a0d, .del hp, h⟩
theorem PQ.rt {K : PySem.W.Frag} {F : Hp} {Q : AK} {v : V} {H : Hp} (h : PQ K F (Rt Q) v H) : PQ K F Q v H := by
 obtain ⟨d, F', M', s, m, r, q⟩ := h
 rcases q with ⟨M2, hs, q⟩ | ⟨p, ds, M2, rfl, hp, hs, q⟩
 . exact ⟨d, F', M2, s, m.less hs, r, q⟩
 . obtain ⟨F2, s2, m2, r2⟩ := m.freeze hp
   cases r
   exact ⟨_, F2, M2, s.trans s2, m2.less hs, r2, q⟩
section
variable {X : Cx} {F0 : Hp} {R : AX} {k : Nat} {x : Str} {ps : List Str} {sa : SpA} {p pos apos : Pos} {e o : Expr} {es : List Expr} {tt : AA} {to : AE} {C : Addr} {m : Str}
def aFun (sa : SpA) (R : AX) (t : AA) : AE := fun Γ M Q => t Γ M fun ds M1 => sa ds M1 Q fun cls M' => R Γ M' cls
theorem a0t (h : Has X.prog X.w X.K X.mg X.base (CXE X.prog X.w) k x ps (a0j X.K sa)) (hr : Room k X.A) (hg : Gl X x) (c : Cat X F0 R) (ha : PAA X F0 (e :: es) tt)
   (hdb : (x == ("__debug__" : Str)) = false := by decide) (he : starEach (e :: es) X.env = (false, eval e X.env) :: starEach es X.env := by rfl) (hpl : (backTo pos (starEach es X.env)).any (·.1) = false := by rfl) :
   PEA X F0 (.Call (.Name x p) (e :: es) [] pos) (aFun sa R tt) := by
 refine ⟨?_⟩
 intro F Γ M σ H Q f0 g mm hw
 refine (b6o h hr hg c.thr c.pl a1h hdb he hpl).to ((ha.run F Γ M σ H _ f0 g mm hw).mono fun vs H1 zz9 => ?_)
 obtain ⟨ds, F1, M1, s1, m1, r1, q1⟩ := zz9
 exact ⟨F1, ds, M1, _, _, m1, r1, q1, fun v H' z => z.dn s1, fun cls H' ⟨F', M', s', m', q'⟩ a => ⟨F', Γ, M', f0.trans (s1.trans s'), g.up (s1.trans s'), m', q'⟩⟩
def b0j (o : Option MO) (C : Addr) (R : List (Str × D) -> Prop) : Prop := match o with | some (.ins C' fs) => C' = C /\ R fs | _ => False
theorem a2k {C : Addr} {fs : List (Str × D)} {R : List (Str × D) -> Prop} : b0j (some (.ins C fs)) C R = R fs := by
 unfold b0j; simp
theorem b1t {o : Option MO} {C : Addr} {R : List (Str × D) -> Prop} (h : b0j o C R) : ∃ fs, o = some (.ins C fs) /\ R fs := by
 unfold b0j at h
 split at h
 . obtain ⟨rfl, h⟩ := h; exact ⟨_, rfl, h⟩
 . exact h.elim
def b5v (C : Addr) (m : Str) (sa : SpA) (R : AX) (to : AE) (t : AA) : AE := fun Γ M Q => to Γ M fun x M1 => match x with
 | .obj p => b0j (M1 p) C fun fs => fs.lookup m = none /\ t Γ M1 fun ds M2 => sa (.obj p :: ds) M2 Q fun cls M' => R Γ M' cls
 | _ => False
theorem PF.lookup {K : PySem.W.Frag} {F : Hp} {f : Str} : ∀ {a : List (Str × V)} {b : List (Str × D)}, PF K F a b -> (b.lookup f = none -> a.lookup f = none) /\ ∀ d, b.lookup f = some d -> ∃ v, a.lookup f = some v /\ RD K F v d
 | _, _, .nil => ⟨fun _ => rfl, fun d h => by cases h⟩
 | (n, v) :: a, (n', d) :: b, .cons ⟨h1, h2⟩ t => by
   dsimp only at h1 h2
   subst h1
   simp only [List.lookup_cons]
   split
   . refine ⟨fun h => ?_, fun d' h => ?_⟩
     . cases h
     . cases h; exact ⟨_, rfl, h2⟩
   . exact PF.lookup t
theorem b3w {pl : Sem Bool} {sp : Sp} {R : RX} {ta : TE} (h : HasM X.prog X.w X.K X.mg X.base (CXE X.prog X.w) k C m ps sp) (hr : Room k X.A) (T : Thr X R) (Pl : Plain X) (ho : PE X o ta)
   (ht : eval (.Call (.Attribute o m apos) [] [] pos) X.env = (do
     let ov <- eval o X.env
     standAt apos.atName
     let (f, first) <- holding [ov] (getMethod ov m pl)
     callWith pos f first (backTo pos (starEach [] X.env)) (backToKw pos (keywordEach [] X.env))) := by rfl) :
   PE X (.Call (.Attribute o m apos) [] [] pos) (tMethX C m sp R ta tNil) := by
 intro pins s σ H Q I hw
 obtain ⟨f, fd, F, hm, hb⟩ := h.ex
 refine PySem.W.methodCall_KW (pl := pl) (thn (ho pins s σ H _ I hw) fun u s1 ⟨x, H1, I1, rx, a, dx, fs, ex, ea, l, q⟩ => ?_) ht
 subst ex
 obtain rfl : u = Value.ref a := rx
 refine a7i I1 ea h.cl hm l ?_
 exact PySem.W.callWith_K0 (first := [.ref a]) I1.kIn hm.kp (a9z (us := [.ref a]) (vs := [.ref a]) F hr hb T Pl I1 (.cons rfl .nil) q)
theorem paMeth {pl : Sem Bool} (h : HasM X.prog X.w X.K X.mg X.base (CXE X.prog X.w) k C m ps (a0j X.K sa)) (hr : Room k X.A) (c : Cat X F0 R) (ho : PEA X F0 o to) (ha : PAA X F0 (e :: es) tt)
   (hst : starEach (e :: es) X.env = (false, eval e X.env) :: starEach es X.env := by rfl) (hpl : (backTo pos (starEach es X.env)).any (·.1) = false := by rfl)
   (ht : eval (.Call (.Attribute o m apos) (e :: es) [] pos) X.env = (do
     let ov <- eval o X.env
     standAt apos.atName
     let (f, first) <- holding [ov] (getMethod ov m pl)
     callWith pos f first (backTo pos (starEach (e :: es) X.env)) (backToKw pos (keywordEach [] X.env))) := by rfl) :
   PEA X F0 (.Call (.Attribute o m apos) (e :: es) [] pos) (b5v C m sa R to tt) := by
 refine ⟨?_⟩
 intro F Γ M σ H Q f0 g mm hw
 refine (b6l h hr c.thr c.pl a0m a1h hst hpl ht).to ((ho.run F Γ M σ H _ f0 g mm hw).mono fun v H1 zz9 => ?_)
 obtain ⟨d, F1, M1, s1, m1, r1, q1⟩ := zz9
 obtain ⟨pp, rfl, rfl⟩ : ∃ pp, v = .ref pp /\ d = .obj pp := by cases r1 <;> first | exact q1.elim | exact ⟨_, rfl, rfl⟩
 obtain ⟨fs, hp, hl, q1⟩ := b1t q1
 obtain ⟨u, e1, ro⟩ := m1.mem _ _ hp
 obtain ⟨dx, ws, rfl, pf⟩ := ro.isI
 refine ⟨pp, dx, ws, rfl, e1, pf.lookup.1 hl, ?_⟩
 refine (ha.run F1 Γ M1 σ H1 _ (f0.trans s1) (g.up s1) m1 q1).mono fun vs H2 zz9 => ?_
 obtain ⟨ds, F2, M2, s2, m2, r2, q2⟩ := zz9
 exact ⟨F2, .obj pp :: ds, M2, _, _, m2, .cons (.obj pp) r2, q2, fun v H' z => z.dn (s1.trans s2), fun cls H' ⟨F', M', s', m', q'⟩ a => ⟨F', Γ, M', f0.trans (s1.trans (s2.trans s')), g.up (s1.trans (s2.trans s')), m', q'⟩⟩
theorem a26 {pl : Sem Bool} (h : HasM X.prog X.w X.K X.mg X.base (CXE X.prog X.w) k C m ps (a0j X.K sa)) (hr : Room k X.A) (c : Cat X F0 R) (ho : PEA X F0 o to)
   (ht : eval (.Call (.Attribute o m apos) [] [] pos) X.env = (do
     let ov <- eval o X.env
     standAt apos.atName
     let (f, first) <- holding [ov] (getMethod ov m pl)
     callWith pos f first (backTo pos (starEach [] X.env)) (backToKw pos (keywordEach [] X.env))) := by rfl) :
   PEA X F0 (.Call (.Attribute o m apos) [] [] pos) (b5v C m sa R to aNil) := by
 refine ⟨?_⟩
 intro F Γ M σ H Q f0 g mm hw
 refine (b3w h hr c.thr c.pl a0m ht).to ((ho.run F Γ M σ H _ f0 g mm hw).mono fun v H1 zz9 => ?_)
 obtain ⟨d, F1, M1, s1, m1, r1, q1⟩ := zz9
 obtain ⟨pp, rfl, rfl⟩ : ∃ pp, v = .ref pp /\ d = .obj pp := by cases r1 <;> first | exact q1.elim | exact ⟨_, rfl, rfl⟩
 obtain ⟨fs, hp, hl, q1⟩ := b1t q1
 obtain ⟨u, e1, ro⟩ := m1.mem _ _ hp
 obtain ⟨dx, ws, rfl, pf⟩ := ro.isI
 refine ⟨pp, dx, ws, rfl, e1, pf.lookup.1 hl, ?_⟩
 exact ⟨F1, [.obj pp], M1, _, _, m1, .cons (.obj pp) .nil, q1, fun v H' z => z.dn s1, fun cls H' ⟨F', M', s', m', q'⟩ a => ⟨F', Γ, M', f0.trans (s1.trans s'), g.up (s1.trans s'), m', q'⟩⟩
structure Pln (K : PySem.W.Frag) (C : Addr) (f : Str) : Prop where
 cl : Cls K C
 no : NoAttr K C f
def aFldC (C : Addr) (f : Str) (to : AE) : AE := fun Γ M Q => to Γ M fun x M1 => match x with
 | .obj p => b0j (M1 p) C fun fs => opt (fs.lookup f) fun d => Q d M1
 | _ => False
theorem a6z {f : Str} (P : Pln X.K C f) (ho : PEA X F0 e to) (hb : attributeBase e f X.env (eval e X.env) = eval e X.env) : PEA X F0 (.Attribute e f pos) (aFldC C f to) := by
 refine ⟨?_⟩
 intro F Γ M σ H Q f0 g mm hw
 refine (pe_fld a0m hb).to ((ho.run F Γ M σ H _ f0 g mm hw).mono fun v H1 zz9 => ?_)
 obtain ⟨d, F1, M1, s1, m1, r1, q1⟩ := zz9
 obtain ⟨pp, rfl, rfl⟩ : ∃ pp, v = .ref pp /\ d = .obj pp := by cases r1 <;> first | exact q1.elim | exact ⟨_, rfl, rfl⟩
 obtain ⟨fs, hp, q1⟩ := b1t q1
 obtain ⟨d, hl, q⟩ := a10 q1
 obtain ⟨u, e1, ro⟩ := m1.mem _ _ hp
 obtain ⟨dx, ws, rfl, pf⟩ := ro.isI
 obtain ⟨v, lv, rv⟩ := pf.lookup.2 d hl
 exact ⟨pp, C, dx, ws, v, rfl, e1, P.cl, P.no, lv, d, F1, M1, s1, m1, rv, q⟩
noncomputable def putD (f : Str) (v : D) : List (Str × D) -> List (Str × D)
 | [] => [(f, v)]
 | (g, x) :: r => if g = f then (g, v) :: r else (g, x) :: putD f v r
end
section
variable {X : Cx} {F0 : Hp} {R : AX} {e o c : Expr} {es : List Expr} {pos pos' : Pos} {te t_o : AE} {tt : AA} {t u : AS} {st : Stmt} {rest a b : List Stmt} {tc : AT}
def aNext : AS := fun E Γ M => E.nx Γ M
def aSeq (t u : AS) : AS := fun E Γ M => t { E with nx := u E } Γ M
theorem a0s : PSsA X F0 [] aNext := ⟨fun F Γ M σ H E _ g m h => pss_nil.to (PQg.here m g h)⟩
theorem a0b (h1 : PSA X F0 st t) (h2 : PSsA X F0 rest u) : PSsA X F0 (st :: rest) (aSeq t u) := by
 refine ⟨?_⟩
 intro F Γ M σ H E f0 g m h
 refine (b6f b3q a1n).to ((h1.run F Γ M σ H _ f0 g m h).mono ⟨fun σ1 H1 ⟨F1, Γ1, M1, s1, g1, m1, q1⟩ => ?_, fun _ _ z => z, fun _ _ z => z, fun _ _ z => z⟩)
 exact (h2.run F1 Γ1 M1 σ1 H1 E (f0.trans s1) g1 m1 q1).mono (PQD.dn s1)
theorem a0i (h1 : PSA X F0 st t) : PSsA X F0 [st] t := ⟨fun F Γ M σ H E f0 g m h => (pss_one b3q).to (h1.run F Γ M σ H E f0 g m h)⟩
def b0y (te : AE) : AS := fun E Γ M => te Γ M fun _ M1 => E.nx Γ M1
theorem a2d (he : PEA X F0 e te) (hs : swapsWith e none pos.line X.env = pure false := by rfl) : PSA X F0 (.Expr e pos) (b0y te) := by
 refine ⟨?_⟩
 intro F Γ M σ H E f0 g m h
 exact (ps_expr a0m hs).to ((he.run F Γ M σ H _ f0 g m h).mono fun v H1 ⟨d, F1, M1, s1, m1, _, q1⟩ => ⟨F1, Γ, M1, s1, g.up s1, m1, q1⟩)
def aRet (te : AE) : AS := fun E Γ M => te Γ M E.rt
theorem sRet (he : PEA X F0 e te) : PSA X F0 (.Return (some e) pos) (aRet te) := ⟨fun F Γ M σ H E f0 g m h => (ps_ret a0m).to (he.run F Γ M σ H _ f0 g m h)⟩
def aRetN : AS := fun E _ M => E.rt .non M
def aIf (c : AT) (t u : AS) : AS := fun E Γ M => c Γ M fun b M1 => if b = true then t E Γ M1 else u E Γ M1
theorem sIf (hc : PTA X F0 c tc) (ha : PSsA X F0 a t) (hb : PSsA X F0 b u) : PSA X F0 (.If c a b pos) (aIf tc t u) := by
 refine ⟨?_⟩
 intro F Γ M σ H E f0 g m h
 refine (ps_if a25 a1n a1n).to ((hc.run F Γ M σ H _ f0 g m h).mono fun k H1 zz9 => ?_)
 obtain ⟨F1, M1, s1, m1, q1⟩ := zz9
 cases k with
 | true =>
   rw [if_pos rfl] at q1 |-
   exact (ha.run F1 Γ M1 σ H1 E (f0.trans s1) (g.up s1) m1 q1).mono (PQD.dn s1)
 | false =>
   rw [if_neg Bool.false_ne_true] at q1 |-
   exact (hb.run F1 Γ M1 σ H1 E (f0.trans s1) (g.up s1) m1 q1).mono (PQD.dn s1)
def gaN (i : Nat) : AGt := fun d Γ M Q => Q (Γ.set i (some d)) M
theorem a0r {i : Nat} {x : Str} (hN : X.N.Nodup) (hi : X.N[i]? = some x) (hx : Loc X.env.scope x) (hf : X.fn x = true \/ X.env.scope.names.lookup x = some .local := by first | exact .inl rfl | exact .inr rfl | assumption) : PGA X F0 (.Name x pos) (gaN i) :=
 ⟨fun F Γ M σ H v d Q _ g m r h => (pg_name hN hi hx hf).to (PQg.here m (g.set r i) h)⟩
def gaNil : AGts := fun ds Γ M Q => ds = [] /\ Q Γ M
def a4j (t : AGt) (u : AGts) : AGts := fun ds Γ M Q => match ds with | d :: r => t d Γ M fun Γ' M' => u r Γ' M' Q | [] => False
theorem a3i : PGsA X F0 [] gaNil := by
 refine ⟨?_⟩
 intro F Γ M σ H vs ds Q _ g m r h
 obtain ⟨rfl, h⟩ := h
 cases r
 exact pgs_nil.to ⟨rfl, PQg.here m g h⟩
theorem a0w {gt : AGt} {gu : AGts} (h1 : PGA X F0 e gt) (h2 : PGsA X F0 es gu) (hs : (assignEach (e :: es) X.env).map (·.2) = assign e X.env :: (assignEach es X.env).map (·.2) := by rfl) : PGsA X F0 (e :: es) (a4j gt gu) := by
 refine ⟨?_⟩
 intro F Γ M σ H vs ds Q f0 g m r h
 cases r with
 | nil => exact h.elim
 | cons r1 r2 =>
   refine (b6j a54 a7y hs).to ⟨_, _, rfl, ?_⟩
   refine (h1.run F Γ M σ H _ _ _ f0 g m r1 h).mono fun σ1 H1 zz9 => ?_
   obtain ⟨F1, Γ1, M1, s1, g1, m1, q1⟩ := zz9
   exact (h2.run F1 Γ1 M1 σ1 H1 _ _ Q (f0.trans s1) g1 m1 (r2.up s1) q1).mono fun _ _ z => z.dn s1
def a66 (n : Nat) (t : AGts) : AGt := fun d Γ M Q => match d with | .tup ds => ds.length = n /\ t ds Γ M Q | _ => False
theorem a7m {k : Nat} {gu : AGts} {n : Nat} (hc : X.calm = true) (h : PGsA X F0 es gu)
   (hn : (assignEach es X.env).length = n := by rfl) (hst : (assignEach es X.env).findIdx? (·.1) = none := by rfl) : PGA X F0 (.Tuple es k pos) (a66 n gu) := by
 refine ⟨?_⟩
 intro F Γ M σ H v d Q f0 g m r hw
 cases r <;> first | exact hw.elim | skip
 rename_i a xs ds e r
 exact (pg_tup hc a7y hn hst).to ⟨a, xs, rfl, .of (m.sub _ _ e), by rw [r.length]; exact hw.1, h.run F Γ M σ H xs ds Q f0 g m r hw.2⟩
def gaLst (n : Nat) (t : AGts) : AGt := fun d Γ M Q => match dr M d with | some ds => ds.length = n /\ t ds Γ M Q | none => False
theorem tgLst {k : Nat} {gu : AGts} {n : Nat} (hc : X.calm = true) (h : PGsA X F0 es gu)
   (hn : (assignEach es X.env).length = n := by rfl) (hst : (assignEach es X.env).findIdx? (·.1) = none := by rfl) : PGA X F0 (.Tuple es k pos) (gaLst n gu) := by
 refine ⟨?_⟩
 intro F Γ M σ H v d Q f0 g m r hw
 unfold gaLst at hw
 split at hw
 . rename_i ds hd
   obtain ⟨p, vs, rfl, e, rr⟩ := a5a m r hd
   exact (pg_lst hc a7y hn hst).to ⟨p, vs, rfl, e, by rw [rr.length]; exact hw.1, h.run F Γ M σ H vs ds Q f0 g m rr hw.2⟩
 . exact hw.elim
def gaSub (to ti : AE) : AGt := fun d Γ M Q => to Γ M fun x M1 => ti Γ M1 fun y M2 => match x, y with
 | .obj p, .int k => (match M2 p with | some (.lst ds) => (match ixN ds.length k with | some j => Q Γ (put M2 p (.lst (ds.set j d))) | none => False) | _ => False)
 | _, _ => False
theorem tgSub {i : Expr} {ti : AE} (ho : PEA X F0 o t_o) (hi : PEA X F0 i ti)
   (ha : ∀ v, assign (.Subscript o i pos) X.env v = (do
     let ov <- holding [v] (eval o X.env)
     let iv <- holding [v, ov] (eval i X.env)
     standAt pos
     holding [v, ov, iv] (setItem ov iv v)
     release [v, ov, iv] []) := by intro _; rfl) : PGA X F0 (.Subscript o i pos) (gaSub t_o ti) := by
 refine ⟨?_⟩
 intro F Γ M σ H v d Q f0 g m r hw
 refine (pg_sub a0m a0m b56 ha).to (two ho hi f0 g m hw fun F2 M2 H2 v1 u1 x y s m2 r1 r2 q => ?_)
 cases r1 <;> first | exact q.elim | skip
 cases r2 <;> first | exact q.elim | skip
 rename_i p k
 dsimp only at q
 split at q
 . rename_i ds hd
   split at q
   . rename_i j hj
     obtain ⟨vs, e, rr⟩ := a6d m2 hd
     exact ⟨p, vs, k, j, rfl, rfl, e, by rw [rr.length]; exact hj, F2, Γ, _, s, g.up s, m2.set hd (u := .lst (vs.set j v)) (o' := .lst (ds.set j d)) (RDs.set (r.up s) j rr), q⟩
   . exact q.elim
 . exact q.elim
def aAsg (te : AE) (gt : AGt) : AS := fun E Γ M => te Γ M fun d M1 => gt d Γ M1 E.nx
theorem sAsg {tg : Expr} {gt : AGt} (he : PEA X F0 e te) (hg : PGA X F0 tg gt) (hs : swapsWithSole [tg] e pos.line X.env = pure false := by rfl) (hw : swappedStores [tg] e X.env = pure none := by rfl)
   (h1 : (assignEach [tg] X.env).map (·.2) = [assign tg X.env] := by rfl) : PSA X F0 (.Assign [tg] e pos) (aAsg te gt) := by
 refine ⟨?_⟩
 intro F Γ M σ H E f0 g m h
 refine (ps_asg a0m a54 hs hw h1).to ((he.run F Γ M σ H _ f0 g m h).mono fun v H1 zz9 => ?_)
 obtain ⟨d, F1, M1, s1, m1, r1, q1⟩ := zz9
 exact (hg.run F1 Γ M1 σ H1 v d _ (f0.trans s1) (g.up s1) m1 r1 q1).mono fun _ _ z => PQg.dn s1 z
def aSet (i : Nat) (te : AE) : AS := fun E Γ M => te Γ M fun d M1 => E.nx (Γ.set i (some d)) M1
theorem sSet {i : Nat} {x : Str} (hN : X.N.Nodup) (hi : X.N[i]? = some x) (hx : Loc X.env.scope x) (he : PEA X F0 e te) (hs : swapsWith e (some (.Name x pos')) pos.line X.env = pure false := by rfl) (hf : X.fn x = true \/ X.env.scope.names.lookup x = some .local := by first | exact .inl rfl | exact .inr rfl | assumption) :
   PSA X F0 (.Assign [.Name x pos'] e pos) (aSet i te) := by
 refine ⟨?_⟩
 intro F Γ M σ H E f0 g m h
 exact (ps_set hN hi hx a0m hs hf).to ((he.run F Γ M σ H _ f0 g m h).mono fun v H1 ⟨d, F1, M1, s1, m1, r1, q1⟩ => ⟨F1, _, M1, s1, (g.up s1).set r1 i, m1, q1⟩)
def aPar (i j : Nat) (t : AA) : AS := fun E Γ M => t Γ M fun ds M1 => match ds with | [v, w] => E.nx ((Γ.set i (some v)).set j (some w)) M1 | _ => False
theorem sPar {i j : Nat} {x y : Str} {a b : Expr} {px py pt : Pos} {kt k2 pt2} (hc : X.calm = true) (hN : X.N.Nodup) (hi : X.N[i]? = some x) (hj : X.N[j]? = some y) (hij : i ≠ j)
   (hx : X.env.scope.names.lookup x = some .local) (hy : X.env.scope.names.lookup y = some .local) (ha : PAA X F0 [a, b] tt)
   (hw : swappedStores [.Tuple [.Name x px, .Name y py] kt pt] (.Tuple [a, b] k2 pt2) X.env = pure (some [x, y]))
   (hs : swapsWithSole [.Tuple [.Name x px, .Name y py] kt pt] (.Tuple [a, b] k2 pt2) pos.line X.env = pure false := by rfl) :
   PSA X F0 (.Assign [.Tuple [.Name x px, .Name y py] kt pt] (.Tuple [a, b] k2 pt2) pos) (aPar i j tt) := by
 refine ⟨?_⟩
 intro F Γ M σ H E f0 g m h
 refine (ps_par hc hN hi hj hij hx hy a1h hw hs).to ((ha.run F Γ M σ H _ f0 g m h).mono fun vs H1 zz9 => ?_)
 obtain ⟨ds, F1, M1, s1, m1, r1, q1⟩ := zz9
 try dsimp only at q1
 split at q1
 . obtain ⟨v, w, rfl, rv, rw'⟩ := r1.two'
   exact ⟨v, w, rfl, F1, _, M1, s1, ((g.up s1).set rv i).set rw' j, m1, q1⟩
 . exact q1.elim
def aSetF (C : Addr) (f : Str) (to te : AE) : AS := fun E Γ M => te Γ M fun y M1 => to Γ M1 fun x M2 => match x with
 | .obj p => b0j (M2 p) C fun fs => fs.length < 1000 /\ E.nx Γ (put M2 p (.ins C (putD f y fs)))
 | _ => False
theorem PF.put {K : PySem.W.Frag} {F : Hp} {f : Str} {v : V} {d : D} (r : RD K F v d) : ∀ {a : List (Str × V)} {b : List (Str × D)}, PF K F a b -> PF K F (putF f v a) (putD f d b)
 | _, _, .nil => .cons ⟨rfl, r⟩ .nil
 | (n, _) :: _, (n', _) :: _, .cons ⟨h1, h2⟩ t => by
   dsimp only at h1 h2
   subst h1
   unfold putF putD
   split
   . exact .cons ⟨rfl, r⟩ t
   . exact .cons ⟨rfl, h2⟩ (PF.put r t)
theorem b59 {C : Addr} {f : Str} (P : Pln X.K C f) (ho : PEA X F0 o t_o) (he : PEA X F0 e te) (hs : swapsWith e (some (.Attribute o f pos')) pos.line X.env = pure false) : PSA X F0 (.Assign [.Attribute o f pos'] e pos) (aSetF C f t_o te) := by
 refine ⟨?_⟩
 intro F Γ M σ H E f0 g m h
 refine (ps_fld a0m a0m hs).to (two he ho f0 g m h fun F2 M2 H2 v u x y s m2 r1 r2 q => ?_)
 cases r2 <;> first | exact q.elim | skip
 rename_i p
 obtain ⟨fs, hp, hl, q⟩ := b1t q
 obtain ⟨w, e1, ro⟩ := m2.mem _ _ hp
 obtain ⟨dx, ws, rfl, pf⟩ := ro.isI
 exact ⟨p, C, dx, ws, rfl, e1, P.cl, P.no, by rw [pf.length]; exact hl, F2, Γ, _, s, g.up s, m2.set hp (u := .ins C dx (putF f v ws)) (o' := .ins C (putD f x fs)) ⟨rfl, pf.put r1⟩, q⟩
def aRaise (R : AX) (C : Addr) (t : AA) : AS := fun _ Γ M => t Γ M fun ds M1 => ds.length <= 1000 /\ R Γ M1 (.ref C)
theorem a24 {x : Str} {C : Addr} {np cpos : Pos} (k : Cat X F0 R) (O : ExCls X.K X.mg x C) (hg : Gl X x) (ha : PAA X F0 (e :: es) tt)
   (hd : (x == ("__debug__" : Str)) = false := by decide) (he : starEach (e :: es) X.env = (false, eval e X.env) :: starEach es X.env := by rfl) (hpl : (backTo cpos (starEach es X.env)).any (·.1) = false := by rfl) :
   PSA X F0 (.Raise (some (.Call (.Name x np) (e :: es) [] cpos)) none pos) (aRaise R C tt) := by
 refine ⟨?_⟩
 intro F Γ M σ H E f0 g m h
 refine (b6h k.thr k.pl O k.calm hg a1h hd he hpl).to ((ha.run F Γ M σ H _ f0 g m h).mono fun vs H1 zz9 => ?_)
 obtain ⟨ds, F1, M1, s1, m1, r1, hl, q1⟩ := zz9
 exact ⟨by rw [r1.length]; exact b0h hl, fun a => ⟨F1, Γ, M1, f0.trans s1, g.up s1, m1, q1⟩⟩
def aWhile (c : AT) (tb : AS) : AS := fun E Γ M => ∃ W : Nat -> G -> Mem -> Prop, (∃ m, W m Γ M) /\ ∀ m Γ M, W m Γ M ->
 c Γ M fun b M1 => if b = true then tb { E with nx := fun Γ' M' => ∃ m', m' < m /\ W m' Γ' M', ct := fun Γ' M' => ∃ m', m' < m /\ W m' Γ' M', bk := E.nx } Γ M1 else E.nx Γ M1
theorem a8v {tb : AS} {body : List Stmt} (k : Cat X F0 R) (hc : PTA X F0 c tc) (hb : PSsA X F0 body tb) : PSA X F0 (.While c body [] pos) (aWhile tc tb) := by
 refine ⟨?_⟩
 intro F Γ M σ H E f0 g m h
 obtain ⟨W, ⟨m0, w0⟩, turn⟩ := h
 intro pins s I
 refine (b6g (k.pass I.ok.frames) a25 a1n).to ⟨fun n σ' H' => ∃ F' Γ' M', Same F F' /\ AG X.K F' Γ' σ' /\ AM X.K F' M' H' /\ W n Γ' M', ⟨m0, F, Γ, M, .refl F, g, m, w0⟩, ?_⟩ pins s I
 rintro n σ1 H1 ⟨F1, Γ1, M1, s1, g1, m1, w1⟩
 refine (hc.run F1 Γ1 M1 σ1 H1 _ (f0.trans s1) g1 m1 (turn n Γ1 M1 w1)).mono fun b H2 zz9 => ?_
 obtain ⟨F2, M2, s2, m2, q2⟩ := zz9
 cases b with
 | true =>
   rw [if_pos rfl] at q2 |-
   refine ⟨PQg X.K F (fun Γ' M' => ∃ m', m' < n /\ W m' Γ' M'), fun σ' H' ⟨F', Γ', M', s', g', m', n'⟩ => ?_, ?_⟩
   . obtain ⟨k', hm, w'⟩ := n'
     exact ⟨k', hm, F', Γ', M', s', g', m', w'⟩
   . exact (hb.run F2 Γ1 M2 σ1 H2 _ (f0.trans (s1.trans s2)) (g1.up s2) m2 q2).mono ⟨fun _ _ z => PQg.dn (s1.trans s2) z, fun _ _ z => PQ.dn (s1.trans s2) z, fun _ _ z => PQg.dn (s1.trans s2) z, fun _ _ z => PQg.dn (s1.trans s2) z⟩
 | false =>
   rw [if_neg Bool.false_ne_true] at q2 |-
   exact ⟨F2, Γ1, M2, s1.trans s2, g1.up s2, m2, q2⟩
structure Src where
 n : Nat
 item : Nat -> D
 held : Mem -> Prop
noncomputable abbrev AI := G -> Mem -> (Src -> Mem -> Prop) -> Prop
def b57 (X : Cx) (tg iter : Expr) : TI := fun σ H Rr => ∀ pins s, Inv X pins σ H s -> wpAny (model X.prog X.w) X.A (eval iter X.env) (fun v s1 => wpAny (model X.prog X.w) X.A (pyIter v) (PIE X pins σ tg Rr) X.xe s1) X.xe s
theorem a7x {tg iter : Expr} : PI X tg iter (b57 X tg iter) := fun pins s _ _ _ I h => h pins s I
theorem PI.to {tg iter : Expr} {σ : St} {H : Hp} {wi : TI} {Rr : It -> Hp -> Prop} (h : PI X tg iter wi) (hw : wi σ H Rr) : b57 X tg iter σ H Rr := fun pins s I => h pins s σ H Rr I hw
structure ItS (K : PySem.W.Frag) (F : Hp) (J : It) (S : Src) : Prop where
 go : ∀ i F' M H, Same F F' -> AM K F' M H -> S.held M -> i < S.n -> J.go i H
 yld : ∀ i F' M H x H', Same F F' -> AM K F' M H -> S.held M -> i < S.n -> J.yld i H x H' -> ∃ F2, Same F' F2 /\ AM K F2 M H' /\ RD K F2 x (S.item i)
 stop : ∀ F' M H, Same F F' -> AM K F' M H -> S.held M -> J.stop S.n H
structure PIA (X : Cx) (F0 : Hp) (tg iter : Expr) (t : AI)  : Prop where
 run : ∀ F Γ M σ H Q, Same F0 F -> AG X.K F Γ σ -> AM X.K F M H -> t Γ M Q -> b57 X tg iter σ H fun J H1 => ∃ S F1 M1, Same F F1 /\ AM X.K F1 M1 H1 /\ ItS X.K F1 J S /\ Q S M1
def LoopP (S : Src) (gt : AGt) (tb : AS) : AS := fun E Γ M => ∃ W : Nat -> G -> Mem -> Prop, W 0 Γ M /\ ∀ i Γ M, W i Γ M -> S.held M /\ if i < S.n then gt (S.item i) Γ M fun Γ2 M2 => tb { E with nx := W (i + 1), ct := W (i + 1), bk := E.nx } Γ2 M2 else E.nx Γ M
theorem LoopP.by {S : Src} {gt : AGt} {tb : AS} {E : AEnds} {Γ : G} {M : Mem} (W : Nat -> G -> Mem -> Prop) (h0 : W 0 Γ M) (hl : ∀ i Γ M, W i Γ M -> S.held M)
   (step : ∀ i Γ M, i < S.n -> W i Γ M -> gt (S.item i) Γ M fun Γ2 M2 => tb { E with nx := fun Γ' M' => i + 1 <= S.n /\ W (i + 1) Γ' M', ct := fun Γ' M' => i + 1 <= S.n /\ W (i + 1) Γ' M', bk := E.nx } Γ2 M2) (done : ∀ Γ M, W S.n Γ M -> E.nx Γ M) : LoopP S gt tb E Γ M := by
 refine ⟨fun i Γ M => i <= S.n /\ W i Γ M, ⟨Nat.zero_le _, h0⟩, fun i Γ M ⟨hi, w⟩ => ⟨hl i Γ M w, ?_⟩⟩
 by_cases h : i < S.n
 . rw [if_pos h]; exact step i Γ M h w
 . rw [if_neg h]
   have e : i = S.n := by omega
   subst e
   exact done Γ M w
def aFor (wi : AI) (gt : AGt) (tb : AS) : AS := fun E Γ M => wi Γ M fun S M1 => LoopP S gt tb E Γ M1
theorem sFor {tg iter : Expr} {body : List Stmt} {wi : AI} {gt : AGt} {tb : AS} (k : Cat X F0 R) (hi : PIA X F0 tg iter wi) (hg : PGA X F0 tg gt) (hb : PSsA X F0 body tb)
   (hs : ∀ x, foldedSetIterable iter X.env x = pure x := by intro _; rfl) : PSA X F0 (.For tg iter body [] pos) (aFor wi gt tb) := by
 refine ⟨?_⟩
 intro F Γ M σ H E f0 g m h
 intro pins0 s0 I0
 refine (ps_for (k.pass I0.ok.frames) k.calm a7x a54 a1n hs).to ?_ pins0 s0 I0
 intro pins s I
 refine thn (hi.run F Γ M σ H _ f0 g m h pins s I) fun v s1 h1 => thn h1 fun itv s2 zz9 => ?_
 obtain ⟨it, fp, tn, J, H2, e1, I2, T, st, fo, S, F1, M1, s1, m1, iS, W, w0, turn⟩ := zz9
 refine ⟨it, fp, tn, J, H2, e1, I2, T, st, fo, fun i n σ' H' => n = S.n - i /\ i <= S.n /\ ∃ F' Γ' M', Same F1 F' /\ AG X.K F' Γ' σ' /\ AM X.K F' M' H' /\ W i Γ' M', ⟨S.n, rfl, Nat.zero_le _, F1, Γ, M1, .refl _, g.up s1, m1, w0⟩, ?_⟩
 rintro i n σ3 H3 ⟨rfl, hle, F3, Γ3, M3, s3, g3, m3, w3⟩
 obtain ⟨hh, w3⟩ := turn i Γ3 M3 w3
 by_cases hlt : i < S.n
 . rw [if_pos hlt] at w3
   refine .inr ⟨iS.go i F3 M3 H3 s3 m3 hh hlt, PQg X.K F1 (W (i + 1)), fun σ' H' ⟨F', Γ', M', s', g', m', w'⟩ => ⟨S.n - (i + 1), by omega, rfl, hlt, F', Γ', M', s', g', m', w'⟩, fun x H' y => ?_⟩
   obtain ⟨F4, s4, m4, r4⟩ := iS.yld i F3 M3 H3 x H' s3 m3 hh hlt y
   refine (hg.run F4 Γ3 M3 σ3 H' x _ _ (f0.trans (s1.trans (s3.trans s4))) (g3.up s4) m4 r4 w3).mono fun σ5 H5 zz9 => ?_
   obtain ⟨F5, Γ5, M5, s5, g5, m5, q5⟩ := zz9
   have sx := s3.trans (s4.trans s5)
   refine (hb.run F5 Γ5 M5 σ5 H5 _ (f0.trans (s1.trans sx)) g5 m5 q5).mono ⟨fun _ _ z => PQg.dn sx z, fun _ _ z => PQ.dn (s1.trans sx) z, fun _ _ z => PQg.dn (s1.trans sx) z, fun _ _ z => PQg.dn sx z⟩
 . rw [if_neg hlt] at w3
   have hin : i = S.n := by omega
   have w3 : E.nx Γ3 M3 := w3
   exact .inl ⟨by rw [hin]; exact iS.stop F3 M3 H3 s3 m3 hh, F3, Γ3, M3, s1.trans s3, g3, m3, w3⟩
def iaL (tl : AE) : AI := fun Γ M Q => tl Γ M fun d M1 => match dr M1 d with
 | some ds => Q ⟨ds.length, fun i => ds.getD i .non, fun M => dr M d = some ds⟩ M1
 | none => False
theorem a2l {tg l : Expr} {tl : AE} (hl : PEA X F0 l tl) : PIA X F0 tg l (iaL tl) := by
 refine ⟨?_⟩
 intro F Γ M σ H Q f0 g m h
 refine (pi_list a0m).to ((hl.run F Γ M σ H _ f0 g m h).mono fun v H1 zz9 => ?_)
 obtain ⟨d, F1, M1, s1, m1, r1, q1⟩ := zz9
 try dsimp only at q1
 split at q1
 . rename_i ds hd
   obtain ⟨p, vs, rfl, e, rr⟩ := a5a m1 r1 hd
   refine ⟨p, rfl, ⟨vs, e⟩, _, F1, M1, s1, m1, ⟨fun i F' M' H' s' m' hh hi => ?_, fun i F' M' H' x H'' s' m' hh hi y => ?_, fun F' M' H' s' m' hh => ?_⟩, q1⟩
   . obtain ⟨p', ws, e1, e2, r2⟩ := a5a m' (r1.up s') hh
     cases e1
     obtain ⟨w, e3, _⟩ := r2.get (i := i) (d := ds[i]) (by simp [hi])
     exact ⟨ws, w, e2, e3⟩
   . obtain ⟨p', ws, e1, e2, r2⟩ := a5a m' (r1.up s') hh
     cases e1
     obtain ⟨rfl, y⟩ := y
     obtain ⟨w, e3, r3⟩ := r2.get (i := i) (d := ds[i]) (by simp [hi])
     have hx := y ws e2
     rw [e3] at hx
     have hx := Option.some.inj hx
     subst hx
     refine ⟨F', .refl _, m', ?_⟩
     have e4 : ds.getD i .non = ds[i] := by simp [List.getD, List.getElem?_eq_getElem hi]
     show RD X.K F' _ (ds.getD i .non)
     rw [e4]; exact r3
   . obtain ⟨p', ws, e1, e2, r2⟩ := a5a m' (r1.up s') hh
     cases e1
     exact ⟨ws, e2, by rw [r2.length]; exact Nat.le_refl _⟩
 . exact q1.elim
def iaR1 (tt : AA) : AI := fun Γ M Q => tt Γ M fun ds M1 => match ds with
 | [.int j] => -(2 ^ 62) <= j /\ j < 2 ^ 62 /\ Q ⟨j.toNat, fun i => .int i, fun _ => True⟩ M1
 | _ => False
theorem b4z {K : PySem.W.Frag} {F : Hp} {lo : Int} {n : Nat} : ItS K F (Itr lo n) ⟨n, fun i => .int (lo + i), fun _ => True⟩ :=
 ⟨fun i _ _ _ _ _ _ h => h, fun i F' M H x H' _ m _ _ ⟨e1, e2⟩ => by subst e1 e2; exact ⟨F', .refl _, m, .int _⟩, fun _ _ _ _ _ _ => Nat.le_refl _⟩
theorem b0k {tg a : Expr} {p : Pos} (hg : Gl X "range") (hm : X.mg "range" = none) (ha : PAA X F0 [a] tt) (hs : starEach [a] X.env = [(false, eval a X.env)] := by rfl) : PIA X F0 tg (.Call (.Name "range" p) [a] [] pos) (iaR1 tt) := by
 refine ⟨?_⟩
 intro F Γ M σ H Q f0 g m h
 refine (b3u hg hm a1h hs).to ((ha.run F Γ M σ H _ f0 g m h).mono fun vs H1 zz9 => ?_)
 obtain ⟨ds, F1, M1, s1, m1, r1, q1⟩ := zz9
 try dsimp only at q1
 split at q1
 . rename_i j
   obtain ⟨x, rfl, rx⟩ := r1.one'
   obtain rfl : x = .int j := by cases rx; rfl
   refine ⟨j, rfl, q1.1, q1.2.1, ⟨j.toNat, fun i => .int i, fun _ => True⟩, F1, M1, s1, m1, ?_, q1.2.2⟩
   have := b4z (K := X.K) (F := F1) (lo := 0) (n := j.toNat)
   simpa using this
 . exact q1.elim
def iaR2 (tt : AA) : AI := fun Γ M Q => tt Γ M fun ds M1 => match ds with
 | [.int i, .int j] => (-(2 ^ 62) <= i /\ i < 2 ^ 62 /\ -(2 ^ 62) <= j /\ j < 2 ^ 62) /\ Q ⟨(j - i).toNat, fun k => .int (i + k), fun _ => True⟩ M1
 | _ => False
theorem iRange2 {tg a b : Expr} {p : Pos} (hg : Gl X "range") (hm : X.mg "range" = none) (ha : PAA X F0 [a, b] tt) (hs : starEach [a, b] X.env = [(false, eval a X.env), (false, eval b X.env)] := by rfl) (hs2 : starEach [b] X.env = [(false, eval b X.env)] := by rfl) : PIA X F0 tg (.Call (.Name "range" p) [a, b] [] pos) (iaR2 tt) := by
 refine ⟨?_⟩
 intro F Γ M σ H Q f0 g m h
 refine (b3t hg hm a1h hs hs2).to ((ha.run F Γ M σ H _ f0 g m h).mono fun vs H1 zz9 => ?_)
 obtain ⟨ds, F1, M1, s1, m1, r1, q1⟩ := zz9
 try dsimp only at q1
 split at q1
 . rename_i i j
   obtain ⟨x, y, rfl, rx, ry⟩ := r1.two'
   obtain rfl : x = .int i := by cases rx; rfl
   obtain rfl : y = .int j := by cases ry; rfl
   exact ⟨i, j, rfl, q1.1, ⟨(j - i).toNat, fun k => .int (i + k), fun _ => True⟩, F1, M1, s1, m1, b4z, q1.2⟩
 . exact q1.elim
def iaS (tl : AE) : AI := fun Γ M Q => tl Γ M fun d M1 => match d with
 | .str x => Q ⟨x.cps.size, fun i => .str ⟨#[x.cps.getD i 0]⟩, fun _ => True⟩ M1
 | _ => False
theorem iStr' {tg l : Expr} {tl : AE} (hl : PEA X F0 l tl) : PIA X F0 tg l (iaS tl) := by
 refine ⟨?_⟩
 intro F Γ M σ H Q f0 g m h
 refine (pi_str a0m).to ((hl.run F Γ M σ H _ f0 g m h).mono fun v H1 zz9 => ?_)
 obtain ⟨d, F1, M1, s1, m1, r1, q1⟩ := zz9
 obtain ⟨x, rfl, rfl⟩ : ∃ x, v = .str x /\ d = .str x := by cases r1 <;> first | exact q1.elim | exact ⟨_, rfl, rfl⟩
 exact ⟨x, rfl, ⟨x.cps.size, fun i => .str ⟨#[x.cps.getD i 0]⟩, fun _ => True⟩, F1, M1, s1, m1, ⟨fun i _ _ _ _ _ _ h => h, fun i F' M H x H' _ m _ _ ⟨e1, e2⟩ => by subst e1 e2; exact ⟨F', .refl _, m, .str _⟩, fun _ _ _ _ _ _ => rfl⟩, q1⟩
end
noncomputable def a48 (N : List Str) (ds : List D) : G := ds.map some ++ List.replicate (N.length - ds.length) none
theorem b01 {K : PySem.W.Frag} {F : Hp} : ∀ {vs : List V} {ds : List D} {n i : Nat} {d : D}, RDs K F vs ds -> (ds.map some ++ List.replicate n none : G)[i]? = some (some d) -> ∃ v, (vs.map some ++ List.replicate n none : St)[i]? = some (some v) /\ RD K F v d
 | _, _, n, i, d, .nil, h => by
   simp only [List.map_nil, List.nil_append, List.getElem?_replicate] at h
   split at h <;> cases h
 | _, _, n, 0, d, .cons r _, h => by simp at h; subst h; exact ⟨_, by simp, r⟩
 | _, _, n, i + 1, d, .cons _ t, h => by
   obtain ⟨v, e, r⟩ := b01 (i := i) t (by simpa using h)
   exact ⟨v, by simpa using e, r⟩
theorem a7o {K : PySem.W.Frag} {F : Hp} {N : List Str} {vs : List V} {ds : List D} (r : RDs K F vs ds) : AG K F (a48 N ds) (start N vs) := by
 refine ⟨by simp [a48, start, r.length], fun i d h => ?_⟩
 unfold start
 rw [r.length]
 exact b01 r h
theorem Cat.of {P : Program} {w : World} {K : PySem.W.Frag} {mg : Str -> Option Value} {base : Heap} {N : List Str} {qual : Str} {scope : Scope} {f : Addr} {cd : Value} {A : Around} {outer : List Env} {s : Shared} {H : Hp} {E : XK} {F : Hp} {Ea : Value -> Mem -> Prop}
   (hE : ∀ cls H', (∃ F' M', Same F F' /\ AM K F' M' H' /\ Ea cls M') -> E cls none H') (hu : (A.deeper (envOfC qual scope s.heap.objs.size f cd)).units + 64 < cLine) : Cat ((cxOf (CXE P w) P w K mg base N qual scope f cd A outer s H E).by (rE E)) F (fun _ M cls => Ea cls M) :=
 ⟨Thr.imp b00 fun _ H' cls _ ⟨F', _, M', s', _, m', q⟩ => hE cls H' ⟨F', M', s', m', q⟩, plain_cx.wish _, rfl, fun fr => a8x plain_cx fr, hu⟩
theorem Fun.okA {P : Program} {w : World} {K : PySem.W.Frag} {mg : Str -> Option Value} {base : Heap} {x qual : Str} {st : Stmt} {f : Addr} {fd : FuncData} {N ps : List Str} {k : Nat} {sa : SpA} (Fn : Fun K x qual st f fd) (S : FnScope N ps (a0c st)) (len : ∀ ds M Q E, sa ds M Q E -> ds.length = ps.length)
   (hbody : ∀ (cdv : Value) (A : Around) (outer : List Env) (s : Shared) (H : Hp) (E : XK) (F0 : Hp) (ds : List D) (M : Mem) (Q : AK) (Ea : Value -> Mem -> Prop), Room k (A.deeper (envOfC qual (a0c st) s.heap.objs.size f cdv)) ->
     Cat ((cxOf (CXE P w) P w K mg base N qual (a0c st) f cdv A outer s H E).by (rE E)) F0 (fun _ M cls => Ea cls M) -> sa ds M Q Ea ->
     ∃ t, PSsA ((cxOf (CXE P w) P w K mg base N qual (a0c st) f cdv A outer s H E).by (rE E)) F0 (a0u st) t /\ t { nx := fun _ M' => Rt Q .non M', rt := Rt Q } (a48 N ds) M) : FnOk P w K mg base (CXE P w) (k + 1) f fd ps (a0j K sa) := by
 refine Fn.okX S (fun vs H Q E ⟨F, ds, M, Qa, Ea, m, r, h, _⟩ => by rw [r.length]; exact len _ _ _ _ h) ?_
 intro cdv A outer s H vs Q E hr ⟨F, ds, M, Qa, Ea, m, r, h, hQ, hE⟩
 obtain ⟨t, ht, q⟩ := hbody cdv A outer s H E F ds M Qa Ea hr (Cat.of hE hr.units) h
 refine ⟨_, a1n, ?_⟩
 refine (ht.run F _ M _ H _ (.refl F) (a7o r) m q).mono ⟨fun σ' H' ⟨F', Γ', M', s', g', m', q'⟩ => ?_, fun v H' z => ?_, fun _ _ ⟨_, _, _, _, _, _, q'⟩ => q'.elim, fun _ _ ⟨_, _, _, _, _, _, q'⟩ => q'.elim⟩
 . exact hQ _ _ (PQ.rt ⟨.non, F', M', s', m', .non, q'⟩)
 . exact hQ _ _ (PQ.rt z)
theorem passE {X : Cx} : b5x (CXE X.prog X.w) X E0 := fun _ _ _ _ _ _ _ ⟨_, _, _, _, _, _, _, _, _, _, _, _, _, _, q⟩ => q.elim
section
variable {X : Cx} {F0 : Hp} {R : AX} {k : Nat} {x : Str} {sa : SpA} {p pos : Pos} {C : Addr}
structure HasC (P : Program) (w : World) (K : PySem.W.Frag) (mg : Str -> Option Value) (base : Heap) (k : Nat) (x : Str) (C : Addr) (sa : SpA) : Prop where
 bound : mg x = some (.ref C)
 ex : ∃ f fd, FnOk P w K mg base (CXE P w) k f fd ["self"] (a0j K sa) /\ Mk K C f /\ Binds K fd ["self"] []
def aMake (C : Addr) (sa : SpA) : AE := fun _ M Q => ∀ p, M p = none -> sa [.obj p] (put M p (.ins C [])) (fun d M' => d = .non /\ Q (.obj p) M') fun _ _ => False
theorem paMake (h : HasC X.prog X.w X.K X.mg X.base k x C sa) (hr : Room (k + 1) X.A) (hg : Gl X x) (hdb : (x == ("__debug__" : Str)) = false := by decide) : PEA X F0 (.Call (.Name x p) [] [] pos) (aMake C sa) := by
 refine ⟨?_⟩
 intro F Γ M σ H Q f0 g m hw
 obtain ⟨f, fd, Fn, mk, hb⟩ := h.ex
 refine (b6m mk Fn hr hg h.bound hb .nil passE hdb).to ?_
 intro q dx hq hdx hne
 have hs := hw q (m.fM hq)
 have hq2 : upd H dx (.own q) q = none := by rw [a0l (Ne.symm hne)]; exact hq
 refine ⟨F, [.obj q], put M q (.ins C []), _, _, (m.more (u := .own q) hdx).new (o := .ins C []) hq2 ⟨rfl, .nil⟩, .cons (.obj q) .nil, hs, fun v H' ⟨d, F', M', s', m', r', hd, q'⟩ => ?_, fun _ _ ⟨_, _, _, _, z⟩ => z.elim⟩
 subst hd
 cases r'
 exact ⟨rfl, .obj q, F', M', s', m', .obj q, q'⟩
end
noncomputable def keyD : D -> Option Key
 | .int i => some (.inl i)
 | .str x => some (.inr x)
 | _ => none
noncomputable def getK (kvs : List (Key × D)) (k : Key) : Option D := (kvs.find? fun kv => decide (kv.1 = k)).map (·.2)
noncomputable def a5e (kvs : List (Key × D)) (k : Key) (v : D) : List (Key × D) := if (getK kvs k).isSome then kvs.map fun kv => if kv.1 = k then (kv.1, v) else kv else kvs ++ [(k, v)]
noncomputable def dropKD (kvs : List (Key × D)) (k : Key) : List (Key × D) := kvs.filter fun kv => decide (kv.1 ≠ k)
section
variable {K : PySem.W.Frag} {F : Hp}
theorem a6h {x : V} {d : D} {k : Key} (r : RD K F x d) (h : keyD d = some k) : x = kV k := by
 cases r <;> first | (cases h; done) | (cases h; rfl)
theorem PF.get (k : Key) : ∀ {a : List (Key × V)} {b : List (Key × D)}, PF K F a b -> (getK b k = none -> valV a k = none) /\ ∀ d, getK b k = some d -> ∃ v, valV a k = some v /\ RD K F v d
 | _, _, .nil => ⟨fun _ => rfl, fun d h => by cases h⟩
 | (n, v) :: a, (n', d) :: b, .cons ⟨h1, h2⟩ t => by
   dsimp only at h1 h2
   subst h1
   obtain ⟨i1, i2⟩ := PF.get k t
   by_cases hn : n = k
   . rw [a5j (p := (n, v)) hn]
     have : getK ((n, d) :: b) k = some d := by simp [getK, List.find?_cons, hn]
     rw [this]
     refine ⟨fun h => ?_, fun d' h => ?_⟩
     . cases h
     . cases h; exact ⟨v, rfl, h2⟩
   . rw [a5k (p := (n, v)) hn]
     have : getK ((n, d) :: b) k = getK b k := by simp [getK, List.find?_cons, hn]
     rw [this]
     exact ⟨i1, i2⟩
theorem PF.append {κ : Type} : ∀ {a a' : List (κ × V)} {b b' : List (κ × D)}, PF K F a b -> PF K F a' b' -> PF K F (a ++ a') (b ++ b')
 | _, _, _, _, .nil, s => s
 | _, _, _, _, .cons h t, s => .cons h (PF.append t s)
theorem PF.mapK {k : Key} {v : V} {d : D} (r : RD K F v d) : ∀ {a : List (Key × V)} {b : List (Key × D)}, PF K F a b -> PF K F (a.map fun kv => if kv.1 = k then (kv.1, v) else kv) (b.map fun kv => if kv.1 = k then (kv.1, d) else kv)
 | _, _, .nil => .nil
 | (n, _) :: _, (n', _) :: _, .cons ⟨h1, h2⟩ t => by
   dsimp only at h1 h2
   subst h1
   simp only [List.map_cons]
   refine .cons ?_ (PF.mapK r t)
   split
   . exact ⟨rfl, r⟩
   . exact ⟨rfl, h2⟩
theorem PF.putK {k : Key} {v : V} {d : D} (r : RD K F v d) {a : List (Key × V)} {b : List (Key × D)} (h : PF K F a b) : PF K F (L2.putK a k v) (a5e b k d) := by
 unfold L2.putK a5e
 rw [a7l]
 cases q : getK b k with
 | none =>
   rw [(h.get k).1 q]
   simp only [Option.isSome_none, Bool.false_eq_true, if_false]
   exact h.append (.cons ⟨rfl, r⟩ .nil)
 | some d' =>
   obtain ⟨v', e, _⟩ := (h.get k).2 d' q
   rw [e]
   simp only [Option.isSome_some, if_true]
   exact PF.mapK r h
end
section
variable {X : Cx} {F0 : Hp} {e o i : Expr} {pos pos' : Pos} {td ti tv : AE}
def aDGet (td ti : AE) : AE := fun Γ M Q => td Γ M fun x M1 => ti Γ M1 fun y M2 => both (dd M2 x) (keyD y) fun kvs k => opt (getK kvs k) fun d => Q d M2
theorem a49 (hu : X.A.units + 1 < cLine) (ho : PEA X F0 o td) (hi : PEA X F0 i ti) (hs : NoSl i) : PEA X F0 (.Subscript o i pos) (aDGet td ti) := by
 refine ⟨?_⟩
 intro F Γ M σ H Q f0 g m hw
 refine (pe_dget hu a0m a0m hs).to (two ho hi f0 g m hw fun F2 M2 H2 v u x y s m2 r1 r2 q0 => ?_)
 obtain ⟨kvs, k, h1, h2, q0⟩ := a69 q0
 obtain ⟨d, h3, q⟩ := a10 q0
 obtain ⟨p, ws, rfl, rfl, _, e1, pf⟩ := a5b m2 r1 h1
 obtain ⟨w, e2, rw'⟩ := (pf.get k).2 d h3
 refine ⟨p, w, rfl, ?_, d, F2, M2, s, m2, rw', q⟩
 rw [a6h r2 h2, <- e2]
 exact DGet.k e1
def oDIn (neg : Bool) : A2 := fun y x M Q => both (dd M x) (keyD y) fun kvs k => Q (.bl (if neg then !(getK kvs k).isSome else (getK kvs k).isSome)) M
theorem PF.some {K : PySem.W.Frag} {F : Hp} {a : List (Key × V)} {b : List (Key × D)} (h : PF K F a b) (k : Key) : (valV a k).isSome = (getK b k).isSome := by
 cases q : getK b k with
 | none => rw [(h.get k).1 q]; rfl
 | some d => obtain ⟨v, e, _⟩ := (h.get k).2 d q; rw [e]; rfl
structure PCA (X : Cx) (F0 : Hp) (op : CmpOp) (a b : Expr) (t : AE)  : Prop where
 run : ∀ F Γ M σ H Q, Same F0 F -> AG X.K F Γ σ -> AM X.K F M H -> t Γ M Q -> ∃ tc : TE, PC X op a b tc /\ ∀ Rv : VK, (∀ v H', PQ X.K F Q v H' -> Rv v H') -> tc σ H Rv
theorem pcDIn (hu : X.A.units + 1 < cLine) (hi : PEA X F0 i ti) (ho : PEA X F0 o td) : PCA X F0 .In i o (aOp (oDIn false) ti td) := by
 refine ⟨?_⟩
 intro F Γ M σ H Q f0 g m hw
 refine ⟨_, pc_din hu a0m a0m, fun Rv kk => two hi ho f0 g m hw fun F2 M2 H2 v u y x s m2 r1 r2 q0 => ?_⟩
 obtain ⟨kvs, k, h1, h2, q⟩ := a69 q0
 obtain ⟨p, ws, rfl, rfl, _, e1, pf⟩ := a5b m2 r2 h1
 refine ⟨p, _, rfl, by rw [a6h r1 h2]; exact DGet.k e1, kk _ _ ⟨_, F2, M2, s, m2, .bl _, ?_⟩⟩
 rw [pf.some k]; simpa using q
theorem a5o (hu : X.A.units + 1 < cLine) (hi : PEA X F0 i ti) (ho : PEA X F0 o td) : PCA X F0 .NotIn i o (aOp (oDIn true) ti td) := by
 refine ⟨?_⟩
 intro F Γ M σ H Q f0 g m hw
 refine ⟨_, b30 hu a0m a0m, fun Rv kk => two hi ho f0 g m hw fun F2 M2 H2 v u y x s m2 r1 r2 q0 => ?_⟩
 obtain ⟨kvs, k, h1, h2, q⟩ := a69 q0
 obtain ⟨p, ws, rfl, rfl, _, e1, pf⟩ := a5b m2 r2 h1
 refine ⟨p, _, rfl, by rw [a6h r1 h2]; exact DGet.k e1, kk _ _ ⟨_, F2, M2, s, m2, .bl _, ?_⟩⟩
 rw [pf.some k]; simpa using q
theorem ptPC {op : CmpOp} {a b : Expr} {t : AE} (h : PCA X F0 op a b t) (h1 : behindInMarks op b = false := by first | exact nobehind _ (by decide) (by decide) | rfl) : PTA X F0 (.Compare a [op] [b] pos) (aT t) := by
 refine ⟨?_⟩
 intro F Γ M σ H Q f0 g m hw
 obtain ⟨tc, pc, k⟩ := h.run F Γ M σ H _ f0 g m hw
 refine (pt_cmp pc h1).to (k _ fun v H' z => ?_)
 exact PQ.bool z
def aDPut (td ti tv : AE) : AS := fun E Γ M => tv Γ M fun v M1 => td Γ M1 fun x M2 => ti Γ M2 fun y M3 => match x with
 | .obj p => both (dd M3 (.obj p)) (keyD y) fun kvs k => kvs.length < 1000 /\ E.nx Γ (put M3 p (.dic (a5e kvs k v)))
 | _ => False
theorem dd_obj {M : Mem} {p : Addr} {kvs : List (Key × D)} (h : dd M (.obj p) = some kvs) : M p = some (.dic kvs) := by
 unfold dd at h
 dsimp only at h
 split at h
 . rename_i h'; cases h; exact h'
 . cases h
theorem b3k (hu : X.A.units + 1 < cLine) (ho : PEA X F0 o td) (hi : PEA X F0 i ti) (hv : PEA X F0 e tv) (hs : swapsWith e (some (.Subscript o i pos')) pos.line X.env = pure false) : PSA X F0 (.Assign [.Subscript o i pos'] e pos) (aDPut td ti tv) := by
 refine ⟨?_⟩
 intro F Γ M σ H E f0 g m hw
 refine (ps_dput hu a0m a0m a0m hs).to ?_
 refine (hv.run F Γ M σ H _ f0 g m hw).mono fun v H1 zz9 => ?_
 obtain ⟨dv, F1, M1, s1, m1, r1, q1⟩ := zz9
 refine two ho hi (f0.trans s1) (g.up s1) m1 q1 fun F2 M2 H2 u w x y s m2 r2 r3 q => ?_
 cases r2 <;> first | exact q.elim | skip
 rename_i p
 obtain ⟨kvs, k, hp, hk, hl, q⟩ := a69 q
 have hp := dd_obj hp
 obtain ⟨u', e1, ro⟩ := m2.mem _ _ hp
 obtain ⟨ws, rfl, pf⟩ := ro.isD
 refine ⟨p, _, rfl, ?_, F2, Γ, put M2 p (.dic (a5e kvs k dv)), s1.trans s, g.up (s1.trans s), m2.set hp (u := .dK (putK ws k v)) (o' := .dic (a5e kvs k dv)) (pf.putK (r1.up s)), q⟩
 rw [a6h r3 hk]
 exact DPut.k e1 (by rw [pf.length]; exact a35 (Nat.le_of_lt hl))
def aDNew : AE := fun _ M Q => ∀ p, M p = none -> Q (.obj p) (put M p (.dic []))
theorem b32 : PEA X F0 (.Dict [] [] pos) aDNew := by
 refine ⟨?_⟩
 intro F Γ M σ H Q f0 g m hw
 exact pe_dnewK.to fun p hp => ⟨.obj p, F, _, .refl F, m.new (o := .dic []) hp .nil, .obj p, hw p (m.fM hp)⟩
variable {apos cpos : Pos}
def aDPop (td ti : AE) : AE := fun Γ M Q => td Γ M fun x M1 => (dd M1 x).isSome = true /\ ti Γ M1 fun y M2 => match x with
 | .obj p => both (dd M2 (.obj p)) (keyD y) fun kvs k => opt (getK kvs k) fun d => Q d (put M2 p (.dic (dropKD kvs k)))
 | _ => False
def aDGet1 (td ti : AE) : AE := fun Γ M Q => td Γ M fun x M1 => (dd M1 x).isSome = true /\ ti Γ M1 fun y M2 => both (dd M2 x) (keyD y) fun kvs k => Q ((getK kvs k).getD .non) M2
theorem paDGet1 (hu : X.A.units + 1 < cLine) (ho : PEA X F0 o td) (he : PEA X F0 e ti) (mm : M1 X o "get" apos e cpos) : PEA X F0 (.Call (.Attribute o "get" apos) [e] [] cpos) (aDGet1 td ti) := by
 refine ⟨?_⟩
 intro F Γ M σ H Q f0 g m hw
 refine (b6n hu a0m a0m mm).to ((ho.run F Γ M σ H _ f0 g m hw).mono fun v H1 zz9 => ?_)
 obtain ⟨x, F1, M1, s1, m1, r1, hd, q1⟩ := zz9
 cases hdd : dd M1 x with
 | none => rw [hdd] at hd; cases hd
 | some kvs0 =>
   obtain ⟨p, ws, rfl, rfl, hp, e1, pf⟩ := a5b m1 r1 hdd
   refine ⟨p, rfl, .inl ⟨ws, .inl e1⟩, (he.run F1 Γ M1 σ H1 _ (f0.trans s1) (g.up s1) m1 q1).mono fun u H2 zz9 => ?_⟩
   obtain ⟨y, F2, M2, s2, m2, r2, q0⟩ := zz9
   obtain ⟨kvs, k, h1, h2, q⟩ := a69 q0
   obtain ⟨p', ws2, e0, _, hp2, e2, pf2⟩ := a5b m2 (r1.up s2) h1
   cases e0
   refine ⟨valV ws2 k, by rw [a6h r2 h2]; exact DGet.k e2, ?_⟩
   cases hk : getK kvs k with
   | none =>
     rw [(pf2.get k).1 hk]
     rw [hk] at q
     exact ⟨_, F2, M2, s1.trans s2, m2, .non, q⟩
   | some d =>
     obtain ⟨w, e3, rw'⟩ := (pf2.get k).2 d hk
     rw [e3]
     rw [hk] at q
     exact ⟨_, F2, M2, s1.trans s2, m2, rw', q⟩
end
noncomputable def jsOf (n : Nat) (fs : List Nat) : List (Option Nat) := List.replicate n none ++ fs.map some
noncomputable def frG (fs : List Nat) (Γ : G) : G := fs.map fun j => (Γ[j]?).join
noncomputable def outs (f : Nat -> Option D) (n : Nat) : List D := (List.range n).filterMap f
theorem a4e (f : Nat -> Option D) (n : Nat) : outs f (n + 1) = outs f n ++ (f n).toList := by
 unfold outs
 rw [List.range_succ, List.filterMap_append]
 cases h : f n <;> simp [h]
theorem outs_le (f : Nat -> Option D) (n : Nat) : (outs f n).length <= n := by
 unfold outs
 exact Nat.le_trans (List.length_filterMap_le _ _) (by simp)
def a3n (n : Nat) (fs : List Nat) (wi : AI) (gt : AGt) (ti : AT) (te : AE) : AE := fun Γ M Q => wi Γ M fun S M1 => ∃ out : Nat -> Option D, S.n <= 1000 /\
 (∀ M', Sub M1 M' -> S.held M' /\ ∀ i, i < S.n -> ∀ own : G, own.length = n -> gt (S.item i) (own ++ frG fs Γ) M' fun Γ2 M2 => M2 = M' /\ (∃ own', own'.length = n /\ Γ2 = own' ++ frG fs Γ) /\
   ti Γ2 M' fun b M3 => M3 = M' /\ if b = true then te Γ2 M' fun y M4 => M4 = M' /\ out i = some y else out i = none) /\
 ∀ p, M1 p = none -> Q (.obj p) (put M1 p (.lst (outs out S.n)))
def aYes : AT := fun _ M Q => Q true M
section
variable {X : Cx} {F0 : Hp} {Nc : List Str} {scope : Scope} {cl : List (Str × Addr)} {n : Nat} {fs : List Nat} {tg iter elt : Expr} {ifs : List Expr} {gt : AGt} {ti : AT} {te : AE} {wi : AI} {pos : Pos}
structure PIfsA (X : Cx) (F0 : Hp) (ifs : List Expr) (t : AT)  : Prop where
 run : ∀ F Γ M σ H Q, Same F0 F -> AG X.K F Γ σ -> AM X.K F M H -> t Γ M Q -> ∀ pins s, Inv X pins σ H s -> wpAny (model X.prog X.w) X.A (a3b X.env ifs) (TP X pins σ (PQb X.K F Q)) X.xe s
theorem b5c : PIfsA X F0 [] aYes := ⟨fun F Γ M σ H Q _ _ m h pins s I => pif_nil pins s σ H _ I (PQb.here m h)⟩
theorem fiOne {c : Expr} {t : AT} (h : PTA X F0 c t) : PIfsA X F0 [c] t := ⟨fun F Γ M σ H Q f0 g m hw pins s I => pif_one a25 pins s σ H _ I (h.run F Γ M σ H Q f0 g m hw)⟩
theorem frG_ok {K : PySem.W.Frag} {F : Hp} {Γ : G} {σ : St} (g : AG K F Γ σ) (n : Nat) (fs : List Nat) : AG K F (List.replicate n none ++ frG fs Γ) (sigC (jsOf n fs) σ) := by
 have e : sigC (jsOf n fs) σ = List.replicate n none ++ fs.map fun j => (σ[j]?).join := by
   unfold sigC jsOf
   rw [List.map_append, List.map_replicate, List.map_map]
   rfl
 rw [e]
 refine ⟨by simp [frG], fun i d h => ?_⟩
 by_cases hi : i < n
 . rw [List.getElem?_append_left (by simpa using hi), List.getElem?_replicate, if_pos hi] at h
   cases h
 . rw [List.getElem?_append_right (by simp; omega)] at h |-
   simp only [List.length_replicate, frG, List.getElem?_map] at h |-
   cases q : fs[i - n]? with
   | none => rw [q] at h; cases h
   | some j =>
     rw [q] at h
     simp only [Option.map_some, Option.some.injEq] at h |-
     have h2 : Γ[j]? = some (some d) := by
       cases q2 : Γ[j]? with
       | none => rw [q2] at h; cases h
       | some z => rw [q2] at h; cases z <;> cases h; rfl
     obtain ⟨v, e1, r⟩ := g.at' j d h2
     exact ⟨v, by rw [e1]; rfl, r⟩
theorem a6p {σ : St} {H : Hp} {F : Hp} {Γ : G} {M : Mem} {Q : AK} {Rv : VK} (f0 : Same F0 F) (g : AG X.K F Γ σ) (m : AM X.K F M H) (hi : PIA X F0 tg iter wi)
   (hg : ∀ pins C fp s H, PGA (a0o X pins Nc scope cl C fp s H) F0 tg gt) (hti : ∀ pins C fp s H, PIfsA (a0o X pins Nc scope cl C fp s H) F0 ifs ti) (he : ∀ pins C fp s H, PEA (a0o X pins Nc scope cl C fp s H) F0 elt te)
   (hw : a3n n fs wi gt ti te Γ M Q) (hR : ∀ v H', PQ X.K F Q v H' -> Rv v H') :
   tComp (jsOf n fs) (b57 X tg iter) (fun v σ H Q => ∀ pins C fp s H0, selfG (a0o X pins Nc scope cl C fp s H0) tg v σ H Q)
     (fun σ H Q => ∀ pins C fp s H0 pins' s', Inv (a0o X pins Nc scope cl C fp s H0) pins' σ H s' -> wpAny (model X.prog X.w) X.A (a3b (a0o X pins Nc scope cl C fp s H0).env ifs) (TP (a0o X pins Nc scope cl C fp s H0) pins' σ Q) (fun _ _ => False) s')
     (fun σ H Q => ∀ pins C fp s H0, selfE (a0o X pins Nc scope cl C fp s H0) elt σ H Q) σ H Rv := by
 intro pins s I
 refine thn (hi.run F Γ M σ H _ f0 g m hw pins s I) fun v s1 h1 => thn h1 fun itv s2 zz9 => ?_
 obtain ⟨it, fp, tn, J, H2, e1, I2, T, st, fo, S, F1, M1, s1, m1, iS, out, hn, turn, q⟩ := zz9
 refine ⟨it, fp, tn, J, H2, e1, I2, T, st, fo, fun l hl => ?_⟩
 have hMl := m1.fM hl
 refine ⟨fun i k ys σ' H' => k = S.n - i /\ i <= S.n /\ ∃ F' own, Same F1 F' /\ own.length = n /\ AG X.K F' (own ++ frG fs Γ) σ' /\ AM X.K F' (put M1 l (.raw (.lst ys))) H' /\ RDs X.K F' ys (outs out i), ⟨S.n, rfl, Nat.zero_le _, F1, List.replicate n none, .refl _, by simp, frG_ok (g.up s1) n fs, m1.new (o := .raw (.lst [])) hl rfl, .nil⟩, ?_⟩
 rintro i k ys σ3 H3 ⟨rfl, hle, F3, own, s3, ho, g3, m3, hys⟩
 have hs3 : Sub M1 (put M1 l (.raw (.lst ys))) := .put hMl
 obtain ⟨hh, turn⟩ := turn _ hs3
 have at_l : ∀ {F5 : Hp} {H5 : Hp}, AM X.K F5 (put M1 l (.raw (.lst ys))) H5 -> H5 l = some (.lst ys) := fun m5 => by
   obtain ⟨u, e, r⟩ := m5.mem l _ a0d
   rw [e]; exact congrArg some r
 refine ⟨at_l m3, ?_⟩
 by_cases hlt : i < S.n
 . refine .inr ⟨iS.go i F3 _ H3 s3 m3 hh hlt, by rw [hys.length]; exact a35 (Nat.le_trans (outs_le out i) (by omega)), fun x H' y pins C fp s H0 => ?_⟩
   obtain ⟨F4, s4, m4, r4⟩ := iS.yld i F3 _ H3 x H' s3 m3 hh hlt y
   have ft := f0.trans (s1.trans (s3.trans s4))
   refine ((hg pins C fp s H0).run F4 _ _ σ3 H' x _ _ ft (g3.up s4) m4 r4 (turn i hlt own ho)).mono fun σ5 H5 zz9 => ?_
   obtain ⟨F5, Γ5, M5, s5, g5, m5, e5, ⟨own5, ho5, eΓ5⟩, q5⟩ := zz9
   subst e5 eΓ5
   intro pinsb Cb fpb sb H0b pins' s' I'
   refine thn ((hti pinsb Cb fpb sb H0b).run F5 _ _ σ5 H5 _ (ft.trans s5) g5 m5 q5 pins' s' I') fun b s6 ⟨H6, I6, F6, M6, s6', m6, e6, q6⟩ => ⟨H6, I6, ?_⟩
   subst e6
   have sx := s4.trans (s5.trans s6')
   cases b with
   | true =>
     rw [if_pos rfl] at q6 |-
     intro pinsc Cc fpc sc H0c
     refine ((he pinsc Cc fpc sc H0c).run F6 _ _ σ5 H6 _ (ft.trans (s5.trans s6')) (g5.up s6') m6 q6).mono fun vy H7 zz9 => ?_
     obtain ⟨y7, F7, M7, s7, m7, r7, e7, q7⟩ := zz9
     subst e7
     refine ⟨at_l m7, S.n - (i + 1), by omega, rfl, hlt, F7, own5, s3.trans (sx.trans s7), ho5, g5.up (s6'.trans s7), ?_, ?_⟩
     . have := m7.set (p := l) (o' := .raw (.lst (ys ++ [vy]))) (u := .lst (ys ++ [vy])) a0d rfl
       rw [a1e] at this
       exact this
     . rw [a4e, q7]
       exact (hys.up (sx.trans s7)).append (.cons r7 .nil)
   | false =>
     rw [if_neg Bool.false_ne_true] at q6 |-
     refine ⟨S.n - (i + 1), by omega, rfl, hlt, F6, own5, s3.trans sx, ho5, g5.up s6', m6, ?_⟩
     rw [a4e, q6]
     simpa using hys.up sx
 . have hin : i = S.n := by omega
   subst hin
   have m4 : AM X.K F3 (put M1 l (.lst (outs out S.n))) H3 := by
     have := m3.set (p := l) (o' := .lst (outs out S.n)) (u := .lst ys) a0d hys
     rw [a1e] at this
     have e : upd H3 l (.lst ys) = H3 := by
       funext b
       by_cases hb : b = l
       . subst hb; rw [a0p, at_l m3]
       . rw [a0l hb]
     rw [e] at this
     exact this
   exact .inl ⟨iS.stop F3 _ H3 s3 m3 hh, hR _ _ ⟨.obj l, F3, _, s1.trans s3, m4, .obj l, q l hMl⟩⟩
theorem a90 (O : CompOk X scope cl Nc (jsOf n fs)) (hc : X.calm = true) (hi : PIA X F0 tg iter wi) (hg : ∀ pins C fp s H, PGA (a0o X pins Nc scope cl C fp s H) F0 tg gt) (hti : ∀ pins C fp s H, PIfsA (a0o X pins Nc scope cl C fp s H) F0 ifs ti)
   (he : ∀ pins C fp s H, PEA (a0o X pins Nc scope cl C fp s H) F0 elt te) (hs : ∀ x, foldedSetIterable iter X.env x = pure x := by intro _; rfl) :
   PEA X F0 (.ListComp elt [⟨tg, iter, ifs, 0⟩] scope pos) (a3n n fs wi gt ti te) := by
 refine ⟨?_⟩
 intro F Γ M σ H Q f0 g m hw
 refine (pe_comp O hc a7x (g := fun v σ H Q => ∀ pins C fp s H0, selfG (a0o X pins Nc scope cl C fp s H0) tg v σ H Q)
   (ti := fun σ H Q => ∀ pins C fp s H0 pins' s', Inv (a0o X pins Nc scope cl C fp s H0) pins' σ H s' -> wpAny (model X.prog X.w) X.A (a3b (a0o X pins Nc scope cl C fp s H0).env ifs) (TP (a0o X pins Nc scope cl C fp s H0) pins' σ Q) (fun _ _ => False) s')
   (te := fun σ H Q => ∀ pins C fp s H0, selfE (a0o X pins Nc scope cl C fp s H0) elt σ H Q)
   (fun pins C fp s H => fun pins' s' _ _ _ u _ I r h => h pins C fp s H pins' s' u I r) (fun pins C fp s H => fun pins' s' _ _ _ I h => h pins C fp s H pins' s' I) (fun pins C fp s H => fun pins' s' _ _ _ I h => h pins C fp s H pins' s' I) hs).to ?_
 exact a6p f0 g m hi hg hti he hw fun _ _ z => z
theorem sCompM {i : Nat} {y : Str} {py spos : Pos} (hN : X.N.Nodup) (hiN : X.N[i]? = some y) (hyl : X.env.scope.names.lookup y = some .local) (O : CompOk X scope cl Nc (jsOf n fs)) (hc : X.calm = true) (hi : PIA X F0 tg iter wi) (hg : ∀ pins C fp s H, PGA (a0o X pins Nc scope cl C fp s H) F0 tg gt)
   (hti : ∀ pins C fp s H, PIfsA (a0o X pins Nc scope cl C fp s H) F0 ifs ti) (he : ∀ pins C fp s H, PEA (a0o X pins Nc scope cl C fp s H) F0 elt te)
   (hsw : swapsWith (.ListComp elt [⟨tg, iter, ifs, 0⟩] scope pos) (some (.Name y py)) spos.line X.env = pure true) (hs : ∀ x, foldedSetIterable iter X.env x = pure x := by intro _; rfl) :
   PSA X F0 (.Assign [.Name y py] (.ListComp elt [⟨tg, iter, ifs, 0⟩] scope pos) spos) (aSet i (a3n n fs wi gt ti te)) := by
 refine ⟨?_⟩
 intro F Γ M σ H E f0 g m hw
 refine (b3r hN hiN hyl O hc a7x (g := fun v σ H Q => ∀ pins C fp s H0, selfG (a0o X pins Nc scope cl C fp s H0) tg v σ H Q)
   (ti := fun σ H Q => ∀ pins C fp s H0 pins' s', Inv (a0o X pins Nc scope cl C fp s H0) pins' σ H s' -> wpAny (model X.prog X.w) X.A (a3b (a0o X pins Nc scope cl C fp s H0).env ifs) (TP (a0o X pins Nc scope cl C fp s H0) pins' σ Q) (fun _ _ => False) s')
   (te := fun σ H Q => ∀ pins C fp s H0, selfE (a0o X pins Nc scope cl C fp s H0) elt σ H Q)
   (fun pins C fp s H => fun pins' s' _ _ _ u _ I r h => h pins C fp s H pins' s' u I r) (fun pins C fp s H => fun pins' s' _ _ _ I h => h pins C fp s H pins' s' I) (fun pins C fp s H => fun pins' s' _ _ _ I h => h pins C fp s H pins' s' I) hsw hs).to ?_
 refine a6p f0 g m hi hg hti he hw fun v H1 zz9 => ?_
 obtain ⟨d, F1, M1, s1, m1, r1, q1⟩ := zz9
 exact ⟨F1, _, M1, s1, (g.up s1).set r1 i, m1, q1⟩
theorem b3l {i : Nat} {y : Str} {py spos : Pos} (hN : X.N.Nodup) (hiN : X.N[i]? = some y) (hyl : X.env.scope.names.lookup y = some .local) (O : CompOk X scope cl Nc (jsOf n fs)) (hc : X.calm = true) (hi : PIA X F0 tg iter wi) (hg : ∀ pins C fp s H, PGA (a0o X pins Nc scope cl C fp s H) F0 tg gt)
   (hti : ∀ pins C fp s H, PIfsA (a0o X pins Nc scope cl C fp s H) F0 ifs ti) (he : ∀ pins C fp s H, PEA (a0o X pins Nc scope cl C fp s H) F0 elt te)
   (hsw : swapsWith (.ListComp elt [⟨tg, iter, ifs, 0⟩] scope pos) (some (.Name y py)) spos.line X.env = pure true) (hs : ∀ x, foldedSetIterable iter X.env x = pure x := by intro _; rfl) :
   PSA X F0 (.Assign [.Name y py] (.ListComp elt [⟨tg, iter, ifs, 0⟩] scope pos) spos) (aSet i (aFz (a3n n fs wi gt ti te))) := by
 refine ⟨?_⟩
 intro F Γ M σ H E f0 g m hw
 refine (b3r hN hiN hyl O hc a7x (g := fun v σ H Q => ∀ pins C fp s H0, selfG (a0o X pins Nc scope cl C fp s H0) tg v σ H Q)
   (ti := fun σ H Q => ∀ pins C fp s H0 pins' s', Inv (a0o X pins Nc scope cl C fp s H0) pins' σ H s' -> wpAny (model X.prog X.w) X.A (a3b (a0o X pins Nc scope cl C fp s H0).env ifs) (TP (a0o X pins Nc scope cl C fp s H0) pins' σ Q) (fun _ _ => False) s')
   (te := fun σ H Q => ∀ pins C fp s H0, selfE (a0o X pins Nc scope cl C fp s H0) elt σ H Q)
   (fun pins C fp s H => fun pins' s' _ _ _ u _ I r h => h pins C fp s H pins' s' u I r) (fun pins C fp s H => fun pins' s' _ _ _ I h => h pins C fp s H pins' s' I) (fun pins C fp s H => fun pins' s' _ _ _ I h => h pins C fp s H pins' s' I) hsw hs).to ?_
 refine a6p f0 g m hi hg hti he (Q := fun d M' => match d with | .obj p => (match M' p with | some (.lst ds) => E.nx (Γ.set i (some (.lst ds))) (del M' p) | _ => False) | _ => False) hw fun v H1 zz9 => ?_
 obtain ⟨d, F1, M1, s1, m1, r1, q1⟩ := zz9
 cases r1 with
 | obj p =>
   try dsimp only at q1
   split at q1
   . rename_i ds hd
     obtain ⟨F2, s2, m2, r2⟩ := m1.freeze hd
     exact ⟨F2, _, _, s1.trans s2, (g.up (s1.trans s2)).set r2 i, m2, q1⟩
   . exact q1.elim
 | _ => exact q1.elim
noncomputable def oAll : A1s := fun ds M Q => match ds with
 | [d] => (match dr M d with | some xs => ∃ bs : List Bool, xs = bs.map D.bl /\ Q (.bl (bs.all id)) M | none => False)
 | _ => False
theorem b16 {K : PySem.W.Frag} {F : Hp} : ∀ {vs : List V} {bs : List Bool} {us : List Value}, RDs K F vs (bs.map D.bl) -> Vals vs us -> us = bs.map Value.bool
 | _, [], _, r, v => by cases r; cases v; rfl
 | _, b :: bs, _, r, v => by
   cases r with
   | cons r1 r2 =>
     cases r1
     cases v with
     | cons v1 v2 =>
       cases (show _ = Value.bool b from v1)
       rw [b16 r2 v2]; rfl
theorem paAll {tt : AA} {e : Expr} {p : Pos} (hg : Gl X "all") (hm : X.mg "all" = none) (hc : X.calm = true) (ha : PAA X F0 [e] tt)
   (he : starEach [e] X.env = (false, eval e X.env) :: starEach [] X.env := by rfl) : PEA X F0 (.Call (.Name "all" p) [e] [] pos) (b2x oAll tt) := by
 refine ⟨?_⟩
 intro F Γ M σ H Q f0 g m hw
 have base : CallR X (.builtin "all") (fun vs H Rv => ∃ F1 M1 ds, AM X.K F1 M1 H /\ RDs X.K F1 vs ds /\ oAll ds M1 (fun d M' => ∀ v, RD X.K F1 v d -> AM X.K F1 M' H -> Rv v H)) := by
   intro pins s σ H vs us Rv I rv ⟨F1, M1, ds, m1, r1, h⟩
   unfold oAll at h
   split at h
   . obtain ⟨x, rfl, rx⟩ := r1.one'
     split at h
     . rename_i xs hd
       obtain ⟨bs, rfl, q⟩ := h
       obtain ⟨a, ws, rfl, e, rr⟩ := a5a m1 rx hd
       obtain ⟨u, rfl, ru⟩ := rv.one
       cases ru
       obtain ⟨its, ri, pl, hz⟩ := I.list e
       have hits := b16 rr ri
       subst hits
       have hl := pl.isList
       have hlt : a < s.heap.objs.size := by obtain ⟨_, e, _⟩ := hl; exact Heap.lt_size e
       refine call_all_walk (wpAny_pyIter_list hl ?_)
       refine ⟨s.heap.objs.size, [s.heap.objs.size, a], [s.heap.objs.size], (bs.map Value.bool).toArray.size, _, _, fun i => (bs[i]?).getD true, rfl, Walks.list (prog := X.prog) (w := X.w) (A := X.A.in1) (I.ok.hd hc) s.heap.objs.size a (Nat.ne_of_lt hlt) (bs.map Value.bool).toArray, ⟨⟨_, Heap.get?_push_size _ rfl, rfl, rfl⟩, hl.push _⟩, fun i v s' Q' E' hP hQ => ?_, fun h' tk hk => ?_⟩
       . have hP' : (bs.map Value.bool)[i]? = some v := by simpa using hP
         rw [List.getElem?_map] at hP'
         cases hb : bs[i]? with
         | none => rw [hb] at hP'; cases hP'
         | some b =>
           rw [hb] at hP'
           cases hP'
           have hQ : Q' ((bs[i]?).getD true) s' := hQ
           rw [hb] at hQ
           exact wpAny_truthy_bool hQ
       . have e2 : ((List.range bs.length).all fun i => (bs[i]?).getD true) = bs.all id := by
           rw [Bool.eq_iff_iff, List.all_eq_true, List.all_eq_true]
           constructor
           . intro h b hb
             obtain ⟨i, hi, rfl⟩ := List.getElem_of_mem hb
             have := h i (List.mem_range.mpr hi)
             simpa [List.getElem?_eq_getElem hi] using this
           . intro h i hi
             have hi' := List.mem_range.mp hi
             simpa [List.getElem?_eq_getElem hi'] using h _ (List.getElem_mem hi')
         rw [show (bs.map Value.bool).toArray.size = bs.length by simp, e2]
         refine ⟨.bl _, H, ?_, rfl, q _ (.bl _) m1⟩
         exact I.kept (t' := tk) fun b o e => hk b o (fun hm => by rw [List.mem_singleton.mp hm] at e; exact Nat.lt_irrefl _ (Heap.lt_size e)) (Heap.get?_push_of_some _ e)
     . exact h.elim
   . exact h.elim
 refine (a4b base hg hm boot_all a1h (by decide) (by decide) he rfl).to ((ha.run F Γ M σ H _ f0 g m hw).mono fun vs H1 ⟨ds, F1, M1, s1, m1, r1, q1⟩ => ⟨F1, M1, ds, m1, r1, ?_⟩)
 unfold oAll at q1 |-
 try dsimp only at q1
 split at q1
 . rename_i d
   dsimp only
   cases hd : dr M1 d with
   | none => rw [hd] at q1; exact q1.elim
   | some xs =>
     rw [hd] at q1
     obtain ⟨bs, e, q⟩ := q1
     exact ⟨bs, e, fun v rv m' => ⟨_, F1, M1, s1, m1, rv, q⟩⟩
 . exact q1.elim
end
theorem FnOk.noX {P : Program} {w : World} {K : PySem.W.Frag} {mg : Str -> Option Value} {base : Heap} {k : Nat} {f : Addr} {fd : FuncData} {ps : List Str} {sp sp' : Sp} (Fn : FnOk P w K mg base (CXE P w) k f fd ps sp)
   (h : ∀ vs H Q E, sp' vs H Q E -> sp vs H Q fun _ _ _ => False) : FnOk P w K mg base CX0 k f fd ps sp' := by
 refine ⟨fun vs H Q E q => Fn.len vs H Q _ (h _ _ _ _ q), fun A outer s H args us vs Q E hr he hb hv hs => codeAny_mono (Fn.run A outer s H args us vs Q _ hr he hb hv (h _ _ _ _ hs)) fun r s' q => ?_⟩
 cases r with
 | error e => obtain ⟨_, _, _, _, _, _, _, _, _, _, _, _, _, _, z⟩ := q; exact z.elim
 | ok fl =>
   cases fl with
   | ret u => exact q
   | _ => exact q
noncomputable def a5l (K : PySem.W.Frag) : Sp := fun vs H Q _ => ∃ (a : Addr) (ns : List Int), vs = [.ref a] /\ SqL K H a (ns.map V.int) /\ Script 63 ns /\ ∀ H', Q (.bl true) H'
def spTrue : SpA := fun ds _ Q _ => ∃ ns : List Int, ds = [.scr (ns.map D.int)] /\ Script 63 ns /\ ∀ M', Q (.bl true) M'
theorem b42 {K : PySem.W.Frag} {F : Hp} : ∀ ns : List Int, RDs K F (ns.map V.int) (ns.map D.int)
 | [] => .nil
 | _ :: ns => .cons (.int _) (b42 ns)
theorem law_ok {P : Program} {w : World} {K : PySem.W.Frag} {mg : Str -> Option Value} {base : Heap} {k : Nat} {f : Addr} {fd : FuncData} {ps : List Str} (Fn : FnOk P w K mg base (CXE P w) k f fd ps (a0j K spTrue)) : FnOk P w K mg base CX0 k f fd ps (a5l K) := by
 refine Fn.noX fun vs H Q E zz9 => ?_
 obtain ⟨a, ns, e, hS, hsc, q⟩ := zz9
 subst e
 refine ⟨fun b => if b = a then H b else none, [.scr (ns.map D.int)], fun _ => none, fun d _ => d = .bl true, fun _ _ => False, ⟨fun b o e => ?_, fun b o e => ?_, fun b o e => ?_⟩, .cons (.scr ?_ (b42 ns)) .nil, ⟨ns, rfl, hsc, fun _ => rfl⟩, fun v H' ⟨d, _, _, _, _, r, hd⟩ => ?_, fun _ _ ⟨_, _, _, _, z⟩ => z.elim⟩
 . split at e
   . exact e
   . cases e
 . cases e
 . cases e
 . rcases hS with (h | ⟨o, h⟩) | h
   . exact .inl (.inl (by simpa using h))
   . exact .inl (.inr ⟨o, by simpa using h⟩)
   . exact .inr h
 . subst hd
   cases r
   exact q H'
theorem compL {fs : List Nat} {tl te : AE} {Γ : G} {M : Mem} {Q : AK} (ds : List D) (f : D -> D) (htl : ∀ R : AK, R (.lst ds) M -> tl Γ M R) (hn : ds.length <= 1000) (he : ∀ x ∈ ds, ∀ (M' : Mem) (R : AK), R (f x) M' -> te (some x :: frG fs Γ) M' R)
   (q : Q (.lst (ds.map f)) M) : aFz (a3n 1 fs (iaL tl) (gaN 0) aYes te) Γ M Q := by
 refine htl _ ?_
 refine ⟨fun i => some (f (ds.getD i .non)), hn, fun M' _ => ⟨rfl, fun i hi own ho => ?_⟩, fun p hp => ?_⟩
 . obtain ⟨o, rfl⟩ : ∃ o, own = [o] := by
     cases own with
     | nil => cases ho
     | cons o l => cases l with
       | nil => exact ⟨o, rfl⟩
       | cons _ _ => simp at ho
   refine ⟨rfl, ⟨[some _], rfl, rfl⟩, rfl, ?_⟩
   rw [if_pos rfl]
   have hi' : i < ds.length := hi
   have e : ds.getD i .non = ds[i] := by simp [List.getD, List.getElem?_eq_getElem hi']
   show te (some (ds.getD i .non) :: frG fs Γ) M' _
   rw [e]
   exact he _ (List.getElem_mem hi') M' _ ⟨rfl, by dsimp only; rw [e]⟩
 . dsimp only
   rw [a0d]
   dsimp only
   rw [a3z hp]
   have e : outs (fun i => some (f (ds.getD i .non))) ds.length = ds.map f := by
     apply List.ext_getElem?
     intro i
     have : outs (fun i => some (f (ds.getD i .non))) ds.length = (List.range ds.length).map fun i => f (ds.getD i .non) := by
       unfold outs
       induction List.range ds.length with
       | nil => rfl
       | cons a l ih => simp only [List.filterMap_cons, List.map_cons, ih]
     rw [this]
     simp only [List.getElem?_map]
     by_cases hi : i < ds.length
     . simp [List.getElem?_range hi, List.getElem?_eq_getElem hi, List.getD]
     . simp [List.getElem?_eq_none (show (List.range ds.length).length <= i by simp; omega), List.getElem?_eq_none (show ds.length <= i by omega)]
   rw [e]
   exact q
theorem at_map {α : Type} (f : α -> D) (xs : List α) (j : Int) (h0 : 0 <= j) (h1 : j < xs.length) : ∃ x, atI (xs.map f) j = some (f x) /\ x ∈ xs := by
 obtain ⟨k, rfl⟩ := Int.eq_ofNat_of_zero_le h0
 have hk : k < xs.length := by omega
 exact ⟨xs[k], a3c (by simp [List.getElem?_eq_getElem hk]), List.getElem_mem hk⟩
theorem at0 {a : D} {l : List D} : atI (a :: l) 0 = some a := a3c (j := 0) rfl
theorem at1 {a b : D} {l : List D} : atI (a :: b :: l) 1 = some b := a3c (j := 1) rfl
theorem at2 {a b c : D} {l : List D} : atI (a :: b :: c :: l) 2 = some c := a3c (j := 2) rfl
theorem at3 {a b c d : D} {l : List D} : atI (a :: b :: c :: d :: l) 3 = some d := a3c (j := 3) rfl
theorem compF {fs : List Nat} {tl : AE} {ti : AT} {Γ : G} {M : Mem} {Q : AK} (ds : List D) (p : D -> Bool) (htl : ∀ R : AK, R (.lst ds) M -> tl Γ M R) (hn : ds.length <= 1000)
   (hi : ∀ x ∈ ds, ∀ (M' : Mem) (R : Bool -> Mem -> Prop), R (p x) M' -> ti (some x :: frG fs Γ) M' R) (q : Q (.lst (ds.filter p)) M) : aFz (a3n 1 fs (iaL tl) (gaN 0) ti (aV 0)) Γ M Q := by
 refine htl _ ?_
 refine ⟨fun i => if p (ds.getD i .non) = true then some (ds.getD i .non) else none, hn, fun M' _ => ⟨rfl, fun i hi' own ho => ?_⟩, fun l hp => ?_⟩
 . obtain ⟨o, rfl⟩ : ∃ o, own = [o] := by
     cases own with
     | nil => cases ho
     | cons o l => cases l with
       | nil => exact ⟨o, rfl⟩
       | cons _ _ => simp at ho
   refine ⟨rfl, ⟨[some _], rfl, rfl⟩, ?_⟩
   have hi'' : i < ds.length := hi'
   have e : ds.getD i .non = ds[i] := by simp [List.getD, List.getElem?_eq_getElem hi'']
   show ti (some (ds.getD i .non) :: frG fs Γ) M' _
   rw [e]
   refine hi _ (List.getElem_mem hi'') M' _ ⟨rfl, ?_⟩
   cases hpx : p ds[i] with
   | true =>
     rw [if_pos rfl]
     exact ⟨rfl, by dsimp only; rw [e, hpx, if_pos rfl]⟩
   | false =>
     rw [if_neg Bool.false_ne_true]
     dsimp only
     rw [e, hpx, if_neg Bool.false_ne_true]
 . dsimp only
   rw [a0d]
   dsimp only
   rw [a3z hp]
   have e : ∀ n, n <= ds.length -> outs (fun i => if p (ds.getD i .non) = true then some (ds.getD i .non) else none) n = (ds.take n).filter p := by
     intro n
     induction n with
     | zero => intro _; rfl
     | succ n ih =>
       intro hn'
       have hlt : n < ds.length := by omega
       rw [a4e, ih (by omega), List.take_succ, List.filter_append, List.getElem?_eq_getElem hlt]
       have e : ds.getD n .non = ds[n] := by simp [List.getD, List.getElem?_eq_getElem hlt]
       rw [e]
       cases hpx : p ds[n] <;> simp [hpx]
   rw [e ds.length (Nat.le_refl _), List.take_length]
   exact q
section
variable {M : Mem} {Q : AK}
theorem b5f {i j : Int} : oEq false (.int i) (.int j) M Q = Q (.bl (decide (i = j))) M := by unfold oEq eqC eqB; simp [a4p, eqS]
theorem eqq_str {i j : PySem.Str} : oEq false (.str i) (.str j) M Q = Q (.bl (decide (i = j))) M := by unfold oEq eqC eqB; simp [a4p, eqS]
theorem eqq_bl {i j : Bool} : oEq false (.bl i) (.bl j) M Q = Q (.bl (decide (i = j))) M := by unfold oEq eqC eqB; simp [a4p, eqS]
theorem neq_int {i j : Int} : oEq true (.int i) (.int j) M Q = Q (.bl (!decide (i = j))) M := by unfold oEq eqC eqB; simp [a4p, eqS]
theorem b4a {i j : PySem.Str} : oEq true (.str i) (.str j) M Q = Q (.bl (!decide (i = j))) M := by unfold oEq eqC eqB; simp [a4p, eqS]
theorem neq_bl {i j : Bool} : oEq true (.bl i) (.bl j) M Q = Q (.bl (!decide (i = j))) M := by unfold oEq eqC eqB; simp [a4p, eqS]
end
theorem a1d {c : AT} {t rest : AS} {E : AEnds} {Γ : G} {M : Mem} (h : ∀ R : Bool -> Mem -> Prop, R false M -> c Γ M R) (h2 : rest E Γ M) : aSeq (aIf c t aNext) rest E Γ M := h _ (by rw [if_neg Bool.false_ne_true]; exact h2)
theorem a2x {c : AT} {t u rest : AS} {E : AEnds} {Γ : G} {M : Mem} (h : ∀ R : Bool -> Mem -> Prop, R true M -> c Γ M R) (h2 : t { E with nx := rest E } Γ M) : aSeq (aIf c t u) rest E Γ M := h _ (by rw [if_pos rfl]; exact h2)
theorem b1z {d : D} {M : Mem} (h : shD (drf M d) = true) : eqB M d d = true := by
 unfold eqB
 split
 . rename_i hs
   cases d <;> first
     | (simp [a4p] at hs; done)
     | simp [eqS]
 . unfold shD at h
   simp only [Bool.and_eq_true] at h
   exact b1y _ (PySem.SeqAt.canLay_of_shaped h.2)
theorem b7d {d : D} {M : Mem} {Q : AK} (h : shD (drf M d) = true) (q : Q (.bl true) M) : oEq false d d M Q := ⟨.inr ⟨h, h⟩, by rw [b1z h]; exact q⟩
theorem a75 {d : D} {M : Mem} {Q : AK} (h : shD (drf M d) = true) (q : Q (.bl false) M) : oEq true d d M Q := ⟨.inr ⟨h, h⟩, by rw [b1z h]; exact q⟩
open PySem
inductive Gd : Nat -> D -> Prop where
 | non (n : Nat) : Gd n .non
 | bl (n : Nat) (b : Bool) : Gd n (.bl b)
 | int (n : Nat) (i : Int) : Gd n (.int i)
 | str (n : Nat) (x : Str) (h : PyData.strOk x = true) : Gd n (.str x)
 | lst (n : Nat) (ds : List D) (h : ∀ d ∈ ds, Gd n d) : Gd (n + 1) (.lst ds)
 | tup (n : Nat) (ds : List D) (h : ∀ d ∈ ds, Gd n d) : Gd (n + 1) (.tup ds)
theorem b49 {n : Nat} : ∀ {ds : List D}, (∀ d ∈ ds, d.flat = true /\ d.py.canLay0 = true /\ d.py.depth <= n) -> D.flats ds = true /\ PyData.canLayAll0 (D.pys ds) = true /\ PyData.depthAll (D.pys ds) <= n
 | [], _ => ⟨by simp [D.flats], by simp [D.pys, PyData.canLayAll0], by simp [D.pys, PyData.depthAll]⟩
 | d :: ds, h => by
   obtain ⟨h1, h2, h3⟩ := h d List.mem_cons_self
   obtain ⟨g1, g2, g3⟩ := b49 fun e he => h e (List.mem_cons_of_mem _ he)
   refine ⟨by simp [D.flats, h1, g1], by simp [D.pys, PyData.canLayAll0, h2, g2], ?_⟩
   simp only [D.pys, PyData.depthAll]
   omega
theorem Gd.ok {n : Nat} {d : D} (h : Gd n d) : d.flat = true /\ d.py.canLay0 = true /\ d.py.depth <= n := by
 induction h with
 | non n => simp [D.flat, D.py, PyData.canLay0, PyData.depth]
 | bl n b => simp [D.flat, D.py, PyData.canLay0, PyData.depth]
 | int n i => simp [D.flat, D.py, PyData.canLay0, PyData.depth]
 | str n x h => simp [D.flat, D.py, PyData.canLay0, PyData.depth, h]
 | lst n ds _ ih =>
   obtain ⟨h1, h2, h3⟩ := b49 ih
   exact ⟨by simpa [D.flat] using h1, by simpa [D.py, PyData.canLay0] using h2, by simp only [D.py, PyData.depth]; omega⟩
 | tup n ds _ ih =>
   obtain ⟨h1, h2, h3⟩ := b49 ih
   exact ⟨by simpa [D.flat] using h1, by simpa [D.py, PyData.canLay0] using h2, by simp only [D.py, PyData.depth]; omega⟩
theorem Gd.sh {n : Nat} {d : D} (h : Gd n d) (hn : n <= 64 := by decide) : shD d = true := by
 obtain ⟨h1, h2, h3⟩ := h.ok
 unfold shD SeqAt.shaped
 rw [h1, h2]
 simp; omega
noncomputable def keyOf : Key -> D
 | .inl i => .int i
 | .inr x => .str x
section
variable {X : Cx} {F0 : Hp} {o : Expr} {td : AE} {p q pos apos cpos : Pos} {K : PySem.W.Frag}
def aVals (td : AE) : AE := fun Γ M Q => td Γ M fun x M1 => opt (dd M1 x) fun kvs => ∀ p, M1 p = none -> Q (.obj p) (put M1 p (.lst (kvs.map fun kv => kv.2)))
def aItems (td : AE) : AE := fun Γ M Q => td Γ M fun x M1 => opt (dd M1 x) fun kvs => ∀ p, M1 p = none -> Q (.obj p) (put M1 p (.lst (kvs.map fun kv => .tup [keyOf kv.1, kv.2])))
theorem PF.vals {F : Hp} : ∀ {ws : List (Key × V)} {kvs : List (Key × D)}, PF K F ws kvs -> RDs K F (ws.map (·.2)) (kvs.map (·.2))
 | _, _, .nil => .nil
 | _, _, .cons h t => .cons h.2 (PF.vals t)
theorem b4u {F : Hp} : ∀ k : Key, RD K F (kV k) (keyOf k)
 | .inl _ => .int _
 | .inr _ => .str _
theorem paVals (hm : X.mg "list" = none) (hc : X.calm = true) (hg : Gl X "list") (ho : PEA X F0 o td)
   (hbase : attributeBase o "values" X.env (eval o X.env) = eval o X.env := by rfl) (hline : (apos.endLine == cpos.line) = true := by rfl)
   (he : starEach [.Call (.Attribute o "values" apos) [] [] cpos] X.env = (false, eval (.Call (.Attribute o "values" apos) [] [] cpos) X.env) :: starEach [] X.env := by rfl) (hpl : (backTo pos (starEach [] X.env)).any (·.1) = false := by rfl) :
   PEA X F0 (.Call (.Name "list" p) [.Call (.Attribute o "values" apos) [] [] cpos] [] pos) (aVals td) := by
 refine ⟨?_⟩
 intro F Γ M σ H Q f0 g m hw
 refine (a55 (a5i hc) hg hm boot_list (a2v (a8w PySem.F.plainAttrs_dict PySem.F.slot_dict_values PySem.F.type_dict_values a89 a0m hbase hline) pa_nil he) (by decide) (by decide) he hpl).to
   ((ho.run F Γ M σ H _ f0 g m hw).mono fun v H1 ⟨d, F1, M1, s1, m1, r1, q1⟩ => ?_)
 obtain ⟨kvs, hd, q2⟩ := a10 q1
 obtain ⟨a, ws, rfl, rfl, hM, e1, pf⟩ := a5b m1 r1 hd
 refine ⟨.inr (.inr (.inl ⟨rfl, .inl ⟨ws, e1⟩⟩)), a, ws, rfl, rfl, .inl e1, fun vw hvw => ?_⟩
 have ha : a ≠ vw := fun z => by rw [z, hvw] at e1; cases e1
 refine ⟨vw, a, ws, rfl, a0p, .inl (by rw [a0l ha]; exact e1), fun l hl => ?_⟩
 exact ⟨.obj l, F1, _, s1, (m1.more (u := .ext (viewφ "dict_values" vw a)) hvw).new (o := .lst (kvs.map fun kv : Key × D => kv.2)) hl (PF.vals pf), .obj l, q2 l ((m1.more (u := .ext (viewφ "dict_values" vw a)) hvw).fM hl)⟩
theorem b67 {F : Hp} {M : Mem} {H H1 : Hp} {l : Addr} {as : List Addr} {ws : List (Key × V)} {kvs : List (Key × D)} (m : AM K F M H) (hl : H l = none) (ha : ∀ a ∈ as, H a = none /\ a ≠ l)
   (hb : ∀ b, (∀ a ∈ as, b ≠ a) -> H1 b = upd H l (.lst (as.map V.ref)) b) (hp : Prs H1 as ws) (pf : PF K F ws kvs) :
   ∃ F', Same F F' /\ AM K F' (put M l (.lst (kvs.map fun kv => .tup [keyOf kv.1, kv.2]))) H1 := by
 have hs : Same F fun b => if b ∈ as then H1 b else F b := fun b x e => by
   have : b ∉ as := fun hm => by rw [m.sub.free (ha b hm).1] at e; cases e
   dsimp only; rw [if_neg this]; exact e
 have out : ∀ b, b ∉ as -> H1 b = upd H l (.lst (as.map V.ref)) b := fun b hn => hb b fun a hm z => hn (z ▸ hm)
 have hll : l ∉ as := fun hm => (ha l hm).2 rfl
 refine ⟨_, hs, ⟨fun b x e => ?_, fun b x e => ?_, fun b x e => ?_⟩⟩
 . split at e
   . exact e
   . rename_i hn
     have hbl : b ≠ l := by rintro rfl; rw [m.fF hl] at e; cases e
     rw [out b hn, a0l hbl]; exact m.sub b x e
 . have hn : b ∉ as := by
     by_cases hbl : b = l
     . subst hbl; exact hll
     . rw [a0h hbl] at e
       intro hm
       rw [m.fM (ha b hm).1] at e; cases e
   rw [if_neg hn]
   by_cases hbl : b = l
   . subst hbl; exact m.fF hl
   . rw [a0h hbl] at e; exact m.dj b x e
 . by_cases hbl : b = l
   . subst hbl
     rw [a0d] at e
     cases e
     refine ⟨.lst (as.map V.ref), by rw [out b hll, a0p], ?_⟩
     show RDs K _ (as.map V.ref) (kvs.map fun kv => .tup [keyOf kv.1, kv.2])
     have key : ∀ {as' : List Addr} {ws' : List (Key × V)} {kvs' : List (Key × D)}, (∀ a ∈ as', a ∈ as) -> Prs H1 as' ws' -> PF K F ws' kvs' -> RDs K (fun b => if b ∈ as then H1 b else F b) (as'.map V.ref) (kvs'.map fun kv => .tup [keyOf kv.1, kv.2]) := by
       intro as' ws' kvs' hin hp' pf'
       induction hp' generalizing kvs' with
       | nil => cases pf'; exact .nil
       | cons h t ih =>
         cases pf' with
         | cons h2 t2 =>
           refine .cons (.tup (by rw [if_pos (hin _ List.mem_cons_self)]; exact h) ?_) (ih (fun a hm => hin a (List.mem_cons_of_mem _ hm)) t2)
           refine .cons ?_ (.cons (h2.2.up hs) .nil)
           rw [h2.1]; exact b4u _
     exact key (fun _ h => h) hp pf
   . rw [a0h hbl] at e
     obtain ⟨y, e1, r1⟩ := m.mem b x e
     have hn : b ∉ as := fun hm => by rw [(ha b hm).1] at e1; cases e1
     exact ⟨y, by rw [out b hn, a0l hbl]; exact e1, r1.up hs⟩
theorem paItems (hm : X.mg "list" = none) (hc : X.calm = true) (hg : Gl X "list") (ho : PEA X F0 o td)
   (hbase : attributeBase o "items" X.env (eval o X.env) = eval o X.env := by rfl) (hline : (apos.endLine == cpos.line) = true := by rfl)
   (he : starEach [.Call (.Attribute o "items" apos) [] [] cpos] X.env = (false, eval (.Call (.Attribute o "items" apos) [] [] cpos) X.env) :: starEach [] X.env := by rfl) (hpl : (backTo pos (starEach [] X.env)).any (·.1) = false := by rfl) :
   PEA X F0 (.Call (.Name "list" p) [.Call (.Attribute o "items" apos) [] [] cpos] [] pos) (aItems td) := by
 refine ⟨?_⟩
 intro F Γ M σ H Q f0 g m hw
 refine (a55 (a6q hc) hg hm boot_list (a2v (a8w PySem.F.plainAttrs_dict PySem.F.slot_dict_items PySem.F.type_dict_items b1k a0m hbase hline) pa_nil he) (by decide) (by decide) he hpl).to
   ((ho.run F Γ M σ H _ f0 g m hw).mono fun v H1 ⟨d, F1, M1, s1, m1, r1, q1⟩ => ?_)
 obtain ⟨kvs, hd, q2⟩ := a10 q1
 obtain ⟨a, ws, rfl, rfl, hM, e1, pf⟩ := a5b m1 r1 hd
 refine ⟨.inr (.inr (.inl ⟨rfl, .inl ⟨ws, e1⟩⟩)), a, ws, rfl, rfl, .inl e1, fun vw hvw => ?_⟩
 have ha : a ≠ vw := fun z => by rw [z, hvw] at e1; cases e1
 refine ⟨vw, a, ws, rfl, a0p, .inl (by rw [a0l ha]; exact e1), fun l as H2 hl has hH2 hp => ?_⟩
 have m2 := m1.more (u := .ext (viewφ "dict_items" vw a)) hvw
 obtain ⟨F', s', m'⟩ := b67 m2 hl has hH2 hp pf
 exact ⟨.obj l, F', _, s1.trans s', m', .obj l, q2 l (m2.fM hl)⟩
end
noncomputable def a8e (M : Mem) (T : String) : D -> Bool
 | .int _ => T == "int"
 | .bl _ => T == "bool" || T == "int"
 | .str _ => T == "str"
 | .lst _ => T == "list"
 | .tup _ => T == "tuple"
 | .obj p => (match M p with | some (.lst _) => T == "list" | some (.dic _) => T == "dict" | _ => false)
 | _ => false
noncomputable def a4h (M : Mem) : D -> Bool
 | .scr _ => false | .ctp _ => false
 | .obj p => (match M p with | some (.lst _) => true | some (.dic _) => true | _ => false)
 | _ => true
section
variable {X : Cx} {F0 : Hp} {e : Expr} {te : AE} {p q pos : Pos} {K : PySem.W.Frag} {T : String} {x : Str}
theorem ty_of {F : Hp} {M : Mem} {H : Hp} {v : V} {d : D} (m : AM K F M H) (r : RD K F v d) (h : a4h M d = true) (hT : T = "int" \/ T = "bool" \/ T = "str" \/ T = "list" \/ T = "tuple") :
   ∃ t, TyOf K H v t /\ PySem.W.kitOne K t (.type T) = some (a8e M T d) := by
 cases r <;> first
   | (simp [a4h] at h; done)
   | skip
 . exact ⟨_, .non, by rcases hT with rfl | rfl | rfl | rfl | rfl <;> rfl⟩
 . exact ⟨_, .bl _, by rcases hT with rfl | rfl | rfl | rfl | rfl <;> rfl⟩
 . exact ⟨_, .int _, by rcases hT with rfl | rfl | rfl | rfl | rfl <;> rfl⟩
 . exact ⟨_, .str _, by rcases hT with rfl | rfl | rfl | rfl | rfl <;> rfl⟩
 . rename_i e r
   exact ⟨_, .lst (m.sub _ _ e), by rcases hT with rfl | rfl | rfl | rfl | rfl <;> rfl⟩
 . rename_i e r
   exact ⟨_, .tup (m.sub _ _ e), by rcases hT with rfl | rfl | rfl | rfl | rfl <;> rfl⟩
 . rename_i pp
   unfold a4h at h
   dsimp only at h
   unfold a8e
   dsimp only
   split at h
   . rename_i ds hd
     obtain ⟨u, e, r⟩ := m.mem _ _ hd
     obtain ⟨vs, rfl, r⟩ := r.isL
     exact ⟨_, .lst e, by rcases hT with rfl | rfl | rfl | rfl | rfl <;> rfl⟩
   . rename_i ds hd
     obtain ⟨u, e, r⟩ := m.mem _ _ hd
     obtain ⟨vs, rfl, r⟩ := r.isD
     exact ⟨_, .dK e, by rcases hT with rfl | rfl | rfl | rfl | rfl <;> rfl⟩
   . cases h
def b2w (T : String) (te : AE) : AE := fun Γ M Q => te Γ M fun d M1 => a4h M1 d = true /\ Q (.bl (a8e M1 T d)) M1
theorem a57 (hT : T = "int" \/ T = "bool" \/ T = "str" \/ T = "list" \/ T = "tuple") (hg : Gl X "isinstance") (hm : X.mg "isinstance" = none) (hx : Gl X x) (hmx : X.mg x = none) (hv : bootBuiltins x = some (.type T)) (ha : PEA X F0 e te)
   (hn : x ≠ "__name__" := by decide) (hdb : (x == ("__debug__" : Str)) = false := by decide)
   (he : starEach [e, .Name x q] X.env = (false, eval e X.env) :: starEach [.Name x q] X.env := by rfl) (he2 : starEach [.Name x q] X.env = (false, eval (.Name x q) X.env) :: starEach [] X.env := by rfl) (hpl : (backTo pos (starEach [.Name x q] X.env)).any (·.1) = false := by rfl) :
   PEA X F0 (.Call (.Name "isinstance" p) [e, .Name x q] [] pos) (b2w T te) := by
 refine ⟨?_⟩
 intro F Γ M σ H Q f0 g m hw
 refine (a4b a9l hg hm boot_isinstance (a2v a0m (a2v (b3z (v := .ty T) hx hmx hv rfl hn hdb) pa_nil he2) he) (by decide) (by decide) he hpl).to ((ha.run F Γ M σ H _ f0 g m hw).mono fun v H1 zz9 => ?_)
 obtain ⟨d, F1, M1, s1, m1, r1, hok, q1⟩ := zz9
 obtain ⟨t, h1, h2⟩ := ty_of m1 r1 hok hT
 exact ⟨v, .ty T, t, .type T, _, rfl, h1, rfl, h2, _, F1, M1, s1, m1, .bl _, q1⟩
end
noncomputable abbrev ATh := AEnds -> Value -> G -> Mem -> Prop
def selfH (X : Cx) (hs : List ExceptHandler) : TH := fun D cls a σ H => ∀ s B a0, Inv X [] σ H s -> Exn X H B a cls a0 (some .none) s.heap -> wpAny (model X.prog X.w) X.A (handleBy (.ref a) X.env hs) (SP X [] D) X.xe s
theorem b3v {X : Cx} {hs : List ExceptHandler} : PH X hs (selfH X hs) := fun s σ H D B a cls a0 I ex h => h s B a0 I ex
theorem PH.to {X : Cx} {hs : List ExceptHandler} {t : TH} {D : Ends} {cls : Value} {a : Addr} {σ : St} {H : Hp} (h : PH X hs t) (hw : t D cls a σ H) : selfH X hs D cls a σ H := fun s B a0 I ex => h s σ H D B a cls a0 I ex hw
theorem selfH.mono {X : Cx} {hs : List ExceptHandler} {D D' : Ends} {cls : Value} {a : Addr} {σ : St} {H : Hp} (h : selfH X hs D cls a σ H) (k : EndsTo D D') : selfH X hs D' cls a σ H := fun s B a0 I ex => thn (h s B a0 I ex) fun _ _ q => q.to k
structure PHA (X : Cx) (F0 : Hp) (hs : List ExceptHandler) (t : ATh)  : Prop where
 run : ∀ F Γ M σ H E cls a, Same F0 F -> AG X.K F Γ σ -> AM X.K F M H -> t E cls Γ M -> selfH X hs (PQD X.K F E) cls a σ H
def aTry (tb : AX -> AS) (th : ATh) (to : AS) : AS := fun E Γ M => tb (fun Γ' M' cls => th E cls Γ' M') { E with nx := to E } Γ M
section
variable {X : Cx} {F0 : Hp} {R : AX}
theorem selfSs.byImp {R R' : RX} {sts : List Stmt} {D : Ends} {σ : St} {H : Hp} (h : selfSs (X.by R) sts D σ H) (k : ∀ σ H cls a, R σ H cls a -> R' σ H cls a) : selfSs (X.by R') sts D σ H := fun pins s I =>
 wpAny_mono (h pins s (I.unwish.wish _)) (fun _ _ q => by
   cases ‹Flow› with
   | next => obtain ⟨σ', H', J, q⟩ := q; exact ⟨σ', H', J.unwish.wish _, q⟩
   | brk => obtain ⟨σ', H', J, q⟩ := q; exact ⟨σ', H', J.unwish.wish _, q⟩
   | cont => obtain ⟨σ', H', J, q⟩ := q; exact ⟨σ', H', J.unwish.wish _, q⟩
   | ret u => obtain ⟨v, σ', H', J, r, q⟩ := q; exact ⟨v, σ', H', J.unwish.wish _, r, q⟩) fun e s' x => x.imp k
theorem Cat.by {R' : AX} (pl : Plain X) (calm : X.calm = true) (hu : X.A.units + 64 < cLine) : Cat (X.by (b4j X.K F0 R')) F0 R' := ⟨b00, pl.wish _, calm, fun fr => a8x pl fr, hu⟩
theorem sTry {body orelse : List Stmt} {h₀ : ExceptHandler} {hs : List ExceptHandler} {pos : Pos} {tb : AX -> AS} {th : ATh} {t_o : AS} (k : Cat X F0 R)
   (hb : ∀ pn F1 R', Cat ((X.pin pn).by (b4j X.K F1 R')) F1 R' -> PSsA ((X.pin pn).by (b4j X.K F1 R')) F1 body (tb R')) (hh : ∀ pn, PHA (X.pin pn) F0 (h₀ :: hs) th) (ho : PSsA X F0 orelse t_o) :
   PSA X F0 (.Try body (h₀ :: hs) orelse [] pos) (aTry tb th t_o) := by
 refine ⟨?_⟩
 intro F Γ M σ H E f0 g m hw
 refine (ps_try k.pl (tb := fun R D σ H => ∀ pn, selfSs ((X.pin pn).by R) body D σ H) (th := fun D cls a σ H => ∀ pn, selfH (X.pin pn) (h₀ :: hs) D cls a σ H) (to := selfSs X orelse)
   (fun pn R pins s σ H D I h => h pn pins s I) (fun pn s σ H D B a cls a0 I ex h => h pn s B a0 I ex) a1n).to ?_
 intro pn
 have b := (hb pn F (fun Γ' M' cls => th E cls Γ' M') (Cat.by (k.pl.pin pn) k.calm k.un)).run F Γ M σ H _ (.refl F) g m hw
 refine (b.byImp fun σ' H' cls a ⟨F', Γ', M', s', g', m', q'⟩ pn' => ?_).mono ⟨fun σ' H' ⟨F', Γ', M', s', g', m', q'⟩ => ?_, fun _ _ z => z, fun _ _ z => z, fun _ _ z => z⟩
 . exact (ho.run F' Γ' M' σ' H' E (f0.trans s') g' m' q').mono (PQD.dn s')
 . exact ((hh pn').run F' Γ' M' σ' H' E cls a (f0.trans s') g' m' q').mono (PQD.dn s')
theorem Cat.pin (k : Cat X F0 R) (h : X.pn = []) (pn : List (Addr × Obj)) : Thr (X.pin pn) (b4j X.K F0 R) := by
 rintro e s' ⟨a, σ, H, B, cls, a0, m, rfl, I, ex, r⟩
 have J : Inv X [] σ H s' := ⟨I.ok.unpin, I.os, I.bare, I.base, I.loc, I.cell, I.free, I.freeC, fun p hp => by rw [h] at hp; simp at hp, I.hok, I.len⟩
 refine k.thr _ _ ⟨a, σ, H, B, cls, a0, m, rfl, J, ⟨ex.air, ex.tr, ex.md, fun b o e q n => ex.cov b o e ?_ n, ex.nd⟩, r⟩
 rcases q with q | q | q | ⟨p, hp, e⟩ | q
 . exact .inl q
 . exact .inr (.inl q)
 . exact .inr (.inr (.inl q))
 . rw [h] at hp; simp at hp
 . exact .inr (.inr (.inr (.inr q)))
theorem haNil (k : Cat X F0 R) (h : X.pn = []) (pn : List (Addr × Obj)) : PHA (X.pin pn) F0 [] (fun _ cls Γ M => R Γ M cls) := by
 refine ⟨?_⟩
 intro F Γ M σ H E cls a f0 g m hw
 exact (ph_nil (k.pin h pn) (k.pl.pin pn)).to ⟨F, Γ, M, f0, g, m, hw⟩
variable {x n : Str} {C : Addr} {np hp : Pos} {b₀ : Stmt} {suite : List Stmt} {rest : List ExceptHandler} {ts : Addr -> AS} {tr : ATh} {K' : PySem.W.Frag}
theorem haCons (hK : X.K = K') (Pl : Plain X) (hm : X.mg x = some (.ref C)) (hg : Gl X x) (hs : ∀ a, PSsA (X.hand a) F0 (b₀ :: suite) (ts a)) (hr : PHA X F0 rest tr) (hd : (x == ("__debug__" : Str)) = false := by decide) :
   PHA X F0 (.ExceptHandler (some (.Name x np)) none (b₀ :: suite) hp :: rest) (fun E cls Γ M => ∃ b, PySem.W.exmOne K' cls (.ref C) = some b /\ if b = true then ∀ a, ts a E Γ M else tr E cls Γ M) := by
 refine ⟨?_⟩
 intro F Γ M σ H E cls a f0 g m hw
 subst hK
 refine (ph_cons Pl hm hg (ts := fun a D σ H => selfSs (X.hand a) (b₀ :: suite) D σ H) (fun a pins s σ H D I h => h pins s I) b3v hd).to ?_
 obtain ⟨b, hx, hw⟩ := hw
 refine ⟨b, hx, ?_⟩
 cases b with
 | true => rw [if_pos rfl] at hw |-; exact (hs a).run F Γ M σ H E f0 g m (hw a)
 | false => rw [if_neg Bool.false_ne_true] at hw |-; exact hr.run F Γ M σ H E cls a f0 g m hw
theorem haAs {i : Nat} (hK : X.K = K') (Pl : Plain X) (hN : X.N.Nodup) (hi : X.N[i]? = some n) (hl : X.env.scope.names.lookup n = some .local) (hm : X.mg x = some (.ref C)) (hg : Gl X x) (hs : ∀ a, PSsA (X.hand a) F0 (b₀ :: suite) (ts a)) (hr : PHA X F0 rest tr)
   (hd : (x == ("__debug__" : Str)) = false := by decide) :
   PHA X F0 (.ExceptHandler (some (.Name x np)) (some n) (b₀ :: suite) hp :: rest) (fun E cls Γ M => ∃ b, PySem.W.exmOne K' cls (.ref C) = some b /\
     if b = true then ∀ a, M a = none -> ts a { nx := fun Γ' M' => E.nx (Γ'.set i none) M', rt := E.rt, bk := fun Γ' M' => E.bk (Γ'.set i none) M', ct := fun Γ' M' => E.ct (Γ'.set i none) M' } (Γ.set i (some (.obj a))) (put M a (.exc cls)) else tr E cls Γ M) := by
 refine ⟨?_⟩
 intro F Γ M σ H E cls a f0 g m hw
 subst hK
 refine (ph_as Pl hN hi hl hm hg (ts := fun a D σ H => selfSs (X.hand a) (b₀ :: suite) D σ H) (fun a pins s σ H D I h => h pins s I) b3v hd).to ?_
 obtain ⟨b, hx, hw⟩ := hw
 refine ⟨b, hx, ?_⟩
 cases b with
 | true =>
   rw [if_pos rfl] at hw |-
   intro hna
   have m2 : AM X.K F (put M a (.exc cls)) (upd H a (.ext (excφ a cls))) := m.new hna rfl
   have un : ∀ {Q : G -> Mem -> Prop} {σ' : St} {H' : Hp}, PQg X.K F (fun Γ' M' => Q (Γ'.set i none) M') σ' H' -> PQg X.K F Q (σ'.set i none) H' := fun ⟨F', Γ', M', s', g', m', q'⟩ => ⟨F', _, M', s', g'.unset i, m', q'⟩
   exact ((hs a).run F _ _ _ _ _ f0 (g.set (.obj a) i) m2 (hw a (m.fM hna))).mono ⟨fun _ _ z => un z, fun _ _ z => z, fun _ _ z => un z, fun _ _ z => un z⟩
 | false => rw [if_neg Bool.false_ne_true] at hw |-; exact hr.run F Γ M σ H E cls a f0 g m hw
end
section
variable {X : Cx} {F0 : Hp} {k : Nat} {x : Str} {ps : List Str} {sa : Addr -> SpA} {p pos : Pos} {e : Expr} {es : List Expr} {tt : AA} {a : Addr}
def aFunH (sa : SpA) (t : AA) : AE := fun Γ M Q => t Γ M fun ds M1 => sa ds M1 Q fun _ _ => False
theorem paFunH (h : HasH X.prog X.w X.K X.mg X.base k x ps (fun a => a0j X.K (sa a))) (hr : RoomH k X.A) (hh : X.A.handled = some (.ref a)) (hg : Gl X x) (ha : PAA X F0 (e :: es) tt)
   (hdb : (x == ("__debug__" : Str)) = false := by decide) (he : starEach (e :: es) X.env = (false, eval e X.env) :: starEach es X.env := by rfl) (hpl : (backTo pos (starEach es X.env)).any (·.1) = false := by rfl) :
   PEA X F0 (.Call (.Name x p) (e :: es) [] pos) (aFunH (sa a) tt) := by
 refine ⟨?_⟩
 intro F Γ M σ H Q f0 g mm hw
 refine (b3y h hr hh hg a1h hdb he hpl).to ((ha.run F Γ M σ H _ f0 g mm hw).mono fun vs H1 zz9 => ?_)
 obtain ⟨ds, F1, M1, s1, m1, r1, q1⟩ := zz9
 rw [List.append_nil]
 exact ⟨F1, ds, M1, _, _, m1, r1, q1, fun v H' z => z.dn s1, fun _ _ ⟨_, _, _, _, z⟩ => z.elim⟩
end
theorem Fun.okHA {P : Program} {w : World} {K : PySem.W.Frag} {mg : Str -> Option Value} {base : Heap} {x qual : Str} {st : Stmt} {f : Addr} {fd : FuncData} {N ps : List Str} {k : Nat} {sa : Addr -> SpA} (Fn : Fun K x qual st f fd) (S : FnScope N ps (a0c st)) (len : ∀ a ds M Q E, sa a ds M Q E -> ds.length = ps.length)
   (hbody : ∀ (cdv : Value) (A : Around) (a : Addr) (outer : List Env) (s : Shared) (H : Hp) (E : XK) (F0 : Hp) (ds : List D) (M : Mem) (Q : AK) (Ea : Value -> Mem -> Prop), RoomH k (A.deeper (envOfC qual (a0c st) s.heap.objs.size f cdv)) -> (A.deeper (envOfC qual (a0c st) s.heap.objs.size f cdv)).handled = some (.ref a) -> sa a ds M Q Ea ->
     ∃ t, PSsA (cxH P w K mg base N qual (a0c st) f cdv A outer s H E) F0 (a0u st) t /\ t { nx := fun _ M' => Rt Q .non M', rt := Rt Q } (a48 N ds) M) : FnOkH P w K mg base (k + 1) f fd ps (fun a => a0j K (sa a)) := by
 refine Fn.okH S (fun a vs H Q E ⟨F, ds, M, Qa, Ea, m, r, h, _⟩ => by rw [r.length]; exact len _ _ _ _ _ h) ?_
 intro cdv A a outer s H vs Q E hr hh ⟨F, ds, M, Qa, Ea, m, r, h, hQ, hE⟩
 obtain ⟨t, ht, q⟩ := hbody cdv A a outer s H E F ds M Qa Ea hr hh h
 refine ⟨_, a1n, ?_⟩
 refine (ht.run F _ M _ H _ (.refl F) (a7o r) m q).mono ⟨fun σ' H' ⟨F', Γ', M', s', g', m', q'⟩ => ?_, fun v H' z => ?_, fun _ _ ⟨_, _, _, _, _, _, q'⟩ => q'.elim, fun _ _ ⟨_, _, _, _, _, _, q'⟩ => q'.elim⟩
 . exact hQ _ _ (PQ.rt ⟨.non, F', M', s', m', .non, q'⟩)
 . exact hQ _ _ (PQ.rt z)
section
variable {X : Cx} {F0 : Hp} {e : Expr} {te : AE} {p q pos : Pos} {x : Str} {C : Addr}
def a9r (K : PySem.W.Frag) (cv : Value) (te : AE) : AE := fun Γ M Q => te Γ M fun d M1 => match d with
 | .obj a => (∃ D b, M1 a = some (.exc (.ref D)) /\ ExLook K D /\ PySem.W.kitOne K (.ref D) cv = some b /\ Q (.bl b) M1)
 | _ => False
theorem a27 (hx : X.mg x = some (.ref C)) (hg : Gl X "isinstance") (hm : X.mg "isinstance" = none) (hgx : Gl X x) (ha : PEA X F0 e te)
   (hdb : (x == ("__debug__" : Str)) = false := by decide)
   (he : starEach [e, .Name x q] X.env = (false, eval e X.env) :: starEach [.Name x q] X.env := by rfl) (he2 : starEach [.Name x q] X.env = (false, eval (.Name x q) X.env) :: starEach [] X.env := by rfl) (hpl : (backTo pos (starEach [.Name x q] X.env)).any (·.1) = false := by rfl) :
   PEA X F0 (.Call (.Name "isinstance" p) [e, .Name x q] [] pos) (a9r X.K (.ref C) te) := by
 refine ⟨?_⟩
 intro F Γ M σ H Q f0 g m hw
 refine (a4b a5c hg hm boot_isinstance (a2v a0m (a2v (a3v (v := .ref C) hgx hx rfl hdb) pa_nil he2) he) (by decide) (by decide) he hpl).to ((ha.run F Γ M σ H _ f0 g m hw).mono fun v H1 zz9 => ?_)
 obtain ⟨d, F1, M1, s1, m1, r1, q1⟩ := zz9
 obtain ⟨a, rfl, rfl⟩ : ∃ a, v = .ref a /\ d = .obj a := by cases r1 <;> first | exact q1.elim | exact ⟨_, rfl, rfl⟩
 obtain ⟨D, b, hM, L, hk, q2⟩ := q1
 obtain ⟨u, e1, ro⟩ := m1.mem _ _ hM
 obtain rfl := ro.isX
 exact ⟨a, D, .ref C, .ref C, b, rfl, e1, L, rfl, hk, _, F1, M1, s1, m1, .bl _, q2⟩
theorem paInstV (hg : Gl X "isinstance") (hm : X.mg "isinstance" = none) (hgx : Gl X "ValueError") (hmx : X.mg "ValueError" = none) (hv : bootBuiltins "ValueError" = some (.type "ValueError")) (ha : PEA X F0 e te)
   (he : starEach [e, .Name "ValueError" q] X.env = (false, eval e X.env) :: starEach [.Name "ValueError" q] X.env := by rfl) (he2 : starEach [.Name "ValueError" q] X.env = (false, eval (.Name "ValueError" q) X.env) :: starEach [] X.env := by rfl) (hpl : (backTo pos (starEach [.Name "ValueError" q] X.env)).any (·.1) = false := by rfl) :
   PEA X F0 (.Call (.Name "isinstance" p) [e, .Name "ValueError" q] [] pos) (a9r X.K (.type "ValueError") te) := by
 refine ⟨?_⟩
 intro F Γ M σ H Q f0 g m hw
 refine (a4b a5c hg hm boot_isinstance (a2v a0m (a2v (b3z (v := .ty "ValueError") hgx hmx hv rfl) pa_nil he2) he) (by decide) (by decide) he hpl).to ((ha.run F Γ M σ H _ f0 g m hw).mono fun v H1 zz9 => ?_)
 obtain ⟨d, F1, M1, s1, m1, r1, q1⟩ := zz9
 obtain ⟨a, rfl, rfl⟩ : ∃ a, v = .ref a /\ d = .obj a := by cases r1 <;> first | exact q1.elim | exact ⟨_, rfl, rfl⟩
 obtain ⟨D, b, hM, L, hk, q2⟩ := q1
 obtain ⟨u, e1, ro⟩ := m1.mem _ _ hM
 obtain rfl := ro.isX
 exact ⟨a, D, .ty "ValueError", .type "ValueError", b, rfl, e1, L, rfl, hk, _, F1, M1, s1, m1, .bl _, q2⟩
theorem a6s : bootBuiltins "ValueError" = some (.type "ValueError") := by decide +kernel
end
section
variable {X : Cx} {tg : Expr} {F0 : Hp} {tt : AA} {pos : Pos}
noncomputable def size2 (a b : Int) : Nat := ((b - a + 1) / 2).toNat
def iaR3 (tt : AA) : AI := fun Γ M Q => tt Γ M fun ds M1 => match ds with
 | [.int i, .int j, .int c] => c = 2 /\ (-(2 ^ 61) <= i /\ i < 2 ^ 61 /\ -(2 ^ 61) <= j /\ j < 2 ^ 61) /\ Q ⟨size2 i j, fun k => .int (i + k * 2), fun _ => True⟩ M1
 | _ => False
end
section
variable {X : Cx} {F0 : Hp} {pos : Pos} {k v : Expr} {tk tv : AE}
def aDict1 (tk tv : AE) : AE := fun Γ M Q => ∀ p, M p = none -> tk Γ (put M p (.dic [])) fun x M1 => tv Γ M1 fun y M2 => M2 p = some (.dic []) /\ opt (keyD x) fun kk => Q (.obj p) (put M2 p (.dic [(kk, y)]))
theorem paDict1 (hk : PEA X F0 k tk) (hv : PEA X F0 v tv) : PEA X F0 (.Dict [some k] [v] pos) (aDict1 tk tv) := by
 refine ⟨?_⟩
 intro F Γ M σ H Q f0 g m hw
 refine (pe_disp (trs := [(selfE X k, selfE X v)]) (b6i a0m a0m pps_nil) rfl rfl (by simp) (Nat.le_of_ble_eq_true rfl)).to ?_
 intro p hp
 have hq := hw p (m.fM hp)
 have m1 := m.new (o := .dic []) hp (u := .dK []) .nil
 refine two hk hv f0 g m1 hq fun F2 M2 H2 a b x y s m2 r1 r2 q => ?_
 obtain ⟨e1, q⟩ := q
 obtain ⟨kk, hkk, q⟩ := a10 q
 obtain ⟨u, e2, ro⟩ := m2.mem _ _ e1
 obtain ⟨ws, rfl, pf⟩ := ro.isD
 cases pf
 refine ⟨e2, [(kk, b)], ?_, Nat.le_of_ble_eq_true rfl, .obj p, F2, put M2 p (.dic [(kk, y)]), s, ?_, .obj p, q⟩
 . rw [a6h r1 hkk]; rfl
 . exact m2.set e1 (u := .dK (a7f [] [(kk, b)])) (o' := .dic [(kk, y)]) (.cons ⟨rfl, r2⟩ .nil)
end
section
variable {X : Cx} {F0 : Hp} {e : Expr} {te : AE}
end
theorem a8d {n j : Nat} (h : j < n) : ixN n (j : Int) = some j := by
 unfold ixN
 rw [if_pos (by omega), if_pos (by omega)]; rfl
end L2
namespace PySem
open Sem (wp)
theorem b4t : typeLookup (.type "list") "keys" = pure none := am_miss_of_fast (by decide +kernel)
theorem a4i {prog : Program} {w : World} {A : Around} {E : Value -> Shared -> Prop} {s : Shared} {a : Addr} {o : Obj} {xs : Array Value} {k : Nat} {name : Str} {Q : Option Value -> Shared -> Prop}
   (hx : s.heap.get? a = some o) (hc : o.cls = .type "list") (hdat : o.data = .seq xs k) (hd : o.dict = none) (hmiss : typeLookup (.type "list") name = pure none) (hname : (["__module__", "__name__", "__qualname__", "__doc__", "__annotations__"] : List Str).contains name = false) (hA : A.handled = none)
   (h : ∀ h' tk, (∀ b ob, s.heap.get? b = some ob -> h'.get? b = some ob) -> Q none { s with heap := h', toks := tk }) (hsz : name.length + 100 <= sizeLine := by size_fits) :
   wpAny (model prog w) A (getAttr? (.ref a) name) Q E s := by
 obtain ⟨c, dct, dat, sl⟩ := o
 simp only at hc hdat hd
 subst hc hdat hd
 obtain ⟨hp, g, d, tk, os⟩ := s
 have hT : ∀ tk', (⟨hp, g, d, tk', os⟩ : Shared).TypeIs (.ref a) "list" := fun _ => ⟨_, hx, rfl⟩
 have f1 := sub_AttributeError
 have f3 := F.slot_list_getattribute.lookup
 have f4 := F.slot_list_getattribute.bind (.ref a)
 have f5 := am_list_getattr_none
 unfold getAttr? getAttrBy? getAttrBy
 repeat (any_goals (first | assumption | exact hT _ | ((with_reducible show wpAny _ _ (call (Value.builtin "list.__getattribute__") _ _) _ _ _); refine call_meets F.slot_list_getattribute (hT _) am_entry_list_getattribute (F.args_list_getattribute_2 _ _) (meets_getattribute_miss_list a xs k sl name _ hmiss hname hsz) ⟨hx, hA, fun h' tk' e hx' => ?_⟩) | wp_step))
 obtain ⟨t', u', he⟩ := hx'.there
 show wpAny _ _ (getattributeRaised _ _ _ _ _ _ _) _ _ _
 unfold getattributeRaised
 repeat (any_goals (first | assumption | wp_step))
 exact h _ _ hx'.keeps
theorem a1q : plainId "dict.update.loop" = true := by decide +kernel
theorem a3k : entryFor table "dict.update.loop" = some Builtin.«dict.update.loop» := entryFor_of_fast (by kernel_rfl)
section
variable {prog : Program} {w : World} {K : Type} [DecidableEq K] {knd : KeyKind prog w K} {A : Around} {R : Result -> Shared -> Prop} {I : Addr} {fp wr : List Addr} {n : Nat} {P : Nat -> Value -> Prop} {St : Nat -> Heap -> Prop}
def PairAt (knd : KeyKind prog w K) (d : Addr) (wr : List Addr) (h : Heap) (p : K × Value) (v : Value) : Prop :=
 ∃ t key o, v = .ref t /\ t ≠ d /\ t ∉ wr /\ h.get? t = some o /\ o.cls = .type "tuple" /\ (∃ n, o.data = .seq #[key, p.2] n) /\ knd.is p.1 key = true
theorem a5h (W : Walks prog w A.in1 I fp wr n P St) (d : Addr) (hd : d ∉ fp) (ps : List (K × Value)) (hl : ps.length = n) (hn : n <= 1000) :
   ∀ (k i : Nat) (s : Shared) (tk : Tok), n - i = k -> i <= n -> St i s.heap -> (∀ j v p, P j v -> ps[j]? = some p -> PairAt knd d wr s.heap p v) -> s.heap.DictOf knd d ((ps.take i).foldl (fun m p => stored m p.1 p.2) []) ->
   (∀ h' tk', (∀ b o, b ≠ d -> b ∉ wr -> s.heap.get? b = some o -> h'.get? b = some o) -> h'.DictOf knd d (ps.foldl (fun m p => stored m p.1 p.2) []) -> R (.ok (.ret .none)) { s with heap := h', toks := tk' }) ->
   codeAny (model prog w) A (.builtin "dict.update.loop" ⟨[.ref d, .ref I, .int i tk, .none], []⟩) R s := by
 have hdw : d ∉ wr := fun h => hd (W.sub _ h)
 have hlen : ∀ i, ((ps.take i).foldl (fun m p => stored m p.1 p.2) []).length <= i := by
   intro i
   have all : ∀ (ps : List (K × Value)) (m : List (K × Value)), (ps.foldl (fun m p => stored m p.1 p.2) m).length <= m.length + ps.length := by
     intro ps
     induction ps with
     | nil => intro m; simp
     | cons p ps ih2 =>
       intro m
       have h1 := ih2 (stored m p.1 p.2)
       have h2 := stored_length_le m p.1 p.2
       simp only [List.foldl_cons, List.length_cons]
       omega
   have h := all (ps.take i) []
   rw [List.length_take] at h
   simp only [List.length_nil] at h
   omega
 intro k
 induction k with
 | zero =>
   intro i s tk hk hi hst hps hD hR
   have hin : i = n := by omega
   subst hin
   refine codeAny_builtin a3k ?_
   rw [Around.under_plainId a1q _]
   show wpAny _ A.in1 (pyNext (.ref I) >>= _) _ _ s
   refine wpAny_bind (W.done s _ _ hst fun h' tk' hm => ?_)
   rw [<- hl, List.take_length] at hD
   exact wpAny_pure (hR h' tk' (fun b o _ hb e => hm b o hb e) (by obtain ⟨o, es, ep, ho, r⟩ := hD; exact ⟨o, es, ep, hm d o hdw ho, r⟩))
 | succ k ih =>
   intro i s tk hk hi hst hps hD hR
   have hlt : i < n := by omega
   refine codeAny_builtin a3k ?_
   rw [Around.under_plainId a1q _]
   show wpAny _ A.in1 (pyNext (.ref I) >>= _) _ _ s
   refine wpAny_bind (W.item i s _ _ hlt hst fun v h' tk' hP hst' hm => ?_)
   obtain ⟨p, hp⟩ : ∃ p, ps[i]? = some p := ⟨ps[i]'(by omega), List.getElem?_eq_getElem (by omega)⟩
   obtain ⟨t, key, o, rfl, ht1, ht2, ht3, ht4, ⟨m, ht5⟩, hkey⟩ := hps i v p hP hp
   have ht3' := hm t o ht2 ht3
   have hD' : h'.DictOf knd d ((ps.take i).foldl (fun m p => stored m p.1 p.2) []) := by obtain ⟨o, es, ep, ho, r⟩ := hD; exact ⟨o, es, ep, hm d o hdw ho, r⟩
   dsimp only
   refine wpAny_bind (wpAny_holding (wpAny_bind (wpAny_tryCatch ?_)))
   unfold Builtin.Dict.pairItems
   refine wpAny_bind (wpAny_typeOf (T := "tuple") ⟨o, ht3', ht4⟩ ?_)
   rw [if_pos (by decide)]
   refine wpAny_bind (wpAny_seqItems ht3' ht5 (wpAny_pure ?_))
   have hsl : (1000 : Nat) <= sizeLine := by decide
   have hls := hlen i
   refine wpAny_holding (wpAny_dictSet_pairs hkey hD' (fun h2 hD2 hs2 => ?_) (by omega))
   have e : stored ((ps.take i).foldl (fun m p => stored m p.1 p.2) []) p.1 p.2 = (ps.take (i + 1)).foldl (fun m p => stored m p.1 p.2) [] := by
     rw [List.take_succ, hp, List.foldl_append]; rfl
   rw [e] at hD2
   refine wpAny_pure ⟨plainId_quiet a1q _, ih (i + 1) _ 0 (by omega) hlt (W.frame _ _ _ hst' fun b hb o' e' => ?_) (fun j v q hPj hq => ?_) hD2 fun h3 tk3 hk3 hD3 => ?_⟩
   . exact (hs2.2 b (fun z => hd (z ▸ hb))).trans e'
   . obtain ⟨t', key', o2, rfl, g1, g2, g3, g4⟩ := hps j v q hPj hq
     exact ⟨t', key', o2, rfl, g1, g2, (hs2.2 t' g1).trans (hm t' o2 g2 g3), g4⟩
   . exact hR h3 tk3 (fun b o' hb1 hb2 e' => hk3 b o' hb1 hb2 ((hs2.2 b hb1).trans (hm b o' hb2 e'))) hD3
end
section
variable {prog : Program} {w : World} {K : Type} [DecidableEq K] {knd : KeyKind prog w K} {A : Around} {E : Value -> Shared -> Prop} {s : Shared}
theorem a6r {l : Addr} {o : Obj} {items : Array Value} {m : Nat} {Q : Value -> Shared -> Prop} (hA : A.handled = none) (hl : s.heap.get? l = some o) (hc : o.cls = .type "list") (hdat : o.data = .seq items m) (hdn : o.dict = none) (ps : List (K × Value)) (hlen : ps.length = items.size) (hn : items.size <= 1000)
   (hps : ∀ (j : Nat) (v : Value) (p : K × Value), items[j]? = some v -> ps[j]? = some p -> ∃ t key o, v = .ref t /\ s.heap.get? t = some o /\ o.cls = .type "tuple" /\ (∃ n, o.data = .seq #[key, p.2] n) /\ knd.is p.1 key = true)
   (h : ∀ h' tk, (∀ b ob, s.heap.get? b = some ob -> h'.get? b = some ob) -> h'.DictOf knd s.heap.objs.size (ps.foldl (fun m p => stored m p.1 p.2) []) -> Q (.ref s.heap.objs.size) { s with heap := h', toks := tk }) :
   wpAny (model prog w) A (call (.type "dict") [.ref l]) Q E s := by
 refine callType_codes (Q₁ := fun obj s₁ => obj = .ref s.heap.objs.size /\ s₁ = { s with heap := s.heap.push { cls := .type "dict", data := .dict #[] } }) F.kt_called_dict (F.kt_typeCall_dict_1 _) F.entry_dict_init (kt_code_dict_new _ ⟨rfl, rfl⟩) ?_
 rintro obj s₁ ⟨rfl, rfl⟩
 have hnew : (s.heap.push { cls := .type "dict", data := .dict #[] }).DictOf knd s.heap.objs.size [] := Heap.DictOf.new s.heap
 have hl1 := Heap.get?_push_of_some { cls := .type "dict", data := .dict #[] } hl
 refine ⟨hnew.typeIs, F.args_dict_init_2 _ _, ?_⟩
 unfold Builtin.«dict.__init__»
 refine wpAny_bind ?_
 unfold Builtin.Dict.selfAndRest
 refine wpAny_bind (wpAny_notOrdered_dict hnew.typeIs ?_)
 show wpAny _ _ (pure (s.heap.objs.size, [Value.ref l])) _ _ _
 refine wpAny_pure ?_
 show wpAny _ _ (Builtin.Dict.updateFrom "dict.__init__" s.heap.objs.size (.ref l) [] .none) _ _ _
 unfold Builtin.Dict.updateFrom
 refine wpAny_bind (wpAny_typeOf (T := "list") ⟨o, hl1, hc⟩ ?_)
 rw [if_pos (by decide)]
 refine wpAny_bind (a4i hl1 hc hdat hdn b4t (by decide +kernel) hA fun h2 tk2 hk2 => ?_)
 rw [if_pos (show (none : Option Value).isNone = true from rfl)]
 have hl2 := hk2 _ _ hl1
 have hD2 : h2.DictOf knd s.heap.objs.size [] := by obtain ⟨o, es, ep, ho, r⟩ := hnew; exact ⟨o, es, ep, hk2 _ _ ho, r⟩
 have hlt : l < s.heap.objs.size := Heap.lt_size hl
 have hsz : s.heap.objs.size < h2.objs.size := by obtain ⟨o, es, ep, ho, r⟩ := hD2; exact Heap.lt_size ho
 refine wpAny_bind (wpAny_rule (wpAny_bind (wpAny_pyIter_list (items := items) ⟨o, hl2, hc, m, hdat⟩ ?_)))
 refine wpAny_pure ⟨plainId_quiet a1q _, ?_⟩
 have hIl : ∀ b, b < h2.objs.size -> b ≠ h2.objs.size := fun b hb => Nat.ne_of_lt hb
 have hne : l ≠ h2.objs.size := hIl l (Heap.lt_size hl2)
 have hdf : s.heap.objs.size ∉ [h2.objs.size, l] := by
   simp only [List.mem_cons, List.not_mem_nil, or_false, not_or]
   exact ⟨Nat.ne_of_lt hsz, Nat.ne_of_gt hlt⟩
 refine a5h (knd := knd) (Walks.list (A := A.in1.in1) hA h2.objs.size l hne items) s.heap.objs.size hdf ps hlen hn items.size 0 _ 0 (by omega) (Nat.zero_le _) ⟨⟨_, Heap.get?_push_size _ rfl, rfl, rfl⟩, o, Heap.get?_push_of_some _ hl2, hc, m, hdat⟩ (fun j v p hP hp => ?_) (by
     obtain ⟨o, es, ep, ho, r⟩ := hD2
     exact ⟨o, es, ep, Heap.get?_push_of_some _ ho, r⟩) fun h3 tk3 hk3 hD3 => ⟨rfl, h h3 tk3 (fun b ob e => ?_) hD3⟩
 . obtain ⟨t, key, ot, rfl, g1, g2⟩ := hps j v p hP hp
   have g3 := hk2 _ _ (Heap.get?_push_of_some { cls := .type "dict", data := .dict #[] } g1)
   exact ⟨t, key, ot, rfl, Nat.ne_of_lt (Heap.lt_size g1), by simp only [List.mem_singleton]; exact hIl t (Heap.lt_size g3), Heap.get?_push_of_some _ g3, g2⟩
 . have e2 := hk2 _ _ (Heap.get?_push_of_some { cls := .type "dict", data := .dict #[] } e)
   exact hk3 b ob (Nat.ne_of_lt (Heap.lt_size e)) (by simp only [List.mem_singleton]; exact hIl b (Heap.lt_size e2)) (Heap.get?_push_of_some _ e2)
end
end PySem
namespace L2
open PySem PySem.Spec PySem.Calls PyProof.Rows
theorem a6m {κ : Type} [DecidableEq κ] : ∀ (ps m : List (κ × Value)), ((m ++ ps).map (·.1)).Nodup -> ps.foldl (fun m p => stored m p.1 p.2) m = m ++ ps
 | [], m, _ => by simp
 | p :: ps, m, h => by
   have h1 : stored m p.1 p.2 = m ++ [p] := by
     refine stored_absent ?_ _
     have hn : p.1 ∉ m.map (·.1) := fun z => by
       rw [List.map_append, List.map_cons, List.nodup_append] at h
       exact h.2.2 _ z _ List.mem_cons_self rfl
     unfold valueAt
     rw [List.find?_eq_none.mpr fun x hx => by
       have : x.1 ≠ p.1 := fun e => hn (by rw [<- e]; exact List.mem_map.mpr ⟨x, hx, rfl⟩)
       simp [this]]
     rfl
   rw [List.foldl_cons, h1, a6m ps (m ++ [p]) (by simpa using h)]
   simp
section
variable {X : Cx}
def Prs' (H : Hp) : List V -> List (Key × V) -> Prop := Paired fun v p => ∃ t, v = .ref t /\ H t = some (.tup [kV p.1, p.2])
def rDictOf : List V -> Hp -> VK -> Prop := fun xs H Q => ∃ a vs ps, xs = [.ref a] /\ H a = some (.lst vs) /\ vs.length <= 1000 /\ Prs' H vs ps /\ (ps.map (·.1)).Nodup /\ ∀ p, H p = none -> Q (.ref p) (upd H p (.dK ps))
theorem prs_len {H : Hp} {vs : List V} {ps : List (Key × V)} (h : Prs' H vs ps) : vs.length = ps.length := by
 induction h with
 | nil => rfl
 | cons _ _ ih => simp [ih]
theorem prs_rel {pins : List (Addr × Obj)} {σ : St} {H : Hp} {s : Shared} (I : Inv X pins σ H s) {vs : List V} {ps : List (Key × V)} (h : Prs' H vs ps) : ∀ {its : List Value}, Vals vs its ->
   ∃ ws : List (Key × Value), KV ps ws /\ ∀ (j : Nat) (v : Value) (p : Key × Value), its[j]? = some v -> ws[j]? = some p -> ∃ t key o, v = .ref t /\ s.heap.get? t = some o /\ o.cls = .type "tuple" /\ (∃ n, o.data = .seq #[key, p.2] n) /\ (a0y X.prog X.w).is p.1 key = true := by
 induction h with
 | nil => intro its _; exact ⟨[], .nil, fun j v p _ h => by simp at h⟩
 | cons hd _ ih =>
   intro its r
   cases r with
   | cons r1 r2 =>
     obtain ⟨ws, k1, k2⟩ := ih r2
     obtain ⟨t, rfl, ht⟩ := hd
     cases r1
     obtain ⟨_, us, ru, o, ho, hc, n, hdat⟩ := I.hok t _ ht
     obtain ⟨key, x, rfl, rk, rv⟩ := b53 ru
     refine ⟨(_, x) :: ws, .cons ⟨rfl, rv⟩ k1, fun j v p hj hp => ?_⟩
     cases j with
     | zero =>
       simp only [List.getElem?_cons_zero, Option.some.injEq] at hj hp
       subst hj hp
       exact ⟨t, key, o, rfl, ho, hc, ⟨n, hdat⟩, a9e rk⟩
     | succ j => exact k2 j v p (by simpa using hj) (by simpa using hp)
theorem kv_keys {ps : List (Key × V)} {ws : List (Key × Value)} (kv : KV ps ws) : ps.map (·.1) = ws.map (·.1) := by
 induction kv with
 | nil => rfl
 | cons h _ ih => simp only [List.map_cons, h.1, ih]
theorem a5d (hc : X.calm = true) : CallR X (.type "dict") rDictOf := by
 intro pins s σ H xs us Q I r h
 obtain ⟨a, vs, ps, rfl, ha, hn, hp, nd, q⟩ := h
 obtain ⟨u, rfl, rx⟩ := b54 r
 cases rx
 obtain ⟨hz, its, n, rv, hg⟩ := I.hok a _ ha
 obtain ⟨ws, kv, hps⟩ := prs_rel I hp rv
 have hl1 := rv.length
 have hl2 := prs_len hp
 have hl3 := kv.length
 have ek := kv_keys kv
 refine a6r (knd := a0y X.prog X.w) (I.ok.hd hc) hg rfl rfl rfl ws (by simp; omega) (by simp; omega) (fun j v p hj hp => hps j v p (by simpa using hj) hp) fun h' tk hk hD => ?_
 rw [a6m ws [] (by rw [List.nil_append, <- ek]; exact nd), List.nil_append] at hD
 refine ⟨.ref s.heap.objs.size, _, I.laid (t' := tk) (o := .dK ps) hk (Nat.le_refl _) (b5k (by omega) (beq_eq_false_iff_ne.mpr (Ne.symm (Nat.ne_of_lt I.big))) kv hD), rfl, q _ (I.hok.fresh (Nat.le_refl _))⟩
end
noncomputable def a7e : List D -> Option (List (Key × D))
 | [] => some []
 | .tup [k, v] :: r => (match keyD k, a7e r with | some k', some r' => some ((k', v) :: r') | _, _ => none)
 | _ => none
theorem b1b {K : PySem.W.Frag} {F : Hp} {M : Mem} {H : Hp} (m : AM K F M H) : ∀ {ds : List D} {vs : List V} {kvs : List (Key × D)}, RDs K F vs ds -> a7e ds = some kvs -> ∃ ps, Prs' H vs ps /\ PF K F ps kvs
 | [], _, _, .nil, h => by cases h; exact ⟨[], .nil, .nil⟩
 | d :: ds, _, kvs, .cons r1 r2, h => by
   unfold a7e at h
   split at h
   . rename_i heq; cases heq
   . rename_i k v r heq
     cases heq
     split at h
     . rename_i k' r' hk hr
       cases h
       obtain ⟨ps, h1, h2⟩ := b1b m r2 hr
       cases r1 with
       | tup e rr =>
         obtain ⟨x, y, rfl, rx, ry⟩ := rr.two'
         have ek := a6h rx hk
         subst ek
         exact ⟨(k', y) :: ps, .cons ⟨_, rfl, m.sub _ _ e⟩ h1, .cons ⟨rfl, ry⟩ h2⟩
     . cases h
   . cases h
noncomputable def oDictOf : A1s := fun ds M Q => match ds with
 | [d] => opt (dl M d) fun xs => xs.length <= 1000 /\ opt (a7e xs) fun kvs => (kvs.map (·.1)).Nodup /\ ∀ p, M p = none -> Q (.obj p) (put M p (.dic kvs))
 | _ => False
theorem pf_keys {K : PySem.W.Frag} {F : Hp} {ps : List (Key × V)} {kvs : List (Key × D)} (h : PF K F ps kvs) : ps.map (·.1) = kvs.map (·.1) := by
 induction h with
 | nil => rfl
 | cons h _ ih => simp only [List.map_cons, h.1, ih]
theorem b4r {K : PySem.W.Frag} : LC K rDictOf oDictOf := by
 intro F M H xs ds Q R m r h k
 unfold oDictOf at h
 split at h
 . obtain ⟨x, rfl, rx⟩ := r.one'
   obtain ⟨es, hd, hn, h⟩ := a10 h
   obtain ⟨kvs, hp, nd, h⟩ := a10 h
   obtain ⟨p, vs, rfl, e, rr⟩ := b5j m rx hd
   obtain ⟨ps, h1, h2⟩ := b1b m rr hp
   exact ⟨p, vs, ps, rfl, e, by rw [rr.length]; exact hn, h1, by rw [pf_keys h2]; exact nd, fun l hl => k _ _ ⟨.obj l, F, _, .refl F, m.new (o := .dic kvs) hl h2, .obj l, h l (m.fM hl)⟩⟩
 . exact h.elim
section
variable {X : Cx} {pins : List (Addr × Obj)} {σ : St} {H : Hp} {s : Shared}
theorem Inv.still {d : Addr} {kvs : List (Key × V)} {o : Obj} (I : Inv X pins σ H s) (hd : H d = some (.dK kvs)) (ho : s.heap.get? d = some o) : Inv X pins σ (upd H d (.frz o (.dK kvs))) s := by
 have key : ∀ b u, H b = some u -> (∀ ws, u ≠ .dK ws) -> upd H d (.frz o (.dK kvs)) b = some u := fun b u e n => by
   rw [a0l (by rintro rfl; rw [hd] at e; cases e; exact n _ rfl)]; exact e
 have nn : ∀ b, H b = none -> upd H d (.frz o (.dK kvs)) b = none := fun b e => by
   rw [a0l (by rintro rfl; rw [hd] at e; cases e)]; exact e
 refine ⟨I.ok, I.os, I.bare, ⟨I.base.keep, I.base.slot, fun c oc e n hx => nn c (I.base.free c oc e n hx), I.base.there, fun c xs e => key c _ (I.base.tups c xs e) (fun _ z => by cases z), fun c oc u e => key c _ (I.base.frzs c oc u e) (fun _ z => by cases z), fun c ps e => ?_⟩, I.loc, I.cell, nn _ I.free, fun x c e => nn _ (I.freeC x c e), fun p hp => ?_, fun c u q => ?_, I.len⟩
 . obtain ⟨m1, e'⟩ := I.base.tbls c ps e
   exact ⟨m1, key c _ e' (fun _ z => by cases z)⟩
 . obtain ⟨e, n, n1, n2, dd⟩ := I.pin p hp
   exact ⟨e, nn _ n, n1, n2, dd⟩
 . have st : ∀ {b : Addr} {u : HO}, ObjOk X.prog X.w H s.heap b u -> ObjOk X.prog X.w (upd H d (.frz o (.dK kvs))) s.heap b u := fun x => x.stay (fun _ _ _ r => r) (fun c' r => key c' _ r (fun _ z => by cases z)) fun c' xs r => key c' _ r (fun _ z => by cases z)
   by_cases hc : c = d
   . subst hc
     rw [a0p] at q
     cases q
     exact ⟨ho, st (I.hok c _ hd)⟩
   . rw [a0l hc] at q
     exact st (I.hok c u q)
noncomputable def ItdI (d : Addr) (o : Obj) (kvs : List (Key × V)) : It := ⟨fun i H => i < kvs.length /\ H d = some (.frz o (.dK kvs)), fun i H x H' => ∃ T k v, H T = none /\ kvs[i]? = some (k, v) /\ x = .ref T /\ H' = upd H T (.tup [kV k, v]), fun i H => i = kvs.length /\ H d = some (.frz o (.dK kvs))⟩
noncomputable def ItdV (d : Addr) (o : Obj) (kvs : List (Key × V)) : It := ⟨fun i H => i < kvs.length /\ H d = some (.frz o (.dK kvs)), fun i H x H' => H' = H /\ ∃ k, kvs[i]? = some (k, x), fun i H => i = kvs.length /\ H d = some (.frz o (.dK kvs))⟩
theorem kv_at {kvs : List (Key × V)} {ws : List (Key × Value)} (r : KV kvs ws) {i : Nat} (h : i < kvs.length) : ∃ k v u, kvs[i]? = some (k, v) /\ ws[i]? = some (k, u) /\ RelV v u := by
 have hw : i < ws.length := by rw [<- r.length]; exact h
 obtain ⟨v, e, rv⟩ := r.at (j := i) (k := ws[i].1) (u := ws[i].2) (List.getElem?_eq_getElem hw)
 exact ⟨_, v, _, e, List.getElem?_eq_getElem hw, rv⟩
theorem b22 {P : Program} {w : World} {K : PySem.W.Frag} {tg : Expr} {it d : Addr} {o : Obj} {kvs : List (Key × V)} {ws : List (Key × Value)} {ep : Nat} (rel : KV kvs ws) (hat : ∀ h : Heap, h.get? d = some o -> h.DictAt (a0y P w) d ws ep) :
   Turn P w K tg (ItdV d o kvs) [it] it (fun i h => h.IsValIter it d i ws.length ep) where
 mem := by simp
 obj := fun i h st b hb => by
   have e : b = it := by simpa using hb
   subst e
   obtain ⟨o', e, _, dt⟩ := st
   exact ⟨o', e, fun v z => by rw [dt] at z; cases z⟩
 keep := fun i h h' st k => st.at fun o e => k it (by simp) o e
 item := by
   intro X hP hw hK hc i pins s σ H E I hf st hg
   subst hP hw hK
   obtain ⟨f0, f1, f2, f3, f4, f5⟩ := hf it (by simp)
   obtain ⟨hi, hd⟩ := hg
   obtain ⟨k, v, u, e1, e2, rv⟩ := kv_at rel hi
   refine wpAny_pyNext_values_item st (hat _ (I.hok d _ hd).1) e2 fun h' st' hs' => ?_
   have I1 : Inv X pins σ H { s with heap := h', toks := s.toks } := I.turned (fun b o hb e => (hs'.2 b hb).trans e) f0 f1 f3 f4 f5
   obtain ⟨oi, g, c, dt⟩ := id st'
   exact ⟨u, rfl, b46 (s := { s with heap := h' }) g c dt (by decide) ⟨v, H, I1, rv, ⟨rfl, k, e1⟩, st', fun b hb => (hf b hb).1⟩⟩
 done := by
   intro X hP hw hK hc i pins s σ H E I hf st hg
   subst hP hw hK
   obtain ⟨f0, f1, f2, f3, f4, f5⟩ := hf it (by simp)
   obtain ⟨hi, hd⟩ := hg
   refine wpAny_pyNext_values_end (I.ok.hd hc) st (hat _ (I.hok d _ hd).1) (by rw [hi, rel.length]; simp) fun h' he' => ⟨rfl, ?_⟩
   exact I.turned (t' := s.toks) (fun b o hb e => he' b o hb e) f0 f1 f3 f4 f5
 self := fun A i s Q E st q => wpAny_pyIter_valiter st q
theorem b19 {P : Program} {w : World} {K : PySem.W.Frag} {elts : List Expr} {kk : Nat} {pos : Pos} {it d : Addr} {o : Obj} {kvs : List (Key × V)} {ws : List (Key × Value)} {ep : Nat} (rel : KV kvs ws) (hat : ∀ h : Heap, h.get? d = some o -> h.DictAt (a0y P w) d ws ep) :
   Turn P w K (.Tuple elts kk pos) (ItdI d o kvs) [it] it (fun i h => ∃ ok ov, IsItemIter h it d i ws.length ep ok ov) where
 mem := by simp
 obj := fun i h st b hb => by
   have e : b = it := by simpa using hb
   subst e
   obtain ⟨ok, ov, e⟩ := st
   exact ⟨_, e, fun v z => by cases z⟩
 keep := fun i h h' st k => by
   obtain ⟨ok, ov, e⟩ := st
   exact ⟨ok, ov, k it (by simp) _ e⟩
 item := by
   intro X hP hw hK hc i pins s σ H E I hf st hg
   subst hP hw hK
   obtain ⟨f0, f1, f2, f3, f4, f5⟩ := hf it (by simp)
   obtain ⟨hi, hd⟩ := hg
   obtain ⟨k, v, u, e1, e2, rv⟩ := kv_at rel hi
   obtain ⟨ok, ov, st⟩ := st
   refine wpAny_pyNext_items_item st (hat _ (I.hok d _ hd).1) e2 fun key h' hk ho hT hsz hkeep => ?_
   refine ⟨.ref s.heap.objs.size, rfl, wpAny_letOwnedTupleGo_items ho fun h2 st2 hs2 => ?_⟩
   have hTi : s.heap.objs.size ≠ it := Nat.ne_of_gt (Heap.lt_size st)
   have I1 : Inv X pins σ H { s with heap := h2, toks := s.toks } := I.turned (fun b o hb e => (hs2.2 b hb).trans (hkeep b o hb e)) f0 f1 f3 f4 f5
   have hT2 : h2.get? s.heap.objs.size = some { cls := .type "tuple", data := .seq #[key, u] } := (hs2.2 _ hTi).trans hT
   have hnone : H s.heap.objs.size = none := I.hok.fresh (Nat.le_refl _)
   have fp : FpOk X pins H s.heap.objs.size := I.fpOk (Nat.le_refl _) hnone
   have rk : RelV (kV k) key := by
     rcases a03 hk with ⟨i, t, rfl, rfl⟩ | ⟨x, t, rfl, rfl⟩
     . exact ⟨t, rfl⟩
     . exact ⟨t, rfl⟩
   refine ⟨.ref s.heap.objs.size, upd H s.heap.objs.size (.tup [kV k, v]), I1.adopt fp I.sz ⟨by show 2 <= sizeLine; decide, [key, u], .cons rk (.cons rv .nil), _, hT2, rfl, _, rfl⟩, rfl, ⟨_, k, v, hnone, e1, rfl, rfl⟩, ⟨_, _, st2⟩, fun b hb => ?_⟩
   have e : b = it := by simpa using hb
   subst e
   rw [a0l (Ne.symm hTi)]; exact f0
 done := by
   intro X hP hw hK hc i pins s σ H E I hf st hg
   subst hP hw hK
   obtain ⟨f0, f1, f2, f3, f4, f5⟩ := hf it (by simp)
   obtain ⟨hi, hd⟩ := hg
   obtain ⟨ok, ov, st⟩ := st
   refine wpAny_pyNext_items_end (I.ok.hd hc) st (hat _ (I.hok d _ hd).1) (by rw [hi, rel.length]; simp) fun h' he' => ⟨rfl, ?_⟩
   exact I.turned (t' := s.toks) (fun b o hb e => he' b o hb e) f0 f1 f3 f4 f5
 self := by
   intro A i s Q E st q
   obtain ⟨ok, ov, st⟩ := st
   exact PySem.W.kcp_self st q
end
section
variable {X : Cx} {tg o : Expr} {apos cpos : Pos} {tl : TE}
def iVals (K : PySem.W.Frag) (tl : TE) : TI := fun σ H R => tBM0 K "dict" (b6c "dict_values") tl σ H fun v H2 => ∃ d kvs vw, v = .ref vw /\ H2 vw = some (.ext (viewφ "dict_values" vw d)) /\ H2 d = some (.dK kvs) /\ ∀ o, R (ItdV d o kvs) (upd H2 d (.frz o (.dK kvs)))
def iItms (K : PySem.W.Frag) (tl : TE) : TI := fun σ H R => tBM0 K "dict" (b6c "dict_items") tl σ H fun v H2 => ∃ d kvs vw, v = .ref vw /\ H2 vw = some (.ext (viewφ "dict_items" vw d)) /\ H2 d = some (.dK kvs) /\ ∀ o, R (ItdI d o kvs) (upd H2 d (.frz o (.dK kvs)))
theorem pi_vals (ho : PE X o tl) (hbase : attributeBase o "values" X.env (eval o X.env) = eval o X.env := by rfl) (hline : (apos.endLine == cpos.line) = true := by rfl) : PI X tg (.Call (.Attribute o "values" apos) [] [] cpos) (iVals X.K tl) := by
 intro pins s σ H R I h
 refine thn (a8w PySem.F.plainAttrs_dict PySem.F.slot_dict_values PySem.F.type_dict_values a89 ho hbase hline pins s σ H _ I h) fun v s1 zz9 => ?_
 obtain ⟨x, H1, I1, r1, d, kvs, vw, e, hv, hd, q⟩ := zz9
 subst e
 cases r1
 have hvw : s1.heap.get? vw = some { cls := .type "dict_values", data := .fields #[.ref d] } := (I1.hok vw _ hv).1
 obtain ⟨hz, lo, ws, rel, hD⟩ := b7g I1.hok hd
 obtain ⟨ep, hat⟩ := hD.dictAt
 obtain ⟨ob, es, hob, rest⟩ := id hat
 refine wpAny_pyIter_values ⟨_, hvw, rfl, rfl⟩ hat ?_
 have I2 := I1.still hd hob
 refine ⟨s1.heap.objs.size, [s1.heap.objs.size], _, _, _, rfl, I2.kept (t' := s1.toks) fun b o e => Heap.get?_push_of_some _ e, b22 rel (fun h e => ⟨ob, es, e, rest⟩), ⟨_, Heap.get?_push_size _ rfl, rfl, rfl⟩, fun b hb => ?_, q ob⟩
 have e : b = s1.heap.objs.size := by simpa using hb
 subst e
 exact I2.fpOk (Nat.le_refl _) (I2.hok.fresh (Nat.le_refl _))
theorem pi_itms {elts : List Expr} {kk : Nat} {tpos : Pos} (ho : PE X o tl) (hbase : attributeBase o "items" X.env (eval o X.env) = eval o X.env := by rfl) (hline : (apos.endLine == cpos.line) = true := by rfl) : PI X (.Tuple elts kk tpos) (.Call (.Attribute o "items" apos) [] [] cpos) (iItms X.K tl) := by
 intro pins s σ H R I h
 refine thn (a8w PySem.F.plainAttrs_dict PySem.F.slot_dict_items PySem.F.type_dict_items b1k ho hbase hline pins s σ H _ I h) fun v s1 zz9 => ?_
 obtain ⟨x, H1, I1, r1, d, kvs, vw, e, hv, hd, q⟩ := zz9
 subst e
 cases r1
 have hvw : s1.heap.get? vw = some { cls := .type "dict_items", data := .fields #[.ref d] } := (I1.hok vw _ hv).1
 obtain ⟨hz, lo, ws, rel, hD⟩ := b7g I1.hok hd
 obtain ⟨ep, hat⟩ := hD.dictAt
 obtain ⟨ob, es, hob, rest⟩ := id hat
 refine wpAny_pyIter_items ⟨_, hvw, rfl, rfl⟩ hat ?_
 have I2 := I1.still hd hob
 refine ⟨s1.heap.objs.size, [s1.heap.objs.size], _, _, _, rfl, I2.kept (t' := s1.toks) fun b o e => Heap.get?_push_of_some _ e, b19 rel (fun h e => ⟨ob, es, e, rest⟩), ⟨_, _, Heap.get?_push_size _ rfl⟩, fun b hb => ?_, q ob⟩
 have e : b = s1.heap.objs.size := by simpa using hb
 subst e
 exact I2.fpOk (Nat.le_refl _) (I2.hok.fresh (Nat.le_refl _))
end
theorem AM.fix {K : PySem.W.Frag} {F : Hp} {M : Mem} {H : Hp} {p : Addr} {o : MO} {u : HO} (m : AM K F M H) (hp : M p = some o) : Same F (upd F p u) /\ AM K (upd F p u) (del M p) (upd H p u) := by
 have hs : Same F (upd F p u) := a1l (m.dj p o hp)
 refine ⟨hs, fun b x e => ?_, fun b x e => ?_, fun b x e => ?_⟩
 . by_cases hb : b = p
   . subst hb; rw [a0p] at e |-; exact e
   . rw [a0l hb] at e |-; exact m.sub b x e
 . have hb : b ≠ p := by rintro rfl; rw [a5s] at e; cases e
   rw [a3l hb] at e
   rw [a0l hb]; exact m.dj b x e
 . have hb : b ≠ p := by rintro rfl; rw [a5s] at e; cases e
   rw [a3l hb] at e
   obtain ⟨y, e1, r1⟩ := m.mem b x e
   exact ⟨y, by rw [a0l hb]; exact e1, r1.up hs⟩
section
variable {X : Cx} {F0 : Hp} {tg o : Expr} {td : AE} {apos cpos : Pos}
noncomputable def valAt (kvs : List (Key × D)) (i : Nat) : D := match kvs[i]? with | some kv => kv.2 | none => .non
noncomputable def itemAt (kvs : List (Key × D)) (i : Nat) : D := match kvs[i]? with | some kv => .tup [keyOf kv.1, kv.2] | none => .non
def iaV (td : AE) : AI := fun Γ M Q => td Γ M fun x M1 => match x with
 | .obj p => (match M1 p with | some (.dic kvs) => Q ⟨kvs.length, valAt kvs, fun _ => True⟩ (del M1 p) | _ => False)
 | _ => False
theorem pf_at {K : PySem.W.Frag} {F : Hp} {ws : List (Key × V)} {kvs : List (Key × D)} (h : PF K F ws kvs) : ∀ {i : Nat} {k : Key} {v : V}, ws[i]? = some (k, v) -> ∃ d, kvs[i]? = some (k, d) /\ RD K F v d := by
 induction h with
 | nil => intro i k v e; simp at e
 | cons h1 _ ih =>
   intro i k v e
   cases i with
   | zero =>
     simp only [List.getElem?_cons_zero, Option.some.injEq] at e
     rename_i p q _ _ _
     subst e
     exact ⟨q.2, by simp only [List.getElem?_cons_zero, Option.some.injEq]; exact Prod.ext h1.1.symm rfl, h1.2⟩
   | succ i => exact ih (by simpa using e)
theorem key_of' {K : PySem.W.Frag} {F : Hp} (k : Key) : RD K F (kV k) (keyOf k) := by
 cases k
 . exact .int _
 . exact .str _
theorem iValues (ho : PEA X F0 o td) (hbase : attributeBase o "values" X.env (eval o X.env) = eval o X.env := by rfl) (hline : (apos.endLine == cpos.line) = true := by rfl) : PIA X F0 tg (.Call (.Attribute o "values" apos) [] [] cpos) (iaV td) := by
 refine ⟨?_⟩
 intro F Γ M σ H Q f0 g m h
 refine (pi_vals a0m hbase hline).to ((ho.run F Γ M σ H _ f0 g m h).mono fun v H1 zz9 => ?_)
 obtain ⟨d, F1, M1, s1, m1, r1, q1⟩ := zz9
 obtain ⟨p, rfl⟩ : ∃ p, d = .obj p := by
   cases d <;> first | exact q1.elim | exact ⟨_, rfl⟩
 cases r1
 try dsimp only at q1
 split at q1
 . rename_i kvs hp
   obtain ⟨u, e1, ro⟩ := m1.mem _ _ hp
   obtain ⟨ws, rfl, pf⟩ := ro.isD
   refine ⟨.inr (.inr (.inl ⟨rfl, .inl ⟨ws, e1⟩⟩)), p, ws, rfl, rfl, .inl e1, fun vw hvw => ⟨p, ws, vw, rfl, a0p, ?_, fun ob => ?_⟩⟩
   . rw [a0l (fun z => by rw [z, hvw] at e1; cases e1)]; exact e1
   . obtain ⟨s2, m2⟩ := (m1.more (u := .ext (viewφ "dict_values" vw p)) hvw).fix (u := .frz ob (.dK ws)) hp
     have hl := pf.length
     refine ⟨_, _, _, s1.trans s2, m2, ⟨fun i F' M' H' s' m' _ hi => ⟨by rw [hl]; exact hi, m'.sub _ _ (s' _ _ a0p)⟩, fun i F' M' H' x H'' s' m' _ hi y => ?_, fun F' M' H' s' m' _ => ⟨hl.symm, m'.sub _ _ (s' _ _ a0p)⟩⟩, q1⟩
     obtain ⟨rfl, k, e⟩ := y
     obtain ⟨d, e2, rd⟩ := pf_at pf e
     refine ⟨F', .refl _, m', ?_⟩
     show RD X.K F' x (valAt kvs i)
     unfold valAt
     rw [e2]
     exact rd.up (s2.trans s')
 . exact q1.elim
end
structure FunD (K : PySem.W.Frag) (x qual : Str) (st : Stmt) (f : Addr) (fd : FuncData) : Prop where
 ex : ∃ (oc : Value) (od : Option Addr) (dv : Addr) (kV doc pm : Value) (an : Option Addr) (cdv ct : Value) (osl : Array (Option Value)),
   fd = PySem.W.fnOf x qual (a04 st) (a0u st) (a0c st) (.ref dv) kV doc pm an cdv ct /\ K.lookup f = some ⟨oc, od, .func fd, osl⟩ /\ PySem.W.codeIn K cdv qual = true /\ ∃ oc2 od2 n2 osl2, K.lookup dv = some ⟨oc2, od2, .seq #[.none] n2, osl2⟩
theorem b5a {K : PySem.W.Frag} {x qual : Str} {st : Stmt} {f dv : Addr} {oc oc2 : Value} {od an od2 : Option Addr} {osl osl2 : Array (Option Value)} {kV doc pm cdv ct : Value} {n2 : Nat} (l : K.lookup f = some ⟨oc, od, .func (PySem.W.fnOf x qual (a04 st) (a0u st) (a0c st) (.ref dv) kV doc pm an cdv ct), osl⟩)
   (c : PySem.W.codeIn K cdv qual = true) (d : K.lookup dv = some ⟨oc2, od2, .seq #[.none] n2, osl2⟩) : FunD K x qual st f (PySem.W.fnOf x qual (a04 st) (a0u st) (a0c st) (.ref dv) kV doc pm an cdv ct) :=
 ⟨oc, od, dv, kV, doc, pm, an, cdv, ct, osl, rfl, l, c, oc2, od2, n2, osl2, d⟩
theorem FunD.okX {P : Program} {w : World} {K : PySem.W.Frag} {mg : Str -> Option Value} {base : Heap} {x qual : Str} {st : Stmt} {f : Addr} {fd : FuncData} {N ps : List Str} {k : Nat} {sp : Sp} (F : FunD K x qual st f fd) (S : FnScope N ps (a0c st)) (len : ∀ vs H Q E, sp vs H Q E -> vs.length = ps.length)
   (hbody : ∀ (cdv : Value) (A : Around) (outer : List Env) (s : Shared) (H : Hp) (vs : List V) (Q : VK) (E : XK), Room k (A.deeper (envOfC qual (a0c st) s.heap.objs.size f cdv)) -> sp vs H Q E ->
     ∃ t, PSs ((cxOf (CXE P w) P w K mg base N qual (a0c st) f cdv A outer s H E).by (rE E)) (a0u st) t /\ t { nx := fun _ H' => Q .non H', rt := Q } (start N vs) H) : FnOk P w K mg base (CXE P w) (k + 1) f fd ps sp := by
 obtain ⟨oc, od, dv, kV, doc, pm, an, cdv, ct, osl, rfl, lk, hcd, _⟩ := F.ex
 refine fn_of lk hcd S len fun A outer s H vs Q E hr hsp => ?_
 obtain ⟨t, h, q⟩ := hbody cdv A outer s H vs Q E hr hsp
 exact ⟨t, h.unthr b1q, q⟩
theorem FunD.okA {P : Program} {w : World} {K : PySem.W.Frag} {mg : Str -> Option Value} {base : Heap} {x qual : Str} {st : Stmt} {f : Addr} {fd : FuncData} {N ps : List Str} {k : Nat} {sa : SpA} (Fn : FunD K x qual st f fd) (S : FnScope N ps (a0c st)) (len : ∀ ds M Q E, sa ds M Q E -> ds.length = ps.length)
   (hbody : ∀ (cdv : Value) (A : Around) (outer : List Env) (s : Shared) (H : Hp) (E : XK) (F0 : Hp) (ds : List D) (M : Mem) (Q : AK) (Ea : Value -> Mem -> Prop), Room k (A.deeper (envOfC qual (a0c st) s.heap.objs.size f cdv)) ->
     Cat ((cxOf (CXE P w) P w K mg base N qual (a0c st) f cdv A outer s H E).by (rE E)) F0 (fun _ M cls => Ea cls M) -> sa ds M Q Ea ->
     ∃ t, PSsA ((cxOf (CXE P w) P w K mg base N qual (a0c st) f cdv A outer s H E).by (rE E)) F0 (a0u st) t /\ t { nx := fun _ M' => Rt Q .non M', rt := Rt Q } (a48 N ds) M) : FnOk P w K mg base (CXE P w) (k + 1) f fd ps (a0j K sa) := by
 refine Fn.okX S (fun vs H Q E ⟨F, ds, M, Qa, Ea, m, r, h, _⟩ => by rw [r.length]; exact len _ _ _ _ h) ?_
 intro cdv A outer s H vs Q E hr ⟨F, ds, M, Qa, Ea, m, r, h, hQ, hE⟩
 obtain ⟨t, ht, q⟩ := hbody cdv A outer s H E F ds M Qa Ea hr (Cat.of hE hr.units) h
 refine ⟨_, a1n, ?_⟩
 refine (ht.run F _ M _ H _ (.refl F) (a7o r) m q).mono ⟨fun σ' H' ⟨F', Γ', M', s', g', m', q'⟩ => ?_, fun v H' z => ?_, fun _ _ ⟨_, _, _, _, _, _, q'⟩ => q'.elim, fun _ _ ⟨_, _, _, _, _, _, q'⟩ => q'.elim⟩
 . exact hQ _ _ (PQ.rt ⟨.non, F', M', s', m', .non, q'⟩)
 . exact hQ _ _ (PQ.rt z)
structure HasD (P : Program) (w : World) (K : PySem.W.Frag) (mg : Str -> Option Value) (base : Heap) (k : Nat) (x : Str) (ps : List Str) (sp : Sp) : Prop where
 ex : ∃ f fd, FnOk P w K mg base (CXE P w) k f fd ps sp /\ mg x = some (.ref f) /\ PySem.W.keepIn K (.ref f) = true /\ Binds K fd ps [] /\ Binds K fd ps [.none]
theorem HasD.all {P : Program} {w : World} {K : PySem.W.Frag} {mg : Str -> Option Value} {base : Heap} {k : Nat} {x : Str} {ps : List Str} {sp : Sp} (h : HasD P w K mg base k x ps sp) : Has P w K mg base (CXE P w) k x ps sp := by
 obtain ⟨f, fd, h1, h2, h3, h4, _⟩ := h.ex
 exact ⟨f, fd, h1, h2, h3, h4⟩
section
variable {X : Cx} {k : Nat} {f : Addr} {fd : FuncData} {ps : List Str} {sp : Sp} {R : RX} {x : Str} {p pos : Pos} {e : Expr} {es : List Expr} {t : TA}
theorem b6b {pins : List (Addr × Obj)} {σ : St} {H : Hp} {s : Shared} {Q : VK} {us : List Value} {vs : List V} (F : FnOk X.prog X.w X.K X.mg X.base (CXE X.prog X.w) k f fd ps sp) (hr : Room k X.A) (hb : Binds X.K fd ps [.none]) (T : Thr X R) (Pl : Plain X)
   (I : Inv X pins σ H s) (r : Vals vs us) (h : sp (vs ++ [.non]) H Q (fun cls _ H' => ∀ a, R σ H' cls a)) : wpAny (model X.prog X.w) X.A (call (.ref f) us) (EP X pins σ Q) X.xe s := by
 have r2 : Vals (vs ++ [.non]) (us ++ [.none]) := r.append (.cons rfl .nil)
 have hl : (us ++ [Value.none]).length = ps.length := by rw [<- r2.length]; exact F.len _ _ _ _ h
 refine wpAny_call (codeAny_mono (F.run X.A X.stack s H ⟨us, []⟩ (us ++ [.none]) (vs ++ [.non]) Q _ hr I.env0 (hb s us I.kIn hl) r2 h) fun r s' hq => ?_)
 cases r with
 | error e => exact T.call Pl I hq
 | ok fl =>
   cases fl with
   | ret u => exact I.after hq
   | next => exact False.elim hq
   | brk => exact False.elim hq
   | cont => exact False.elim hq
def tCallXD (sp : Sp) (R : RX) (t : TA) : TE := fun σ H Q => t σ H fun vs H1 => sp (vs ++ [.non]) H1 Q (fun cls _ H' => ∀ a, R σ H' cls a)
theorem b3x (h : HasD X.prog X.w X.K X.mg X.base k x ps sp) (hr : Room k X.A) (hg : Gl X x) (T : Thr X R) (Pl : Plain X) (ha : PA X (e :: es) t)
   (hdb : (x == ("__debug__" : Str)) = false := by decide) (he : starEach (e :: es) X.env = (false, eval e X.env) :: starEach es X.env := by rfl) (hpl : (backTo pos (starEach es X.env)).any (·.1) = false := by rfl) :
   PE X (.Call (.Name x p) (e :: es) [] pos) (tCallXD sp R t) := by
 intro pins s σ H Q I hw
 obtain ⟨f, fd, F, hm, hk, _, hb⟩ := h.ex
 refine wpAny_Call_Name_kw (a29 I hg hm ?_ hdb)
 refine PySem.W.callWith_K (h₀ := X.base) I.ok.mod.kin hk (thn (ha pos pins s σ H _ I hw) fun us s1 ⟨vs, H1, I1, r, q⟩ => ⟨I1.kIn, ?_⟩) he hpl
 exact b6b F hr hb T Pl I1 r q
end
section
variable {X : Cx} {F0 : Hp} {R : AX} {k : Nat} {x : Str} {ps : List Str} {sa : SpA} {p pos : Pos} {e : Expr} {es : List Expr} {tt : AA}
def aFunD (sa : SpA) (R : AX) (t : AA) : AE := fun Γ M Q => t Γ M fun ds M1 => sa (ds ++ [.non]) M1 Q fun cls M' => R Γ M' cls
theorem b1e (h : HasD X.prog X.w X.K X.mg X.base k x ps (a0j X.K sa)) (hr : Room k X.A) (hg : Gl X x) (c : Cat X F0 R) (ha : PAA X F0 (e :: es) tt)
   (hdb : (x == ("__debug__" : Str)) = false := by decide) (he : starEach (e :: es) X.env = (false, eval e X.env) :: starEach es X.env := by rfl) (hpl : (backTo pos (starEach es X.env)).any (·.1) = false := by rfl) :
   PEA X F0 (.Call (.Name x p) (e :: es) [] pos) (aFunD sa R tt) := by
 refine ⟨?_⟩
 intro F Γ M σ H Q f0 g mm hw
 refine (b3x h hr hg c.thr c.pl a1h hdb he hpl).to ((ha.run F Γ M σ H _ f0 g mm hw).mono fun vs H1 zz9 => ?_)
 obtain ⟨ds, F1, M1, s1, m1, r1, q1⟩ := zz9
 exact ⟨F1, ds ++ [.non], M1, _, _, m1, r1.append (.cons .non .nil), q1, fun v H' z => z.dn s1, fun cls H' ⟨F', M', s', m', q'⟩ a => ⟨F', Γ, M', f0.trans (s1.trans s'), g.up (s1.trans s'), m', q'⟩⟩
end
section
variable {X : Cx} {pins : List (Addr × Obj)} {σ : St} {H : Hp} {s : Shared}
theorem Inv.thaw {d : Addr} {kvs : List (Key × V)} {o : Obj} (I : Inv X pins σ H s) (hd : H d = some (.frz o (.dK kvs))) (h0 : ∀ o u, X.H₀ d ≠ some (.frz o u)) : Inv X pins σ (upd H d (.dK kvs)) s := by
 have key : ∀ b u, H b = some u -> (∀ o ws, u ≠ .frz o (.dK ws)) -> upd H d (.dK kvs) b = some u := fun b u e n => by
   rw [a0l (by rintro rfl; rw [hd] at e; cases e; exact n _ _ rfl)]; exact e
 have nn : ∀ b, H b = none -> upd H d (.dK kvs) b = none := fun b e => by
   rw [a0l (by rintro rfl; rw [hd] at e; cases e)]; exact e
 refine ⟨I.ok, I.os, I.bare, ⟨I.base.keep, I.base.slot, fun c oc e n hx => nn c (I.base.free c oc e n hx), I.base.there, fun c xs e => key c _ (I.base.tups c xs e) (fun _ _ z => by cases z), fun c oc u e => ?_, fun c ps e => ?_⟩, I.loc, I.cell, nn _ I.free, fun x c e => nn _ (I.freeC x c e), fun p hp => ?_, fun c u q => ?_, I.len⟩
 . have := I.base.frzs c oc u e
   rw [a0l (by rintro rfl; exact h0 _ _ e)]; exact this
 . obtain ⟨m1, e'⟩ := I.base.tbls c ps e
   exact ⟨m1, key c _ e' (fun _ _ z => by cases z)⟩
 . obtain ⟨e, n, n1, n2, dd⟩ := I.pin p hp
   exact ⟨e, nn _ n, n1, n2, dd⟩
 . have st : ∀ {b : Addr} {u : HO}, ObjOk X.prog X.w H s.heap b u -> ObjOk X.prog X.w (upd H d (.dK kvs)) s.heap b u := fun x => x.stay (fun _ _ _ r => r) (fun c' r => key c' _ r (fun _ _ z => by cases z)) fun c' xs r => key c' _ r (fun _ _ z => by cases z)
   by_cases hc : c = d
   . subst hc
     rw [a0p] at q
     cases q
     exact st (I.hok c _ hd).2
   . rw [a0l hc] at q
     exact st (I.hok c u q)
end
section
variable {X : Cx} {F0 : Hp} {R : AX} {tg o : Expr} {td : AE} {apos cpos : Pos}
theorem selfE.frzs {e : Expr} {σ : St} {H : Hp} {Q : VK} (h : selfE X e σ H Q) : selfE X e σ H fun v H' => Q v H' /\ ∀ b o u, X.H₀ b = some (.frz o u) -> H' b = some (.frz o u) := fun pins s I => thn (h pins s I) fun _ _ ⟨v, H', J, r, q⟩ => ⟨v, H', J, r, q, J.base.frzs⟩
def aForI (td : AE) (gt : AGt) (tb : AS) : AS := fun E Γ M => td Γ M fun x M1 => match x with
 | .obj p => (match M1 p with
   | some (.dic kvs) => ∀ u, LoopP ⟨kvs.length, itemAt kvs, fun M => M p = some (.raw u)⟩ gt tb { E with nx := fun Γ' M' => M' p = some (.raw u) /\ E.nx Γ' (put M' p (.dic kvs)) } Γ (put M1 p (.raw u))
   | _ => False)
 | _ => False
theorem AM.lie {K : PySem.W.Frag} {F : Hp} {M : Mem} {H : Hp} {p : Addr} {o : MO} {u : HO} (m : AM K F M H) (hp : M p = some o) : AM K F (put M p (.raw u)) (upd H p u) := m.set hp (u := u) (o' := .raw u) rfl
theorem sForI {elts : List Expr} {kk : Nat} {tpos pos : Pos} {body : List Stmt} {gt : AGt} {tb : AS} (k : Cat X F0 R) (ho : PEA X F0 o td) (hg : PGA X F0 (.Tuple elts kk tpos) gt) (hb : PSsA X F0 body tb)
   (hbase : attributeBase o "items" X.env (eval o X.env) = eval o X.env := by rfl) (hline : (apos.endLine == cpos.line) = true := by rfl)
   (hs : ∀ x, foldedSetIterable (.Call (.Attribute o "items" apos) [] [] cpos) X.env x = pure x := by intro _; rfl) :
   PSA X F0 (.For (.Tuple elts kk tpos) (.Call (.Attribute o "items" apos) [] [] cpos) body [] pos) (aForI td gt tb) := by
 refine ⟨?_⟩
 intro F Γ M σ H E f0 g m h
 intro pins0 s0 I0
 let D' : Ends := { PQD X.K F E with nx := fun σ' H' => ∃ F1 F' Γ' M' p kvs ws ob, Same F F1 /\ Same F1 F' /\ PF X.K F1 ws kvs /\ (∀ o u, X.H₀ p ≠ some (.frz o u)) /\ AG X.K F' Γ' σ' /\ AM X.K F' M' H' /\ M' p = some (.raw (.frz ob (.dK ws))) /\ E.nx Γ' (put M' p (.dic kvs)) }
 have main : selfS X (.For (.Tuple elts kk tpos) (.Call (.Attribute o "items" apos) [] [] cpos) body [] pos) D' σ H := by
   intro pins1 s1 I1
   refine (ps_for (k.pass I0.ok.frames) k.calm (pi_itms a0m hbase hline) a54 a1n hs).to ?_ pins1 s1 I1
   refine (selfE.frzs (ho.run F Γ M σ H _ f0 g m h)).mono fun v H1 zz9 => ?_
   obtain ⟨⟨d, F1, M1, s1, m1, r1, q1⟩, hz⟩ := zz9
   obtain ⟨p, rfl⟩ : ∃ p, d = .obj p := by
     cases d <;> first | exact q1.elim | exact ⟨_, rfl⟩
   cases r1
   try dsimp only at q1
   split at q1
   . rename_i kvs hp
     obtain ⟨u, e1, ro⟩ := m1.mem _ _ hp
     obtain ⟨ws, rfl, pf⟩ := ro.isD
     have hl := pf.length
     have h0 : ∀ o u, X.H₀ p ≠ some (.frz o u) := fun o u z => by
       have := hz p o u z
       rw [e1] at this; cases this
     refine ⟨.inr (.inr (.inl ⟨rfl, .inl ⟨ws, e1⟩⟩)), p, ws, rfl, rfl, .inl e1, fun vw hvw => ⟨p, ws, vw, rfl, a0p, ?_, fun ob => ?_⟩⟩
     . rw [a0l (fun z => by rw [z, hvw] at e1; cases e1)]; exact e1
     . obtain ⟨W, w0, turn⟩ := q1 (.frz ob (.dK ws))
       have m2 := (m1.more (u := .ext (viewφ "dict_items" vw p)) hvw).lie (u := .frz ob (.dK ws)) hp
       refine ⟨fun i n σ' H' => n = kvs.length - i /\ i <= kvs.length /\ ∃ F' Γ' M', Same F1 F' /\ AG X.K F' Γ' σ' /\ AM X.K F' M' H' /\ W i Γ' M', ⟨kvs.length, rfl, Nat.zero_le _, F1, Γ, _, .refl _, g.up s1, m2, w0⟩, ?_⟩
       rintro i n σ3 H3 ⟨rfl, hle, F3, Γ3, M3, s3, g3, m3, w3⟩
       obtain ⟨hh, w3⟩ := turn i Γ3 M3 w3
       have hH : H3 p = some (.frz ob (.dK ws)) := by
         obtain ⟨u', e4, r4⟩ := m3.mem _ _ hh
         rw [e4]; exact congrArg some r4
       by_cases hlt : i < kvs.length
       . rw [if_pos hlt] at w3
         refine .inr ⟨⟨by rw [hl]; exact hlt, hH⟩, PQg X.K F1 (W (i + 1)), fun σ' H' ⟨F', Γ', M', s', g', m', w'⟩ => ⟨kvs.length - (i + 1), by omega, rfl, hlt, F', Γ', M', s', g', m', w'⟩, fun x H' y => ?_⟩
         obtain ⟨T, kk', v, hT, e, rfl, rfl⟩ := y
         obtain ⟨d, e2, rd⟩ := pf_at pf e
         have s4 := a1l (u := .tup [kV kk', v]) (m3.fF hT)
         have r4 : RD X.K (upd F3 T (.tup [kV kk', v])) (.ref T) (itemAt kvs i) := by
           unfold itemAt
           rw [e2]
           exact .tup a0p (.cons (key_of' kk') (.cons (rd.up (s3.trans s4)) .nil))
         refine (hg.run _ Γ3 M3 σ3 _ _ _ _ (f0.trans (s1.trans (s3.trans s4))) (g3.up s4) (m3.frz hT) r4 w3).mono fun σ5 H5 zz9 => ?_
         obtain ⟨F5, Γ5, M5, s5, g5, m5, q5⟩ := zz9
         have sx := s3.trans (s4.trans s5)
         have nxt : ∀ σ' H', PQg X.K F5 (fun Γ' M' => M' p = some (.raw (.frz ob (.dK ws))) /\ E.nx Γ' (put M' p (.dic kvs))) σ' H' -> D'.nx σ' H' := fun σ' H' ⟨F', Γ', M', s', g', m', hp', q'⟩ => ⟨F1, F', Γ', M', p, kvs, ws, ob, s1, sx.trans s', pf, h0, g', m', hp', q'⟩
         exact (hb.run F5 Γ5 M5 σ5 H5 _ (f0.trans (s1.trans sx)) g5 m5 q5).mono ⟨fun _ _ z => PQg.dn sx z, fun _ _ z => PQ.dn (s1.trans sx) z, nxt, fun _ _ z => PQg.dn sx z⟩
       . rw [if_neg hlt] at w3
         exact .inl ⟨⟨by omega, hH⟩, F1, F3, Γ3, M3, p, kvs, ws, ob, s1, s3, pf, h0, g3, m3, w3.1, w3.2⟩
   . exact q1.elim
 refine thn (main pins0 s0 I0) fun f s' q => ?_
 cases f with
 | next =>
   obtain ⟨σ', H', I, F1, F', Γ', M', p, kvs, ws, ob, e1, e2, pf, h0, g', m', hp, q⟩ := q
   obtain ⟨u, e3, ro⟩ := m'.mem _ _ hp
   have ro : u = .frz ob (.dK ws) := ro
   subst ro
   exact ⟨σ', upd H' p (.dK ws), I.thaw e3 h0, F', Γ', _, e1.trans e2, g', m'.set hp (u := .dK ws) (o' := .dic kvs) (pf.up e2), q⟩
 | brk => exact q
 | cont => exact q
 | ret u => exact q
end
section
variable {X : Cx} {F0 : Hp} {tg l : Expr} {tl : AE} {pos : Pos}
def aForH (a : Addr) (tl : AE) (gt : AGt) (tb : AS) : AS := fun E Γ M => tl Γ M fun d M1 => match d with
 | .lst ds => LoopP ⟨ds.length, fun i => ds.getD i .non, fun M => ∃ cls, M a = some (.exc cls)⟩ gt tb E Γ M1
 | _ => False
theorem sForH {a : Addr} {body : List Stmt} {gt : AGt} {tb : AS} (hp : PassesOwn (model X.prog X.w) X.A X.env X.xe) (hh : X.A.handled = some (.ref a)) (hl : PEA X F0 l tl) (hg : PGA X F0 tg gt) (hb : PSsA X F0 body tb)
   (hs : ∀ x, foldedSetIterable l X.env x = pure x := by intro _; rfl) : PSA X F0 (.For tg l body [] pos) (aForH a tl gt tb) := by
 refine ⟨?_⟩
 intro F Γ M σ H E f0 g m h
 refine (ps_forH hp hh a0m a54 a1n hs).to ?_
 refine (hl.run F Γ M σ H _ f0 g m h).mono fun v H1 zz9 => ?_
 obtain ⟨d, F1, M1, s1, m1, r1, q1⟩ := zz9
 obtain ⟨ds, rfl⟩ : ∃ ds, d = .lst ds := by
   cases d <;> first | exact q1.elim | exact ⟨_, rfl⟩
 try dsimp only at q1
 cases r1 with
 | @lst p vs _ e rr =>
   obtain ⟨W, w0, turn⟩ := q1
   have hlen := rr.length
   refine ⟨p, vs, rfl, .inl (.inl (m1.sub _ _ e)), fun i n σ' H' => n = ds.length - i /\ i <= ds.length /\ ∃ F' Γ' M', Same F1 F' /\ AG X.K F' Γ' σ' /\ AM X.K F' M' H' /\ W i Γ' M', ⟨ds.length, rfl, Nat.zero_le _, F1, Γ, M1, .refl _, g.up s1, m1, w0⟩, ?_⟩
   rintro i n σ3 H3 ⟨rfl, hle, F3, Γ3, M3, s3, g3, m3, w3⟩
   obtain ⟨⟨cls, ha⟩, w3⟩ := turn i Γ3 M3 w3
   obtain ⟨u, e4, ro⟩ := m3.mem _ _ ha
   obtain rfl := ro.isX
   refine ⟨.inl (.inl (m3.sub _ _ (s3 _ _ e))), ⟨_, e4⟩, ?_⟩
   by_cases hlt : i < ds.length
   . have w3 := (if_pos hlt) ▸ w3
     obtain ⟨x, hx, rx⟩ := rr.get (i := i) (d := ds[i]) (by simp [hlt])
     have e5 : ds.getD i .non = ds[i] := by simp [List.getD, List.getElem?_eq_getElem hlt]
     refine .inr ⟨x, hx, PQg X.K F1 (W (i + 1)), fun σ' H' ⟨F', Γ', M', s', g', m', w'⟩ => ⟨ds.length - (i + 1), by omega, rfl, hlt, F', Γ', M', s', g', m', w'⟩, ?_⟩
     refine (hg.run F3 Γ3 M3 σ3 H3 x _ _ (f0.trans (s1.trans s3)) g3 m3 (by show RD X.K F3 x (ds.getD i .non); rw [e5]; exact rx.up s3) w3).mono fun σ5 H5 zz9 => ?_
     obtain ⟨F5, Γ5, M5, s5, g5, m5, q5⟩ := zz9
     have sx := s3.trans s5
     exact (hb.run F5 Γ5 M5 σ5 H5 _ (f0.trans (s1.trans sx)) g5 m5 q5).mono ⟨fun _ _ z => PQg.dn sx z, fun _ _ z => PQ.dn (s1.trans sx) z, fun _ _ z => PQg.dn (s1.trans sx) z, fun _ _ z => PQg.dn sx z⟩
   . have w3 := (if_neg hlt) ▸ w3
     exact .inl ⟨by omega, F3, Γ3, M3, s1.trans s3, g3, m3, w3⟩
end
end L2
namespace K6
open PySem PySem.Spec PySem.Calls PyProof.Rows L2
local macro_rules
 | `(tactic| simp! only [$xs,*] $[$l]?) => `(tactic| simp only [aYes, Bool.and_self, at0, at1, at2, at3, aSeq, aNext, aIf, aFor, iaR1, iaR2, iaR3, iaS, iaL, gaN, aSl, aPart, aNoPart, aT, aOp, aV, aC, aRet, aRetN, aTup, aLst, aLstM, a68, aNil, aAnd, aOr, aNot, aAndV, aOrV, aNotV, aSet, aAsg, b0y, b2x, aFun, aUn, oAdd, addF, addC, oI, oIc, b5f, eqq_str, eqq_bl, neq_int, b4a, neq_bl, oIsN, b41, oNeg, oLen, lenF, lenC, oIx, ixF, ixC, oIn, inB, oSl, slF, slC, Option.bind_some, Option.map_some, true_and, L2.dq, L2.dr, L2.dl, L2.dd, a11, a08, a2k, keyD, aFldC, aDPut, oDIn, aDGet, aDPop, aDGet1, aSetF, aDNew, aRaise, b5v, oCat, oCatM, a48, List.map_cons, List.map_nil, List.length_cons, List.length_nil, List.replicate, List.cons_append, List.nil_append, List.getElem?_cons_zero, List.getElem?_cons_succ, List.set_cons_zero, List.set_cons_succ, Nat.reduceAdd, Nat.reduceSub, if_true, Bool.false_eq_true, if_false, $xs,*] $[$l]?)
noncomputable def letters : List Nat := ("abcdefghijklmnopqrstuvwxyz" : Str).cps.toList
noncomputable def a2z (x : Str) : Bool := !(decide (x.length < 1) || decide (8 < x.length)) && x.cps.toList.all fun c => decide (c ∈ letters)
structure TS where
 ws : List (Str × Int)
 js : List (Int × Str × Str × Str)
 nx : Int
noncomputable def dW (ws : List (Str × Int)) : List (Key × D) := ws.map fun w => (Sum.inr w.1, .int w.2)
noncomputable def eJ (j : Int × Str × Str × Str) : D := .tup [.int j.1, .str j.2.1, .str j.2.2.1, .str j.2.2.2]
noncomputable def eW (w : Str × Int) : D := .tup [.str w.1, .int w.2]
noncomputable def dJ (js : List (Int × Str × Str × Str)) : List (Key × D) := js.map fun j => (Sum.inl j.1, eJ j)
noncomputable def fsT (d1 d2 : Addr) (n : Int) : List (Str × D) := [("teeth_of", .obj d1), ("join_of", .obj d2), ("next_number", .int n)]
structure Tr (C : Addr) (M : Mem) (p d1 d2 : Addr) (S : TS) : Prop where
 self : M p = some (.ins C (fsT d1 d2 S.nx))
 teeth : M d1 = some (.dic (dW S.ws))
 join : M d2 = some (.dic (dJ S.js))
 ne : d1 ≠ d2
 lt : ∀ j ∈ S.js, j.1 < S.nx
inductive Rk where
 | noName | twice | noTeeth | full | noWheel | noJoin
noncomputable def TS.has (S : TS) (n : Str) : Bool := S.ws.any fun w => decide (w.1 = n)
noncomputable def refW (S : TS) (n : Str) (t : Int) : Option Rk :=
 if a2z n = false then some .noName else if S.has n = true then some .twice else if t < 1 \/ 1000000000 <= t then some .noTeeth else if 100 <= S.ws.length then some .full else none
noncomputable def a3j (k : Str) : Bool := decide (k = "mesh") || decide (k = "pin") || decide (k = "band") || decide (k = "cross")
noncomputable def refJ (S : TS) (k a b : Str) : Option Rk :=
 if a3j k = false then some .noJoin else if S.has a = false \/ S.has b = false then some .noWheel else if a = b then some .noJoin else if 200 <= S.js.length then some .full else none
noncomputable def TS.hasJ (S : TS) (n : Int) : Bool := S.js.any fun j => decide (j.1 = n)
noncomputable def refL (S : TS) (n : Int) : Option Rk := if S.hasJ n = false then some .noJoin else none
theorem b0m (ws : List (Str × Int)) (n : Str) : (getK (dW ws) (Sum.inr n)).isSome = ws.any fun w => decide (w.1 = n) := by
 induction ws with
 | nil => rfl
 | cons w ws ih =>
   unfold dW getK at ih |-
   simp only [List.map_cons, List.find?_cons, List.any_cons, Sum.inr.injEq]
   by_cases h : w.1 = n
   . simp [h]
   . simp only [h, decide_false, Bool.false_or]; exact ih
theorem getK_dJ (js : List (Int × Str × Str × Str)) (n : Int) : (getK (dJ js) (Sum.inl n)).isSome = js.any fun j => decide (j.1 = n) := by
 induction js with
 | nil => rfl
 | cons w ws ih =>
   unfold dJ getK at ih |-
   simp only [List.map_cons, List.find?_cons, List.any_cons, Sum.inl.injEq]
   by_cases h : w.1 = n
   . simp [h]
   . simp only [h, decide_false, Bool.false_or]; exact ih
theorem a4a {kvs : List (Key × D)} {k : Key} {v : D} (h : (getK kvs k).isSome = false) : a5e kvs k v = kvs ++ [(k, v)] := by
 unfold a5e; rw [h]; rfl
inductive Deed where
 | wheel (n : Str) (t : Int) | join (k a b : Str) | less (n : Int)
def Deed.ok : Deed -> Prop
 | .wheel n _ => n.length <= 1000
 | _ => True
noncomputable def wordOf : Rk -> Str
 | .noName => "no name" | .twice => "twice" | .noTeeth => "no teeth" | .full => "full" | .noWheel => "no wheel" | .noJoin => "no join"
noncomputable def refD (S : TS) : Deed -> Option Rk
 | .wheel n t => refW S n t
 | .join k a b => refJ S k a b
 | .less n => refL S n
noncomputable def gives (S : TS) : Deed -> D
 | .join _ _ _ => .int S.nx
 | _ => .non
noncomputable def behind (S : TS) : Deed -> TS
 | .wheel n t => { S with ws := S.ws ++ [(n, t)] }
 | .join k a b => { S with js := S.js ++ [(S.nx, k, a, b)], nx := S.nx + 1 }
 | .less n => { S with js := S.js.filter fun j => decide (j.1 ≠ n) }
noncomputable def due (S : TS) (d : Deed) : D := match refD S d with
 | some r => .tup [.str "refused", .str (wordOf r)]
 | none => .tup [.str "done", gives S d]
noncomputable abbrev Jn := Int × Str × Str × Str
noncomputable abbrev Ld := Int × Str × Str
noncomputable abbrev TT := List (Str × Option Ld)
noncomputable def a5f (here : Str) (j : Jn) : List Ld := (if j.2.2.1 = here then [(j.1, j.2.1, j.2.2.2)] else []) ++ (if j.2.2.2 = here then [(j.1, j.2.1, j.2.2.1)] else [])
noncomputable def lead (js : List Jn) (here : Str) : List Ld := js.flatMap (a5f here)
noncomputable def eL (l : Ld) : D := .tup [.int l.1, .str l.2.1, .str l.2.2]
noncomputable def names (t : TT) : List Str := t.map Prod.fst
noncomputable def eE : Option Ld -> D
 | none => .non
 | some l => eL l
noncomputable def encT (t : TT) : List (Key × D) := t.map fun e => (Sum.inr e.1, eE e.2)
noncomputable def ends (js : List Jn) : List Str := js.flatMap fun j => [j.2.2.1, j.2.2.2]
noncomputable def a30 (js : List Jn) (t : TT) : Nat := ((ends js).filter fun n => decide (n ∉ names t)).length
inductive Grown (js : List Jn) (start : Str) : TT -> Prop where
 | root : Grown js start [(start, none)]
 | more (t : TT) (n : Str) (e : Ld) (g : Grown js start t) (new : n ∉ names t) (old : e.2.2 ∈ names t) (by_ : (e.1, e.2.1, n) ∈ lead js e.2.2) : Grown js start (t ++ [(n, some e)])
def a2n (js : List Jn) (t : TT) : Prop := ∀ n ∈ names t, ∀ l ∈ lead js n, l.2.2 ∈ names t
inductive Reach (js : List Jn) (a : Str) : Str -> Prop where
 | refl : Reach js a a
 | step {b : Str} {l : Ld} (h : Reach js a b) (hl : l ∈ lead js b) : Reach js a l.2.2
inductive Way (js : List Jn) : Str -> List (Int × Str) -> Str -> Prop where
 | nil (a : Str) : Way js a [] a
 | cons {a b : Str} {l : Ld} {st : List (Int × Str)} (hl : l ∈ lead js a) (h : Way js l.2.2 st b) : Way js a ((l.1, l.2.2) :: st) b
theorem a1f (t : TT) (n : Str) (e : Option Ld) : names (t ++ [(n, e)]) = names t ++ [n] := by simp [names]
theorem b4n (here : Str) (j : Jn) : (a5f here j).length <= 2 := by
 unfold a5f; rw [List.length_append]
 split <;> split <;> simp
theorem b1r (js : List Jn) (here : Str) : (lead js here).length <= 2 * js.length := by
 induction js with
 | nil => simp [lead]
 | cons j js ih =>
   have := b4n here j
   unfold lead at ih |-
   rw [List.flatMap_cons, List.length_append, List.length_cons]; omega
theorem b4m {js : List Jn} {here : Str} {l : Ld} (h : l ∈ lead js here) : l.2.2 ∈ ends js := by
 unfold lead at h
 obtain ⟨j, hj, h⟩ := List.mem_flatMap.mp h
 unfold ends
 refine List.mem_flatMap.mpr ⟨j, hj, ?_⟩
 unfold a5f at h
 rcases List.mem_append.mp h with h | h
 . split at h
   . have : l = (j.1, j.2.1, j.2.2.2) := by simpa using h
     subst this; simp
   . cases h
 . split at h
   . have : l = (j.1, j.2.1, j.2.2.1) := by simpa using h
     subst this; simp
   . cases h
theorem b7e (js : List Jn) : (ends js).length = 2 * js.length := by
 induction js with
 | nil => rfl
 | cons j js ih =>
   unfold ends at ih |-
   rw [List.flatMap_cons, List.length_append, List.length_cons, ih]; simp; omega
theorem b0o {α : Type} {p q : α -> Bool} {l : List α} {x : α} (hx : x ∈ l) (hp : p x = true) (hq : q x = false) (h : ∀ y, q y = true -> p y = true) : (l.filter q).length + 1 <= (l.filter p).length := by
 induction l with
 | nil => cases hx
 | cons y l ih =>
   have all : ∀ l : List α, (l.filter q).length <= (l.filter p).length := by
     intro l
     induction l with
     | nil => exact Nat.le_refl _
     | cons z l ih2 =>
       rw [List.filter_cons, List.filter_cons]
       cases hz : q z with
       | true => rw [if_pos (h z hz), if_pos rfl, List.length_cons, List.length_cons]; omega
       | false =>
         rw [if_neg Bool.false_ne_true]
         split
         . rw [List.length_cons]; omega
         . exact ih2
   rw [List.filter_cons, List.filter_cons]
   rcases List.mem_cons.mp hx with rfl | hx
   . rw [if_pos hp, hq, if_neg Bool.false_ne_true, List.length_cons]
     have := all l; omega
   . have := ih hx
     cases hz : q y with
     | true => rw [if_pos (h y hz), if_pos rfl, List.length_cons, List.length_cons]; omega
     | false =>
       rw [if_neg Bool.false_ne_true]
       split
       . rw [List.length_cons]; omega
       . exact this
theorem a9s {js : List Jn} {t : TT} {n : Str} {e : Option Ld} (h : n ∈ ends js) (hn : n ∉ names t) : a30 js (t ++ [(n, e)]) + 1 <= a30 js t := by
 unfold a30
 refine b0o h (decide_eq_true hn) (decide_eq_false fun z => z ?_) fun y hy => ?_
 . rw [a1f]; simp
 . have hy := of_decide_eq_true hy
   rw [a1f] at hy
   exact decide_eq_true fun z => hy (List.mem_append_left _ z)
theorem Grown.nodup {js : List Jn} {s : Str} {t : TT} (g : Grown js s t) : (names t).Nodup := by
 induction g with
 | root => simp [names]
 | more t n e g new old by_ ih =>
   rw [a1f]
   rw [List.nodup_append]
   refine ⟨ih, by simp, fun a ha b hb => ?_⟩
   have : b = n := by simpa using hb
   subst this
   rintro rfl
   exact new ha
theorem Grown.start {js : List Jn} {s : Str} {t : TT} (g : Grown js s t) : s ∈ names t := by
 induction g with
 | root => simp [names]
 | more t n e g new old by_ ih => rw [a1f]; exact List.mem_append_left _ ih
theorem Grown.reach {js : List Jn} {s : Str} {t : TT} (g : Grown js s t) : ∀ n ∈ names t, Reach js s n := by
 induction g with
 | root => intro n hn; have : n = s := by simpa [names] using hn
           subst this; exact .refl
 | more t n e g new old by_ ih =>
   intro m hm
   rw [a1f] at hm
   rcases List.mem_append.mp hm with hm | hm
   . exact ih m hm
   . have : m = n := by simpa using hm
     subst this
     exact .step (l := (e.1, e.2.1, m)) (ih _ old) by_
theorem Grown.all {js : List Jn} {s : Str} {t : TT} (g : Grown js s t) (c : a2n js t) {n : Str} (h : Reach js s n) : n ∈ names t := by
 induction h with
 | refl => exact g.start
 | step h hl ih => exact c _ ih _ hl
theorem Grown.came {js : List Jn} {s : Str} {t : TT} (g : Grown js s t) {n : Str} (hn : n ∈ names t) (ne : n ≠ s) :
   ∃ t0 e t2, Grown js s t0 /\ t = t0 ++ (n, some e) :: t2 /\ n ∉ names t0 /\ e.2.2 ∈ names t0 /\ (e.1, e.2.1, n) ∈ lead js e.2.2 := by
 induction g with
 | root => exact absurd (by simpa [names] using hn) ne
 | more t m e g new old by_ ih =>
   rw [a1f] at hn
   rcases List.mem_append.mp hn with hn | hn
   . obtain ⟨t0, e0, t2, h1, h2, h3, h4, h5⟩ := ih hn
     exact ⟨t0, e0, t2 ++ [(m, some e)], h1, by rw [h2]; simp, h3, h4, h5⟩
   . have : n = m := by simpa using hn
     subst this
     exact ⟨t, e, [], g, rfl, new, old, by_⟩
theorem b47 (t0 t2 : TT) (n : Str) (e : Option Ld) (h : n ∉ names t0) : getK (encT (t0 ++ (n, e) :: t2)) (Sum.inr n) = some (eE e) := by
 induction t0 with
 | nil => unfold encT getK; simp
 | cons x t0 ih =>
   have hx : x.1 ≠ n := fun z => h (by simp [names, z])
   have ht : n ∉ names t0 := fun z => h (by unfold names at z |-; simp only [List.map_cons, List.mem_cons]; exact .inr z)
   have := ih ht
   unfold encT getK at this |-
   simp only [List.cons_append, List.map_cons, List.find?_cons, Sum.inr.injEq]
   rw [decide_eq_false hx]
   exact this
theorem a47 (t : TT) (n : Str) : (getK (encT t) (Sum.inr n)).isSome = decide (n ∈ names t) := by
 induction t with
 | nil => rfl
 | cons x t ih =>
   unfold encT getK names at ih |-
   simp only [List.map_cons, List.find?_cons, List.mem_cons, Sum.inr.injEq]
   by_cases h : x.1 = n
   . simp [h]
   . rw [decide_eq_false h]
     have h' : ¬ n = x.1 := fun z => h z.symm
     simp only [h', false_or]
     exact ih
theorem b3p {t : TT} {n : Str} {l : Ld} (h : n ∉ names t) : a5e (encT t) (Sum.inr n) (eL l) = encT (t ++ [(n, some l)]) := by
 rw [a4a (by rw [a47, decide_eq_false h])]
 simp [encT, eE]
noncomputable def chF (s k : Nat) : Nat := 97 + (k / 26 + s) % 26
noncomputable def chL (s k : Nat) : Nat := 97 + (k + s) % 26
noncomputable def a1o (s k : Nat) : List Nat :=
 if s % 3 = 0 then (if k < 26 then [chL s k] else [chF s k, chL s k]) else if s % 3 = 1 then List.replicate (s % 7) 97 ++ [chF s k, chL s k] else [chF s k, chL s k] ++ List.replicate ((s + k) % 7) 113
noncomputable def a1s (s k : Nat) : Str := ⟨(a1o s k).toArray⟩
theorem b20 {s k k' : Nat} (h : k < 676) (h' : k' < 676) (e : a1s s k = a1s s k') : k = k' := by
 have e : a1o s k = a1o s k' := by
   have := congrArg (fun x : Str => x.cps.toList) e
   exact this
 have both : chF s k = chF s k' -> chL s k = chL s k' -> k = k' := fun e1 e2 => by unfold chF at e1; unfold chL at e2; omega
 unfold a1o at e
 split at e
 . split at e <;> split at e
   . have := (List.cons.inj e).1
     unfold chL at this; omega
   . simp at e
   . simp at e
   . obtain ⟨e1, e2⟩ := List.cons.inj e
     exact both e1 (List.cons.inj e2).1
 . split at e
   . have := List.append_cancel_left e
     obtain ⟨e1, e2⟩ := List.cons.inj this
     exact both e1 (List.cons.inj e2).1
   . obtain ⟨e1, e2⟩ := List.cons.inj e
     exact both e1 (List.cons.inj e2).1
theorem b4k {c : Nat} (h1 : 97 <= c) (h2 : c < 123) : c ∈ letters := by
 have : ∀ i, i < 26 -> 97 + i ∈ letters := by decide +kernel
 have := this (c - 97) (by omega)
 rwa [show 97 + (c - 97) = c by omega] at this
theorem a3d {s k c : Nat} (h : c ∈ a1o s k) : 97 <= c /\ c < 123 := by
 have l : 97 <= chL s k /\ chL s k < 123 := by unfold chL; omega
 have f : 97 <= chF s k /\ chF s k < 123 := by unfold chF; omega
 have two : c ∈ [chF s k, chL s k] -> 97 <= c /\ c < 123 := fun h => by
   rcases List.mem_cons.mp h with h | h
   . rw [h]; exact f
   . rw [List.mem_singleton.mp h]; exact l
 unfold a1o at h
 split at h
 . split at h
   . rw [List.mem_singleton.mp h]; exact l
   . exact two h
 . split at h
   . rcases List.mem_append.mp h with h | h
     . rw [(List.mem_replicate.mp h).2]; omega
     . exact two h
   . rcases List.mem_append.mp h with h | h
     . exact two h
     . rw [(List.mem_replicate.mp h).2]; omega
theorem a4l (s k : Nat) : 1 <= (a1o s k).length /\ (a1o s k).length <= 8 := by
 unfold a1o
 split
 . split <;> simp
 . split <;> simp <;> omega
theorem a9i (s k : Nat) : a2z (a1s s k) = true := by
 have hl := a4l s k
 have e : (a1s s k).length = (a1o s k).length := rfl
 unfold a2z
 rw [decide_eq_false (by rw [e]; omega), decide_eq_false (by rw [e]; omega)]
 show (a1o s k).all _ = true
 rw [List.all_eq_true]
 intro c hc
 have := a3d hc
 exact decide_eq_true (b4k this.1 this.2)
noncomputable def noNames : List Str := ["", "zzzzzzzz", "A", "a b"]
theorem b51 (s k : Nat) : a1s s k ∉ noNames := by
 intro h
 have hl := a4l s k
 have key : ∀ x : Str, a1s s k = x -> a1o s k = x.cps.toList := fun x e => congrArg (fun x : Str => x.cps.toList) e
 simp only [noNames, List.mem_cons, List.not_mem_nil, or_false] at h
 rcases h with h | h | h | h
 . have e := key _ h
   have e2 : ("" : Str).cps.toList = [] := by decide +kernel
   rw [e2] at e; rw [e] at hl; simp at hl
 . have e := key _ h
   have e2 : ("zzzzzzzz" : Str).cps.toList = List.replicate 8 122 := by decide +kernel
   rw [e2] at e
   unfold a1o at e
   split at e
   . split at e
     . have := congrArg List.length e; simp at this
     . have := congrArg List.length e; simp at this
   . split at e
     . have hlen := congrArg List.length e
       simp at hlen
       have : (97 : Nat) ∈ List.replicate 8 122 := by
         rw [<- e]
         exact List.mem_append_left _ (List.mem_replicate.mpr ⟨by omega, rfl⟩)
       simp at this
     . have hlen := congrArg List.length e
       simp at hlen
       have : (113 : Nat) ∈ List.replicate 8 122 := by
         rw [<- e]
         exact List.mem_append_right _ (List.mem_replicate.mpr ⟨by omega, rfl⟩)
       simp at this
 . have e := key _ h
   have e2 : ("A" : Str).cps.toList = [65] := by decide +kernel
   rw [e2] at e
   have := a3d (s := s) (k := k) (c := 65) (by rw [e]; simp)
   omega
 . have e := key _ h
   have e2 : ("a b" : Str).cps.toList = [97, 32, 98] := by decide +kernel
   rw [e2] at e
   have := a3d (s := s) (k := k) (c := 32) (by rw [e]; simp)
   omega
theorem a8m (s : Nat) {n : Nat} (h : n <= 676) : ((List.range n).map (a1s s)).Nodup := by
 refine List.pairwise_map.mpr (List.Pairwise.imp_of_mem (fun {a b} ha hb hab e => ?_) List.pairwise_lt_range)
 have ha := List.mem_range.mp ha
 have hb := List.mem_range.mp hb
 have := b20 (by omega) (by omega) e
 omega
noncomputable abbrev En := Int × Nat × Nat
inductive Hung (es : List En) (a : Nat) : Nat -> Prop where
 | refl : Hung es a a
 | to {e : En} (h : Hung es a e.2.1) (he : e ∈ es) : Hung es a e.2.2
 | fro {e : En} (h : Hung es a e.2.2) (he : e ∈ es) : Hung es a e.2.1
noncomputable def at_ (ns : List Str) (i : Nat) : Str := ns.getD i ""
noncomputable def jE (j : Jn) : Int × Str × Str := (j.1, j.2.2.1, j.2.2.2)
noncomputable def eN (ns : List Str) (e : En) : Int × Str × Str := (e.1, at_ ns e.2.1, at_ ns e.2.2)
structure Net (ns : List Str) (js : List Jn) (es : List En) : Prop where
 same : js.map jE = es.map (eN ns)
 inn : ∀ e ∈ es, e.2.1 < ns.length /\ e.2.2 < ns.length /\ e.2.1 ≠ e.2.2
 nd : ns.Nodup
 keys : (es.map Prod.fst).Nodup
theorem a4k {ns : List Str} (nd : ns.Nodup) {i j : Nat} (hi : i < ns.length) (hj : j < ns.length) (e : at_ ns i = at_ ns j) : i = j := by
 unfold at_ at e
 rw [List.getD_eq_getElem?_getD, List.getD_eq_getElem?_getD, List.getElem?_eq_getElem hi, List.getElem?_eq_getElem hj] at e
 have e : ns[i] = ns[j] := e
 have P := List.pairwise_iff_getElem.mp nd
 rcases Nat.lt_trichotomy i j with h | h | h
 . exact absurd e (P i j hi hj h)
 . exact h
 . exact absurd e.symm (P j i hj hi h)
theorem b1m {js : List Jn} {x : Str} {l : Ld} (h : l ∈ lead js x) : ∃ j ∈ js, j.1 = l.1 /\ ((j.2.2.1 = x /\ j.2.2.2 = l.2.2) \/ (j.2.2.2 = x /\ j.2.2.1 = l.2.2)) := by
 unfold lead at h
 obtain ⟨j, hj, h⟩ := List.mem_flatMap.mp h
 refine ⟨j, hj, ?_⟩
 unfold a5f at h
 rcases List.mem_append.mp h with h | h <;> split at h
 . rename_i e
   rw [List.mem_singleton.mp h]; exact ⟨rfl, .inl ⟨e, rfl⟩⟩
 . cases h
 . rename_i e
   rw [List.mem_singleton.mp h]; exact ⟨rfl, .inr ⟨e, rfl⟩⟩
 . cases h
theorem Net.ofLead {ns : List Str} {js : List Jn} {es : List En} (N : Net ns js es) {a : Nat} (ha : a < ns.length) {l : Ld} (h : l ∈ lead js (at_ ns a)) :
   ∃ e ∈ es, e.1 = l.1 /\ ((e.2.1 = a /\ at_ ns e.2.2 = l.2.2) \/ (e.2.2 = a /\ at_ ns e.2.1 = l.2.2)) := by
 obtain ⟨j, hj, h1, h2⟩ := b1m h
 have hm : jE j ∈ es.map (eN ns) := by rw [<- N.same]; exact List.mem_map.mpr ⟨j, hj, rfl⟩
 obtain ⟨e, he, e1⟩ := List.mem_map.mp hm
 unfold eN jE at e1
 simp only [Prod.mk.injEq] at e1
 obtain ⟨e1, e2, e3⟩ := e1
 obtain ⟨i1, i2, _⟩ := N.inn e he
 refine ⟨e, he, by rw [e1, h1], ?_⟩
 rcases h2 with ⟨h2, h3⟩ | ⟨h2, h3⟩
 . exact .inl ⟨a4k N.nd i1 ha (by rw [e2, h2]), by rw [e3, h3]⟩
 . exact .inr ⟨a4k N.nd i2 ha (by rw [e3, h2]), by rw [e2, h3]⟩
theorem Net.toLead {ns : List Str} {js : List Jn} {es : List En} (N : Net ns js es) {e : En} (h : e ∈ es) : (∃ k, (e.1, k, at_ ns e.2.2) ∈ lead js (at_ ns e.2.1)) /\ ∃ k, (e.1, k, at_ ns e.2.1) ∈ lead js (at_ ns e.2.2) := by
 have hm : eN ns e ∈ js.map jE := by rw [N.same]; exact List.mem_map.mpr ⟨e, h, rfl⟩
 obtain ⟨j, hj, e1⟩ := List.mem_map.mp hm
 unfold eN jE at e1
 simp only [Prod.mk.injEq] at e1
 obtain ⟨e1, e2, e3⟩ := e1
 refine ⟨⟨j.2.1, List.mem_flatMap.mpr ⟨j, hj, ?_⟩⟩, ⟨j.2.1, List.mem_flatMap.mpr ⟨j, hj, ?_⟩⟩⟩
 . unfold a5f
   rw [if_pos e2]
   refine List.mem_append_left _ ?_
   rw [e1, e3]; exact List.mem_singleton.mpr rfl
 . unfold a5f
   rw [if_pos e3]
   refine List.mem_append_right _ ?_
   rw [e1, e2]; exact List.mem_singleton.mpr rfl
theorem Net.hung {ns : List Str} {js : List Jn} {es : List En} (N : Net ns js es) {a : Nat} (ha : a < ns.length) {x : Str} (h : Reach js (at_ ns a) x) : ∃ b, b < ns.length /\ x = at_ ns b /\ Hung es a b := by
 induction h with
 | refl => exact ⟨a, ha, rfl, .refl⟩
 | step h hl ih =>
   obtain ⟨b, hb, rfl, hh⟩ := ih
   obtain ⟨e, he, _, h2⟩ := N.ofLead hb hl
   obtain ⟨i1, i2, _⟩ := N.inn e he
   rcases h2 with ⟨rfl, h3⟩ | ⟨rfl, h3⟩
   . exact ⟨_, i2, h3.symm, .to hh he⟩
   . exact ⟨_, i1, h3.symm, .fro hh he⟩
theorem Net.reach {ns : List Str} {js : List Jn} {es : List En} (N : Net ns js es) {a b : Nat} (h : Hung es a b) : Reach js (at_ ns a) (at_ ns b) := by
 induction h with
 | refl => exact .refl
 | to h he ih => obtain ⟨⟨k, hk⟩, _⟩ := N.toLead he; exact .step ih hk
 | fro h he ih => obtain ⟨_, ⟨k, hk⟩⟩ := N.toLead he; exact .step ih hk
theorem Net.reach_iff {ns : List Str} {js : List Jn} {es : List En} (N : Net ns js es) {a b : Nat} (ha : a < ns.length) (hb : b < ns.length) : Reach js (at_ ns a) (at_ ns b) ↔ Hung es a b := by
 refine ⟨fun h => ?_, N.reach⟩
 obtain ⟨c, hc, e, hh⟩ := N.hung ha h
 rw [a4k N.nd hb hc e]; exact hh
theorem Net.more {ns : List Str} {js : List Jn} {es : List En} (N : Net ns js es) {n : Int} {k : Str} {a b : Nat} (ha : a < ns.length) (hb : b < ns.length) (ne : a ≠ b) (hn : ∀ j ∈ js, j.1 < n) : Net ns (js ++ [(n, k, at_ ns a, at_ ns b)]) (es ++ [(n, a, b)]) := by
 refine ⟨?_, fun e he => ?_, N.nd, ?_⟩
 . rw [List.map_append, List.map_append, N.same]; rfl
 . rcases List.mem_append.mp he with he | he
   . exact N.inn e he
   . rw [List.mem_singleton.mp he]; exact ⟨ha, hb, ne⟩
 . rw [List.map_append, List.nodup_append]
   refine ⟨N.keys, by simp, fun x hx y hy => ?_⟩
   obtain ⟨e, he, rfl⟩ := List.mem_map.mp hx
   have hy : y = n := by simpa using hy
   have hm : eN ns e ∈ js.map jE := by rw [N.same]; exact List.mem_map.mpr ⟨e, he, rfl⟩
   obtain ⟨j, hj, e1⟩ := List.mem_map.mp hm
   have := hn j hj
   have e1 : j.1 = e.1 := congrArg Prod.fst e1
   omega
theorem Net.keyOf {ns : List Str} {js : List Jn} {es : List En} (N : Net ns js es) : js.map Prod.fst = es.map Prod.fst := by
 have := congrArg (List.map Prod.fst) N.same
 rw [List.map_map, List.map_map] at this
 exact this
theorem Net.len {ns : List Str} {js : List Jn} {es : List En} (N : Net ns js es) : js.length = es.length := by
 have := congrArg List.length N.same
 simpa using this
noncomputable def a2j (bs : List Bool) : Nat := (bs.filter fun b => !b).length
theorem a9a {bs : List Bool} {i : Nat} (h : i < bs.length) : a2j (bs.set i true) + (if bs[i] = true then 0 else 1) = a2j bs := by
 unfold a2j
 induction bs generalizing i with
 | nil => cases h
 | cons b bs ih =>
   cases i with
   | zero => cases b <;> simp
   | succ i =>
     have := ih (i := i) (by simpa using h)
     cases b <;> simp [List.filter_cons] at this |- <;> omega
theorem b4f {bs : List Bool} {i j : Nat} (hi : i < bs.length) (hj : j < bs.length) (h : bs.getD i false ≠ bs.getD j false) : a2j ((bs.set i true).set j true) + 1 = a2j bs := by
 have gi : bs.getD i false = bs[i] := by simp [List.getD, List.getElem?_eq_getElem hi]
 have gj : bs.getD j false = bs[j] := by simp [List.getD, List.getElem?_eq_getElem hj]
 rw [gi, gj] at h
 have hij : i ≠ j := by rintro rfl; exact h rfl
 have l1 := a9a hi
 have hj' : j < (bs.set i true).length := by simpa using hj
 have l2 := a9a hj'
 have e : (bs.set i true)[j] = bs[j] := List.getElem_set_ne hij hj'
 rw [e] at l2
 cases h1 : bs[i] <;> cases h2 : bs[j]
 . rw [h1, h2] at h; exact absurd rfl h
 . rw [h1] at l1; rw [h2] at l2; simp at l1 l2; omega
 . rw [h1] at l1; rw [h2] at l2; simp at l1 l2; omega
 . rw [h1, h2] at h; exact absurd rfl h
structure Hg (es : List En) (a n : Nat) (bs : List Bool) : Prop where
 len : bs.length = n
 sound : ∀ b, bs.getD b false = true -> Hung es a b
 first : bs.getD a false = true
theorem b48 {bs : List Bool} {i j b : Nat} (h : ((bs.set i true).set j true).getD b false = true) : b = i \/ b = j \/ bs.getD b false = true := by
 by_cases h1 : b = i
 . exact .inl h1
 by_cases h2 : b = j
 . exact .inr (.inl h2)
 refine .inr (.inr ?_)
 simp only [List.getD_eq_getElem?_getD] at h |-
 rw [List.getElem?_set_ne (fun z => h2 z.symm), List.getElem?_set_ne (fun z => h1 z.symm)] at h
 exact h
theorem b3f {bs : List Bool} {i j b : Nat} (hb : bs.getD b false = true) : ((bs.set i true).set j true).getD b false = true := by
 have one : ∀ (bs : List Bool) (i : Nat), bs.getD b false = true -> (bs.set i true).getD b false = true := by
   intro bs i hb
   simp only [List.getD_eq_getElem?_getD] at hb |-
   by_cases h : i = b
   . subst h
     cases hx : bs[i]? with
     | none => rw [hx] at hb; cases hb
     | some x =>
       have : i < bs.length := by
         by_cases hlt : i < bs.length
         . exact hlt
         . rw [List.getElem?_eq_none (by omega)] at hx; cases hx
       rw [List.getElem?_set_self this]; rfl
   . rw [List.getElem?_set_ne h]; exact hb
 exact one _ j (one _ i hb)
theorem Hg.edge {es : List En} {a n : Nat} {bs : List Bool} (h : Hg es a n bs) {e : En} (he : e ∈ es) (i1 : e.2.1 < n) (i2 : e.2.2 < n) (d : bs.getD e.2.1 false ≠ bs.getD e.2.2 false) :
   Hg es a n ((bs.set e.2.1 true).set e.2.2 true) /\ a2j ((bs.set e.2.1 true).set e.2.2 true) + 1 = a2j bs := by
 have i1' : e.2.1 < bs.length := by rw [h.len]; exact i1
 have i2' : e.2.2 < bs.length := by rw [h.len]; exact i2
 have both : Hung es a e.2.1 /\ Hung es a e.2.2 := by
   cases h1 : bs.getD e.2.1 false with
   | true => exact ⟨h.sound _ h1, .to (h.sound _ h1) he⟩
   | false =>
     have h2 : bs.getD e.2.2 false = true := by
       cases h2 : bs.getD e.2.2 false with
       | true => rfl
       | false => rw [h1, h2] at d; exact absurd rfl d
     exact ⟨.fro (h.sound _ h2) he, h.sound _ h2⟩
 refine ⟨⟨by simp [h.len], fun b hb => ?_, b3f h.first⟩, b4f i1' i2' d⟩
 rcases b48 hb with rfl | rfl | hb
 . exact both.1
 . exact both.2
 . exact h.sound b hb
theorem Hg.all {es : List En} {a n : Nat} {bs : List Bool} (h : Hg es a n bs) (cl : ∀ e ∈ es, bs.getD e.2.1 false = bs.getD e.2.2 false) {b : Nat} (hb : Hung es a b) : bs.getD b false = true := by
 induction hb with
 | refl => exact h.first
 | to _ he ih => rw [<- cl _ he]; exact ih
 | fro _ he ih => rw [cl _ he]; exact ih
structure Rw (s : Nat) (ws : List (Str × Int)) (js : List (Str × Nat × Nat)) : Prop where
 names : ws.map Prod.fst = (List.range ws.length).map (a1s s)
 teeth : ∀ w ∈ ws, 1 <= w.2 /\ w.2 < 1000000000
 kinds : ∀ j ∈ js, a3j j.1 = true /\ j.2.1 < ws.length /\ j.2.2 < ws.length /\ j.2.1 ≠ j.2.2
theorem Rw.wheel {s : Nat} {ws : List (Str × Int)} {js : List (Str × Nat × Nat)} (r : Rw s ws js) {t : Int} (h1 : 1 <= t) (h2 : t < 1000000000) : Rw s (ws ++ [(a1s s ws.length, t)]) js := by
 refine ⟨?_, fun w hw => ?_, fun j hj => ?_⟩
 . rw [List.map_append, r.names, List.length_append]
   simp [List.range_succ]
 . rcases List.mem_append.mp hw with hw | hw
   . exact r.teeth w hw
   . rw [List.mem_singleton.mp hw]; exact ⟨h1, h2⟩
 . obtain ⟨a, b, c, d⟩ := r.kinds j hj
   rw [List.length_append]
   exact ⟨a, by omega, by omega, d⟩
theorem Rw.join {s : Nat} {ws : List (Str × Int)} {js : List (Str × Nat × Nat)} (r : Rw s ws js) {k : Str} {a b : Nat} (hk : a3j k = true) (ha : a < ws.length) (hb : b < ws.length) (ne : a ≠ b) : Rw s ws (js ++ [(k, a, b)]) := by
 refine ⟨r.names, r.teeth, fun j hj => ?_⟩
 rcases List.mem_append.mp hj with hj | hj
 . exact r.kinds j hj
 . rw [List.mem_singleton.mp hj]; exact ⟨hk, ha, hb, ne⟩
theorem Rw.nil (s : Nat) : Rw s [] [] := ⟨rfl, fun _ h => (List.not_mem_nil h).elim, fun _ h => (List.not_mem_nil h).elim⟩
theorem Rw.nodup {s : Nat} {ws : List (Str × Int)} {js : List (Str × Nat × Nat)} (r : Rw s ws js) (h : ws.length <= 676) : (ws.map Prod.fst).Nodup := by
 rw [r.names]; exact a8m s h
theorem Rw.name {s : Nat} {ws : List (Str × Int)} {js : List (Str × Nat × Nat)} (r : Rw s ws js) {x : Str} (h : x ∈ ws.map Prod.fst) : ∃ k, k < ws.length /\ x = a1s s k := by
 rw [r.names] at h
 obtain ⟨k, hk, rfl⟩ := List.mem_map.mp h
 exact ⟨k, List.mem_range.mp hk, rfl⟩
noncomputable def a8b (ns : List Str) (i : Nat) (j : Str × Nat × Nat) : Jn := ((i : Int), j.1, at_ ns j.2.1, at_ ns j.2.2)
noncomputable def a1i (ns : List Str) (js : List (Str × Nat × Nat)) : List Jn := js.mapIdx (a8b ns)
noncomputable def esRow (i : Nat) (j : Str × Nat × Nat) : En := ((i : Int), j.2.1, j.2.2)
noncomputable def esOf (js : List (Str × Nat × Nat)) : List En := js.mapIdx esRow
theorem a9f (ns : List Str) (js : List (Str × Nat × Nat)) (j : Str × Nat × Nat) : a1i ns (js ++ [j]) = a1i ns js ++ [a8b ns js.length j] := by
 unfold a1i; rw [List.mapIdx_append]; simp
theorem b5e (js : List (Str × Nat × Nat)) (j : Str × Nat × Nat) : esOf (js ++ [j]) = esOf js ++ [esRow js.length j] := by
 unfold esOf; rw [List.mapIdx_append]; simp
theorem jsOf_lt {ns : List Str} {js : List (Str × Nat × Nat)} : ∀ j ∈ a1i ns js, j.1 < (js.length : Int) := by
 intro j hj
 unfold a1i at hj
 obtain ⟨i, hi, e⟩ := List.mem_mapIdx.mp hj
 rw [<- e]
 show (i : Int) < _
 omega
theorem Rw.net {s : Nat} {ws : List (Str × Int)} : ∀ {js : List (Str × Nat × Nat)}, Rw s ws js -> ws.length <= 676 -> Net (ws.map Prod.fst) (a1i (ws.map Prod.fst) js) (esOf js) := by
 intro js
 suffices ∀ (n : Nat) (js : List (Str × Nat × Nat)), js.length = n -> Rw s ws js -> ws.length <= 676 -> Net (ws.map Prod.fst) (a1i (ws.map Prod.fst) js) (esOf js) from this _ js rfl
 intro n
 induction n with
 | zero =>
   intro js hn r hw
   have : js = [] := List.eq_nil_of_length_eq_zero hn
   subst this
   exact ⟨rfl, fun _ h => (List.not_mem_nil h).elim, r.nodup hw, by simp [esOf]⟩
 | succ n ih =>
   intro js hn r hw
   have hne : js ≠ [] := by rintro rfl; cases hn
   obtain ⟨l, j, rfl⟩ : ∃ l j, js = l ++ [j] := ⟨js.dropLast, js.getLast hne, (List.dropLast_concat_getLast hne).symm⟩
   have r' : Rw s ws l := ⟨r.names, r.teeth, fun x hx => r.kinds x (List.mem_append_left _ hx)⟩
   have N := ih l (by simpa using hn) r' hw
   obtain ⟨_, k1, k2, k3⟩ := r.kinds j (List.mem_append_right _ (List.mem_singleton.mpr rfl))
   rw [a9f, b5e]
   exact N.more (by simpa using k1) (by simpa using k2) k3 jsOf_lt
theorem gcd_step {d r : Nat} : Nat.gcd r (d % r) = Nat.gcd d r := by
 rw [Nat.gcd_comm r, Nat.gcd_comm d, Nat.gcd_rec r d]
noncomputable def low (t b : Int) : Int := if b < 0 then -(Int.gcd t b : Int) else (Int.gcd t b : Int)
theorem b4c {t b : Int} (hb : b ≠ 0) : low t b ≠ 0 := by
 have : Int.gcd t b ≠ 0 := by rw [Ne, Int.gcd_eq_zero_iff]; intro h; exact hb h.2
 unfold low; split <;> omega
theorem b4e (t b : Int) : low t b ∣ t := by
 unfold low; split
 . exact Int.neg_dvd.mpr (Int.gcd_dvd_left ..)
 . exact Int.gcd_dvd_left ..
theorem b4d (t b : Int) : low t b ∣ b := by
 unfold low; split
 . exact Int.neg_dvd.mpr (Int.gcd_dvd_right ..)
 . exact Int.gcd_dvd_right ..
noncomputable def lowT (t b : Int) : Int := t.fdiv (low t b)
noncomputable def lowB (t b : Int) : Int := b.fdiv (low t b)
theorem a79 (t b : Int) : lowT t b * low t b = t := Int.fdiv_mul_cancel (b4e t b)
theorem a5p (t b : Int) : lowB t b * low t b = b := Int.fdiv_mul_cancel (b4d t b)
theorem b1o (t b : Int) : lowT t b * b = lowB t b * t := by
 have e1 := a79 t b
 have e2 := a5p t b
 generalize lowT t b = x at *
 generalize lowB t b = y at *
 generalize low t b = d at *
 subst e1; rw [<- e2]
 rw [<- Int.mul_assoc, <- Int.mul_assoc, Int.mul_comm x y]
theorem a28 {t b : Int} (hb : b ≠ 0) : 1 <= lowB t b := by
 have e2 := a5p t b
 have h0 : (Int.gcd t b : Int) > 0 := by
   have : Int.gcd t b ≠ 0 := by rw [Ne, Int.gcd_eq_zero_iff]; intro h; exact hb h.2
   omega
 unfold low at e2
 generalize lowB t b = y at *
 rcases Int.lt_or_le y 1 with h | h
 . exfalso
   split at e2
   . have := Int.mul_nonneg (show 0 <= -y by omega) (Int.le_of_lt h0)
     rw [Int.neg_mul] at this
     rw [Int.mul_neg] at e2
     omega
   . have := Int.mul_nonneg (show 0 <= -y by omega) (Int.le_of_lt h0)
     rw [Int.neg_mul] at this
     omega
 . exact h
theorem low_gcd {t b : Int} (hb : b ≠ 0) : Int.gcd (lowT t b) (lowB t b) = 1 := by
 have e1 := a79 t b
 have e2 := a5p t b
 have h0 : Int.gcd t b ≠ 0 := by rw [Ne, Int.gcd_eq_zero_iff]; intro h; exact hb h.2
 have g : (low t b).natAbs = Int.gcd t b := by unfold low; split <;> omega
 have : Int.gcd (lowT t b * low t b) (lowB t b * low t b) = Int.gcd (lowT t b) (lowB t b) * (low t b).natAbs := Int.gcd_mul_right ..
 rw [e1, e2, g] at this
 have p : 0 < Int.gcd t b := Nat.pos_of_ne_zero h0
 exact Nat.eq_of_mul_eq_mul_right p (by omega)
theorem absE (a : Int) : (if a < 0 then -a else a) = ((a.natAbs : Nat) : Int) := by split <;> omega
noncomputable def addW (x : Str) (st : TT × List Str) (l : Ld) : TT × List Str := if l.2.2 ∈ names st.1 then st else (st.1 ++ [(l.2.2, some (l.1, l.2.1, x))], st.2 ++ [l.2.2])
noncomputable def stepT (js : List Jn) (st : TT × List Str) : TT × List Str := match st.2 with | [] => st | x :: ws => (lead js x).foldl (addW x) (st.1, ws)
noncomputable def b0i (js : List Jn) : Nat -> TT × List Str -> TT × List Str
 | 0, s => s
 | k + 1, s => stepT js (b0i js k s)
def IsTree (js : List Jn) (n : Str) (t : TT) : Prop := ∃ k, b0i js k ([(n, none)], [n]) = (t, [])
theorem a6i {js : List Jn} {s : TT × List Str} {t : TT} {k : Nat} (h : b0i js k s = (t, [])) : ∀ m, b0i js (k + m) s = (t, [])
 | 0 => h
 | m + 1 => by
   show stepT js (b0i js (k + m) s) = _
   rw [a6i h m]; rfl
theorem IsTree.one {js : List Jn} {n : Str} {t t' : TT} (h : IsTree js n t) (h' : IsTree js n t') : t = t' := by
 obtain ⟨k, e⟩ := h
 obtain ⟨k', e'⟩ := h'
 have a := a6i e k'
 have b := a6i e' k
 rw [Nat.add_comm k' k, a] at b
 exact (Prod.mk.inj b).1
noncomputable abbrev Fr := Int × Int
noncomputable def fac (k : Str) (a b : Int) : Fr := if k = "pin" then (1, 1) else if k = "band" then (lowT a b, lowB a b) else (lowT (-a) b, lowB (-a) b)
noncomputable def mulF (x y : Fr) : Fr := (lowT (x.1 * y.1) (x.2 * y.2), lowB (x.1 * y.1) (x.2 * y.2))
noncomputable def a0k (ws : List (Str × Int)) (n : Str) : Int := ((ws.find? fun w => decide (w.1 = n)).map Prod.snd).getD 1
noncomputable abbrev Sh := List (Str × Fr)
noncomputable def lk (sh : Sh) (n : Str) : Fr := ((sh.find? fun e => decide (e.1 = n)).map Prod.snd).getD (1, 1)
noncomputable def a5x (ws : List (Str × Int)) (sh : Sh) (e : Str × Option Ld) : Fr := match e.2 with
 | none => (1, 1)
 | some l => mulF (lk sh l.2.2) (fac l.2.1 (a0k ws l.2.2) (a0k ws e.1))
noncomputable def a0g (ws : List (Str × Int)) (t : TT) : Sh := t.foldl (fun sh e => sh ++ [(e.1, a5x ws sh e)]) []
theorem a1p (ws : List (Str × Int)) (t : TT) (e : Str × Option Ld) : a0g ws (t ++ [e]) = a0g ws t ++ [(e.1, a5x ws (a0g ws t) e)] := by
 unfold a0g; rw [List.foldl_append]; rfl
theorem a0x (ws : List (Str × Int)) (t : TT) : (a0g ws t).map Prod.fst = names t := by
 suffices ∀ (t : TT) (sh : Sh), (t.foldl (fun sh e => sh ++ [(e.1, a5x ws sh e)]) sh).map Prod.fst = sh.map Prod.fst ++ names t by
   have := this t []
   simpa [a0g] using this
 intro t
 induction t with
 | nil => intro sh; simp [names]
 | cons e t ih => intro sh; rw [List.foldl_cons, ih]; simp [names]
theorem b2f (ws : List (Str × Int)) (t : TT) : (a0g ws t).length = t.length := by
 have := congrArg List.length (a0x ws t)
 simpa [names] using this
def Small (i : Nat) (x : Fr) : Prop := 1 <= x.2 /\ x.2 < 2 ^ (30 * i) /\ x.1.natAbs < 2 ^ (30 * i)
theorem b0f {t b : Int} (hb : 1 <= b) : lowB t b <= b := by
 have hp := a28 (t := t) (b := b) (by omega)
 have e := a5p t b
 have hl : 1 <= low t b := by
   have hn := b4c (t := t) (b := b) (by omega)
   have : low t b = (Int.gcd t b : Int) := if_neg (by omega)
   omega
 have : lowB t b * 1 <= lowB t b * low t b := Int.mul_le_mul_of_nonneg_left hl (by omega)
 omega
theorem b0e {t b : Int} (hb : 1 <= b) : (lowT t b).natAbs <= t.natAbs := by
 have e := a79 t b
 have hl : 1 <= (low t b).natAbs := by
   have hn := b4c (t := t) (b := b) (by omega)
   omega
 have e2 : (lowT t b).natAbs * (low t b).natAbs = t.natAbs := by rw [<- Int.natAbs_mul, e]
 have := Nat.mul_le_mul_left (lowT t b).natAbs hl
 omega
theorem a6n {k : Str} {a b : Int} (ha : 1 <= a) (ha2 : a < 1000000000) (hb : 1 <= b) (hb2 : b < 1000000000) : Small 1 (fac k a b) := by
 have e30 : (2 : Nat) ^ (30 * 1) = 1073741824 := by decide
 have e30' : (2 : Int) ^ (30 * 1) = 1073741824 := by decide
 unfold fac Small
 rw [e30, e30']
 split
 . exact ⟨by decide, by decide, by decide⟩
 . split
   . have h1 := a28 (t := a) (b := b) (by omega)
     have h2 := b0f (t := a) hb
     have h3 := b0e (t := a) hb
     exact ⟨h1, by show lowB a b < _; omega, by show (lowT a b).natAbs < _; omega⟩
   . have h1 := a28 (t := -a) (b := b) (by omega)
     have h2 := b0f (t := -a) hb
     have h3 := b0e (t := -a) hb
     exact ⟨h1, by show lowB (-a) b < _; omega, by show (lowT (-a) b).natAbs < _; omega⟩
theorem b2o {i j : Nat} {x y : Fr} (hx : Small i x) (hy : Small j y) : Small (i + j) (mulF x y) := by
 obtain ⟨x1, x2, x3⟩ := hx
 obtain ⟨y1, y2, y3⟩ := hy
 have hb : 1 <= x.2 * y.2 := by
   have := Int.mul_le_mul_of_nonneg_left y1 (show 0 <= x.2 by omega)
   omega
 have e : (2 : Nat) ^ (30 * (i + j)) = 2 ^ (30 * i) * 2 ^ (30 * j) := by rw [Nat.mul_add, Nat.pow_add]
 have e' : (2 : Int) ^ (30 * (i + j)) = 2 ^ (30 * i) * 2 ^ (30 * j) := by rw [Nat.mul_add, Int.pow_add]
 have h1 := a28 (t := x.1 * y.1) (b := x.2 * y.2) (by omega)
 have h2 := b0f (t := x.1 * y.1) hb
 have h3 := b0e (t := x.1 * y.1) hb
 refine ⟨h1, ?_, ?_⟩
 . show lowB _ _ < _
   rw [e']
   refine Int.lt_of_le_of_lt h2 ?_
   exact Int.mul_lt_mul x2 (by omega) (by omega) (by omega)
 . show (lowT _ _).natAbs < _
   rw [e]
   refine Nat.lt_of_le_of_lt h3 ?_
   rw [Int.natAbs_mul]
   exact Nat.mul_lt_mul'' x3 y3
theorem Small.up {i j : Nat} {x : Fr} (h : Small i x) (hij : i <= j) : Small j x := by
 have e : (2 : Nat) ^ (30 * i) <= 2 ^ (30 * j) := Nat.pow_le_pow_right (by decide) (by omega)
 have e' : (2 : Int) ^ (30 * i) <= 2 ^ (30 * j) := by
   have h1 : ((2 ^ (30 * i) : Nat) : Int) = (2 : Int) ^ (30 * i) := by rw [Int.natCast_pow]; rfl
   have h2 : ((2 ^ (30 * j) : Nat) : Int) = (2 : Int) ^ (30 * j) := by rw [Int.natCast_pow]; rfl
   omega
 exact ⟨h.1, Int.lt_of_lt_of_le h.2.1 e', Nat.lt_of_lt_of_le h.2.2 e⟩
theorem b1p {sh : Sh} {n : Str} (h : n ∈ sh.map Prod.fst) : ∃ e ∈ sh, e.1 = n /\ lk sh n = e.2 := by
 induction sh with
 | nil => cases h
 | cons e sh ih =>
   by_cases he : e.1 = n
   . exact ⟨e, List.mem_cons_self, he, by simp [lk, he]⟩
   . obtain ⟨x, h1, h2, h3⟩ := ih (by
       rcases List.mem_cons.mp h with h | h
       . exact absurd h.symm he
       . exact h)
     refine ⟨x, List.mem_cons_of_mem _ h1, h2, ?_⟩
     rw [<- h3]
     unfold lk
     rw [List.find?_cons, decide_eq_false he]
def a8l (ws : List (Str × Int)) : Prop := ∀ w ∈ ws, 1 <= w.2 /\ w.2 < 1000000000
theorem a0z {ws : List (Str × Int)} (h : a8l ws) (n : Str) : 1 <= a0k ws n /\ a0k ws n < 1000000000 := by
 unfold a0k
 cases e : ws.find? (fun w => decide (w.1 = n)) with
 | none => exact ⟨by decide, by decide⟩
 | some w => exact h w (List.mem_of_find?_eq_some e)
theorem a13 {ws : List (Str × Int)} (h : a8l ws) {js : List Jn} {n : Str} {t : TT} (g : Grown js n t) : ∀ e ∈ a0g ws t, Small t.length e.2 := by
 induction g with
 | root =>
   intro e he
   have : e = (n, (1, 1)) := by simpa [a0g, a5x] using he
   rw [this]
   show Small 1 (1, 1)
   exact ⟨by decide, by decide, by decide⟩
 | more t m l g new old by_ ih =>
   intro e he
   rw [a1p] at he
   rw [List.length_append]
   rcases List.mem_append.mp he with he | he
   . exact (ih e he).up (Nat.le_add_right _ _)
   . rw [List.mem_singleton.mp he]
     obtain ⟨x, h1, _, h3⟩ := b1p (sh := a0g ws t) (n := l.2.2) (by rw [a0x]; exact old)
     show Small _ (mulF (lk (a0g ws t) l.2.2) _)
     rw [h3]
     have t1 := a0z h l.2.2
     have t2 := a0z h m
     exact b2o (ih x h1) (a6n t1.1 t1.2 t2.1 t2.2)
noncomputable def jams (ws : List (Str × Int)) (sh : Sh) (j : Jn) : Bool := decide (j.2.2.1 ∈ sh.map Prod.fst) && !decide (mulF (lk sh j.2.2.1) (fac j.2.1 (a0k ws j.2.2.1) (a0k ws j.2.2.2)) = lk sh j.2.2.2)
noncomputable def byF (k : Str) (a b : Int) : Fr := if k = "pin" then (1, 1) else if k = "band" then (a, b) else (-a, b)
theorem fac_by (k : Str) (a b : Int) : fac k a b = (lowT (byF k a b).1 (byF k a b).2, lowB (byF k a b).1 (byF k a b).2) := by
 unfold fac byF
 split
 . decide
 . split <;> rfl
theorem b5u {k : Str} {a b : Int} (ha : 1 <= a) (hb : 1 <= b) : (byF k a b).1 ≠ 0 /\ (byF k a b).2 ≠ 0 := by
 unfold byF
 split
 . exact ⟨by decide, by decide⟩
 . split
   . exact ⟨by show a ≠ 0; omega, by show b ≠ 0; omega⟩
   . exact ⟨by show -a ≠ 0; omega, by show b ≠ 0; omega⟩
def Low (x : Fr) : Prop := 1 <= x.2 /\ Int.gcd x.1 x.2 = 1
theorem b5r {a b d : Int} (h : Int.gcd a b = 1) (hd : b ∣ a * d) : b ∣ d := by
 have h1 : b.natAbs ∣ a.natAbs * d.natAbs := by rw [<- Int.natAbs_mul]; exact Int.natAbs_dvd_natAbs.mpr hd
 exact Int.natAbs_dvd_natAbs.mp (Nat.Coprime.dvd_of_dvd_mul_left (show Nat.gcd b.natAbs a.natAbs = 1 by rw [Nat.gcd_comm]; exact h) h1)
theorem Low.eq {x y : Fr} (hx : Low x) (hy : Low y) (e : x.1 * y.2 = y.1 * x.2) : x = y := by
 obtain ⟨a, b⟩ := x
 obtain ⟨c, d⟩ := y
 obtain ⟨h1, h2⟩ := hx
 obtain ⟨h3, h4⟩ := hy
 dsimp only at *
 have d1 : b ∣ d := by
   refine b5r (a := a) h2 ⟨c, ?_⟩
   rw [e, Int.mul_comm]
 have d2 : d ∣ b := by
   refine b5r (a := c) h4 ⟨a, ?_⟩
   rw [<- e, Int.mul_comm]
 have hbd : b = d := Int.le_antisymm (Int.le_of_dvd (by omega) d1) (Int.le_of_dvd (by omega) d2)
 subst hbd
 rw [Int.eq_of_mul_eq_mul_right (show b ≠ 0 by omega) e]
theorem low_Low {t b : Int} (hb : b ≠ 0) : Low (lowT t b, lowB t b) := ⟨a28 hb, low_gcd hb⟩
theorem b1j {x y : Fr} (hx : x.2 ≠ 0) (hy : y.2 ≠ 0) : Low (mulF x y) := low_Low (Int.mul_ne_zero hx hy)
theorem a76 {x z : Fr} {k : Str} {a b : Int} (hx : x.2 ≠ 0) (hz : Low z) (ha : 1 <= a) (hb : 1 <= b) : mulF x (fac k a b) = z ↔ x.1 * (byF k a b).1 * z.2 = z.1 * x.2 * (byF k a b).2 := by
 obtain ⟨_, n2⟩ := b5u (k := k) ha hb
 rw [fac_by]
 generalize byF k a b = f at n2
 have s1 := b1o f.1 f.2
 have p1 := a28 (t := f.1) n2
 have hy : lowB f.1 f.2 ≠ 0 := by omega
 generalize lowT f.1 f.2 = u at *
 generalize lowB f.1 f.2 = v at *
 have s2 := b1o (x.1 * u) (x.2 * v)
 have n3 : x.2 * v ≠ 0 := Int.mul_ne_zero hx hy
 have L : Low (mulF x (u, v)) := b1j hx hy
 have e1 : (mulF x (u, v)).1 = lowT (x.1 * u) (x.2 * v) := rfl
 have e2 : (mulF x (u, v)).2 = lowB (x.1 * u) (x.2 * v) := rfl
 have p2 : lowB (x.1 * u) (x.2 * v) ≠ 0 := by have := a28 (t := x.1 * u) n3; omega
 constructor
 . intro h
   rw [<- h, e1, e2]
   generalize lowT (x.1 * u) (x.2 * v) = p at *
   generalize lowB (x.1 * u) (x.2 * v) = q at *
   refine Int.eq_of_mul_eq_mul_right hy ?_
   have : x.1 * f.1 * q * v = q * (x.1 * u) * f.2 := by
     rw [show x.1 * f.1 * q * v = x.1 * q * (v * f.1) by ac_rfl, <- s1]; ac_rfl
   rw [this, <- s2]; ac_rfl
 . intro h
   refine Low.eq L hz ?_
   rw [e1, e2]
   generalize lowT (x.1 * u) (x.2 * v) = p at *
   generalize lowB (x.1 * u) (x.2 * v) = q at *
   refine Int.eq_of_mul_eq_mul_right (Int.mul_ne_zero n3 n2) ?_
   rw [show p * z.2 * (x.2 * v * f.2) = p * (x.2 * v) * (z.2 * f.2) by ac_rfl, s2, show q * (x.1 * u) * (z.2 * f.2) = q * x.1 * z.2 * (u * f.2) by ac_rfl, s1, show q * x.1 * z.2 * (v * f.1) = q * v * (x.1 * f.1 * z.2) by ac_rfl, h]; ac_rfl
def Agrees (ws : List (Str × Int)) (sh : Sh) (k a b : Str) : Prop := (lk sh a).1 * (byF k (a0k ws a) (a0k ws b)).1 * (lk sh b).2 = (lk sh b).1 * (lk sh a).2 * (byF k (a0k ws a) (a0k ws b)).2
theorem Agrees.symm {ws : List (Str × Int)} {sh : Sh} {k a b : Str} (h : Agrees ws sh k a b) : Agrees ws sh k b a := by
 unfold Agrees byF at *
 generalize lk sh a = x at *
 generalize lk sh b = y at *
 generalize a0k ws a = m at *
 generalize a0k ws b = n at *
 split at h
 . rename_i hk
   rw [if_pos hk]
   dsimp only at h |-
   rw [Int.mul_one, Int.mul_one] at h |-
   exact h.symm
 . rename_i hk
   rw [if_neg hk]
   split at h
   . rename_i hk2
     rw [if_pos hk2]
     dsimp only at h |-
     rw [show y.1 * n * x.2 = y.1 * x.2 * n by ac_rfl, <- h]; ac_rfl
   . rename_i hk2
     rw [if_neg hk2]
     dsimp only at h |-
     rw [Int.mul_neg, Int.neg_mul] at h |-
     rw [show y.1 * n * x.2 = y.1 * x.2 * n by ac_rfl, <- h, Int.neg_neg]; ac_rfl
theorem b4i {sh : Sh} {n : Str} {e : Str × Fr} (h : n ∈ sh.map Prod.fst) : lk (sh ++ [e]) n = lk sh n := by
 induction sh with
 | nil => cases h
 | cons x sh ih =>
   unfold lk at ih |-
   rw [List.cons_append, List.find?_cons, List.find?_cons]
   by_cases hx : x.1 = n
   . rw [decide_eq_true hx]
   . rw [decide_eq_false hx]
     rcases List.mem_cons.mp h with h | h
     . exact absurd h.symm hx
     . exact ih h
theorem lk_new {sh : Sh} {n : Str} {f : Fr} (h : n ∉ sh.map Prod.fst) : lk (sh ++ [(n, f)]) n = f := by
 induction sh with
 | nil => simp [lk]
 | cons x sh ih =>
   rw [List.map_cons, List.mem_cons, not_or] at h
   have := ih h.2
   unfold lk at this |-
   rw [List.cons_append, List.find?_cons, decide_eq_false fun z => h.1 z.symm]
   exact this
theorem a3f {ws : List (Str × Int)} (ht : a8l ws) {js : List Jn} {n : Str} {t : TT} (g : Grown js n t) : ∀ m ∈ names t, Low (lk (a0g ws t) m) := by
 induction g with
 | root =>
   intro m hm
   have : m = n := by simpa [names] using hm
   subst this
   have e : lk (a0g ws [(m, none)]) m = (1, 1) := by simp [a0g, a5x, lk]
   rw [e]
   exact ⟨by decide, by decide⟩
 | more t m l g new old by_ ih =>
   intro x hx
   rw [a1f] at hx
   rw [a1p]
   rcases List.mem_append.mp hx with hx | hx
   . rw [b4i (by rw [a0x]; exact hx)]; exact ih x hx
   . have : x = m := by simpa using hx
     subst this
     rw [lk_new (by rw [a0x]; exact new)]
     have h1 := (ih _ old).1
     have t1 := a0z ht l.2.2
     have t2 := a0z ht x
     refine b1j (by omega) ?_
     rw [fac_by]
     have := a28 (t := (byF l.2.1 (a0k ws l.2.2) (a0k ws x)).1) (b5u (k := l.2.1) t1.1 t2.1).2
     show lowB (byF l.2.1 (a0k ws l.2.2) (a0k ws x)).1 (byF l.2.1 (a0k ws l.2.2) (a0k ws x)).2 ≠ 0
     omega
noncomputable def nums (t : TT) : List Int := t.filterMap fun e => e.2.map Prod.fst
theorem a1r {js : List Jn} {x : Str} {l : Ld} (h : l ∈ lead js x) : ∃ j ∈ js, j.1 = l.1 /\ j.2.1 = l.2.1 /\ ((j.2.2.1 = x /\ j.2.2.2 = l.2.2) \/ (j.2.2.2 = x /\ j.2.2.1 = l.2.2)) := by
 unfold lead at h
 obtain ⟨j, hj, h⟩ := List.mem_flatMap.mp h
 refine ⟨j, hj, ?_⟩
 unfold a5f at h
 rcases List.mem_append.mp h with h | h <;> split at h
 . rename_i e
   have : l = (j.1, j.2.1, j.2.2.2) := by simpa using h
   subst this; exact ⟨rfl, rfl, .inl ⟨e, rfl⟩⟩
 . cases h
 . rename_i e
   have : l = (j.1, j.2.1, j.2.2.1) := by simpa using h
   subst this; exact ⟨rfl, rfl, .inr ⟨e, rfl⟩⟩
 . cases h
theorem a3a {js : List Jn} {j : Jn} (h : j ∈ js) : (j.1, j.2.1, j.2.2.2) ∈ lead js j.2.2.1 /\ (j.1, j.2.1, j.2.2.1) ∈ lead js j.2.2.2 := by
 constructor <;> refine List.mem_flatMap.mpr ⟨j, h, ?_⟩ <;> unfold a5f
 . rw [if_pos rfl]; simp
 . refine List.mem_append_right _ ?_; rw [if_pos rfl]; simp
theorem b4l {js : List Jn} {x : Str} {l : Ld} (h : l ∈ lead js x) : (l.1, l.2.1, x) ∈ lead js l.2.2 := by
 obtain ⟨j, hj, e1, e2, ⟨e3, e4⟩ | ⟨e3, e4⟩⟩ := a1r h
 . rw [<- e1, <- e2, <- e3, <- e4]; exact (a3a hj).2
 . rw [<- e1, <- e2, <- e3, <- e4]; exact (a3a hj).1
theorem Reach.trans {js : List Jn} {a b c : Str} (h1 : Reach js a b) (h2 : Reach js b c) : Reach js a c := by
 induction h2 with
 | refl => exact h1
 | step _ hl ih => exact .step ih hl
theorem Reach.symm {js : List Jn} {a b : Str} (h : Reach js a b) : Reach js b a := by
 induction h with
 | refl => exact .refl
 | @step b l h hl ih => exact Reach.trans (.step (l := (l.1, l.2.1, b)) .refl (b4l hl)) ih
theorem uniq {js : List Jn} (nd : (js.map Prod.fst).Nodup) {i j : Jn} (hi : i ∈ js) (hj : j ∈ js) (e : i.1 = j.1) : i = j := by
 induction js with
 | nil => cases hi
 | cons x js ih =>
   rw [List.map_cons, List.nodup_cons] at nd
   rcases List.mem_cons.mp hi with h1 | h1 <;> rcases List.mem_cons.mp hj with h2 | h2
   . rw [h1, h2]
   . exact absurd (List.mem_map.mpr ⟨j, h2, by rw [<- e, h1]⟩) nd.1
   . exact absurd (List.mem_map.mpr ⟨i, h1, by rw [e, h2]⟩) nd.1
   . exact ih nd.2 h1 h2
noncomputable def a1y (js : List Jn) (t : TT) : List Jn := js.filter fun j => decide (j.1 ∈ nums t)
theorem a73 (t : TT) (n : Str) (e : Ld) : nums (t ++ [(n, some e)]) = nums t ++ [e.1] := by simp [nums]
theorem a8a {js js' : List Jn} {x : Str} {l : Ld} (h : l ∈ lead js x) (hs : ∀ j ∈ js, j.1 = l.1 -> j ∈ js') : l ∈ lead js' x := by
 obtain ⟨j, hj, e1, e2, ⟨e3, e4⟩ | ⟨e3, e4⟩⟩ := a1r h
 . have := (a3a (hs j hj e1)).1
   rw [e1, e2, e3, e4] at this; exact this
 . have := (a3a (hs j hj e1)).2
   rw [e1, e2, e3, e4] at this; exact this
theorem Grown.sub {js js' : List Jn} {x : Str} {t : TT} (g : Grown js x t) (hs : ∀ j ∈ js, j.1 ∈ nums t -> j ∈ js') : Grown js' x t := by
 induction g with
 | root => exact .root
 | more t n e g new old by_ ih =>
   refine .more t n e (ih fun j hj hn => hs j hj (by rw [a73]; exact List.mem_append_left _ hn)) new old (a8a by_ fun j hj e1 => hs j hj ?_)
   rw [a73, e1]; simp
theorem Grown.tree {js : List Jn} {x : Str} {t : TT} (g : Grown js x t) : Grown (a1y js t) x t := g.sub fun j hj hn => List.mem_filter.mpr ⟨hj, decide_eq_true hn⟩
theorem a9t {ws : List (Str × Int)} (ht : a8l ws) {js : List Jn} (nd : (js.map Prod.fst).Nodup) {x : Str} {t : TT} (g : Grown js x t) : ∀ j ∈ js, j.1 ∈ nums t -> j.2.2.1 ∈ names t /\ j.2.2.2 ∈ names t /\ Agrees ws (a0g ws t) j.2.1 j.2.2.1 j.2.2.2 := by
 induction g with
 | root => intro j _ h; simp [nums] at h
 | more t n e g new old by_ ih =>
   intro j hj hn
   have gg := Grown.more t n e g new old by_
   rw [a73] at hn
   have so : ∀ m ∈ names t, lk (a0g ws (t ++ [(n, some e)])) m = lk (a0g ws t) m := fun m hm => by rw [a1p, b4i (by rw [a0x]; exact hm)]
   rw [a1f]
   rcases List.mem_append.mp hn with hn | hn
   . obtain ⟨h1, h2, h3⟩ := ih j hj hn
     refine ⟨List.mem_append_left _ h1, List.mem_append_left _ h2, ?_⟩
     unfold Agrees at h3 |-
     rw [so _ h1, so _ h2]; exact h3
   . have hn : j.1 = e.1 := by simpa using hn
     obtain ⟨i, hi, e1, e2, e3⟩ := a1r by_
     obtain rfl := uniq nd hi hj (e1.trans hn.symm)
     have l1 := (a3f ht g _ old).1
     have t1 := a0z ht e.2.2
     have t2 := a0z ht n
     have sn : lk (a0g ws (t ++ [(n, some e)])) n = mulF (lk (a0g ws t) e.2.2) (fac e.2.1 (a0k ws e.2.2) (a0k ws n)) := by
       rw [a1p, lk_new (by rw [a0x]; exact new)]; rfl
     have ln := a3f ht gg n (by rw [a1f]; simp)
     have key : Agrees ws (a0g ws (t ++ [(n, some e)])) e.2.1 e.2.2 n := by
       unfold Agrees
       rw [so _ old]
       exact (a76 (by omega) ln t1.1 t2.1).mp sn.symm
     dsimp only at e2 e3
     rcases e3 with ⟨e3, e4⟩ | ⟨e3, e4⟩
     . rw [e2, e3, e4]; exact ⟨List.mem_append_left _ old, by simp, key⟩
     . rw [e2, e3, e4]; exact ⟨by simp, List.mem_append_left _ old, key.symm⟩
noncomputable def kindOf (js : List Jn) (n : Int) : Str := ((js.find? fun j => decide (j.1 = n)).map fun j => j.2.1).getD ""
theorem a44 {js : List Jn} (nd : (js.map Prod.fst).Nodup) {j : Jn} (h : j ∈ js) : kindOf js j.1 = j.2.1 := by
 unfold kindOf
 cases e : js.find? (fun i => decide (i.1 = j.1)) with
 | none => have := List.find?_eq_none.mp e j h; simp at this
 | some i =>
   have h1 := List.mem_of_find?_eq_some e
   have h2 := List.find?_some e
   rw [uniq nd h1 h (of_decide_eq_true h2)]; rfl
noncomputable def wayF (ws : List (Str × Int)) (js : List Jn) : Str -> List (Int × Str) -> Fr -> Fr
 | _, [], f => f
 | a, s :: st, f => wayF ws js s.2 st (f.1 * (byF (kindOf js s.1) (a0k ws a) (a0k ws s.2)).1, f.2 * (byF (kindOf js s.1) (a0k ws a) (a0k ws s.2)).2)
theorem b2y (ws : List (Str × Int)) (js : List Jn) {a b : Str} {st : List (Int × Str)} (h : Way js a st b) (s : Int × Str) : ∀ f : Fr, wayF ws js a (st ++ [s]) f = ((wayF ws js a st f).1 * (byF (kindOf js s.1) (a0k ws b) (a0k ws s.2)).1, (wayF ws js a st f).2 * (byF (kindOf js s.1) (a0k ws b) (a0k ws s.2)).2) := by
 induction h with
 | nil => intro f; rfl
 | cons hl _ ih => intro f; rw [List.cons_append]; unfold wayF; exact ih _
theorem Way.mono {js js' : List Jn} (hs : ∀ j ∈ js, j ∈ js') {a b : Str} {st : List (Int × Str)} (h : Way js a st b) : Way js' a st b := by
 induction h with
 | nil => exact .nil _
 | cons hl _ ih => exact .cons (a8a hl fun j hj _ => hs j hj) ih
theorem Way.snoc {js : List Jn} {a b : Str} {st : List (Int × Str)} (h : Way js a st b) {l : Ld} (hl : l ∈ lead js b) : Way js a (st ++ [(l.1, l.2.2)]) l.2.2 := by
 induction h with
 | nil => exact .cons hl (.nil _)
 | cons hl' _ ih => exact .cons hl' (ih hl)
theorem way_nil {js : List Jn} {a b : Str} (h : Way js a [] b) : a = b := by
 generalize e : ([] : List (Int × Str)) = st at h
 cases h with
 | nil => rfl
 | cons _ _ => cases e
theorem b17 {ws : List (Str × Int)} (ht : a8l ws) {js tj : List Jn} (nd : (js.map Prod.fst).Nodup) {sh : Sh} (hs : ∀ j ∈ tj, j ∈ js) (hA : ∀ j ∈ tj, Agrees ws sh j.2.1 j.2.2.1 j.2.2.2 /\ (lk sh j.2.2.1).2 ≠ 0 /\ (lk sh j.2.2.2).2 ≠ 0) {a b o : Str} {st : List (Int × Str)} (h : Way tj a st b) :
   ∀ f : Fr, f.1 ≠ 0 -> f.2 ≠ 0 -> (lk sh o).1 * f.1 * (lk sh a).2 = (lk sh a).1 * (lk sh o).2 * f.2 -> (wayF ws js a st f).1 ≠ 0 /\ (wayF ws js a st f).2 ≠ 0 /\ (lk sh o).1 * (wayF ws js a st f).1 * (lk sh b).2 = (lk sh b).1 * (lk sh o).2 * (wayF ws js a st f).2 := by
 induction h with
 | nil => intro f h1 h2 h3; exact ⟨h1, h2, h3⟩
 | @cons a b l st hl _ ih =>
   intro f h1 h2 h3
   obtain ⟨j, hj, e1, e2, e3⟩ := a1r hl
   have key : Agrees ws sh l.2.1 a l.2.2 /\ (lk sh a).2 ≠ 0 := by
     obtain ⟨A, n1, n2⟩ := hA j hj
     rw [e2] at A
     rcases e3 with ⟨e3, e4⟩ | ⟨e3, e4⟩
     . rw [e3, e4] at A; rw [e3] at n1; exact ⟨A, n1⟩
     . rw [e3, e4] at A; rw [e3] at n2; exact ⟨A.symm, n2⟩
   have ek : kindOf js l.1 = l.2.1 := by rw [<- e1, a44 nd (hs j hj), e2]
   obtain ⟨b1, b2⟩ := b5u (k := l.2.1) (a0z ht a).1 (a0z ht l.2.2).1
   obtain ⟨A, na⟩ := key
   unfold wayF
   dsimp only
   rw [ek]
   unfold Agrees at A
   generalize byF l.2.1 (a0k ws a) (a0k ws l.2.2) = y at *
   refine ih _ (Int.mul_ne_zero h1 b1) (Int.mul_ne_zero h2 b2) (Int.eq_of_mul_eq_mul_right na ?_)
   dsimp only
   rw [show (lk sh o).1 * (f.1 * y.1) * (lk sh l.2.2).2 * (lk sh a).2 = (lk sh o).1 * f.1 * (lk sh a).2 * (y.1 * (lk sh l.2.2).2) by ac_rfl, h3,
     show (lk sh a).1 * (lk sh o).2 * f.2 * (y.1 * (lk sh l.2.2).2) = (lk sh a).1 * y.1 * (lk sh l.2.2).2 * ((lk sh o).2 * f.2) by ac_rfl, A]
   ac_rfl
theorem b5y {js : List Jn} (nd : (js.map Prod.fst).Nodup) {a b : Str} {st : List (Int × Str)} (h : Way js a st b) : (a :: st.map Prod.snd).Nodup -> (st.map Prod.fst).Nodup /\ ∀ j ∈ js, (j.2.2.1 ∉ a :: st.map Prod.snd \/ j.2.2.2 ∉ a :: st.map Prod.snd) -> j.1 ∉ st.map Prod.fst := by
 induction h with
 | nil => intro _; exact ⟨List.nodup_nil, fun _ _ _ h => List.not_mem_nil h⟩
 | @cons a b l st hl _ ih =>
   intro hnd
   rw [List.map_cons, List.nodup_cons] at hnd
   obtain ⟨h1, h2⟩ := ih hnd.2
   obtain ⟨i, hi, e1, e2, e3⟩ := a1r hl
   rw [List.map_cons, List.map_cons]
   refine ⟨List.nodup_cons.mpr ⟨?_, h1⟩, fun j hj ho hm => ?_⟩
   . have := h2 i hi (by
       rcases e3 with ⟨e3, _⟩ | ⟨e3, _⟩
       . left; rw [e3]; exact hnd.1
       . right; rw [e3]; exact hnd.1)
     rw [e1] at this; exact this
   . rcases List.mem_cons.mp hm with hm | hm
     . obtain rfl := uniq nd hi hj (e1.trans hm.symm)
       dsimp only at ho
       rcases e3 with ⟨e3, e4⟩ | ⟨e3, e4⟩ <;> rw [e3, e4] at ho <;> simp at ho
     . refine h2 j hj ?_ hm
       dsimp only at ho
       rcases ho with ho | ho
       . left; exact fun z => ho (List.mem_cons_of_mem _ z)
       . right; exact fun z => ho (List.mem_cons_of_mem _ z)
structure Ring (ws : List (Str × Int)) (js : List Jn) (x : Str) (a : Str) (rs : List (Int × Str)) : Prop where
 way : Way js a rs a
 two : 2 <= rs.length
 joins : (rs.map Prod.fst).Nodup
 wheels : (rs.map Prod.snd).Nodup
 hang : ∀ s ∈ rs, Reach js x s.2
 ne : (wayF ws js a rs (1, 1)).1 ≠ (wayF ws js a rs (1, 1)).2
 last : ∃ st n, rs = st ++ [(n, a)]
theorem ring_ok {ws : List (Str × Int)} (ht : a8l ws) {js : List Jn} (nd : (js.map Prod.fst).Nodup) {x : Str} {t : TT} (g : Grown js x t) {j : Jn} (hj : j ∈ js) (h1 : j.2.2.1 ∈ names t) (h2 : j.2.2.2 ∈ names t) (hne : j.2.2.1 ≠ j.2.2.2)
   (hjam : ¬ mulF (lk (a0g ws t) j.2.2.1) (fac j.2.1 (a0k ws j.2.2.1) (a0k ws j.2.2.2)) = lk (a0g ws t) j.2.2.2)
   {st : List (Int × Str)} (hw : Way (a1y js t) j.2.2.1 st j.2.2.2) (hnd : (j.2.2.1 :: st.map Prod.snd).Nodup) : Ring ws js x j.2.2.1 (st ++ [(j.1, j.2.2.1)]) := by
 have hs : ∀ i ∈ a1y js t, i ∈ js := fun i hi => (List.mem_filter.mp hi).1
 have low := a3f ht g
 have hA : ∀ i ∈ a1y js t, Agrees ws (a0g ws t) i.2.1 i.2.2.1 i.2.2.2 /\ (lk (a0g ws t) i.2.2.1).2 ≠ 0 /\ (lk (a0g ws t) i.2.2.2).2 ≠ 0 := fun i hi => by
   obtain ⟨m1, m2⟩ := List.mem_filter.mp hi
   obtain ⟨a1, a2, a3⟩ := a9t ht nd g i m1 (of_decide_eq_true m2)
   have := (low _ a1).1
   have := (low _ a2).1
   exact ⟨a3, by omega, by omega⟩
 have l1 := low _ h1
 have l2 := low _ h2
 have t1 := a0z ht j.2.2.1
 have t2 := a0z ht j.2.2.2
 have hno : ¬ Agrees ws (a0g ws t) j.2.1 j.2.2.1 j.2.2.2 := fun A => hjam ((a76 (by have := l1.1; omega) l2 t1.1 t2.1).mpr A)
 have hjt : j ∉ a1y js t := fun z => hno (hA j z).1
 have hwj := hw.mono hs
 have ndt : ((a1y js t).map Prod.fst).Nodup := nd.sublist (List.Sublist.map _ List.filter_sublist)
 obtain ⟨q1, _⟩ := b5y ndt hw hnd
 have hmem : ∀ {a b : Str} {st : List (Int × Str)}, Way (a1y js t) a st b -> ∀ s ∈ st, s.1 ∈ (a1y js t).map Prod.fst := by
   intro a b st h
   induction h with
   | nil => intro s hs; cases hs
   | cons hl _ ih =>
     intro s hs
     rcases List.mem_cons.mp hs with rfl | hs
     . obtain ⟨i, hi, e1, _⟩ := a1r hl
       exact List.mem_map.mpr ⟨i, hi, e1⟩
     . exact ih s hs
 have hreach : ∀ {a b : Str} {st : List (Int × Str)}, Way (a1y js t) a st b -> Reach js x a -> ∀ s ∈ st, Reach js x s.2 := by
   intro a b st h
   induction h with
   | nil => intro _ s hs; cases hs
   | cons hl _ ih =>
     intro ha s hs'
     have := Reach.step ha (a8a hl fun i hi _ => hs i hi)
     rcases List.mem_cons.mp hs' with rfl | hs'
     . exact this
     . exact ih this s hs'
 refine ⟨hwj.snoc (a3a hj).2, ?_, ?_, ?_, ?_, ?_, ⟨st, j.1, rfl⟩⟩
 . cases st with
   | nil => exact absurd (way_nil hw) hne
   | cons _ _ => simp
 . rw [List.map_append, List.nodup_append]
   refine ⟨q1, by simp, fun a ha b hb => ?_⟩
   have : b = j.1 := by simpa using hb
   subst this
   rintro rfl
   obtain ⟨s, hs1, hs2⟩ := List.mem_map.mp ha
   obtain ⟨i, hi, e⟩ := List.mem_map.mp (hmem hw s hs1)
   have := uniq nd (hs i hi) hj (e.trans hs2)
   subst this
   exact hjt hi
 . rw [List.map_append, List.nodup_append]
   rw [List.nodup_cons] at hnd
   refine ⟨hnd.2, by simp, fun a ha b hb => ?_⟩
   have : b = j.2.2.1 := by simpa using hb
   subst this
   rintro rfl
   exact hnd.1 ha
 . have r1 := g.reach _ h1
   intro s hs'
   rcases List.mem_append.mp hs' with hs' | hs'
   . exact hreach hw r1 s hs'
   . rw [List.mem_singleton.mp hs']; exact r1
 . rw [b2y ws js hwj]
   obtain ⟨f1, f2, f3⟩ := b17 ht nd hs hA (o := j.2.2.1) hw (1, 1) (by decide) (by decide) (by rw [Int.mul_one, Int.mul_one])
   dsimp only
   rw [a44 nd hj]
   generalize wayF ws js j.2.2.1 st (1, 1) = F at *
   intro e
   refine hno (Agrees.symm ?_)
   unfold Agrees
   generalize byF j.2.1 (a0k ws j.2.2.2) (a0k ws j.2.2.1) = y at *
   refine Int.eq_of_mul_eq_mul_right f1 ?_
   rw [show (lk (a0g ws t) j.2.2.2).1 * y.1 * (lk (a0g ws t) j.2.2.1).2 * F.1 = (lk (a0g ws t) j.2.2.2).1 * (lk (a0g ws t) j.2.2.1).2 * (F.1 * y.1) by ac_rfl, e,
     show (lk (a0g ws t) j.2.2.2).1 * (lk (a0g ws t) j.2.2.1).2 * (F.2 * y.2) = (lk (a0g ws t) j.2.2.2).1 * (lk (a0g ws t) j.2.2.1).2 * F.2 * y.2 by ac_rfl, <- f3]
   ac_rfl
theorem b2a {js : List Jn} {x : Str} {t : TT} (g : Grown js x t) {a b : Str} (ha : a ∈ names t) (hb : b ∈ names t) : Reach (a1y js t) a b := (g.tree.reach _ ha).symm.trans (g.tree.reach _ hb)
noncomputable def top (i : Nat) : Stmt := PySem.Challenge.pw_cogtrain_k06_whole_turns_or_a_ring.main.body.getD i (.Pass ⟨0, 0, 0, 0⟩)
structure Txt (K : PySem.W.Frag) (mg : Str -> Option Value) : Prop where
 len : mg "len" = none
 all : mg "all" = none
 list : mg "list" = none
 range : mg "range" = none
 isinstance : mg "isinstance" = none
 int : mg "int" = none
 bool : mg "bool" = none
 str : mg "str" = none
 max : mg "max" = none
 abs : mg "abs" = none
 dict : mg "dict" = none
 tuple : mg "tuple" = none
 ValueError : mg "ValueError" = none
 LONGEST_NAME : ∃ t, mg "LONGEST_NAME" = some (.int 8 t)
 TEETH_BOUND : ∃ t, mg "TEETH_BOUND" = some (.int 1000000000 t)
 MOST_WHEELS : ∃ t, mg "MOST_WHEELS" = some (.int 100 t)
 MOST_JOINS : ∃ t, mg "MOST_JOINS" = some (.int 200 t)
 LETTERS : ∃ t, mg "LETTERS" = some (.str "abcdefghijklmnopqrstuvwxyz" t)
 KINDS : ∃ a, mg "KINDS" = some (.ref a) /\ ∀ H, SqT K H a ([.str "mesh", .str "pin", .str "band", .str "cross"])
noncomputable abbrev a1m : Stmt := top 12
theorem sc_greatest_divisor : FnScope ["one", "other", "divisor", "rest", "left_over"] ["one", "other"] (a0c a1m) := ⟨rfl, rfl, rfl, by decide +kernel, rfl, by decide +kernel, by decide +kernel⟩
noncomputable abbrev a37 : Stmt := top 13
theorem sc_lowest : FnScope ["top", "bottom", "divisor"] ["top", "bottom"] (a0c a37) := ⟨rfl, rfl, rfl, by decide +kernel, rfl, by decide +kernel, by decide +kernel⟩
noncomputable abbrev a9y : Stmt := top 14
theorem b58 : FnScope ["one", "other"] ["one", "other"] (a0c a9y) := ⟨rfl, rfl, rfl, by decide +kernel, rfl, by decide +kernel, by decide +kernel⟩
noncomputable abbrev a7w : Stmt := top 16
theorem b3j : FnScope ["kind", "one", "other"] ["kind", "one", "other"] (a0c a7w) := ⟨rfl, rfl, rfl, by decide +kernel, rfl, by decide +kernel, by decide +kernel⟩
noncomputable abbrev a1v : Stmt := top 17
theorem a4q : FnScope ["names", "name"] ["names", "name"] (a0c a1v) := ⟨rfl, rfl, rfl, by decide +kernel, rfl, by decide +kernel, by decide +kernel⟩
noncomputable abbrev a2p : Stmt := top 18
theorem sc_wheel_meant : FnScope ["train", "name", "names"] ["train", "name"] (a0c a2p) := ⟨rfl, rfl, rfl, by decide +kernel, rfl, by decide +kernel, by decide +kernel⟩
noncomputable abbrev a23 : Stmt := top 19
theorem sc_joins_from : FnScope ["joins", "here", "leading", "number", "kind", "one", "other"] ["joins", "here"] (a0c a23) := ⟨rfl, rfl, rfl, by decide +kernel, rfl, by decide +kernel, by decide +kernel⟩
noncomputable abbrev a3o : Stmt := top 20
theorem sc_tree_from : FnScope ["joins", "start", "tree", "waiting", "here", "number", "kind", "there"] ["joins", "start"] (a0c a3o) := ⟨rfl, rfl, rfl, by decide +kernel, rfl, by decide +kernel, by decide +kernel⟩
noncomputable abbrev a50 : Stmt := top 21
theorem sc_road_by : FnScope ["joins", "one", "other", "tree", "steps", "there", "entry"] ["joins", "one", "other"] (a0c a50) := ⟨rfl, rfl, rfl, by decide +kernel, rfl, by decide +kernel, by decide +kernel⟩
noncomputable abbrev a2a : Stmt := top 22
theorem sc_shares_along : FnScope ["train", "tree", "teeth_of", "shares", "name", "entry", "before"] ["train", "tree"] (a0c a2a) := ⟨rfl, rfl, rfl, by decide +kernel, rfl, by decide +kernel, by decide +kernel⟩
noncomputable abbrev a2c : Stmt := top 23
theorem sc_jamming_join : FnScope ["train", "shares", "teeth_of", "join", "one", "other", "share"] ["train", "shares"] (a0c a2c) := ⟨rfl, rfl, rfl, by decide +kernel, rfl, by decide +kernel, by decide +kernel⟩
noncomputable abbrev a1u : Stmt := top 24
theorem sc_ring_closed_by : FnScope ["join", "joins", "tree", "numbers", "tree_joins", "steps"] ["join", "joins", "tree"] (a0c a1u) := ⟨rfl, rfl, rfl, by decide +kernel, rfl, by decide +kernel, by decide +kernel⟩
noncomputable abbrev a2y : Stmt := top 25
theorem sc_ring : FnScope ["train", "name", "tree", "join"] ["train", "name"] (a0c a2y) := ⟨rfl, rfl, rfl, by decide +kernel, rfl, by decide +kernel, by decide +kernel⟩
noncomputable abbrev a2u : Stmt := top 26
theorem sc_free_shares : FnScope ["train", "name", "tree", "shares"] ["train", "name"] (a0c a2u) := ⟨rfl, rfl, rfl, by decide +kernel, rfl, by decide +kernel, by decide +kernel⟩
noncomputable abbrev a1t : Stmt := top 27
theorem sc_turns : FnScope ["train", "name", "shares"] ["train", "name"] (a0c a1t) := ⟨rfl, rfl, rfl, by decide +kernel, rfl, by decide +kernel, by decide +kernel⟩
noncomputable abbrev a52 : Stmt := top 35
theorem b2i : FnScope ["text"] ["text"] (a0c a52) := ⟨rfl, rfl, rfl, by decide +kernel, rfl, by decide +kernel, by decide +kernel⟩
noncomputable abbrev a06 : Stmt := a6k (top 36) 0
theorem a4r : FnScope ["self"] ["self"] (a0c a06) := ⟨rfl, rfl, rfl, by decide +kernel, rfl, by decide +kernel, by decide +kernel⟩
noncomputable abbrev a01 : Stmt := a6k (top 36) 1
theorem a36 : FnScope ["self", "name", "teeth"] ["self", "name", "teeth"] (a0c a01) := ⟨rfl, rfl, rfl, by decide +kernel, rfl, by decide +kernel, by decide +kernel⟩
noncomputable abbrev a05 : Stmt := a6k (top 36) 2
theorem sc_Train_put_join : FnScope ["self", "kind", "one", "other", "number"] ["self", "kind", "one", "other"] (a0c a05) := ⟨rfl, rfl, rfl, by decide +kernel, rfl, by decide +kernel, by decide +kernel⟩
noncomputable abbrev a1b : Stmt := a6k (top 36) 4
theorem a5z : FnScope ["self"] ["self"] (a0c a1b) := ⟨rfl, rfl, rfl, by decide +kernel, rfl, by decide +kernel, by decide +kernel⟩
noncomputable abbrev a1g : Stmt := a6k (top 36) 5
theorem a6w : FnScope ["self"] ["self"] (a0c a1g) := ⟨rfl, rfl, rfl, by decide +kernel, rfl, by decide +kernel, by decide +kernel⟩
noncomputable abbrev a2t : Stmt := top 38
theorem a6v : FnScope ["_law_script", "_law_k"] ["_law_script", "_law_k"] (a0c a2t) := ⟨rfl, rfl, rfl, by decide +kernel, rfl, by decide +kernel, by decide +kernel⟩
noncomputable abbrev a3p : Stmt := top 39
theorem a8t : FnScope ["_law_found"] ["_law_found"] (a0c a3p) := ⟨rfl, rfl, rfl, by decide +kernel, rfl, by decide +kernel, by decide +kernel⟩
noncomputable abbrev a22 : Stmt := top 40
theorem sc_law_common : FnScope ["_law_one", "_law_other"] ["_law_one", "_law_other"] (a0c a22) := ⟨rfl, rfl, rfl, by decide +kernel, rfl, by decide +kernel, by decide +kernel⟩
noncomputable abbrev a4v : Stmt := top 41
theorem sc_law_name : FnScope ["_law_k", "_law_spin", "_law_letters", "_law_first", "_law_last"] ["_law_k", "_law_spin"] (a0c a4v) := ⟨rfl, rfl, rfl, by decide +kernel, rfl, by decide +kernel, by decide +kernel⟩
noncomputable abbrev a3r : Stmt := top 42
theorem a8u : FnScope ["_law_number", "_law_way_here"] ["_law_number", "_law_way_here"] (a0c a3r) := ⟨rfl, rfl, rfl, by decide +kernel, rfl, by decide +kernel, by decide +kernel⟩
noncomputable abbrev a7u : Stmt := top 43
theorem b3i : FnScope ["_law_kind", "_law_one", "_law_other"] ["_law_kind", "_law_one", "_law_other"] (a0c a7u) := ⟨rfl, rfl, rfl, by decide +kernel, rfl, by decide +kernel, by decide +kernel⟩
noncomputable abbrev a4x : Stmt := top 44
theorem sc_law_goes : FnScope ["_law_kind", "_law_one", "_law_other", "_law_wheels", "_law_speeds", "_law_by_here", "_law_here", "_law_there"] ["_law_kind", "_law_one", "_law_other", "_law_wheels", "_law_speeds"] (a0c a4x) := ⟨rfl, rfl, rfl, by decide +kernel, rfl, by decide +kernel, by decide +kernel⟩
noncomputable abbrev a2s : Stmt := top 45
theorem sc_law_closing : FnScope ["_law_kind", "_law_one", "_law_other", "_law_wheels", "_law_speeds", "_law_kinds", "_law_k", "_law_some"] ["_law_kind", "_law_one", "_law_other", "_law_wheels", "_law_speeds"] (a0c a2s) := ⟨rfl, rfl, rfl, by decide +kernel, rfl, by decide +kernel, by decide +kernel⟩
noncomputable abbrev a4t : Stmt := top 46
theorem sc_law_rows : FnScope ["_law_script", "_law_wheels", "_law_joins", "_law_speeds", "_law_start", "_law_kinds", "_law_k", "_law_way_here", "_law_rest", "_law_kind", "_law_many", "_law_at", "_law_by_here", "_law_to"] ["_law_script"] (a0c a4t) := ⟨rfl, rfl, rfl, by decide +kernel, rfl, by decide +kernel, by decide +kernel⟩
noncomputable abbrev a3q : Stmt := top 47
theorem sc_law_train : FnScope ["_law_wheels", "_law_joins", "_law_train_here", "_law_name_here", "_law_teeth_here", "_law_kind", "_law_one", "_law_other"] ["_law_wheels", "_law_joins"] (a0c a3q) := ⟨rfl, rfl, rfl, by decide +kernel, rfl, by decide +kernel, by decide +kernel⟩
noncomputable abbrev a4w : Stmt := top 48
theorem sc_law_hung : FnScope ["_law_many", "_law_joins", "_law_start", "_law_hung_here", "_law_again", "_law_kind", "_law_one", "_law_other"] ["_law_many", "_law_joins", "_law_start"] (a0c a4w) := ⟨rfl, rfl, rfl, by decide +kernel, rfl, by decide +kernel, by decide +kernel⟩
noncomputable abbrev a3s : Stmt := top 49
theorem sc_law_steps : FnScope ["_law_way_here", "_law_wheels", "_law_joins", "_law_names", "_law_steps_here", "_law_step"] ["_law_way_here", "_law_wheels", "_law_joins"] (a0c a3s) := ⟨rfl, rfl, rfl, by decide +kernel, rfl, by decide +kernel, by decide +kernel⟩
noncomputable abbrev a21 : Stmt := top 50
theorem sc_law_jammed : FnScope ["_law_way_here", "_law_wheels", "_law_joins", "_law_hung_here", "_law_steps_here", "_law_at", "_law_top", "_law_bottom", "_law_gone", "_law_seen", "_law_number", "_law_to", "_law_kind", "_law_one", "_law_other", "_law_by_here"] ["_law_way_here", "_law_wheels", "_law_joins", "_law_hung_here"] (a0c a21) := ⟨rfl, rfl, rfl, by decide +kernel, rfl, by decide +kernel, by decide +kernel⟩
noncomputable abbrev a2b : Stmt := top 51
theorem a5y : FnScope ["_law_found"] ["_law_found"] (a0c a2b) := ⟨rfl, rfl, rfl, by decide +kernel, rfl, by decide +kernel, by decide +kernel⟩
noncomputable abbrev a4y : Stmt := top 52
theorem sc_law_free : FnScope ["_law_told_here", "_law_wheels", "_law_joins", "_law_hung_here", "_law_start", "_law_k", "_law_kind", "_law_one", "_law_other", "_law_by_here", "_law_here", "_law_there"] ["_law_told_here", "_law_wheels", "_law_joins", "_law_hung_here", "_law_start"] (a0c a4y) := ⟨rfl, rfl, rfl, by decide +kernel, rfl, by decide +kernel, by decide +kernel⟩
noncomputable abbrev a4s : Stmt := top 53
theorem a9x : FnScope ["_law_train_here", "_law_name_here", "_law_left_out"] ["_law_train_here", "_law_name_here", "_law_left_out"] (a0c a4s) := ⟨rfl, rfl, rfl, by decide +kernel, rfl, by decide +kernel, by decide +kernel⟩
noncomputable abbrev a51 : Stmt := top 54
theorem b2h : FnScope ["_law_train_here", "_law_name_here", "_law_left_out"] ["_law_train_here", "_law_name_here", "_law_left_out"] (a0c a51) := ⟨rfl, rfl, rfl, by decide +kernel, rfl, by decide +kernel, by decide +kernel⟩
noncomputable abbrev a4u : Stmt := top 55
theorem sc_law_only : FnScope ["_law_e", "_law_other"] ["_law_e"] (a0c a4u) := ⟨rfl, rfl, rfl, by decide +kernel, rfl, by decide +kernel, by decide +kernel⟩
noncomputable abbrev a2r : Stmt := top 56
theorem sc_law_emptied : FnScope ["_law_train_here", "_law_way_here", "_law_told_here"] ["_law_train_here"] (a0c a2r) := ⟨rfl, rfl, rfl, by decide +kernel, rfl, by decide +kernel, by decide +kernel⟩
noncomputable abbrev a3t : Stmt := top 57
theorem sc_law_asked : FnScope ["_law_train_here", "_law_wheels", "_law_joins", "_law_start", "_law_ways", "_law_name_here", "_law_hung_here", "_law_way_here", "_law_told_here", "_law_jams", "_law_only_here", "_law_e"] ["_law_train_here", "_law_wheels", "_law_joins", "_law_start", "_law_ways"] (a0c a3t) := ⟨rfl, rfl, rfl, by decide +kernel, rfl, by decide +kernel, by decide +kernel⟩
noncomputable abbrev a2q : Stmt := top 58
theorem sc_law_refused : FnScope ["_law_train_here", "_law_name_here", "_law_way_here", "_law_refused_here"] ["_law_train_here", "_law_name_here", "_law_way_here"] (a0c a2q) := ⟨rfl, rfl, rfl, by decide +kernel, rfl, by decide +kernel, by decide +kernel⟩
noncomputable abbrev a7v : Stmt := top 59
theorem sc_law : FnScope ["_law_script", "_law_wheels", "_law_joins", "_law_train_here", "_law_start", "_law_none", "_law_drawn", "_law_first"] ["_law_script"] (a0c a7v) := ⟨rfl, rfl, rfl, by decide +kernel, rfl, by decide +kernel, by decide +kernel⟩
section
variable {P : Program} {w : World} {K : PySem.W.Frag} {mg : Str -> Option Value} {base : Heap}
theorem a56 {X : Cx} {F0 : Hp} {pos : Pos} (T : Txt X.K X.mg) (hg : Gl X "LONGEST_NAME" := by rfl) : PEA X F0 (.Name "LONGEST_NAME" pos) (aC (.int 8)) := by
 obtain ⟨t, h⟩ := T.LONGEST_NAME
 exact paC (a3v (v := .int 8) hg h ⟨t, rfl⟩) fun _ => .int _
theorem a6x {X : Cx} {F0 : Hp} {pos : Pos} (T : Txt X.K X.mg) (hg : Gl X "TEETH_BOUND" := by rfl) : PEA X F0 (.Name "TEETH_BOUND" pos) (aC (.int 1000000000)) := by
 obtain ⟨t, h⟩ := T.TEETH_BOUND
 exact paC (a3v (v := .int 1000000000) hg h ⟨t, rfl⟩) fun _ => .int _
theorem a6y {X : Cx} {F0 : Hp} {pos : Pos} (T : Txt X.K X.mg) (hg : Gl X "MOST_WHEELS" := by rfl) : PEA X F0 (.Name "MOST_WHEELS" pos) (aC (.int 100)) := by
 obtain ⟨t, h⟩ := T.MOST_WHEELS
 exact paC (a3v (v := .int 100) hg h ⟨t, rfl⟩) fun _ => .int _
theorem a7z {X : Cx} {F0 : Hp} {pos : Pos} (T : Txt X.K X.mg) (hg : Gl X "MOST_JOINS" := by rfl) : PEA X F0 (.Name "MOST_JOINS" pos) (aC (.int 200)) := by
 obtain ⟨t, h⟩ := T.MOST_JOINS
 exact paC (a3v (v := .int 200) hg h ⟨t, rfl⟩) fun _ => .int _
theorem b2j {X : Cx} {F0 : Hp} {pos : Pos} (T : Txt X.K X.mg) (hg : Gl X "LETTERS" := by rfl) : PEA X F0 (.Name "LETTERS" pos) (aC (.str "abcdefghijklmnopqrstuvwxyz")) := by
 obtain ⟨t, h⟩ := T.LETTERS
 exact paC (a3v (v := .str "abcdefghijklmnopqrstuvwxyz") hg h ⟨t, rfl⟩) fun _ => .str _
theorem b6p {X : Cx} {F0 : Hp} {pos : Pos} (T : Txt X.K X.mg) (hg : Gl X "KINDS" := by rfl) : PEA X F0 (.Name "KINDS" pos) (aC (.ctp [.str "mesh", .str "pin", .str "band", .str "cross"])) := by
 obtain ⟨a, h, hs⟩ := T.KINDS
 exact paC (a3v (v := .ref a) hg h rfl) fun _ => .ctp (hs _) (.cons (.str _) (.cons (.str _) (.cons (.str _) (.cons (.str _) .nil))))
noncomputable def cell (ns : List Int) (k : Int) : Int := (ns[k.toNat]?).getD 0
def a7d : SpA := fun ds M Q _ => ∃ (ns : List Int) (k : Int), ds = [.scr (ns.map D.int), .int k] /\ 0 <= k /\ Q (.int (cell ns k)) M
theorem ok_cell {f : Addr} {fd : FuncData} (Fn : Fun K "_law_cell_at" "_law_cell_at" a2t f fd) (T : Txt K mg) : FnOk P w K mg base (CXE P w) 1 f fd ["_law_script", "_law_k"] (a0j K a7d) := by
 refine Fn.okA a6v (fun ds M Q E h => ?_) ?_
 . obtain ⟨a, b, rfl, _⟩ := h; rfl
 intro cdv A outer s H E F0 ds M Q Ea hr ct hsp
 obtain ⟨ns, k, rfl, hk, q⟩ := hsp
 refine ⟨_, (a0b (sIf (a0q a59 lLt (paV (pv 1)) (a02 a0v lLen (by rfl) T.len PySem.boot_len (a0a (paV (pv 0)) a0f)) (a0n _))
       (a0i (sRet (paIx a0e lIx (paV (pv 0)) (paV (pv 1)) (fun _ _ => rfl))))
       a0s)
     (a0i (sRet paI))), ?_⟩
 simp! only [List.length_map]
 obtain ⟨n, rfl⟩ := Int.eq_ofNat_of_zero_le hk
 refine ite2 (fun h => ?_) fun h => ?_
 . have h := of_decide_eq_true h
   have hn : n < ns.length := by omega
   rw [a3c (v := D.int ns[n]) (by simp [List.getElem?_eq_getElem hn])]
   have e : cell ns (n : Int) = ns[n] := by simp [cell, List.getElem?_eq_getElem hn]
   rw [e] at q
   exact .now q
 . have hn : ¬ n < ns.length := fun z => h (decide_eq_true (by omega))
   have e : cell ns (n : Int) = 0 := by simp [cell, List.getElem?_eq_none (Nat.le_of_not_lt hn)]
   rw [e] at q
   exact .now q
noncomputable def isInt : D -> Bool | .int _ => true | _ => false
def a5u : SpA := fun ds M Q _ => ∃ d, ds = [d] /\ a4h M d = true /\ Q (.bl (isInt d)) M
theorem b6s {f : Addr} {fd : FuncData} (Fn : Fun K "_law_whole" "_law_whole" a3p f fd) (T : Txt K mg) : FnOk P w K mg base (CXE P w) 1 f fd ["_law_found"] (a0j K a5u) := by
 refine Fn.okA a8t (fun ds M Q E h => ?_) ?_
 . obtain ⟨a, rfl, _⟩ := h; rfl
 intro cdv A outer s H E F0 ds M Q Ea hr ct hsp
 obtain ⟨d, rfl, hk, q⟩ := hsp
 refine ⟨_, (a0i (sRet (b33 (a57 (T := "int") (x := "int") (by decide) (by rfl) T.isinstance (by rfl) T.int boot_int (paV (pv 0))) (b31 (paNot (a57 (T := "bool") (x := "bool") (by decide) (by rfl) T.isinstance (by rfl) T.bool boot_bool (paV (pv 0)))))))), ?_⟩
 simp! only [b2w]
 refine ⟨hk, ite2 (fun h => ⟨hk, ?_⟩) fun h => ?_⟩
 . cases d <;> first
     | exact .now q
     | (simp [a8e] at h; done)
     | skip
   rename_i p
   unfold a8e at h
   dsimp only at h
   split at h <;> simp at h
 . cases d <;> first
     | exact .now q
     | (exact absurd rfl h)
theorem b7h {X : Cx} {scope : Scope} {Nc : List Str} {n : Nat} (clos : closureFor scope X.env = pure [] := by rfl) (cell : ∀ y ∈ scope.names, y.2 ≠ .cell := by decide +kernel) (kind : scope.kind = .function := by rfl)
   (names : ∀ x ∈ scope.names, x.2 = .local -> scope.names.lookup x.1 = some .local := by decide +kernel) (nof : ∀ y ∈ scope.names, y.2 ≠ .free := by decide +kernel) (rl : (relabel scope X.env).names = scope.names := by rfl) (len : n = Nc.length := by rfl) : CompOk X scope [] Nc (jsOf n []) := by
 have look : ∀ {x : Str} {k : NameKind}, scope.names.lookup x = some k -> ∃ y ∈ scope.names, y.2 = k := by
   intro x k
   generalize scope.names = l
   intro h
   induction l with
   | nil => cases h
   | cons a l ih =>
     rw [List.lookup_cons] at h
     split at h
     . cases h; exact ⟨a, List.mem_cons_self, rfl⟩
     . obtain ⟨y, h1, h2⟩ := ih h; exact ⟨y, List.mem_cons_of_mem _ h1, h2⟩
 refine ⟨clos, (fun _ _ h => by cases h), cell, kind, names, fun x h => ?_, by simp [jsOf, len], fun k j h => ?_⟩
 . rw [rl] at h
   rcases h with h | h
   . obtain ⟨y, h1, h2⟩ := look h; exact absurd h2 (cell y h1)
   . obtain ⟨y, h1, h2⟩ := look h; exact absurd h2 (nof y h1)
 . unfold jsOf at h
   simp only [List.map_nil, List.append_nil, List.getElem?_replicate] at h
   split at h <;> cases h
theorem b1g (f : Nat -> D) (n : Nat) : outs (fun i => some (f i)) n = (List.range n).map f := by
 unfold outs
 induction List.range n with
 | nil => rfl
 | cons a l ih => simp only [List.filterMap_cons, List.map_cons, ih]
theorem all_cps (x : Str) (q : Nat -> Bool) : ((List.range x.cps.size).map fun i => q (x.cps.getD i 0)).all id = x.cps.toList.all q := by
 rw [Bool.eq_iff_iff, List.all_eq_true, List.all_eq_true]
 constructor
 . intro h c hc
   obtain ⟨i, hi, rfl⟩ := List.getElem_of_mem hc
   have hi' : i < x.cps.size := by simpa using hi
   have := h _ (List.mem_map.mpr ⟨i, List.mem_range.mpr hi', rfl⟩)
   simpa [Array.getD, hi'] using this
 . intro h b hb
   obtain ⟨i, hi, rfl⟩ := List.mem_map.mp hb
   have hi' := List.mem_range.mp hi
   have := h (x.cps.toList[i]'(by simpa using hi')) (List.getElem_mem _)
   simpa [Array.getD, hi'] using this
theorem own1 {own : G} (h : own.length = 1) : ∃ o, own = [o] := by
 cases own with
 | nil => cases h
 | cons o l => cases l with
   | nil => exact ⟨o, rfl⟩
   | cons _ _ => simp at h
def a7r : SpA := fun ds M Q _ => ∃ x : Str, ds = [.str x] /\ x.length <= 1000 /\ Q (.bl (a2z x)) M
theorem b2n {f : Addr} {fd : FuncData} (Fn : Fun K "is_name" "is_name" a52 f fd) (T : Txt K mg) : FnOk P w K mg base (CXE P w) 1 f fd ["text"] (a0j K a7r) := by
 refine Fn.okA b2i (fun ds M Q E h => ?_) ?_
 . obtain ⟨x, rfl, _⟩ := h; rfl
 intro cdv A outer s H E F0 ds M Q Ea hr ct hsp
 obtain ⟨x, rfl, hx, q⟩ := hsp
 refine ⟨_, (a0b (sIf ((pwOr (a0q a59 lLt (a02 a0v lLen (by rfl) T.len PySem.boot_len (a0a (paV (pv 0)) a0f)) paI (a0n _)) (a39 (a0q b6q lGt (a02 a0v lLen (by rfl) T.len PySem.boot_len (a0a (paV (pv 0)) a0f)) (a56 T) (a0n _))))).pt
       (a0i (sRet paB))
       a0s)
     (a0i (sRet (paAll (by rfl) T.all rfl (a0a (paFz (a90 (Nc := ["sign"]) (n := 1) (fs := []) b7h rfl (iStr' (paV (pv 0))) (fun _ _ _ _ _ => (a0r (i := 0) (show List.Nodup (["sign"] : List Str) by decide +kernel) rfl (Or.inl rfl))) (fun _ _ _ _ _ => b5c) (fun _ _ _ _ _ => (a8y b1h lIn (paV (pv 0)) (b2j T) (by with_unfolding_all rfl))))) a0f))))), ?_⟩
 have hl : x.length <= sizeLine := b0h hx
 simp! only []
 refine ⟨hl, ite2 (fun h1 => ?_) (fun h1 => ⟨hl, ite2 (fun h2 => ?_) (fun h2 => ?_)⟩)⟩
 . have h1 := of_decide_eq_true h1
   have e : a2z x = false := by
     unfold a2z
     rw [decide_eq_true (show x.length < 1 by omega)]; rfl
   rw [e] at q
   exact .now q
 . have h2 := of_decide_eq_true h2
   have e : a2z x = false := by
     unfold a2z
     rw [decide_eq_true (show 8 < x.length by omega), Bool.or_true]; rfl
   rw [e] at q
   exact .now q
 . have h1 : ¬ (x.length < 1) := fun z => h1 (decide_eq_true (by omega))
   have h2 : ¬ (8 < x.length) := fun z => h2 (decide_eq_true (by omega))
   have e : a2z x = x.cps.toList.all fun c => decide (c ∈ letters) := by
     unfold a2z
     rw [decide_eq_false h1, decide_eq_false h2]; rfl
   rw [e, <- all_cps] at q
   simp! only [aFz, a3n, frG, oIn]
   refine ⟨fun i => some (.bl (decide (x.cps.getD i 0 ∈ letters))), by show x.cps.size <= 1000; exact hx, fun M' _ i hi own ho => ?_, fun p hp => ?_⟩
   . obtain ⟨o, rfl⟩ := own1 ho
     refine ⟨⟨[some _], rfl, rfl⟩, ?_⟩
     simp! only []
     exact (congrArg (fun b => some (D.bl b)) (PySem.StrLaws.found_one ("abcdefghijklmnopqrstuvwxyz" : Str) (x.cps.getD i 0)).symm)
   . simp only [a0d, a3z hp, oAll, L2.dr]
     refine ⟨_, ?_, .now q⟩
     rw [b1g, List.map_map]; rfl
theorem a43 {d1 d2 : Addr} {n : Int} : (fsT d1 d2 n).lookup ("teeth_of" : Str) = some (.obj d1) := rfl
theorem a9b {d1 d2 : Addr} {n : Int} : (fsT d1 d2 n).lookup ("join_of" : Str) = some (.obj d2) := rfl
theorem b4g {d1 d2 : Addr} {n : Int} : (fsT d1 d2 n).lookup ("next_number" : Str) = some (.int n) := rfl
def b06 (C : Addr) : SpA := fun ds M Q _ => ∃ p, ds = [.obj p] /\ M p = some (.ins C []) /\ ∀ d1 d2, M d1 = none -> M d2 = none -> d1 ≠ d2 -> d1 ≠ p -> d2 ≠ p -> Q .non (put (put (put M d1 (.dic [])) d2 (.dic [])) p (.ins C (fsT d1 d2 0)))
theorem ok_init {f C : Addr} {fd : FuncData} (Fn : Fun K "__init__" "Train.__init__" a06 f fd) (pl_teeth_of : Pln K C "teeth_of") (pl_join_of : Pln K C "join_of") (pl_next_number : Pln K C "next_number") :
   FnOk P w K mg base (CXE P w) 1 f fd ["self"] (a0j K (b06 C)) := by
 refine Fn.okA a4r (fun ds M Q E h => ?_) ?_
 . obtain ⟨x, rfl, _⟩ := h; rfl
 intro cdv A outer s H E F0 ds M Q Ea hr ct hsp
 obtain ⟨p, rfl, hp, q⟩ := hsp
 refine ⟨_, (a0b (b59 pl_teeth_of (paV (pv 0)) b32 rfl)
     (a0b (b59 pl_join_of (paV (pv 0)) b32 rfl)
     (a0i (b59 pl_next_number (paV (pv 0)) paI rfl)))), ?_⟩
 simp! only []
 intro d1 h1
 have n1 : p ≠ d1 := by rintro rfl; rw [hp] at h1; cases h1
 simp only [a0h n1, hp, a2k, a0d]
 refine ⟨by decide, fun d2 h2 => ?_⟩
 have n2 : p ≠ d2 := by rintro rfl; rw [a0d] at h2; cases h2
 rw [a0h n2.symm] at h2
 have n3 : d1 ≠ d2 := by rintro rfl; rw [a0d] at h2; cases h2
 rw [a0h n3.symm] at h2
 simp only [a0h n2, a2k, a0d]
 refine ⟨by show 1 < 1000; decide, by show 2 < 1000; decide, ?_⟩
 rw [a1e, a5n n2, a1e]
 exact .now (q d1 d2 h1 h2 n3 n1.symm n2.symm)
structure ExK (K : PySem.W.Frag) (mg : Str -> Option Value) (EC : Rk -> Addr) : Prop where
 noName : ExCls K mg "NoName" (EC .noName)
 twice : ExCls K mg "Twice" (EC .twice)
 noTeeth : ExCls K mg "NoTeeth" (EC .noTeeth)
 full : ExCls K mg "Full" (EC .full)
 noWheel : ExCls K mg "NoWheel" (EC .noWheel)
 noJoin : ExCls K mg "NoJoin" (EC .noJoin)
def b04 (C : Addr) (EC : Rk -> Addr) : SpA := fun ds M Q E => ∃ p d1 d2 S n t, ds = [.obj p, .str n, .int t] /\ Tr C M p d1 d2 S /\ n.length <= 1000 /\
 match refW S n t with | some r => E (.ref (EC r)) M | none => Q .non (put M d1 (.dic (dW (S.ws ++ [(n, t)]))))
theorem a82 {f C : Addr} {fd : FuncData} {EC : Rk -> Addr} (Fn : Fun K "put_wheel" "Train.put_wheel" a01 f fd) (T : Txt K mg) (XK : ExK K mg EC) (pl_teeth_of : Pln K C "teeth_of")
   (h_is_name : Has P w K mg base (CXE P w) 1 "is_name" ["text"] (a0j K a7r)) : FnOk P w K mg base (CXE P w) 2 f fd ["self", "name", "teeth"] (a0j K (b04 C EC)) := by
 refine Fn.okA a36 (fun ds M Q E h => ?_) ?_
 . obtain ⟨p, d1, d2, S, n, t, rfl, _⟩ := h; rfl
 intro cdv A outer s H E F0 ds M Q Ea hr ct hsp
 obtain ⟨p, d1, d2, S, n, t, rfl, tr, hn, q⟩ := hsp
 have hu := hu_of hr
 have X_NoName := XK.noName
 have X_Twice := XK.twice
 have X_NoTeeth := XK.noTeeth
 have X_Full := XK.full
 refine ⟨_, (a0b (sIf (a3u (ptV (a0t h_is_name (hr.mono (by decide)) (by rfl) ct (a0a (paV (pv 1)) a0f))))
       (a0i (a24 ct X_NoName (by rfl) (a0a paS a0f)))
       a0s)
     (a0b (sIf (ptPC (pcDIn (un1 ct) (paV (pv 1)) (a6z pl_teeth_of (paV (pv 0)) rfl)))
       (a0i (a24 ct X_Twice (by rfl) (a0a paS a0f)))
       a0s)
     (a0b (sIf ((pwOr (a0q a59 lLt (paV (pv 2)) paI (a0n _)) (a39 (a0q b6r lGe (paV (pv 2)) (a6x T) (a0n _))))).pt
       (a0i (a24 ct X_NoTeeth (by rfl) (a0a paS a0f)))
       a0s)
     (a0b (sIf (a0q b6r lGe (a02 a0v lLen (by rfl) T.len PySem.boot_len (a0a (a6z pl_teeth_of (paV (pv 0)) rfl) a0f)) (a6y T) (a0n _))
       (a0i (a24 ct X_Full (by rfl) (a0a paS a0f)))
       a0s)
     (a0i (b3k (un1 ct) (a6z pl_teeth_of (paV (pv 0)) rfl) (paV (pv 1)) (paV (pv 2)) rfl)))))), ?_⟩
 simp! only [a7r]
 refine ⟨n, rfl, hn, ?_⟩
 simp! only [tr.self, a43, tr.teeth, b0m]
 have hh : (S.ws.any fun w => decide (w.1 = n)) = S.has n := rfl
 rw [hh]
 cases h1 : a2z n with
 | false => simpa [refW, h1] using q
 | true =>
   cases h2 : S.has n with
   | true => simpa [refW, h1, h2] using q
   | false =>
     by_cases h3 : t < 1
     . simpa [refW, h1, h2, h3] using q
     . by_cases h4 : 1000000000 <= t
       . simpa [refW, h1, h2, h3, h4] using q
       . by_cases h5 : 100 <= S.ws.length
         . have e5 : (100 : Int) <= ((dW S.ws).length : Nat) := by simp [dW]; omega
           simpa [refW, h1, h2, h3, h4, h5, e5] using q
         . have e5 : ¬ (100 : Int) <= ((dW S.ws).length : Nat) := by simp [dW]; omega
           have e6 : a5e (dW S.ws) (Sum.inr n) (.int t) = dW (S.ws ++ [(n, t)]) := by
             rw [a4a (by rw [b0m]; exact h2)]
             simp [dW]
           have e7 : (dW S.ws).length < 1000 := by simp [dW]; omega
           simp [h3, h4, e5, e7, e6]
           simp [refW, h1, h2, h3, h4, h5] at q
           exact .now q
theorem a7n (a k : Str) : (a == k) = decide (k = a) := by
 rw [<- b0r]
 by_cases h : a = k
 . subst h; rw [decide_eq_true rfl, decide_eq_true rfl]
 . rw [decide_eq_false fun z => h (V.str.inj z), decide_eq_false fun z => h z.symm]
theorem b65 (k : Str) : inD (.str k) [.str "mesh", .str "pin", .str "band", .str "cross"] = a3j k := by
 unfold inD a3j
 simp only [List.any_cons, List.any_nil, eqF, Bool.or_false]
 rw [a7n, a7n, a7n, a7n]
 simp only [Bool.or_assoc]
theorem kindsB (k : Str) : (if (flD (.str k) && ([.str "mesh", .str "pin", .str "band", .str "cross"] : List D).all flD) = true then some (inD (.str k) [.str "mesh", .str "pin", .str "band", .str "cross"]) else none) = some (a3j k) := by
 rw [if_pos (show (flD (.str k) && ([.str "mesh", .str "pin", .str "band", .str "cross"] : List D).all flD) = true from rfl), b65]
def b05 (C : Addr) (EC : Rk -> Addr) : SpA := fun ds M Q E => ∃ p d1 d2 S k a b, ds = [.obj p, .str k, .str a, .str b] /\ Tr C M p d1 d2 S /\
 match refJ S k a b with | some r => E (.ref (EC r)) M | none => Q (.int S.nx) (put (put M d2 (.dic (dJ (S.js ++ [(S.nx, k, a, b)])))) p (.ins C (fsT d1 d2 (S.nx + 1))))
theorem a92 {f C : Addr} {fd : FuncData} {EC : Rk -> Addr} (Fn : Fun K "put_join" "Train.put_join" a05 f fd) (T : Txt K mg) (XK : ExK K mg EC) (pl_teeth_of : Pln K C "teeth_of") (pl_join_of : Pln K C "join_of") (pl_next_number : Pln K C "next_number") :
   FnOk P w K mg base (CXE P w) 2 f fd ["self", "kind", "one", "other"] (a0j K (b05 C EC)) := by
 refine Fn.okA sc_Train_put_join (fun ds M Q E h => ?_) ?_
 . obtain ⟨p, d1, d2, S, k, a, b, rfl, _⟩ := h; rfl
 intro cdv A outer s H E F0 ds M Q Ea hr ct hsp
 obtain ⟨p, d1, d2, S, k, a, b, rfl, tr, q⟩ := hsp
 have hu := hu_of hr
 have hu64 := hr.units
 have X_NoJoin := XK.noJoin
 have X_NoWheel := XK.noWheel
 have X_Full := XK.full
 refine ⟨_, (a0b (sIf (a0q a58 b4p (paV (pv 1)) (b6p T) (by with_unfolding_all rfl))
       (a0i (a24 ct X_NoJoin (by rfl) (a0a paS a0f)))
       a0s)
     (a0b (sIf ((pwOr (ptPC (a5o (un1 ct) (paV (pv 2)) (a6z pl_teeth_of (paV (pv 0)) rfl))) (a39 (ptPC (a5o (un1 ct) (paV (pv 3)) (a6z pl_teeth_of (paV (pv 0)) rfl)))))).pt
       (a0i (a24 ct X_NoWheel (by rfl) (a0a paS a0f)))
       a0s)
     (a0b (sIf (a0q (a1k (un64 ct)) lEq (paV (pv 2)) (paV (pv 3)) (a0n _))
       (a0i (a24 ct X_NoJoin (by rfl) (a0a paS a0f)))
       a0s)
     (a0b (sIf (a0q b6r lGe (a02 a0v lLen (by rfl) T.len PySem.boot_len (a0a (a6z pl_join_of (paV (pv 0)) rfl) a0f)) (a7z T) (a0n _))
       (a0i (a24 ct X_Full (by rfl) (a0a paS a0f)))
       a0s)
     (a0b (sSet (i := 4) sc_Train_put_join.nd rfl (Or.inl rfl) (a6z pl_next_number (paV (pv 0)) rfl))
     (a0b (b3k (un1 ct) (a6z pl_join_of (paV (pv 0)) rfl) (paV (pv 4)) (a1w (a0a (paV (pv 4)) (a0a (paV (pv 1)) (a0a (paV (pv 2)) (a0a (paV (pv 3)) a0f))))) rfl)
     (a0b (b59 pl_next_number (paV (pv 0)) (paOp a1a lAdd (paV (pv 4)) paI) rfl)
     (a0i (sRet (paV (pv 4))))))))))), ?_⟩
 simp! only [kindsB]
 have n1 : p ≠ d2 := by rintro rfl; have := tr.self; rw [tr.join] at this; cases this
 simp! only [tr.self, a43, a9b, b4g, tr.teeth, tr.join, b0m, a0h n1]
 have ha : (S.ws.any fun w => decide (w.1 = a)) = S.has a := rfl
 have hb : (S.ws.any fun w => decide (w.1 = b)) = S.has b := rfl
 rw [ha, hb]
 cases h1 : a3j k with
 | false => simpa [refJ, h1] using q
 | true =>
   cases h2 : S.has a with
   | false => simpa [refJ, h1, h2] using q
   | true =>
     cases h3 : S.has b with
     | false => simpa [refJ, h1, h2, h3] using q
     | true =>
       by_cases h4 : a = b
       . subst h4
         simpa [refJ, h1, h2, h3] using q
       . by_cases h5 : 200 <= S.js.length
         . have e5 : (200 : Int) <= ((dJ S.js).length : Nat) := by simp [dJ]; omega
           simpa [refJ, h1, h2, h3, h4, h5, e5] using q
         . have e5 : ¬ (200 : Int) <= ((dJ S.js).length : Nat) := by simp [dJ]; omega
           have e7 : (dJ S.js).length < 1000 := by simp [dJ]; omega
           have e8 : (getK (dJ S.js) (Sum.inl S.nx)).isSome = false := by
             rw [getK_dJ]
             rw [List.any_eq_false]
             intro j hj
             have := tr.lt j hj
             simp; omega
           have e6 : a5e (dJ S.js) (Sum.inl S.nx) (.tup [.int S.nx, .str k, .str a, .str b]) = dJ (S.js ++ [(S.nx, k, a, b)]) := by
             rw [a4a e8]
             simp [dJ, eJ]
           simp [h4, e5, e7, e6]
           simp [refJ, h1, h2, h3, h4, h5] at q
           exact ⟨by show 3 < 1000; decide, .now q⟩
def a2o (C : Addr) : SpA := fun ds M Q _ => ∃ p d1 d2 S, ds = [.obj p] /\ Tr C M p d1 d2 S /\ ∀ l, M l = none -> Q (.obj l) (put M l (.lst (S.ws.map eW)))
theorem b35 {f C : Addr} {fd : FuncData} (Fn : Fun K "wheels" "Train.wheels" a1b f fd) (T : Txt K mg) (pl_teeth_of : Pln K C "teeth_of") : FnOk P w K mg base (CXE P w) 1 f fd ["self"] (a0j K (a2o C)) := by
 refine Fn.okA a5z (fun ds M Q E h => ?_) ?_
 . obtain ⟨p, d1, d2, S, rfl, _⟩ := h; rfl
 intro cdv A outer s H E F0 ds M Q Ea hr ct hsp
 obtain ⟨p, d1, d2, S, rfl, tr, q⟩ := hsp
 refine ⟨_, a0i (sRet (paItems T.list rfl (by rfl) (a6z pl_teeth_of (paV (pv 0)) rfl))), ?_⟩
 simp! only [aItems, tr.self, a43, tr.teeth]
 intro l hl
 have e : (dW S.ws).map (fun kv => D.tup [keyOf kv.1, kv.2]) = S.ws.map eW := by
   unfold dW; rw [List.map_map]; rfl
 rw [e]
 exact .now (q l hl)
def a4o (C : Addr) : SpA := fun ds M Q _ => ∃ p d1 d2 S, ds = [.obj p] /\ Tr C M p d1 d2 S /\ ∀ l, M l = none -> Q (.obj l) (put M l (.lst (S.js.map eJ)))
theorem b6v {f C : Addr} {fd : FuncData} (Fn : Fun K "joins" "Train.joins" a1g f fd) (T : Txt K mg) (pl_join_of : Pln K C "join_of") : FnOk P w K mg base (CXE P w) 1 f fd ["self"] (a0j K (a4o C)) := by
 refine Fn.okA a6w (fun ds M Q E h => ?_) ?_
 . obtain ⟨p, d1, d2, S, rfl, _⟩ := h; rfl
 intro cdv A outer s H E F0 ds M Q Ea hr ct hsp
 obtain ⟨p, d1, d2, S, rfl, tr, q⟩ := hsp
 refine ⟨_, a0i (sRet (paVals T.list rfl (by rfl) (a6z pl_join_of (paV (pv 0)) rfl))), ?_⟩
 simp! only [aVals, tr.self, a9b, tr.join]
 intro l hl
 have e : (dJ S.js).map (fun kv => kv.2) = S.js.map eJ := by
   unfold dJ; rw [List.map_map]; rfl
 rw [e]
 exact .now (q l hl)
theorem seqV {i : Nat} {te : AE} {rest : AS} {E : AEnds} {Γ : G} {M : Mem} (d : D) (M1 : Mem) (hte : ∀ R : AK, R d M1 -> te Γ M R) (h : rest E (Γ.set i (some d)) M1) : aSeq (aSet i te) rest E Γ M := hte _ h
theorem setV {i : Nat} {te : AE} {E : AEnds} {Γ : G} {M : Mem} (d : D) (M1 : Mem) (hte : ∀ R : AK, R d M1 -> te Γ M R) (h : E.nx (Γ.set i (some d)) M1) : aSet i te E Γ M := hte _ h
theorem b7f {te : AE} {rest : AS} {E : AEnds} {Γ : G} {M : Mem} (d : D) (M1 : Mem) (hte : ∀ R : AK, R d M1 -> te Γ M R) (h : rest E Γ M1) : aSeq (b0y te) rest E Γ M := hte _ h
theorem dropE {te : AE} {E : AEnds} {Γ : G} {M : Mem} (d : D) (M1 : Mem) (hte : ∀ R : AK, R d M1 -> te Γ M R) (h : E.nx Γ M1) : b0y te E Γ M := hte _ h
theorem retV {te : AE} {E : AEnds} {Γ : G} {M : Mem} (d : D) (M1 : Mem) (hte : ∀ R : AK, R d M1 -> te Γ M R) (h : E.rt d M1) : aRet te E Γ M := hte _ h
theorem ifV {c : AT} {t u : AS} {E : AEnds} {Γ : G} {M : Mem} (b : Bool) (hc : ∀ R : Bool -> Mem -> Prop, R b M -> c Γ M R) (h : if b = true then t E Γ M else u E Γ M) : aIf c t u E Γ M := hc _ h
theorem cut1 {t rest : AS} {E : AEnds} {Γ : G} {M : Mem} (R : G -> Mem -> Prop) (hr : ∀ Γ M, R Γ M -> rest E Γ M) (h : ∀ rest' : AS, (∀ Γ M, R Γ M -> rest' E Γ M) -> aSeq t rest' E Γ M) : aSeq t rest E Γ M := h rest hr
theorem cut2 {t1 t2 rest : AS} {E : AEnds} {Γ : G} {M : Mem} (R : G -> Mem -> Prop) (hr : ∀ Γ M, R Γ M -> rest E Γ M) (h : ∀ rest' : AS, (∀ Γ M, R Γ M -> rest' E Γ M) -> aSeq t1 (aSeq t2 rest') E Γ M) : aSeq t1 (aSeq t2 rest) E Γ M := h rest hr
theorem LoopP.by2 {S : Src} {gt : AGt} {tb : AS} {E : AEnds} {Γ : G} {M : Mem} (W : Nat -> G -> Mem -> Prop) (h0 : W 0 Γ M) (hl : ∀ i Γ M, W i Γ M -> S.held M)
   (step : ∀ (E' : AEnds) i Γ M, E'.rt = E.rt -> i < S.n -> (∀ Γ' M', W (i + 1) Γ' M' -> E'.nx Γ' M') -> W i Γ M -> gt (S.item i) Γ M fun Γ2 M2 => tb E' Γ2 M2) (done : ∀ Γ M, W S.n Γ M -> E.nx Γ M) : LoopP S gt tb E Γ M :=
 LoopP.by W h0 hl (fun i Γ M hi w => step _ i Γ M rfl hi (fun _ _ h => ⟨hi, h⟩) w) done
theorem cT {c : AT} {Γ : G} {M : Mem} {A B : Mem -> Prop} (hc : ∀ R : Bool -> Mem -> Prop, R true M -> c Γ M R) (h : A M) : c Γ M fun b M1 => if b = true then A M1 else B M1 := hc _ (by rw [if_pos rfl]; exact h)
theorem cF {c : AT} {Γ : G} {M : Mem} {A B : Mem -> Prop} (hc : ∀ R : Bool -> Mem -> Prop, R false M -> c Γ M R) (h : B M) : c Γ M fun b M1 => if b = true then A M1 else B M1 := hc _ (by rw [if_neg Bool.false_ne_true]; exact h)
theorem b3g {c : AT} {t u rest : AS} {E : AEnds} {Γ : G} {M : Mem} (b : Bool) (hc : ∀ R : Bool -> Mem -> Prop, R b M -> c Γ M R) (h : if b = true then t { E with nx := rest E } Γ M else u { E with nx := rest E } Γ M) : aSeq (aIf c t u) rest E Γ M := hc _ h
theorem b69 {tl : AE} {gt : AGt} {tb rest : AS} {E : AEnds} {Γ : G} {M : Mem} {d : D} {ds : List D} (htl : ∀ R : AK, R d M -> tl Γ M R) (hd : dr M d = some ds) (h : LoopP ⟨ds.length, fun i => ds.getD i .non, fun M => dr M d = some ds⟩ gt tb { E with nx := rest E } Γ M) : aSeq (aFor (iaL tl) gt tb) rest E Γ M :=
 htl _ (by dsimp only; rw [hd]; exact h)
theorem comp1 {X : Cx} {scope : Scope} {Nc : List Str} {n j : Nat} {x : Str} {c : Addr} (clos : closureFor scope X.env = pure [(x, c)] := by rfl) (hc : X.env.cells.lookup x = some c := by rfl) (cell : ∀ y ∈ scope.names, y.2 ≠ .cell := by decide +kernel) (kind : scope.kind = .function := by rfl)
   (names : ∀ x ∈ scope.names, x.2 = .local -> scope.names.lookup x.1 = some .local := by decide +kernel) (nof : ∀ y ∈ scope.names, y.2 = .free -> y.1 = x := by decide +kernel)
   (hx : (relabel scope X.env).names.lookup x = some .cell := by rfl) (hd : X.env.scope.names.lookup x = some .cell := by rfl) (hN : X.N[j]? = some x := by rfl) (hNc : Nc[n]? = some x := by rfl) (len : n + 1 = Nc.length := by rfl) : CompOk X scope [(x, c)] Nc (jsOf n [j]) := by
 have look : ∀ {l : List (Str × NameKind)} {z : Str} {k : NameKind}, l.lookup z = some k -> (z, k) ∈ l := by
   intro l z k h
   induction l with
   | nil => cases h
   | cons a l ih =>
     rw [List.lookup_cons] at h
     split at h
     . rename_i e
       cases h
       have e : z = a.1 := by simpa using e
       rw [e]; exact List.mem_cons_self
     . exact List.mem_cons_of_mem _ (ih h)
 have one : ∀ {z : Str} {d : Addr}, ([(x, c)] : List (Str × Addr)).lookup z = some d -> z = x /\ d = c := by
   intro z d h
   rw [List.lookup_cons] at h
   split at h
   . rename_i e
     cases h
     exact ⟨by simpa using e, rfl⟩
   . cases h
 have self : ([(x, c)] : List (Str × Addr)).lookup x = some c := by simp [List.lookup_cons]
 refine ⟨clos, fun z d h => ?_, cell, kind, names, fun z h => ?_, by simp [jsOf, len], fun k j' h => ?_⟩
 . obtain ⟨rfl, rfl⟩ := one h; exact hc
 . have key : ∀ k', (z, k') ∈ (relabel scope X.env).names -> (k' = .cell \/ k' = .free) -> z = x := fun k' hm hk => by
     obtain ⟨⟨n', k⟩, h1, h2⟩ := List.mem_map.mp (show (z, k') ∈ scope.names.map _ from hm)
     dsimp only at h2
     split at h2
     . rename_i hf
       simp only [Bool.and_eq_true, beq_iff_eq] at hf
       cases h2
       exact nof _ h1 hf.1.1
     . cases h2
       rcases hk with rfl | rfl
       . exact absurd rfl (cell _ h1)
       . exact nof _ h1 rfl
   have : z = x := by
     rcases h with h | h
     . exact key _ (look h) (.inl rfl)
     . exact key _ (look h) (.inr rfl)
   subst this
   exact ⟨c, self⟩
 . unfold jsOf at h
   by_cases hk : k < n
   . rw [List.getElem?_append_left (by simpa using hk), List.getElem?_replicate, if_pos hk] at h
     cases h
   . rw [List.getElem?_append_right (by simp; omega)] at h
     simp only [List.length_replicate, List.map_cons, List.map_nil] at h
     have hk0 : k - n = 0 := by
       cases hh : k - n with
       | zero => rfl
       | succ m => rw [hh] at h; simp at h
     rw [hk0] at h
     have h : j = j' := by simpa using h
     subst h
     have : k = n := by omega
     subst this
     exact ⟨x, c, hNc, hN, hd, self, hx⟩
def b2c : SpA := fun ds M Q _ => ∃ a b : Int, ds = [.int a, .int b] /\ Q (.int ((Int.gcd a b : Nat) : Int)) M
theorem ok_gcd {f : Addr} {fd : FuncData} (Fn : Fun K "greatest_divisor" "greatest_divisor" a1m f fd) (T : Txt K mg) : FnOk P w K mg base (CXE P w) 1 f fd ["one", "other"] (a0j K b2c) := by
 refine Fn.okA sc_greatest_divisor (fun ds M Q E h => ?_) ?_
 . obtain ⟨a, b, rfl, _⟩ := h; rfl
 intro cdv A outer s H E F0 ds M Q Ea hr ct hsp
 obtain ⟨a, b, rfl, q⟩ := hsp
 refine ⟨_, (a0b (sSet (i := 2) sc_greatest_divisor.nd rfl (Or.inl rfl) (a02 a5t lAbs (by rfl) T.abs boot_abs (a0a (paV (pv 0)) a0f)))
     (a0b (sSet (i := 3) sc_greatest_divisor.nd rfl (Or.inl rfl) (a02 a5t lAbs (by rfl) T.abs boot_abs (a0a (paV (pv 1)) a0f)))
     (a0b (a8v ct (a0q (a15 (un64 ct)) lNe (paV (pv 3)) paI (a0n _))
       (a0b (sSet (i := 4) sc_greatest_divisor.nd rfl (Or.inl rfl) (paOp a07 lMod (paV (pv 2)) (paV (pv 3))))
       (a0b (sSet (i := 2) sc_greatest_divisor.nd rfl (Or.inl rfl) (paV (pv 3)))
       (a0i (sSet (i := 3) sc_greatest_divisor.nd rfl (Or.inl rfl) (paV (pv 4)))))))
     (a0i (sRet (paV (pv 2))))))), ?_⟩
 simp! only [oAbs, absE]
 refine ⟨fun m Γ M' => M' = M /\ ∃ (d r : Nat) (lo : Option D), r = m /\ Γ = [some (.int a), some (.int b), some (.int d), some (.int r), lo] /\ Nat.gcd d r = Int.gcd a b, ⟨b.natAbs, rfl, a.natAbs, b.natAbs, none, rfl, rfl, rfl⟩, ?_⟩
 rintro m Γ M' ⟨rfl, d, r, lo, rfl, rfl, hg⟩
 by_cases hr0 : r = 0
 . subst hr0
   refine cF (fun R h => ?_) ?_
   . simp! only [Int.natCast_zero, decide_true, Bool.not_true]; exact h
   . rw [<- hg, Nat.gcd_zero_right] at q
     exact .now q
 . refine cT (fun R h => ?_) ?_
   . simp! only [decide_eq_false (show ¬ (r : Int) = 0 by omega), Bool.not_false]; exact h
   . simp! only []
     exact ⟨by omega, d % r, Nat.mod_lt _ (by omega), r, d % r, some (.int ((d : Int) % (r : Int))), rfl, by rw [Int.natCast_emod], gcd_step.trans hg⟩
noncomputable def eF (x : Fr) : D := .tup [.int x.1, .int x.2]
def b2b : SpA := fun ds M Q _ => ∃ a b : Int, ds = [.int a, .int b] /\ b ≠ 0 /\ Q (eF (lowT a b, lowB a b)) M
theorem ok_low {f : Addr} {fd : FuncData} (Fn : Fun K "lowest" "lowest" a37 f fd) (hs : base.NoSeer) (ht : P.given.tree = none) (h_greatest_divisor : Has P w K mg base (CXE P w) 1 "greatest_divisor" ["one", "other"] (a0j K b2c)) :
   FnOk P w K mg base (CXE P w) 41 f fd ["top", "bottom"] (a0j K b2b) := by
 refine Fn.okA sc_lowest (fun ds M Q E h => ?_) ?_
 . obtain ⟨a, b, rfl, _⟩ := h; rfl
 intro cdv A outer s H E F0 ds M Q Ea hr ct hsp
 obtain ⟨a, b, rfl, hb, q⟩ := hsp
 have bd : BigDiv ((cxOf (CXE P w) P w K mg base ["top", "bottom", "divisor"] "lowest" (a0c a37) f cdv A outer s H E).by (rE E)) := ⟨hs, ht, rfl, rfl, rfl, by have := hr.dp; show A.depth + 1 + 100 < _; have e : (A.deeper (envOfC "lowest" (a0c a37) s.heap.objs.size f cdv)).depth = A.depth + 1 := rfl; rw [e] at this; omega⟩
 refine ⟨_, (a0b (sSet (i := 2) sc_lowest.nd rfl (Or.inl rfl) (a0t h_greatest_divisor (hr.mono (by decide)) (by rfl) ct (a0a (paV (pv 0)) (a0a (paV (pv 1)) a0f))))
     (a0b (sIf (a0q a59 lLt (paV (pv 1)) paI (a0n _))
       (a0i (sSet (i := 2) sc_lowest.nd rfl (Or.inl rfl) (paUn a8o lNeg (paV (pv 2)))))
       a0s)
     (a0i (sRet (a1w (a0a (paOp (b1i bd) lDivB (paV (pv 0)) (paV (pv 2))) (a0a (paOp (b1i bd) lDivB (paV (pv 1)) (paV (pv 2))) a0f))))))), ?_⟩
 simp! only [b2c]
 refine ⟨a, b, rfl, ?_⟩
 have hn := b4c (t := a) hb
 by_cases h0 : b < 0
 . have e : low a b = -((Int.gcd a b : Nat) : Int) := if_pos h0
   simp only [decide_eq_true h0, if_true, <- e]
   exact ⟨hn, hn, by decide, .now q⟩
 . have e : low a b = ((Int.gcd a b : Nat) : Int) := if_neg h0
   simp only [decide_eq_false h0, Bool.false_eq_true, if_false, <- e]
   exact ⟨hn, hn, by decide, .now q⟩
def a5v : SpA := fun ds M Q _ => ∃ x y : Fr, ds = [eF x, eF y] /\ 1 <= x.2 /\ Small 1 y /\ Q (eF (mulF x y)) M
theorem b2d {y : Fr} (h : Small 1 y) : Builtin.Int.intBits y.1 <= 64 /\ Builtin.Int.intBits y.2 <= 64 := by
 obtain ⟨h1, h2, h3⟩ := h
 have e : (2 : Nat) ^ (30 * 1) = 1073741824 := by decide
 have e' : (2 : Int) ^ (30 * 1) = 1073741824 := by decide
 have e64 : (2 : Nat) ^ 64 = 18446744073709551616 := by decide
 rw [e'] at h2
 rw [e] at h3
 refine ⟨intBits_le_iff.mpr ?_, intBits_le_iff.mpr ?_⟩
 . rw [e64]; omega
 . rw [e64]; omega
theorem b6u {f : Addr} {fd : FuncData} (Fn : Fun K "times" "times" a9y f fd) (h_lowest : Has P w K mg base (CXE P w) 41 "lowest" ["top", "bottom"] (a0j K b2b)) : FnOk P w K mg base (CXE P w) 42 f fd ["one", "other"] (a0j K a5v) := by
 refine Fn.okA b58 (fun ds M Q E h => ?_) ?_
 . obtain ⟨a, b, rfl, _⟩ := h; rfl
 intro cdv A outer s H E F0 ds M Q Ea hr ct hsp
 obtain ⟨x, y, rfl, hx, hy, q⟩ := hsp
 refine ⟨_, (a0i (sRet (a0t h_lowest (hr.mono (by decide)) (by rfl) ct (a0a (paOp a1c lMul (paIx a0e lIx (paV (pv 0)) paI (fun _ _ => rfl)) (paIx a0e lIx (paV (pv 1)) paI (fun _ _ => rfl))) (a0a (paOp a1c lMul (paIx a0e lIx (paV (pv 0)) paI (fun _ _ => rfl)) (paIx a0e lIx (paV (pv 1)) paI (fun _ _ => rfl))) a0f))))), ?_⟩
 obtain ⟨b1, b2⟩ := b2d hy
 have hb : x.2 * y.2 ≠ 0 := by
   have := Int.mul_pos (show 0 < x.2 by omega) (show 0 < y.2 by have := hy.1; omega)
   omega
 simp! only [eF, b2b]
 exact ⟨.of_right b1, .of_right b2, _, _, rfl, hb, .now q⟩
def a34 : SpA := fun ds M Q _ => ∃ (k : Str) (a b : Int), ds = [.str k, .int a, .int b] /\ 1 <= b /\ Q (eF (fac k a b)) M
theorem b37 {f : Addr} {fd : FuncData} (Fn : Fun K "factor" "factor" a7w f fd) (h_lowest : Has P w K mg base (CXE P w) 41 "lowest" ["top", "bottom"] (a0j K b2b)) : FnOk P w K mg base (CXE P w) 42 f fd ["kind", "one", "other"] (a0j K a34) := by
 refine Fn.okA b3j (fun ds M Q E h => ?_) ?_
 . obtain ⟨a, b, c, rfl, _⟩ := h; rfl
 intro cdv A outer s H E F0 ds M Q Ea hr ct hsp
 obtain ⟨k, a, b, rfl, hb, q⟩ := hsp
 refine ⟨_, (a0b (sIf (a0q (a1k (un64 ct)) lEq (paV (pv 0)) paS (a0n _))
       (a0i (sRet (a1w (a0a paI (a0a paI a0f)))))
       a0s)
     (a0b (sIf (a0q (a1k (un64 ct)) lEq (paV (pv 0)) paS (a0n _))
       (a0i (sRet (a0t h_lowest (hr.mono (by decide)) (by rfl) ct (a0a (paV (pv 1)) (a0a (paV (pv 2)) a0f)))))
       a0s)
     (a0i (sRet (a0t h_lowest (hr.mono (by decide)) (by rfl) ct (a0a (paUn a8o lNeg (paV (pv 1))) (a0a (paV (pv 2)) a0f))))))), ?_⟩
 have hb0 : b ≠ 0 := by omega
 unfold fac at q
 by_cases h1 : k = "pin"
 . rw [if_pos h1] at q
   refine a2x (fun R h => by simp! only [decide_eq_true h1]; exact h) ?_
   simp! only []
   exact ⟨by decide, .now q⟩
 . rw [if_neg h1] at q
   refine a1d (fun R h => by simp! only [decide_eq_false h1]; exact h) ?_
   by_cases h2 : k = "band"
   . rw [if_pos h2] at q
     refine a2x (fun R h => by simp! only [decide_eq_true h2]; exact h) ?_
     simp! only [b2b]
     exact ⟨a, b, rfl, hb0, .now q⟩
   . rw [if_neg h2] at q
     refine a1d (fun R h => by simp! only [decide_eq_false h2]; exact h) ?_
     simp! only [b2b]
     exact ⟨-a, b, rfl, hb0, .now q⟩
def a7p (EC : Rk -> Addr) : SpA := fun ds M Q E => ∃ (ns : List Str) (n : Str), ds = [.lst (ns.map D.str), .str n] /\ if n ∈ ns then Q .non M else E (.ref (EC .noWheel)) M
theorem b1u (ns : List Str) (n : Str) : inD (.str n) (ns.map D.str) = decide (n ∈ ns) := by
 unfold inD
 induction ns with
 | nil => rfl
 | cons a ns ih =>
   simp only [List.map_cons, List.any_cons, List.mem_cons, Bool.decide_or]
   rw [ih]
   congr 1
   by_cases h : a = n
   . subst h; simp [eqF]
   . have h' : ¬ n = a := fun z => h z.symm
     simp [eqF, h, h']
theorem a41 {f : Addr} {fd : FuncData} {EC : Rk -> Addr} (Fn : Fun K "refuse_unknown" "refuse_unknown" a1v f fd) (XK : ExK K mg EC) : FnOk P w K mg base (CXE P w) 1 f fd ["names", "name"] (a0j K (a7p EC)) := by
 refine Fn.okA a4q (fun ds M Q E h => ?_) ?_
 . obtain ⟨a, b, rfl, _⟩ := h; rfl
 intro cdv A outer s H E F0 ds M Q Ea hr ct hsp
 obtain ⟨ns, n, rfl, q⟩ := hsp
 have X_NoWheel := XK.noWheel
 refine ⟨_, (a0i (sIf (a0q a58 b4p (paV (pv 1)) (paV (pv 0)) (by with_unfolding_all rfl))
       (a0i (a24 ct X_NoWheel (by rfl) (a0a paS a0f)))
       a0s)), ?_⟩
 have e1 : (flD (D.str n) && (ns.map D.str).all flD) = true := by
   rw [Bool.and_eq_true]; exact ⟨rfl, List.all_eq_true.mpr fun d hd => by obtain ⟨x, _, rfl⟩ := List.mem_map.mp hd; rfl⟩
 simp! only [e1, b1u]
 split at q
 . rename_i h
   rw [decide_eq_true h]
   exact .now q
 . rename_i h
   rw [decide_eq_false h]
   exact ⟨by decide, q⟩
theorem a1z {α : Type} (l : List α) (f : α -> D) (i : Nat) (h : i < l.length) : (l.map f).getD i .non = f l[i] := by simp [List.getD, List.getElem?_eq_getElem h]
def spLead : SpA := fun ds M Q _ => ∃ (js : List Jn) (n : Str), ds = [.lst (js.map eJ), .str n] /\ js.length <= 300 /\ Q (.lst ((lead js n).map eL)) M
theorem a72 {f : Addr} {fd : FuncData} (Fn : Fun K "joins_from" "joins_from" a23 f fd) : FnOk P w K mg base (CXE P w) 1 f fd ["joins", "here"] (a0j K spLead) := by
 refine Fn.okA sc_joins_from (fun ds M Q E h => ?_) ?_
 . obtain ⟨a, b, rfl, _⟩ := h; rfl
 intro cdv A outer s H E F0 ds M Q Ea hr ct hsp
 obtain ⟨js, n, rfl, hl, q⟩ := hsp
 refine ⟨_, (a0b (sSet (i := 2) sc_joins_from.nd rfl (Or.inl rfl) (a4c a0f))
     (a0b (sFor ct (a2l (paV (pv 0))) (a7m rfl (a0w (a0r (i := 3) sc_joins_from.nd rfl (Or.inl rfl)) (a0w (a0r (i := 4) sc_joins_from.nd rfl (Or.inl rfl)) (a0w (a0r (i := 5) sc_joins_from.nd rfl (Or.inl rfl)) (a0w (a0r (i := 6) sc_joins_from.nd rfl (Or.inl rfl)) a3i)))))
       (a0b (sIf (a0q (a1k (un64 ct)) lEq (paV (pv 5)) (paV (pv 1)) (a0n _))
         (a0i (a2d (paBM PySem.F.plainAttrs_list PySem.F.slot_list_append PySem.F.type_list_append a09 a1x (paV (pv 2)) (a0a (a1w (a0a (paV (pv 3)) (a0a (paV (pv 4)) (a0a (paV (pv 6)) a0f)))) a0f))))
         a0s)
       (a0i (sIf (a0q (a1k (un64 ct)) lEq (paV (pv 6)) (paV (pv 1)) (a0n _))
         (a0i (a2d (paBM PySem.F.plainAttrs_list PySem.F.slot_list_append PySem.F.type_list_append a09 a1x (paV (pv 2)) (a0a (a1w (a0a (paV (pv 3)) (a0a (paV (pv 4)) (a0a (paV (pv 5)) a0f)))) a0f))))
         a0s))))
     (a0i (sRet (paV (pv 2)))))), ?_⟩
 simp! only []
 refine ⟨Nat.le_of_ble_eq_true rfl, fun p hp => ?_⟩
 refine LoopP.by (fun i Γ M' => M' = put M p (.lst ((lead (js.take i) n).map eL)) /\ ∃ a b c d, Γ = [some (.lst (js.map eJ)), some (.str n), some (.obj p), a, b, c, d]) ⟨rfl, _, _, _, _, rfl⟩ (fun _ _ _ _ => trivial) ?_ ?_
 . rintro i Γ M' hi ⟨rfl, a, b, c, d, rfl⟩
   dsimp only at hi
   have hi' : i < js.length := by simpa using hi
   have hll := b1r (js.take i) n
   rw [List.length_take] at hll
   have hl2 : ((lead (js.take i) n).map eL).length <= 600 := by rw [List.length_map]; omega
   have et : lead (js.take (i + 1)) n = lead (js.take i) n ++ a5f n js[i] := by
     unfold lead
     rw [List.take_succ_eq_append_getElem hi', List.flatMap_append]; simp
   simp! only [a1z js eJ i hi', eJ, a66, a4j, gaNil, aBM, a2e, a0d, oAppend, a1e]
   refine ⟨rfl, ?_⟩
   rw [et]
   generalize (lead (js.take i) n) = L at hl2 et |-
   unfold a5f
   have h3 : ∀ x : D, (L.map eL ++ [x]).length < 1000 := fun x => by rw [List.length_append]; simp only [List.length_cons, List.length_nil]; omega
   by_cases h1 : js[i].2.2.1 = n <;> by_cases h2 : js[i].2.2.2 = n <;> simp only [h1, h2, decide_true, decide_false, if_true, if_false, Bool.false_eq_true]
   . exact ⟨by decide, by omega, by decide, h3 _, hi, by simp [eL], _, _, _, _, rfl⟩
   . exact ⟨by decide, by omega, hi, by simp [eL], _, _, _, _, rfl⟩
   . exact ⟨by decide, by omega, hi, by simp [eL], _, _, _, _, rfl⟩
   . exact ⟨hi, by simp [eL], _, _, _, _, rfl⟩
 . rintro Γ M' ⟨rfl, a, b, c, d, rfl⟩
   refine .fz hp ?_
   have e : (js.map eJ).length = js.length := List.length_map ..
   dsimp only
   rw [e, List.take_length]
   exact q
theorem b6e {M : Mem} {p r : Addr} {a b c : MO} (h : r ≠ p) : put (put (put M p a) r b) p c = put (put M p c) r b := by
 funext x
 by_cases hx : x = p
 . subst hx; rw [a0d, a0h h.symm, a0d]
 . rw [a0h hx]
   by_cases hr : x = r
   . subst hr; rw [a0d, a0d]
   . rw [a0h hr, a0h hr, a0h hx, a0h hx]
noncomputable abbrev MT (M : Mem) (p r : Addr) (t : TT) (ws : List Str) : Mem := put (put M p (.dic (encT t))) r (.lst (ws.map D.str))
def b02 : SpA := fun ds M Q _ => ∃ (js : List Jn) (n : Str), ds = [.lst (js.map eJ), .str n] /\ js.length <= 300 /\ ∀ t, IsTree js n t -> Grown js n t -> a2n js t -> t.length <= 2 * js.length + 1 -> ∀ p, M p = none -> Q (.obj p) (put M p (.dic (encT t)))
theorem a81 {f : Addr} {fd : FuncData} (Fn : Fun K "tree_from" "tree_from" a3o f fd) (T : Txt K mg) (h_joins_from : Has P w K mg base (CXE P w) 1 "joins_from" ["joins", "here"] (a0j K spLead)) : FnOk P w K mg base (CXE P w) 2 f fd ["joins", "start"] (a0j K b02) := by
 refine Fn.okA sc_tree_from (fun ds M Q E h => ?_) ?_
 . obtain ⟨a, b, rfl, _⟩ := h; rfl
 intro cdv A outer s H E F0 ds M Q Ea hr ct hsp
 obtain ⟨js, n, rfl, hl, q⟩ := hsp
 refine ⟨_, (a0b (sSet (i := 2) sc_tree_from.nd rfl (Or.inl rfl) (paDict1 (paV (pv 1)) paN))
     (a0b (sSet (i := 3) sc_tree_from.nd rfl (Or.inl rfl) (a4c (a0a (paV (pv 1)) a0f)))
     (a0b (a8v ct (a0q b6q lGt (a02 a0v lLen (by rfl) T.len PySem.boot_len (a0a (paV (pv 3)) a0f)) paI (a0n _))
       (a0b (sSet (i := 4) sc_tree_from.nd rfl (Or.inl rfl) (paBM PySem.F.plainAttrs_list PySem.F.slot_list_pop PySem.F.type_list_pop b6y lPop0 (paV (pv 3)) (a0a paI a0f)))
       (a0i (sFor ct (a2l (a0t h_joins_from (hr.mono (by decide)) (by rfl) ct (a0a (paV (pv 0)) (a0a (paV (pv 4)) a0f)))) (a7m rfl (a0w (a0r (i := 5) sc_tree_from.nd rfl (Or.inl rfl)) (a0w (a0r (i := 6) sc_tree_from.nd rfl (Or.inl rfl)) (a0w (a0r (i := 7) sc_tree_from.nd rfl (Or.inl rfl)) a3i))))
         (a0i (sIf (ptPC (a5o (un1 ct) (paV (pv 7)) (paV (pv 2))))
           (a0b (b3k (un1 ct) (paV (pv 2)) (paV (pv 7)) (a1w (a0a (paV (pv 5)) (a0a (paV (pv 6)) (a0a (paV (pv 4)) a0f)))) rfl)
           (a0i (a2d (paBM PySem.F.plainAttrs_list PySem.F.slot_list_append PySem.F.type_list_append a09 a1x (paV (pv 3)) (a0a (paV (pv 7)) a0f)))))
           a0s))))))
     (a0i (sRet (paV (pv 2))))))), ?_⟩
 simp! only [aDict1]
 intro p hp
 refine ⟨a0d, ?_⟩
 rw [a1e]
 refine ⟨Nat.le_of_ble_eq_true rfl, fun r hr' => ?_⟩
 have nrp : r ≠ p := by rintro rfl; rw [a0d] at hr'; cases hr'
 rw [a0h nrp] at hr'
 have hu : a30 js [(n, none)] <= 2 * js.length := by
   have := List.length_filter_le (fun m => decide (m ∉ names [(n, none)])) (ends js)
   rw [b7e] at this
   exact this
 refine ⟨fun m Γ M' => ∃ t ws o4 o5 o6 o7, Γ = [some (.lst (js.map eJ)), some (.str n), some (.obj p), some (.obj r), o4, o5, o6, o7] /\ M' = MT M p r t ws /\ Grown js n t /\ (∀ x ∈ ws, x ∈ names t) /\ (∀ x ∈ names t, x ∈ ws \/ ∀ l ∈ lead js x, l.2.2 ∈ names t) /\ ws.length + a30 js t <= m /\ m <= 2 * js.length + 1 /\ t.length + a30 js t <= 2 * js.length + 1 /\ ∃ k, b0i js k ([(n, none)], [n]) = (t, ws),
   ⟨1 + a30 js [(n, none)], [(n, none)], [n], none, none, none, none, rfl, rfl, .root, fun x hx => hx, fun x hx => .inl hx, Nat.le_refl _, by omega, by simp only [List.length_cons, List.length_nil]; omega, 0, rfl⟩, ?_⟩
 rintro m Γ M' ⟨t, ws, o4, o5, o6, o7, rfl, rfl, gr, hw, hc, hm, hm2, ht, kk, hkk⟩
 have e1 : ∀ ws : List Str, lenF (MT M p r t ws) (.obj r) = some ws.length := by
   intro ws
   simp only [lenF, MT, L2.dd, L2.dq, a0d, Option.map_some, List.length_map]
 simp only [aT, aOp, b2x, a68, aNil, aV, aC, oLen, lenC, List.getElem?_cons_zero, List.getElem?_cons_succ, a08, e1, true_and, oGt, oI]
 cases ws with
 | nil =>
   simp only [List.length_nil, Int.natCast_zero, gt_iff_lt, Int.lt_irrefl, decide_false, Bool.false_eq_true, if_false, aRet, aV, List.getElem?_cons_zero, List.getElem?_cons_succ, a08]
   refine .sub (.put (by rw [a0h nrp]; exact hr')) (q t ⟨kk, hkk⟩ gr (fun x hx l hl' => ?_) (by omega) p hp)
   rcases hc x hx with h | h
   . cases h
   . exact h l hl'
 | cons x ws =>
   have hpos : decide ((0 : Int) < ((x :: ws).length : Int)) = true := decide_eq_true (by simp only [List.length_cons]; omega)
   simp only [hpos, if_true]
   have hx : x ∈ names t := hw x List.mem_cons_self
   simp only [aSeq, aSet, aBM, aV, aC, a68, aNil, a2e, MT, a0d, oPop0, List.map_cons, a1e, true_and, aFor, iaL, aFun, List.set_cons_zero, List.set_cons_succ, List.getElem?_cons_zero, List.getElem?_cons_succ, a08]
   refine ⟨js, x, rfl, hl, ?_⟩
   simp only [L2.dr]
   have hll := b1r js x
   simp only [List.length_cons] at hm
   refine LoopP.by (fun i Γ M' => ∃ t' ws2 o5 o6 o7, Γ = [some (.lst (js.map eJ)), some (.str n), some (.obj p), some (.obj r), some (.str x), o5, o6, o7] /\ M' = MT M p r t' ws2 /\ Grown js n t' /\ x ∈ names t' /\ (∀ y ∈ ws2, y ∈ names t') /\ (∀ y ∈ names t', y ∈ ws2 \/ y = x \/ ∀ l ∈ lead js y, l.2.2 ∈ names t') /\ (∀ (k : Nat) (h : k < (lead js x).length), k < i -> (lead js x)[k].2.2 ∈ names t') /\ ws2.length + a30 js t' + 1 <= m /\ t'.length + a30 js t' <= 2 * js.length + 1 /\ (t', ws2) = ((lead js x).take i).foldl (addW x) (t, ws))
     ⟨t, ws, o5, o6, o7, rfl, rfl, gr, hx, fun y hy => hw y (List.mem_cons_of_mem _ hy), fun y hy => ?_, fun k _ hk => absurd hk (Nat.not_lt_zero _), by omega, ht, rfl⟩ (fun _ _ _ _ => trivial) ?_ ?_
   . rcases hc y hy with h | h
     . rcases List.mem_cons.mp h with h | h
       . exact .inr (.inl h)
       . exact .inl h
     . exact .inr (.inr h)
   . clear hc hw ht hx gr o4 o5 o6 o7 hpos
     rintro i Γ M' hi ⟨t', ws2, o5, o6, o7, rfl, rfl, gr, hx, hw, hc, hd, hm, ht, hfo⟩
     have hi' : i < (lead js x).length := by simpa using hi
     have hmem : (lead js x)[i] ∈ lead js x := List.getElem_mem hi'
     have hend := b4m hmem
     simp only [a1z _ _ _ hi']
     have step : ∀ k (h : k < (lead js x).length), k < i + 1 -> k < i \/ (lead js x)[k] = (lead js x)[i] := fun k h hk => by
       by_cases e : k = i
       . subst e; exact .inr rfl
       . exact .inl (by omega)
     have hfo2 : ((lead js x).take (i + 1)).foldl (addW x) (t, ws) = addW x (t', ws2) (lead js x)[i] := by rw [List.take_succ_eq_append_getElem hi', List.foldl_append, <- hfo]; rfl
     generalize (lead js x)[i] = l at hmem hend step hfo2 |-
     simp only [eL, a66, a4j, gaNil, gaN, aIf, aT, aOp, aV, oDIn, L2.dq, L2.dd, keyD, a11, MT, a0d, a0h nrp.symm, a47, List.set_cons_zero, List.set_cons_succ, List.getElem?_cons_zero, List.getElem?_cons_succ, a08, if_true]
     refine ⟨rfl, trivial, ?_⟩
     by_cases hin : l.2.2 ∈ names t'
     . simp only [hin, decide_true, Bool.not_true, Bool.false_eq_true, if_false, aNext]
       refine ⟨hi, t', ws2, _, _, _, rfl, rfl, gr, hx, hw, hc, fun k h hk => ?_, hm, ht, by rw [hfo2]; unfold addW; rw [if_pos hin]⟩
       rcases step k h hk with h' | h'
       . exact hd k h h'
       . rw [h']; exact hin
     . have hless := a9s (e := some (l.1, l.2.1, x)) hend hin
       simp only [hin, decide_false, Bool.not_false, if_true, aSeq, aDPut, aTup, a68, aNil, aV, L2.dd, keyD, a11, a0d, a0h nrp.symm, List.getElem?_cons_zero, List.getElem?_cons_succ, a08]
       have e2 : a5e (encT t') (Sum.inr l.2.2) (.tup [.int l.1, .str l.2.1, .str x]) = encT (t' ++ [(l.2.2, some (l.1, l.2.1, x))]) := b3p (l := (l.1, l.2.1, x)) hin
       rw [e2, b6e nrp]
       have hlen : (encT t').length = t'.length := List.length_map ..
       refine ⟨Nat.le_of_ble_eq_true rfl, by rw [hlen]; omega, ?_⟩
       simp only [b0y, aBM, aV, a68, aNil, a2e, a0d, oAppend, a1e, true_and, List.length_map, List.getElem?_cons_zero, List.getElem?_cons_succ, a08]
       have nm := a1f t' l.2.2 (some (l.1, l.2.1, x))
       refine ⟨by omega, hi', t' ++ [(l.2.2, some (l.1, l.2.1, x))], ws2 ++ [l.2.2], _, _, _, rfl, by simp [MT], .more t' l.2.2 (l.1, l.2.1, x) gr hin hx hmem, ?_, ?_, ?_, ?_, ?_, ?_, by rw [hfo2]; unfold addW; rw [if_neg hin]⟩
       . rw [nm]; exact List.mem_append_left _ hx
       . intro y hy
         rw [nm]
         rcases List.mem_append.mp hy with hy | hy
         . exact List.mem_append_left _ (hw y hy)
         . exact List.mem_append_right _ hy
       . intro y hy
         rw [nm] at hy |-
         rcases List.mem_append.mp hy with hy | hy
         . rcases hc y hy with h | h | h
           . exact .inl (List.mem_append_left _ h)
           . exact .inr (.inl h)
           . exact .inr (.inr fun l' hl' => List.mem_append_left _ (h l' hl'))
         . exact .inl (List.mem_append_right _ hy)
       . intro k h hk
         rw [nm]
         rcases step k h hk with h' | h'
         . exact List.mem_append_left _ (hd k h h')
         . rw [h']; exact List.mem_append_right _ (by simp)
       . rw [List.length_append]; simp only [List.length_cons, List.length_nil]; omega
       . rw [List.length_append]; simp only [List.length_cons, List.length_nil]; omega
   . rintro Γ M' ⟨t', ws2, o5, o6, o7, rfl, rfl, gr, hx, hw, hc, hd, hm', ht, hfo⟩
     refine ⟨m - 1, by omega, t', ws2, _, o5, o6, o7, rfl, rfl, gr, hw, fun y hy => ?_, by omega, by omega, ht, kk + 1, ?_⟩
     . rcases hc y hy with h | h | h
       . exact .inl h
       . subst h
         refine .inr fun l hl' => ?_
         obtain ⟨k, hk, e⟩ := List.getElem_of_mem hl'
         rw [<- e]
         exact hd k hk (by simpa using hk)
       . exact .inr h
     . show stepT js (b0i js kk _) = _
       rw [hkk]
       have el : ((lead js x).map eL).length = (lead js x).length := List.length_map ..
       dsimp only at hfo
       rw [el, List.take_length] at hfo
       exact hfo.symm
theorem b39 {d1 d2 : Addr} {n : Int} : (fsT d1 d2 n).lookup ("wheels" : Str) = none := rfl
theorem b6w {d1 d2 : Addr} {n : Int} : (fsT d1 d2 n).lookup ("joins" : Str) = none := rfl
theorem a38 {C : Addr} {M : Mem} {p d1 d2 : Addr} {S : TS} {R : AX} {Γ : G} {Q : AK} {t_o : AE} (tr : Tr C M p d1 d2 S) (hto : ∀ R : AK, R (.obj p) M -> t_o Γ M R) (q : Q (.lst (S.ws.map eW)) M) : aFz (b5v C "wheels" (a2o C) R t_o aNil) Γ M Q := by
 refine hto _ ?_
 dsimp only
 rw [tr.self, a2k]
 refine ⟨b39, p, d1, d2, S, rfl, tr, fun l hl => ?_⟩
 dsimp only
 rw [a0d]
 dsimp only
 rw [a3z hl]; exact q
theorem a5m {C : Addr} {M : Mem} {p d1 d2 : Addr} {S : TS} {R : AX} {Γ : G} {Q : AK} {t_o : AE} (tr : Tr C M p d1 d2 S) (hto : ∀ R : AK, R (.obj p) M -> t_o Γ M R) (q : Q (.lst (S.js.map eJ)) M) : aFz (b5v C "joins" (a4o C) R t_o aNil) Γ M Q := by
 refine hto _ ?_
 dsimp only
 rw [tr.self, a2k]
 refine ⟨b6w, p, d1, d2, S, rfl, tr, fun l hl => ?_⟩
 dsimp only
 rw [a0d]
 dsimp only
 rw [a3z hl]; exact q
noncomputable def row0 : D -> D
 | .tup (d :: _) => d
 | d => d
theorem b6x (S : TS) : (S.ws.map eW).map row0 = (S.ws.map Prod.fst).map D.str := by
 rw [List.map_map, List.map_map]; rfl
theorem b4b {M : Mem} {a b : Addr} {o : MO} (h : M a = some o) (h' : M b = none) : b ≠ a := by rintro rfl; rw [h] at h'; cases h'
theorem none_of {M : Mem} {a b : Addr} {o : MO} (h : put M a o b = none) : b ≠ a /\ M b = none := by
 have n : b ≠ a := by rintro rfl; rw [a0d] at h; cases h
 exact ⟨n, by rw [a0h n] at h; exact h⟩
theorem Tr.sub {C : Addr} {M M' : Mem} {p d1 d2 : Addr} {S : TS} (tr : Tr C M p d1 d2 S) (h : L2.Sub M M') : Tr C M' p d1 d2 S :=
 ⟨h _ _ tr.self, h _ _ tr.teeth, h _ _ tr.join, tr.ne, tr.lt⟩
structure Fit (S : TS) : Prop where
 nd : (S.ws.map Prod.fst).Nodup
 teeth : a8l S.ws
 ends : ∀ j ∈ S.js, j.2.2.1 ∈ S.ws.map Prod.fst /\ j.2.2.2 ∈ S.ws.map Prod.fst
 w : S.ws.length <= 100
 j : S.js.length <= 200
noncomputable def encN : Option Str -> D | none => .non | some x => .str x
noncomputable def a2i (S : TS) : Option Str -> Option Str | none => (S.ws.map Prod.fst).head? | some x => if x ∈ S.ws.map Prod.fst then some x else none
def a9v (C : Addr) (EC : Rk -> Addr) : SpA := fun ds M Q E => ∃ (p d1 d2 : Addr) (S : TS) (o : Option Str), ds = [.obj p, encN o] /\ Tr C M p d1 d2 S /\ S.ws.length <= 100 /\ match a2i S o with | some n => Q (.str n) M | none => E (.ref (EC .noWheel)) M
theorem a60 {f C : Addr} {fd : FuncData} {EC : Rk -> Addr} (Fn : Fun K "wheel_meant" "wheel_meant" a2p f fd) (T : Txt K mg) (XK : ExK K mg EC) (h_wheels : HasM P w K mg base (CXE P w) 1 C "wheels" ["self"] (a0j K (a2o C)))
   (h_refuse_unknown : Has P w K mg base (CXE P w) 1 "refuse_unknown" ["names", "name"] (a0j K (a7p EC))) : FnOk P w K mg base (CXE P w) 2 f fd ["train", "name"] (a0j K (a9v C EC)) := by
 refine Fn.okA sc_wheel_meant (fun ds M Q E h => ?_) ?_
 . obtain ⟨_, _, _, _, _, rfl, _⟩ := h; rfl
 intro cdv A outer s H E F0 ds M Q Ea hr ct hsp
 obtain ⟨p, d1, d2, S, o, rfl, tr, hw, q⟩ := hsp
 have X_NoWheel := XK.noWheel
 refine ⟨_, (a0b (b3l (i := 2) sc_wheel_meant.nd rfl rfl (Nc := ["wheel"]) (n := 1) (fs := []) b7h rfl (a2l (paFz (a26 h_wheels (hr.mono (by decide)) ct (paV (pv 0))))) (fun _ _ _ _ _ => (a0r (i := 0) (show List.Nodup (["wheel"] : List Str) by decide +kernel) rfl (Or.inl rfl))) (fun _ _ _ _ _ => b5c) (fun _ _ _ _ _ => (paIx a0e lIx (paV (pv 0)) paI (fun _ _ => rfl))) (by rfl))
     (a0b (sIf (a0q a80 lIs (paV (pv 1)) paN (a0n _))
       (a0b (sIf (a0q (a1k (un64 ct)) lEq (a02 a0v lLen (by rfl) T.len PySem.boot_len (a0a (paV (pv 2)) a0f)) paI (a0n _))
         (a0i (a24 ct X_NoWheel (by rfl) (a0a paS a0f)))
         a0s)
       (a0i (sRet (paIx a0e lIx (paV (pv 2)) paI (fun _ _ => rfl)))))
       a0s)
     (a0b (a2d (a0t h_refuse_unknown (hr.mono (by decide)) (by rfl) ct (a0a (paV (pv 2)) (a0a (paV (pv 1)) a0f))))
     (a0i (sRet (paV (pv 1))))))), ?_⟩
 refine seqV (.lst ((S.ws.map Prod.fst).map D.str)) M (fun R h => compL (S.ws.map eW) row0 (fun R h => a38 tr (fun R h => h) h) (by rw [List.length_map]; omega) (fun x hx M' R h => by
   obtain ⟨w', _, rfl⟩ := List.mem_map.mp hx
   exact ⟨trivial, h⟩) (by rw [b6x S]; exact h)) ?_
 cases o with
 | none =>
   refine a2x (fun R h => h) ?_
   unfold a2i at q
   cases hws : S.ws with
   | nil =>
     rw [hws] at q
     refine a2x (fun R h => ?_) ?_
     . simp! only []; exact h
     . exact ⟨Nat.le_of_ble_eq_true rfl, q⟩
   | cons w0 ws =>
     rw [hws] at q
     refine a1d (fun R h => ?_) ?_
     . have e : decide (((((w0 :: ws).map Prod.fst).map D.str).length : Int) = 0) = false := decide_eq_false (by simp only [List.length_map, List.length_cons]; omega)
       simp! only [] at e |-
       rw [e]; exact h
     . simp! only []
       exact .now q
 | some x =>
   refine a1d (fun R h => h) ?_
   simp! only [a7p, encN]
   refine ⟨_, x, rfl, ?_⟩
   unfold a2i at q
   dsimp only at q
   by_cases hx : x ∈ S.ws.map Prod.fst
   . rw [if_pos hx] at q |-
     exact .now q
   . rw [if_neg hx] at q |-
     exact q
theorem b1d (ws : List (Str × Int)) : a7e (ws.map eW) = some (dW ws) := by
 induction ws with
 | nil => rfl
 | cons w ws ih =>
   show (match keyD (.str w.1), a7e (ws.map eW) with | some k', some r' => some ((k', D.int w.2) :: r') | _, _ => none) = _
   rw [ih]; rfl
theorem b5p {ws : List (Str × Int)} (h : (ws.map Prod.fst).Nodup) : ((dW ws).map (·.1)).Nodup := by
 have e : (dW ws).map (·.1) = (ws.map Prod.fst).map Sum.inr := by unfold dW; rw [List.map_map, List.map_map]; rfl
 rw [e]
 exact List.pairwise_map.mpr (h.imp fun hne z => hne (Sum.inr.inj z))
theorem a3h {ws : List (Str × Int)} {n : Str} (h : n ∈ ws.map Prod.fst) : getK (dW ws) (Sum.inr n) = some (.int (a0k ws n)) := by
 induction ws with
 | nil => cases h
 | cons w ws ih =>
   unfold dW getK a0k at ih |-
   simp only [List.map_cons, List.find?_cons, Sum.inr.injEq]
   by_cases e : w.1 = n
   . simp [e]
   . rw [decide_eq_false e]
     have hn : n ∈ ws.map Prod.fst := by
       rcases List.mem_cons.mp h with h | h
       . exact absurd h.symm e
       . exact h
     exact ih hn
noncomputable def a2f (sh : Sh) : List (Key × D) := sh.map fun e => (Sum.inr e.1, eF e.2)
theorem a46 {sh : Sh} {n : Str} (h : n ∈ sh.map Prod.fst) : getK (a2f sh) (Sum.inr n) = some (eF (lk sh n)) := by
 induction sh with
 | nil => cases h
 | cons w ws ih =>
   unfold a2f getK lk at ih |-
   simp only [List.map_cons, List.find?_cons, Sum.inr.injEq]
   by_cases e : w.1 = n
   . simp [e]
   . rw [decide_eq_false e]
     have hn : n ∈ ws.map Prod.fst := by
       rcases List.mem_cons.mp h with h | h
       . exact absurd h.symm e
       . exact h
     exact ih hn
theorem a45 {sh : Sh} {n : Str} (h : n ∉ sh.map Prod.fst) : getK (a2f sh) (Sum.inr n) = none := by
 induction sh with
 | nil => rfl
 | cons w ws ih =>
   rw [List.map_cons, List.mem_cons, not_or] at h
   unfold a2f getK at ih |-
   simp only [List.map_cons, List.find?_cons, Sum.inr.injEq]
   rw [decide_eq_false (fun e => h.1 e.symm)]
   exact ih h.2
theorem put_sh {sh : Sh} {n : Str} {x : Fr} (h : n ∉ sh.map Prod.fst) : a5e (a2f sh) (Sum.inr n) (eF x) = a2f (sh ++ [(n, x)]) := by
 rw [a4a (by rw [a45 h]; rfl)]
 simp [a2f]
theorem Grown.at {js : List Jn} {s : Str} {t : TT} (g : Grown js s t) : ∀ (i : Nat) (h : i < t.length), (t[i]).1 ∉ names (t.take i) /\ ∀ l, (t[i]).2 = some l -> l.2.2 ∈ names (t.take i) := by
 induction g with
 | root =>
   intro i h
   have : i = 0 := by simpa using h
   subst this
   exact ⟨fun z => by simp [names] at z, fun l z => by cases z⟩
 | more t n e g new old by_ ih =>
   intro i h
   rw [List.length_append] at h
   by_cases hi : i < t.length
   . rw [List.getElem_append_left hi, List.take_append_of_le_length (by omega)]
     exact ih i hi
   . have hi2 : i = t.length := by simp at h; omega
     subst hi2
     rw [List.getElem_append_right (by omega), List.take_left]
     simp only [Nat.sub_self, List.getElem_cons_zero]
     exact ⟨new, fun l z => by cases z; exact old⟩
theorem Grown.inn {js : List Jn} {s : Str} {t : TT} (g : Grown js s t) {ns : List Str} (hs : s ∈ ns) (he : ∀ j ∈ js, j.2.2.1 ∈ ns /\ j.2.2.2 ∈ ns) : ∀ n ∈ names t, n ∈ ns := by
 induction g with
 | root => intro n hn; have : n = s := by simpa [names] using hn
           rw [this]; exact hs
 | more t n e g new old by_ ih =>
   intro m hm
   rw [a1f] at hm
   rcases List.mem_append.mp hm with hm | hm
   . exact ih m hm
   . rw [List.mem_singleton.mp hm]
     obtain ⟨j, hj, _, h2⟩ := b1m by_
     rcases h2 with ⟨_, h3⟩ | ⟨_, h3⟩
     . rw [<- show j.2.2.2 = n from h3]; exact (he j hj).2
     . rw [<- show j.2.2.1 = n from h3]; exact (he j hj).1
theorem a87 {α : Type} [DecidableEq α] : ∀ {l l' : List α}, l.Nodup -> (∀ x ∈ l, x ∈ l') -> l.length <= l'.length
 | [], _, _, _ => Nat.zero_le _
 | a :: l, l', nd, h => by
   obtain ⟨h1, h2⟩ := List.nodup_cons.mp nd
   have ha := h a List.mem_cons_self
   have ih := a87 (l := l) (l' := l'.erase a) h2 fun x hx => (List.mem_erase_of_ne (fun e => h1 (by rw [<- e]; exact hx))).mpr (h x (List.mem_cons_of_mem _ hx))
   rw [List.length_erase_of_mem ha] at ih
   have : 0 < l'.length := List.length_pos_of_mem ha
   simp only [List.length_cons]; omega
theorem b2e (ws : List (Str × Int)) (a b : TT) : ∀ e ∈ a0g ws a, e ∈ a0g ws (a ++ b) := by
 intro e he
 unfold a0g at he |-
 rw [List.foldl_append]
 generalize a.foldl (fun sh e => sh ++ [(e.1, a5x ws sh e)]) [] = sh at he |-
 induction b generalizing sh with
 | nil => exact he
 | cons x b ih => exact ih _ (List.mem_append_left _ he)
theorem forIk {td : AE} {gt : AGt} {tb rest : AS} {E : AEnds} {Γ : G} {M : Mem} {p : Addr} {kvs : List (Key × D)} (htd : ∀ R : AK, R (.obj p) M -> td Γ M R) (hp : M p = some (.dic kvs)) (h : ∀ u, LoopP ⟨kvs.length, itemAt kvs, fun M => M p = some (.raw u)⟩ gt tb { E with nx := fun Γ' M' => M' p = some (.raw u) /\ rest E Γ' (put M' p (.dic kvs)) } Γ (put M p (.raw u))) : aSeq (aForI td gt tb) rest E Γ M :=
 htd _ (by dsimp only; rw [hp]; exact h)
theorem b3o {M : Mem} {p r s : Addr} {a b c : MO} (h1 : r ≠ p) (h2 : s ≠ p) : put (put (put M r a) s b) p c = put (put (put M p c) r a) s b := by
 rw [a5n h2, a5n h1]
def a32 (C : Addr) : SpA := fun ds M Q _ => ∃ (p d1 d2 q : Addr) (S : TS) (t : TT) (n : Str), ds = [.obj p, .obj q] /\ Tr C M p d1 d2 S /\ Fit S /\ M q = some (.dic (encT t)) /\ Grown S.js n t /\ n ∈ S.ws.map Prod.fst /\ t.length <= 500 /\ ∀ r, M r = none -> Q (.obj r) (put M r (.dic (a2f (a0g S.ws t))))
theorem a6a {f C : Addr} {fd : FuncData} (Fn : Fun K "shares_along" "shares_along" a2a f fd) (T : Txt K mg) (h_wheels : HasM P w K mg base (CXE P w) 1 C "wheels" ["self"] (a0j K (a2o C)))
   (h_times : Has P w K mg base (CXE P w) 42 "times" ["one", "other"] (a0j K a5v)) (h_factor : Has P w K mg base (CXE P w) 42 "factor" ["kind", "one", "other"] (a0j K a34)) : FnOk P w K mg base (CXE P w) 43 f fd ["train", "tree"] (a0j K (a32 C)) := by
 refine Fn.okA sc_shares_along (fun ds M Q E h => ?_) ?_
 . obtain ⟨_, _, _, _, _, _, _, rfl, _⟩ := h; rfl
 intro cdv A outer s H E F0 ds M Q Ea hr ct hsp
 obtain ⟨p, d1, d2, q', S, t, n, rfl, tr, fit, hq, gr, hn, hl, q⟩ := hsp
 refine ⟨_, (a0b (sSet (i := 2) sc_shares_along.nd rfl (Or.inl rfl) (b1f (a5d ct.calm) b4r (by rfl) T.dict boot_dict (a0a (paFz (a26 h_wheels (hr.mono (by decide)) ct (paV (pv 0)))) a0f)))
     (a0b (sSet (i := 3) sc_shares_along.nd rfl (Or.inl rfl) b32)
     (a0b (sForI ct (paV (pv 1)) (a7m rfl (a0w (a0r (i := 4) sc_shares_along.nd rfl (Or.inl rfl)) (a0w (a0r (i := 5) sc_shares_along.nd rfl (Or.inl rfl)) a3i)))
       (a0i (sIf (a0q a80 lIs (paV (pv 5)) paN (a0n _))
         (a0i (b3k (un1 ct) (paV (pv 3)) (paV (pv 4)) (a1w (a0a paI (a0a paI a0f))) rfl))
         (a0b (sSet (i := 6) sc_shares_along.nd rfl (Or.inl rfl) (paIx a0e lIx (paV (pv 5)) paI (fun _ _ => rfl)))
         (a0i (b3k (un1 ct) (paV (pv 3)) (paV (pv 4)) (a0t h_times (hr.mono (by decide)) (by rfl) ct (a0a (a49 (un1 ct) (paV (pv 3)) (paV (pv 6)) (fun _ _ => rfl)) (a0a (a0t h_factor (hr.mono (by decide)) (by rfl) ct (a0a (paIx a0e lIx (paV (pv 5)) paI (fun _ _ => rfl)) (a0a (a49 (un1 ct) (paV (pv 2)) (paV (pv 6)) (fun _ _ => rfl)) (a0a (a49 (un1 ct) (paV (pv 2)) (paV (pv 4)) (fun _ _ => rfl)) a0f)))) a0f))) rfl))))))
     (a0i (sRet (paV (pv 3))))))), ?_⟩
 have hin := gr.inn hn fit.ends
 have hsm := a13 fit.teeth gr
 refine cut2 (fun Γ' M2 => ∃ r1 r2, M r1 = none /\ M r2 = none /\ r1 ≠ r2 /\ Γ' = [some (.obj p), some (.obj q'), some (.obj r1), some (.obj r2), none, none, none] /\ M2 = put (put M r1 (.dic (dW S.ws))) r2 (.dic [])) ?_ ?_
 . rintro Γ' M2 ⟨r1, r2, h1, h2, n12, rfl, rfl⟩
   have n1 := b4b hq h1
   have n2 := b4b hq h2
   refine forIk (p := q') (kvs := encT t) (fun R h => h) (by rw [a0h n2.symm, a0h n1.symm]; exact hq) fun u => ?_
   rw [b3o n1 n2]
   have hu : ∀ {a b : MO}, put (put (put M q' (.raw u)) r1 a) r2 b q' = some (.raw u) := fun {a b} => by rw [a0h n2.symm, a0h n1.symm, a0d]
   refine LoopP.by2 (fun i Γ M' => ∃ o4 o5 o6, Γ = [some (.obj p), some (.obj q'), some (.obj r1), some (.obj r2), o4, o5, o6] /\ M' = put (put (put M q' (.raw u)) r1 (.dic (dW S.ws))) r2 (.dic (a2f (a0g S.ws (t.take i))))) ⟨_, _, _, rfl, rfl⟩ (fun _ _ _ ⟨_, _, _, _, e⟩ => by rw [e]; exact hu) ?_ ?_
   . rintro E' i Γ M' hrt hi hnx ⟨o4, o5, o6, rfl, rfl⟩
     dsimp only at hi
     have hi' : i < t.length := by simpa [encT] using hi
     obtain ⟨g1, g2⟩ := gr.at i hi'
     have eit : L2.itemAt (encT t) i = .tup [.str (t[i]).1, eE (t[i]).2] := by
       unfold L2.itemAt encT
       rw [List.getElem?_map, List.getElem?_eq_getElem hi']; rfl
     have hws : (t[i]).1 ∈ S.ws.map Prod.fst := hin _ (List.mem_map.mpr ⟨_, List.getElem_mem hi', rfl⟩)
     have hsn := a1p S.ws (t.take i) t[i]
     rw [<- List.take_succ_eq_append_getElem hi'] at hsn
     have hnm := a0x S.ws (t.take i)
     have hle : (a2f (a0g S.ws (t.take i))).length < 1000 := by unfold a2f; rw [List.length_map, b2f, List.length_take]; omega
     have hsub : ∀ m ∈ names (t.take i), m ∈ S.ws.map Prod.fst := fun m hm => hin m (by
       unfold names at hm |-
       obtain ⟨x, hx, e⟩ := List.mem_map.mp hm
       exact List.mem_map.mpr ⟨x, List.mem_of_mem_take hx, e⟩)
     have hsm' : ∀ e ∈ a0g S.ws (t.take i), 1 <= e.2.2 := fun e he => (hsm e (by
       have : t = t.take i ++ t.drop i := (List.take_append_drop ..).symm
       rw [this]
       exact b2e _ _ _ e he)).1
     show a66 _ _ (L2.itemAt (encT t) i) _ _ _
     rw [eit]
     generalize t[i] = en at g1 g2 hws hsn
     obtain ⟨m, e⟩ := en
     dsimp only at g1 g2 hws hsn
     have hnew : m ∉ (a0g S.ws (t.take i)).map Prod.fst := by rw [hnm]; exact g1
     cases e with
     | none =>
       refine ⟨rfl, rfl, ifV true (fun R h => h) ?_⟩
       rw [if_pos rfl]
       simp! only [a0d, a1e]
       refine ⟨by decide, hle, ?_⟩
       rw [show D.tup [.int 1, .int 1] = eF (1, 1) from rfl, put_sh hnew]
       exact hnx _ _ ⟨_, _, _, rfl, by rw [hsn]; rfl⟩
     | some l =>
       have hpar := g2 l rfl
       have t1 := a0z fit.teeth l.2.2
       have t2 := a0z fit.teeth m
       obtain ⟨ex, hex, _, elk⟩ := b1p (sh := a0g S.ws (t.take i)) (n := l.2.2) (by rw [hnm]; exact hpar)
       have hlk : 1 <= (lk (a0g S.ws (t.take i)) l.2.2).2 := by rw [elk]; exact hsm' ex hex
       refine ⟨rfl, rfl, ifV false (fun R h => h) ?_⟩
       rw [if_neg Bool.false_ne_true]
       refine seqV (.str l.2.2) _ (fun R h => ⟨trivial, h⟩) ?_
       simp! only [eE, eL, a0d, a0h n12, a46 (show l.2.2 ∈ (a0g S.ws (t.take i)).map Prod.fst by rw [hnm]; exact hpar), a3h (hsub _ hpar), a3h hws, a34, a5v]
       refine ⟨l.2.1, _, _, rfl, t2.1, lk (a0g S.ws (t.take i)) l.2.2, fac l.2.1 (a0k S.ws l.2.2) (a0k S.ws m), rfl, hlk, a6n t1.1 t1.2 t2.1 t2.2, ?_⟩
       refine ⟨hle, ?_⟩
       rw [put_sh hnew, a1e]
       exact hnx _ _ ⟨_, _, _, rfl, by rw [hsn]; rfl⟩
   . rintro Γ M' ⟨o4, o5, o6, rfl, rfl⟩
     have el : (encT t).length = t.length := List.length_map ..
     dsimp only
     rw [el, List.take_length]
     refine ⟨hu, .sub (fun x o h => ?_) (q r2 h2)⟩
     by_cases hq2 : x = q'
     . rw [hq2] at h |-
       rw [a0h n2.symm, hq] at h
       rw [a0d]; exact h
     . rw [a0h hq2]
       by_cases hx : x = r2
       . rw [hx] at h |-; rw [a0d] at h |-; exact h
       . rw [a0h hx] at h |-
         rw [a0h (fun z => by rw [z, h1] at h; cases h), a0h hq2]; exact h
 . intro rest hrest
   simp! only []
   refine a38 tr (fun R h => h) ?_
   refine ⟨by rw [List.length_map]; have := fit.w; omega, ?_⟩
   rw [b1d]
   refine ⟨b5p fit.nd, fun r1 h1 r2 h2 => ?_⟩
   obtain ⟨n12, h2'⟩ := none_of h2
   exact hrest _ _ ⟨r1, r2, h1, h2', n12.symm, rfl, rfl⟩
noncomputable def a1j (ws : List (Str × Int)) (sh : Sh) (j : Jn) : Bool := decide (j.2.2.1 ∈ sh.map Prod.fst) && !eqD (eF (mulF (lk sh j.2.2.1) (fac j.2.1 (a0k ws j.2.2.1) (a0k ws j.2.2.2)))) (eF (lk sh j.2.2.2))
noncomputable def a9g (S : TS) (sh : Sh) : D := match S.js.find? (a1j S.ws sh) with | some j => eJ j | none => .non
theorem gd_f (x : Fr) : Gd 1 (eF x) := .tup _ _ fun d hd => by
 simp only [List.mem_cons, List.not_mem_nil, or_false] at hd
 rcases hd with rfl | rfl
 . exact .int _ _
 . exact .int _ _
theorem nes_f {x y : Fr} {M : Mem} {Q : AK} (h : Q (.bl (!eqD (eF x) (eF y))) M) : oEq true (eF x) (eF y) M Q := ⟨.inr ⟨(gd_f x).sh, (gd_f y).sh⟩, h⟩
def b3b (C : Addr) : SpA := fun ds M Q _ => ∃ (p d1 d2 r : Addr) (S : TS) (sh : Sh), ds = [.obj p, .obj r] /\ Tr C M p d1 d2 S /\ Fit S /\ M r = some (.dic (a2f sh)) /\ (∀ e ∈ sh, 1 <= e.2.2) /\ (∀ j ∈ S.js, j.2.2.1 ∈ sh.map Prod.fst -> j.2.2.2 ∈ sh.map Prod.fst) /\ Q (a9g S sh) M
theorem b5b {α : Type} {f : α -> Bool} {l : List α} {i : Nat} (h : i < l.length) (hn : (l.take i).find? f = none) (hi : f l[i] = true) : l.find? f = some l[i] := by
 have e : l = l.take i ++ (l[i] :: l.drop (i + 1)) := by rw [<- List.drop_eq_getElem_cons h, List.take_append_drop]
 conv => lhs; rw [e]
 rw [List.find?_append, hn, List.find?_cons, hi]; rfl
theorem a6c {f C : Addr} {fd : FuncData} (Fn : Fun K "jamming_join" "jamming_join" a2c f fd) (T : Txt K mg) (h_wheels : HasM P w K mg base (CXE P w) 1 C "wheels" ["self"] (a0j K (a2o C))) (h_joins : HasM P w K mg base (CXE P w) 1 C "joins" ["self"] (a0j K (a4o C)))
   (h_times : Has P w K mg base (CXE P w) 42 "times" ["one", "other"] (a0j K a5v)) (h_factor : Has P w K mg base (CXE P w) 42 "factor" ["kind", "one", "other"] (a0j K a34)) : FnOk P w K mg base (CXE P w) 43 f fd ["train", "shares"] (a0j K (b3b C)) := by
 refine Fn.okA sc_jamming_join (fun ds M Q E h => ?_) ?_
 . obtain ⟨_, _, _, _, _, _, rfl, _⟩ := h; rfl
 intro cdv A outer s H E F0 ds M Q Ea hr ct hsp
 obtain ⟨p, d1, d2, r, S, sh, rfl, tr, fit, hrr, h1, hcl, q⟩ := hsp
 refine ⟨_, (a0b (sSet (i := 2) sc_jamming_join.nd rfl (Or.inl rfl) (b1f (a5d ct.calm) b4r (by rfl) T.dict boot_dict (a0a (paFz (a26 h_wheels (hr.mono (by decide)) ct (paV (pv 0)))) a0f)))
     (a0b (sFor ct (a2l (paFz (a26 h_joins (hr.mono (by decide)) ct (paV (pv 0))))) (a0r (i := 3) sc_jamming_join.nd rfl (Or.inl rfl))
       (a0b (sSet (i := 4) sc_jamming_join.nd rfl (Or.inl rfl) (paIx a0e lIx (paV (pv 3)) paI (fun _ _ => rfl)))
       (a0b (sSet (i := 5) sc_jamming_join.nd rfl (Or.inl rfl) (paIx a0e lIx (paV (pv 3)) paI (fun _ _ => rfl)))
       (a0i (sIf (ptPC (pcDIn (un1 ct) (paV (pv 4)) (paV (pv 1))))
         (a0b (sSet (i := 6) sc_jamming_join.nd rfl (Or.inl rfl) (a0t h_times (hr.mono (by decide)) (by rfl) ct (a0a (a49 (un1 ct) (paV (pv 1)) (paV (pv 4)) (fun _ _ => rfl)) (a0a (a0t h_factor (hr.mono (by decide)) (by rfl) ct (a0a (paIx a0e lIx (paV (pv 3)) paI (fun _ _ => rfl)) (a0a (a49 (un1 ct) (paV (pv 2)) (paV (pv 4)) (fun _ _ => rfl)) (a0a (a49 (un1 ct) (paV (pv 2)) (paV (pv 5)) (fun _ _ => rfl)) a0f)))) a0f))))
         (a0i (sIf (a0q (a15 (un64 ct)) lNe (paV (pv 6)) (a49 (un1 ct) (paV (pv 1)) (paV (pv 5)) (fun _ _ => rfl)) (a0n _))
           (a0i (sRet (paV (pv 3))))
           a0s)))
         a0s)))))
     (a0i (sRet paN)))), ?_⟩
 refine cut1 (fun Γ' M2 => ∃ r1, M r1 = none /\ Γ' = [some (.obj p), some (.obj r), some (.obj r1), none, none, none, none] /\ M2 = put M r1 (.dic (dW S.ws))) ?_ ?_
 . rintro Γ' M2 ⟨r1, hr1, rfl, rfl⟩
   have nr := b4b hrr hr1
   have hr2 : put M r1 (.dic (dW S.ws)) r = some (.dic (a2f sh)) := by rw [a0h nr.symm]; exact hrr
   refine b69 (d := .lst (S.js.map eJ)) (fun R h => a5m (tr.sub (.put hr1)) (fun R h => h) h) rfl ?_
   refine LoopP.by2 (fun i Γ M' => M' = put M r1 (.dic (dW S.ws)) /\ (S.js.take i).find? (a1j S.ws sh) = none /\ ∃ o3 o4 o5 o6, Γ = [some (.obj p), some (.obj r), some (.obj r1), o3, o4, o5, o6]) ⟨rfl, rfl, _, _, _, _, rfl⟩ (fun _ _ _ _ => rfl) ?_ ?_
   . rintro E' i Γ M' hrt hi hnx ⟨rfl, hno, o3, o4, o5, o6, rfl⟩
     dsimp only at hi
     have hi' : i < S.js.length := by simpa using hi
     have hft := b5b (f := a1j S.ws sh) hi' hno
     have hmem := List.getElem_mem hi'
     obtain ⟨e1, e2⟩ := fit.ends _ hmem
     have hc2 := hcl _ hmem
     have hsn : (S.js.take (i + 1)).find? (a1j S.ws sh) = if a1j S.ws sh S.js[i] = true then some S.js[i] else none := by
       rw [List.take_succ_eq_append_getElem hi', List.find?_append, hno]
       simp [List.find?_cons]
       split <;> simp_all
     simp only [a1z S.js eJ i hi', gaN, List.set_cons_zero, List.set_cons_succ]
     generalize S.js[i] = j at hft e1 e2 hc2 hsn
     have t1 := a0z fit.teeth j.2.2.1
     have t2 := a0z fit.teeth j.2.2.2
     refine seqV (.str j.2.2.1) _ (fun R h => ⟨trivial, h⟩) (seqV (.str j.2.2.2) _ (fun R h => ⟨trivial, h⟩) ?_)
     simp only [List.set_cons_zero, List.set_cons_succ]
     by_cases hin : j.2.2.1 ∈ sh.map Prod.fst
     . have hin2 := hc2 hin
       obtain ⟨ex, hex, _, elk⟩ := b1p hin
       have hlk : 1 <= (lk sh j.2.2.1).2 := by rw [elk]; exact h1 ex hex
       refine ifV true (fun R h => by
         simp! only [hr2, a46 hin, Option.isSome_some]
         exact h) ?_
       rw [if_pos rfl]
       refine seqV (eF (mulF (lk sh j.2.2.1) (fac j.2.1 (a0k S.ws j.2.2.1) (a0k S.ws j.2.2.2)))) (put M r1 (.dic (dW S.ws))) (fun R h => by
         simp! only [eJ, hr2, a0d, a46 hin, a3h e1, a3h e2, a34, a5v]
         exact ⟨_, _, _, rfl, t2.1, _, _, rfl, hlk, a6n t1.1 t1.2 t2.1 t2.2, h⟩) ?_
       simp only [List.set_cons_zero, List.set_cons_succ]
       cases hj : a1j S.ws sh j with
       | true =>
         have ev : (!eqD (eF (mulF (lk sh j.2.2.1) (fac j.2.1 (a0k S.ws j.2.2.1) (a0k S.ws j.2.2.2)))) (eF (lk sh j.2.2.2))) = true := by
           unfold a1j at hj; rw [Bool.and_eq_true] at hj; exact hj.2
         refine ifV true (fun R h => by
           simp! only [hr2, a46 hin2]
           refine nes_f ?_
           rw [ev]; exact h) ?_
         rw [if_pos rfl]
         refine retV (eJ j) _ (fun R h => h) ?_
         rw [hrt]
         have e : a9g S sh = eJ j := by unfold a9g; rw [hft hj]
         rw [e] at q
         exact .sub (.put hr1) q
       | false =>
         have ev : (!eqD (eF (mulF (lk sh j.2.2.1) (fac j.2.1 (a0k S.ws j.2.2.1) (a0k S.ws j.2.2.2)))) (eF (lk sh j.2.2.2))) = false := by
           unfold a1j at hj; rw [decide_eq_true hin, Bool.true_and] at hj; exact hj
         refine ifV false (fun R h => by
           simp! only [hr2, a46 hin2]
           refine nes_f ?_
           rw [ev]; exact h) ?_
         rw [if_neg Bool.false_ne_true]
         exact hnx _ _ ⟨rfl, by rw [hsn, hj]; rfl, _, _, _, _, rfl⟩
     . have hj : a1j S.ws sh j = false := by unfold a1j; rw [decide_eq_false hin]; rfl
       refine ifV false (fun R h => by
         simp! only [hr2, a45 hin, Option.isSome_none]
         exact h) ?_
       rw [if_neg Bool.false_ne_true]
       exact hnx _ _ ⟨rfl, by rw [hsn, hj]; rfl, _, _, _, _, rfl⟩
   . rintro Γ M' ⟨rfl, hno, o3, o4, o5, o6, rfl⟩
     have el : (S.js.map eJ).length = S.js.length := List.length_map ..
     dsimp only at hno
     rw [el, List.take_length] at hno
     have e : a9g S sh = .non := by unfold a9g; rw [hno]
     rw [e] at q
     exact .sub (.put hr1) q
 . intro rest hrest
   simp! only []
   refine a38 tr (fun R h => h) ?_
   refine ⟨by rw [List.length_map]; have := fit.w; omega, ?_⟩
   rw [b1d]
   exact ⟨b5p fit.nd, fun r1 h1 => hrest _ _ ⟨r1, h1, rfl, rfl⟩⟩
def spFree (C : Addr) (EC : Rk -> Addr) (EJ : Addr) : SpA := fun ds M Q E => ∃ (p d1 d2 : Addr) (S : TS) (o : Option Str), ds = [.obj p, encN o] /\ Tr C M p d1 d2 S /\ Fit S /\ match a2i S o with
 | none => E (.ref (EC .noWheel)) M
 | some n => ∀ t, IsTree S.js n t -> Grown S.js n t -> a2n S.js t -> t.length <= 100 -> match S.js.find? (a1j S.ws (a0g S.ws t)) with
   | some _ => ∀ M', L2.Sub M M' -> E (.ref EJ) M'
   | none => ∀ r, M r = none -> Q (.obj r) (put M r (.dic (a2f (a0g S.ws t))))
theorem b1n {S : TS} {o : Option Str} {n : Str} (h : a2i S o = some n) : n ∈ S.ws.map Prod.fst := by
 cases o with
 | none => exact List.mem_of_mem_head? h
 | some x =>
   unfold a2i at h
   dsimp only at h
   split at h
   . cases h; assumption
   . cases h
theorem a5q {js : List Jn} {j : Jn} (h : j ∈ js) : (j.1, j.2.1, j.2.2.2) ∈ lead js j.2.2.1 := by
 unfold lead
 refine List.mem_flatMap.mpr ⟨j, h, ?_⟩
 unfold a5f
 rw [if_pos rfl]
 exact List.mem_append_left _ List.mem_cons_self
theorem Grown.short {S : TS} {n : Str} {t : TT} (g : Grown S.js n t) (fit : Fit S) (hn : n ∈ S.ws.map Prod.fst) : t.length <= 100 := by
 have h := a87 g.nodup (g.inn hn fit.ends)
 rw [List.length_map] at h
 have e : (names t).length = t.length := by simp [names]
 have := fit.w
 omega
theorem a64 {f C EJ : Addr} {fd : FuncData} {EC : Rk -> Addr} (Fn : Fun K "free_shares" "free_shares" a2u f fd) (X_Jams : ExCls K mg "Jams" EJ) (h_joins : HasM P w K mg base (CXE P w) 1 C "joins" ["self"] (a0j K (a4o C)))
   (h_wheel_meant : Has P w K mg base (CXE P w) 2 "wheel_meant" ["train", "name"] (a0j K (a9v C EC))) (h_tree_from : Has P w K mg base (CXE P w) 2 "tree_from" ["joins", "start"] (a0j K b02))
   (h_shares_along : Has P w K mg base (CXE P w) 43 "shares_along" ["train", "tree"] (a0j K (a32 C))) (h_jamming_join : Has P w K mg base (CXE P w) 43 "jamming_join" ["train", "shares"] (a0j K (b3b C))) : FnOk P w K mg base (CXE P w) 44 f fd ["train", "name"] (a0j K (spFree C EC EJ)) := by
 refine Fn.okA sc_free_shares (fun ds M Q E h => ?_) ?_
 . obtain ⟨_, _, _, _, _, rfl, _⟩ := h; rfl
 intro cdv A outer s H E F0 ds M Q Ea hr ct hsp
 obtain ⟨p, d1, d2, S, o, rfl, tr, fit, q⟩ := hsp
 refine ⟨_, (a0b (sSet (i := 2) sc_free_shares.nd rfl (Or.inl rfl) (a0t h_tree_from (hr.mono (by decide)) (by rfl) ct (a0a (paFz (a26 h_joins (hr.mono (by decide)) ct (paV (pv 0)))) (a0a (a0t h_wheel_meant (hr.mono (by decide)) (by rfl) ct (a0a (paV (pv 0)) (a0a (paV (pv 1)) a0f))) a0f))))
     (a0b (sSet (i := 3) sc_free_shares.nd rfl (Or.inl rfl) (a0t h_shares_along (hr.mono (by decide)) (by rfl) ct (a0a (paV (pv 0)) (a0a (paV (pv 2)) a0f))))
     (a0b (sIf (a0q a91 b4q (a0t h_jamming_join (hr.mono (by decide)) (by rfl) ct (a0a (paV (pv 0)) (a0a (paV (pv 3)) a0f))) paN (a0n _))
       (a0i (a24 ct X_Jams (by rfl) (a0a paS a0f)))
       a0s)
     (a0i (sRet (paV (pv 3))))))), ?_⟩
 have hjl : S.js.length <= 300 := by have := fit.j; omega
 refine cut1 (fun Γ' M2 => ∃ (n : Str) (t : TT) (r0 : Addr), a2i S o = some n /\ IsTree S.js n t /\ Grown S.js n t /\ a2n S.js t /\ M r0 = none /\ Γ' = [some (.obj p), some (encN o), some (.obj r0), none] /\ M2 = put M r0 (.dic (encT t))) ?_ ?_
 . rintro Γ' M2 ⟨n, t, r0, hm, ist, gr, cl, h0, rfl, rfl⟩
   have hn := b1n hm
   have hsh := gr.short fit hn
   have hsm := a13 fit.teeth gr
   rw [hm] at q
   have q := q t ist gr cl hsh
   have hnm := a0x S.ws t
   refine cut1 (fun Γ' M2 => ∃ (r : Addr), M r = none /\ r ≠ r0 /\ Γ' = [some (.obj p), some (encN o), some (.obj r0), some (.obj r)] /\ M2 = put (put M r0 (.dic (encT t))) r (.dic (a2f (a0g S.ws t)))) ?_ ?_
   . rintro Γ' M2 ⟨r, hr0, nr0, rfl, rfl⟩
     have hr9 : put M r0 (.dic (encT t)) r = none := by rw [a0h nr0]; exact hr0
     have sb9 : L2.Sub M (put (put M r0 (.dic (encT t))) r (.dic (a2f (a0g S.ws t)))) := L2.Sub.trans (.put h0) (.put hr9)
     refine b3g (S.js.find? (a1j S.ws (a0g S.ws t))).isSome (fun R h => ?_) ?_
     . simp! only [b3b]
       refine ⟨p, d1, d2, r, S, a0g S.ws t, rfl, tr.sub sb9, fit, a0d, fun e he => (hsm e he).1, fun j hj => ?_, ?_⟩
       . rw [hnm]
         intro h1
         exact cl _ h1 (j.1, j.2.1, j.2.2.2) (a5q hj)
       . unfold a9g
         cases hf : S.js.find? (a1j S.ws (a0g S.ws t)) with
         | none => rw [hf] at h; exact h
         | some j => rw [hf] at h; exact h
     . cases hf : S.js.find? (a1j S.ws (a0g S.ws t)) with
       | none =>
         rw [hf] at q
         rw [if_neg (by decide)]
         refine .sub (fun x o h => ?_) (q r hr0)
         by_cases hx : x = r
         . rw [hx] at h |-; rw [a0d] at h |-; exact h
         . rw [a0h hx] at h |-
           rw [a0h (fun z => by rw [z, h0] at h; cases h)]; exact h
       | some j =>
         rw [hf] at q
         rw [if_pos (by rfl)]
         exact ⟨Nat.le_of_ble_eq_true rfl, q _ sb9⟩
   . intro rest hrest
     simp! only [a32]
     refine ⟨p, d1, d2, r0, S, t, n, rfl, tr.sub (.put h0), fit, a0d, gr, hn, by omega, fun r h => ?_⟩
     obtain ⟨n1, h2⟩ := none_of h
     exact hrest _ _ ⟨r, h2, n1, rfl, rfl⟩
 . intro rest hrest
   simp! only []
   refine a5m tr (fun R h => h) ?_
   refine ⟨p, d1, d2, S, o, rfl, tr, fit.w, ?_⟩
   cases hm : a2i S o with
   | none => rw [hm] at q; exact q
   | some n =>
     exact ⟨S.js, n, rfl, hjl, fun t ist gr cl _ r0 h0 => hrest _ _ ⟨n, t, r0, hm, ist, gr, cl, h0, rfl, rfl⟩⟩
theorem compLO {fs : List Nat} {tl te : AE} {Γ : G} {M : Mem} {Q : AK} (ds : List D) (f : D -> D) (htl : ∀ R : AK, R (.lst ds) M -> tl Γ M R) (hn : ds.length <= 1000) (he : ∀ x ∈ ds, ∀ (M' : Mem), L2.Sub M M' -> ∀ (R : AK), R (f x) M' -> te (some x :: frG fs Γ) M' R)
   (q : ∀ p, M p = none -> Q (.obj p) (put M p (.lst (ds.map f)))) : a3n 1 fs (iaL tl) (gaN 0) aYes te Γ M Q := by
 refine htl _ ?_
 refine ⟨fun i => some (f (ds.getD i .non)), hn, fun M' hs => ⟨rfl, fun i hi own ho => ?_⟩, fun p hp => ?_⟩
 . obtain ⟨o, rfl⟩ : ∃ o, own = [o] := by
     cases own with
     | nil => cases ho
     | cons o l => cases l with
       | nil => exact ⟨o, rfl⟩
       | cons _ _ => simp at ho
   refine ⟨rfl, ⟨[some _], rfl, rfl⟩, rfl, ?_⟩
   rw [if_pos rfl]
   have hi' : i < ds.length := hi
   have e : ds.getD i .non = ds[i] := by simp [List.getD, List.getElem?_eq_getElem hi']
   show te (some (ds.getD i .non) :: frG fs Γ) M' _
   rw [e]
   exact he _ (List.getElem_mem hi') M' hs _ ⟨rfl, by dsimp only; rw [e]⟩
 . have e : outs (fun i => some (f (ds.getD i .non))) ds.length = ds.map f := by
     apply List.ext_getElem?
     intro i
     have : outs (fun i => some (f (ds.getD i .non))) ds.length = (List.range ds.length).map fun i => f (ds.getD i .non) := by
       unfold outs
       induction List.range ds.length with
       | nil => rfl
       | cons a l ih => simp only [List.filterMap_cons, List.map_cons, ih]
     rw [this]
     simp only [List.getElem?_map]
     by_cases hi : i < ds.length
     . simp [List.getElem?_range hi, List.getElem?_eq_getElem hi, List.getD]
     . simp [List.getElem?_eq_none (show (List.range ds.length).length <= i by simp; omega), List.getElem?_eq_none (show ds.length <= i by omega)]
   rw [e]
   exact q p hp
noncomputable def told1 (sh : Sh) : D -> D | .tup (.str n :: _) => (getK (a2f sh) (Sum.inr n)).getD .non | d => d
noncomputable def told (ws : List (Str × Int)) (sh : Sh) : List D := (ws.map eW).map (told1 sh)
def a4n (C : Addr) (EC : Rk -> Addr) (EJ : Addr) : SpA := fun ds M Q E => ∃ (p d1 d2 : Addr) (S : TS) (o : Option Str), ds = [.obj p, encN o] /\ Tr C M p d1 d2 S /\ Fit S /\ match a2i S o with
 | none => E (.ref (EC .noWheel)) M
 | some n => ∀ t, IsTree S.js n t -> Grown S.js n t -> a2n S.js t -> t.length <= 100 -> match S.js.find? (a1j S.ws (a0g S.ws t)) with
   | some _ => ∀ M', L2.Sub M M' -> E (.ref EJ) M'
   | none => ∀ q, M q = none -> Q (.obj q) (put M q (.lst (told S.ws (a0g S.ws t))))
theorem b6t {f C EJ : Addr} {fd : FuncData} {EC : Rk -> Addr} (Fn : FunD K "turns" "turns" a1t f fd) (T : Txt K mg) (h_wheels : HasM P w K mg base (CXE P w) 1 C "wheels" ["self"] (a0j K (a2o C)))
   (h_free_shares : Has P w K mg base (CXE P w) 44 "free_shares" ["train", "name"] (a0j K (spFree C EC EJ))) : FnOk P w K mg base (CXE P w) 45 f fd ["train", "name"] (a0j K (a4n C EC EJ)) := by
 refine Fn.okA sc_turns (fun ds M Q E h => ?_) ?_
 . obtain ⟨_, _, _, _, _, rfl, _⟩ := h; rfl
 intro cdv A outer s H E F0 ds M Q Ea hr ct hsp
 obtain ⟨p, d1, d2, S, o, rfl, tr, fit, q⟩ := hsp
 have hu1 := un1 ct
 refine ⟨_, (a0b (sSet (i := 2) sc_turns.nd rfl (Or.inr rfl) (a0t h_free_shares (hr.mono (by decide)) (by rfl) ct (a0a (paV (pv 0)) (a0a (paV (pv 1)) a0f))))
     (a0i (sRet (a90 (Nc := ["wheel", "shares"]) (n := 1) (fs := [2]) comp1 rfl (a2l (paFz (a26 h_wheels (hr.mono (by decide)) ct (paV (pv 0))))) (fun _ _ _ _ _ => (a0r (i := 0) (show List.Nodup (["wheel", "shares"] : List Str) by decide +kernel) rfl (Or.inl rfl))) (fun _ _ _ _ _ => b5c) (fun _ _ _ _ _ => (paDGet1 hu1 (paV (pv 1)) (paIx a0e lIx (paV (pv 0)) paI (fun _ _ => rfl)) ⟨by rfl, by rfl, by rfl, by rfl⟩)))))), ?_⟩
 refine ⟨p, d1, d2, S, o, rfl, tr, fit, ?_⟩
 cases hm : a2i S o with
 | none => rw [hm] at q; exact q
 | some n =>
   rw [hm] at q
   intro t ist gr cl hl
   have q := q t ist gr cl hl
   cases hf : S.js.find? (a1j S.ws (a0g S.ws t)) with
   | some j => rw [hf] at q; exact q
   | none =>
     rw [hf] at q
     intro r hr0
     dsimp only
     refine compLO (S.ws.map eW) (told1 (a0g S.ws t)) (fun R h => a38 (tr.sub (.put hr0)) (fun R h => h) h) (by rw [List.length_map]; have := fit.w; omega) (fun x hx M' hs R h => ?_) fun p' hp' => ?_
     rotate_left
     . obtain ⟨n1, h2⟩ := none_of hp'
       refine Rt.sub (fun x o h => ?_) (q p' h2)
       by_cases hx : x = p'
       . rw [hx] at h |-; rw [a0d] at h |-; exact h
       . rw [a0h hx] at h |-
         rw [a0h (fun z => by rw [z, hr0] at h; cases h)]; exact h
     obtain ⟨w', _, rfl⟩ := List.mem_map.mp hx
     have hr1 := hs _ _ (a0d (M := M) (p := r) (o := .dic (a2f (a0g S.ws t))))
     simp! only [frG, Option.join_some, hr1, eW]
     exact ⟨rfl, h⟩
noncomputable def eSt (s : Int × Str) : D := .tup [.int s.1, .str s.2]
def b03 : SpA := fun ds M Q _ => ∃ (js : List Jn) (a b : Str), ds = [.lst (js.map eJ), .str a, .str b] /\ js.length <= 300 /\ (¬ Reach js a b -> Q .non M) /\
 ∀ st, Way js a st b -> (a :: st.map Prod.snd).Nodup -> st.length <= 2 * js.length -> ∀ p, M p = none -> Q (.obj p) (put M p (.lst (st.map eSt)))
theorem b2l {f : Addr} {fd : FuncData} (Fn : Fun K "road_by" "road_by" a50 f fd) (h_tree_from : Has P w K mg base (CXE P w) 2 "tree_from" ["joins", "start"] (a0j K b02)) : FnOk P w K mg base (CXE P w) 3 f fd ["joins", "one", "other"] (a0j K b03) := by
 refine Fn.okA sc_road_by (fun ds M Q E h => ?_) ?_
 . obtain ⟨a, b, c, rfl, _⟩ := h; rfl
 intro cdv A outer s H E F0 ds M Q Ea hr ct hsp
 obtain ⟨js, a, b, rfl, hl, qn, q⟩ := hsp
 refine ⟨_, (a0b (sSet (i := 3) sc_road_by.nd rfl (Or.inl rfl) (a0t h_tree_from (hr.mono (by decide)) (by rfl) ct (a0a (paV (pv 0)) (a0a (paV (pv 1)) a0f))))
     (a0b (sIf (ptPC (a5o (un1 ct) (paV (pv 2)) (paV (pv 3))))
       (a0i (sRet paN))
       a0s)
     (a0b (sSet (i := 4) sc_road_by.nd rfl (Or.inl rfl) (a4c a0f))
     (a0b (sSet (i := 5) sc_road_by.nd rfl (Or.inl rfl) (paV (pv 2)))
     (a0b (a8v ct (a0q (a15 (un64 ct)) lNe (paV (pv 5)) (paV (pv 1)) (a0n _))
       (a0b (sSet (i := 6) sc_road_by.nd rfl (Or.inl rfl) (a49 (un1 ct) (paV (pv 3)) (paV (pv 5)) (fun _ _ => rfl)))
       (a0b (a2d (paBM PySem.F.plainAttrs_list PySem.F.slot_list_append PySem.F.type_list_append a09 a1x (paV (pv 4)) (a0a (a1w (a0a (paIx a0e lIx (paV (pv 6)) paI (fun _ _ => rfl)) (a0a (paV (pv 5)) a0f))) a0f)))
       (a0i (sSet (i := 5) sc_road_by.nd rfl (Or.inl rfl) (paIx a0e lIx (paV (pv 6)) paI (fun _ _ => rfl)))))))
     (a0b (a2d (paBM0 PySem.F.plainAttrs_list PySem.F.slot_list_reverse PySem.F.type_list_reverse b2p b63 (paV (pv 4))))
     (a0i (sRet (paV (pv 4)))))))))), ?_⟩
 simp only [aSeq, aSet, aFun, a68, aNil, aV, a48, List.map_cons, List.map_nil, List.length_cons, List.length_nil, List.replicate, List.cons_append, List.nil_append, Nat.reduceAdd, Nat.reduceSub, List.set_cons_zero, List.set_cons_succ, List.getElem?_cons_zero, List.getElem?_cons_succ, a08]
 refine ⟨js, a, rfl, hl, fun t _ gr cl hlen p hp => ?_⟩
 simp only [aIf, aT, aOp, aV, oDIn, L2.dd, keyD, a11, a0d, a47, if_true, List.getElem?_cons_zero, List.getElem?_cons_succ, a08]
 by_cases hin : b ∈ names t
 . simp only [hin, decide_true, Bool.not_true, Bool.false_eq_true, if_false, aNext, aSeq, aSet, aLstM, aNil, aV, List.length_nil, List.set_cons_zero, List.set_cons_succ, List.getElem?_cons_zero, List.getElem?_cons_succ, a08]
   refine ⟨Nat.zero_le _, fun r hr' => ?_⟩
   have nrp : r ≠ p := by rintro rfl; rw [a0d] at hr'; cases hr'
   rw [a0h nrp] at hr'
   refine ⟨fun m Γ M' => ∃ (x : Str) (acc : List (Int × Str)) (t1 t2 : TT) (o6 : Option D), Γ = [some (.lst (js.map eJ)), some (.str a), some (.str b), some (.obj p), some (.obj r), some (.str x), o6] /\ M' = put (put M p (.dic (encT t))) r (.lst (acc.reverse.map eSt)) /\ t = t1 ++ t2 /\ Grown js a t1 /\ x ∈ names t1 /\ t1.length <= m /\ acc.length + t1.length <= t.length /\ Way js x acc b /\ (acc.map Prod.snd).Nodup /\ ∀ y ∈ acc.map Prod.snd, y ∉ names t1,
     ⟨t.length, b, [], t, [], none, rfl, rfl, by simp, gr, hin, Nat.le_refl _, by simp, .nil b, by simp, fun y hy => (List.not_mem_nil hy).elim⟩, ?_⟩
   rintro m Γ M' ⟨x, acc, t1, t2, o6, rfl, rfl, et, g1, hx, hm, hb, wy, nd, dj⟩
   simp only [aT, aOp, aV, b4a, List.getElem?_cons_zero, List.getElem?_cons_succ, a08]
   by_cases hxa : x = a
   . subst hxa
     simp only [decide_true, Bool.not_true, Bool.false_eq_true, if_false]
     have hpos : 0 < t1.length := by cases t1 with | nil => cases hx | cons _ _ => simp
     simp only [aSeq, b0y, aBM0, aV, a2e, a0d, oReverse, a1e, true_and, aRet, List.getElem?_cons_zero, List.getElem?_cons_succ, a08, <- List.map_reverse, List.reverse_reverse]
     rw [a5n nrp.symm]
     have npr : (put M r (.lst (acc.map eSt))) p = none := by rw [a0h nrp.symm]; exact hp
     exact .sub (.put npr) (q acc wy (List.nodup_cons.mpr ⟨fun z => dj x z hx, nd⟩) (by omega) r hr')
   . simp only [hxa, decide_false, Bool.not_false, if_true]
     obtain ⟨t0, e, t3, g0, e1, h1, h2, h3⟩ := g1.came hx hxa
     have eg : getK (encT t) (Sum.inr x) = some (eL e) := by
       have e2 : t = t0 ++ (x, some e) :: (t3 ++ t2) := by rw [et, e1]; simp
       rw [e2]; exact b47 t0 _ x (some e) h1
     have l1 : t1.length = t0.length + 1 + t3.length := by rw [e1]; simp; omega
     simp only [aSeq, aSet, aDGet, aV, L2.dd, keyD, a11, a0d, a0h nrp.symm, eg, a08, List.set_cons_zero, List.set_cons_succ, List.getElem?_cons_zero, List.getElem?_cons_succ]
     simp only [eL, b0y, aBM, aV, aC, aTup, a68, aNil, aOp, oIx, ixC, ixF, L2.dq, at0, at2, a2e, a0d, oAppend, a1e, true_and, aSet, Option.bind_some, a08, List.length_map, List.length_reverse, List.set_cons_zero, List.set_cons_succ, List.getElem?_cons_zero, List.getElem?_cons_succ]
     refine ⟨Nat.le_of_ble_eq_true rfl, by omega, t0.length, by omega, e.2.2, (e.1, x) :: acc, t0, (x, some e) :: (t3 ++ t2), _, rfl, by simp [eSt], by rw [et, e1]; simp, g0, h2, Nat.le_refl _, by simp only [List.length_cons]; omega, .cons (l := (e.1, e.2.1, x)) h3 wy, ?_, ?_⟩
     . simp only [List.map_cons]
       exact List.nodup_cons.mpr ⟨fun z => dj x z hx, nd⟩
     . intro y hy hy0
       simp only [List.map_cons] at hy
       rcases List.mem_cons.mp hy with h | h
       . subst h; exact h1 hy0
       . refine dj y h ?_
         rw [e1]
         unfold names at hy0 |-
         rw [List.map_append]
         exact List.mem_append_left _ hy0
 . simp only [hin, decide_false, Bool.not_false, if_true, aRet, aC]
   exact .sub (.put hp) (qn fun z => hin (gr.all cl z))
theorem b1v (ns : List Int) (n : Int) : inD (.int n) (ns.map D.int) = decide (n ∈ ns) := by
 unfold inD
 induction ns with
 | nil => rfl
 | cons a ns ih =>
   simp only [List.map_cons, List.any_cons, List.mem_cons, Bool.decide_or]
   rw [ih]
   congr 1
   by_cases h : a = n
   . subst h; simp [eqF]
   . have h' : ¬ n = a := fun z => h z.symm
     simp [eqF, h, h']
theorem eqD_f (x y : Fr) : eqD (eF x) (eF y) = decide (x = y) := by
 obtain ⟨a, b⟩ := x
 obtain ⟨c, d⟩ := y
 have e : eqD (eF (a, b)) (eF (c, d)) = (a == c && (b == d && true)) := rfl
 rw [e, Bool.and_true, Bool.eq_iff_iff, Bool.and_eq_true, beq_iff_eq, beq_iff_eq, decide_eq_true_eq, Prod.mk.injEq]
theorem compV {fs : List Nat} {td te : AE} {ti : AT} {Γ : G} {M : Mem} {Q : AK} {p : Addr} {kvs : List (Key × D)} (g : D -> Option D) (htd : ∀ R : AK, R (.obj p) M -> td Γ M R) (hp : M p = some (.dic kvs)) (hn : kvs.length <= 1000)
   (hi : ∀ kv ∈ kvs, ∀ (M' : Mem) (R : Bool -> Mem -> Prop), R (g kv.2).isSome M' -> ti (some kv.2 :: frG fs Γ) M' R) (he : ∀ kv ∈ kvs, ∀ y, g kv.2 = some y -> ∀ (M' : Mem) (R : AK), R y M' -> te (some kv.2 :: frG fs Γ) M' R)
   (q : Q (.lst (kvs.filterMap fun kv => g kv.2)) (del M p)) : aFz (a3n 1 fs (iaV td) (gaN 0) ti te) Γ M Q := by
 refine htd _ ?_
 dsimp only
 rw [hp]
 have hv : ∀ i (h : i < kvs.length), L2.valAt kvs i = (kvs[i]).2 := fun i h => by unfold L2.valAt; rw [List.getElem?_eq_getElem h]
 refine ⟨fun i => g (L2.valAt kvs i), hn, fun M' _ => ⟨trivial, fun i hi' own ho => ?_⟩, fun l hl => ?_⟩
 . obtain ⟨o, rfl⟩ : ∃ o, own = [o] := by
     cases own with
     | nil => cases ho
     | cons o l => cases l with
       | nil => exact ⟨o, rfl⟩
       | cons _ _ => simp at ho
   refine ⟨rfl, ⟨[some _], rfl, rfl⟩, ?_⟩
   have hi'' : i < kvs.length := hi'
   show ti (some (L2.valAt kvs i) :: frG fs Γ) M' _
   rw [hv i hi'']
   refine hi _ (List.getElem_mem hi'') M' _ ⟨rfl, ?_⟩
   cases hg : g (kvs[i]).2 with
   | some y =>
     rw [Option.isSome_some, if_pos rfl]
     refine he _ (List.getElem_mem hi'') y hg M' _ ⟨rfl, ?_⟩
     dsimp only
     rw [hv i hi'', hg]
   | none =>
     rw [Option.isSome_none, if_neg Bool.false_ne_true]
     dsimp only
     rw [hv i hi'', hg]
 . rw [a0d]
   dsimp only
   rw [a3z hl]
   have e : ∀ n, n <= kvs.length -> outs (fun i => g (L2.valAt kvs i)) n = (kvs.take n).filterMap fun kv => g kv.2 := by
     intro n
     induction n with
     | zero => intro _; rfl
     | succ n ih =>
       intro hn'
       have hlt : n < kvs.length := by omega
       rw [a4e, ih (by omega), List.take_succ_eq_append_getElem hlt, List.filterMap_append, hv n hlt]
       cases hg : g (kvs[n]).2 <;> simp [hg]
   rw [e kvs.length (Nat.le_refl _), List.take_length]
   exact q
noncomputable def num0 : D -> Option D
 | .tup (d :: _) => some d
 | _ => none
theorem nums_of (t : TT) : (encT t).filterMap (fun kv => num0 kv.2) = (nums t).map D.int := by
 unfold encT nums
 rw [List.filterMap_map, List.map_filterMap]
 congr 1
 funext e
 obtain ⟨n, e⟩ := e
 cases e <;> rfl
def b07 : SpA := fun ds M Q _ => ∃ (q : Addr) (js : List Jn) (j : Jn) (t : TT) (x : Str), ds = [eJ j, .lst (js.map eJ), .obj q] /\ M q = some (.dic (encT t)) /\ js.length <= 300 /\ t.length <= 500 /\ Grown js x t /\ j.2.2.1 ∈ names t /\ j.2.2.2 ∈ names t /\
 ∀ st, Way (a1y js t) j.2.2.1 st j.2.2.2 -> (j.2.2.1 :: st.map Prod.snd).Nodup -> st.length <= 2 * js.length -> ∀ r, del M q r = none -> Q (.obj r) (put (del M q) r (.lst ((st ++ [(j.1, j.2.2.1)]).map eSt)))
theorem tree_js (js : List Jn) (t : TT) : (js.map eJ).filter (fun d => inD (row0 d) ((nums t).map D.int)) = (a1y js t).map eJ := by
 unfold a1y
 rw [List.filter_map]
 congr 1
 apply List.filter_congr
 intro j _
 exact b1v (nums t) j.1
theorem a40 {f : Addr} {fd : FuncData} (Fn : Fun K "ring_closed_by" "ring_closed_by" a1u f fd) (h_road_by : Has P w K mg base (CXE P w) 3 "road_by" ["joins", "one", "other"] (a0j K b03)) : FnOk P w K mg base (CXE P w) 4 f fd ["join", "joins", "tree"] (a0j K b07) := by
 refine Fn.okA sc_ring_closed_by (fun ds M Q E h => ?_) ?_
 . obtain ⟨_, _, _, _, _, rfl, _⟩ := h; rfl
 intro cdv A outer s H E F0 ds M Q Ea hr ct hsp
 obtain ⟨q', js, j, t, x, rfl, hq, hjl, htl, gr, h1, h2, q⟩ := hsp
 refine ⟨_, (a0b (sSet (i := 3) sc_ring_closed_by.nd rfl (Or.inr rfl) (paFz (a90 (Nc := ["entry"]) (n := 1) (fs := []) b7h rfl (iValues (paV (pv 2))) (fun _ _ _ _ _ => (a0r (i := 0) (show List.Nodup (["entry"] : List Str) by decide +kernel) rfl (Or.inl rfl))) (fun _ _ _ _ _ => (fiOne (a0q a91 b4q (paV (pv 0)) paN (a0n _)))) (fun _ _ _ _ _ => (paIx a0e lIx (paV (pv 0)) paI (fun _ _ => rfl))))))
     (a0b (b3l (i := 4) sc_ring_closed_by.nd rfl rfl (Nc := ["standing", "numbers"]) (n := 1) (fs := [3]) comp1 rfl (a2l (paV (pv 1))) (fun _ _ _ _ _ => (a0r (i := 0) (show List.Nodup (["standing", "numbers"] : List Str) by decide +kernel) rfl (Or.inl rfl))) (fun _ _ _ _ _ => (fiOne (a0q b1h lIn (paIx a0e lIx (paV (pv 0)) paI (fun _ _ => rfl)) (paV (pv 1)) (by with_unfolding_all rfl)))) (fun _ _ _ _ _ => (paV (pv 0))) (by rfl))
     (a0b (sSet (i := 5) sc_ring_closed_by.nd rfl (Or.inl rfl) (a0t h_road_by (hr.mono (by decide)) (by rfl) ct (a0a (paV (pv 4)) (a0a (paIx a0e lIx (paV (pv 0)) paI (fun _ _ => rfl)) (a0a (paIx a0e lIx (paV (pv 0)) paI (fun _ _ => rfl)) a0f)))))
     (a0b (a2d (paBM PySem.F.plainAttrs_list PySem.F.slot_list_append PySem.F.type_list_append a09 a1x (paV (pv 5)) (a0a (a1w (a0a (paIx a0e lIx (paV (pv 0)) paI (fun _ _ => rfl)) (a0a (paIx a0e lIx (paV (pv 0)) paI (fun _ _ => rfl)) a0f))) a0f)))
     (a0i (sRet (paV (pv 5)))))))), ?_⟩
 have htj : (a1y js t).length <= js.length := List.length_filter_le ..
 refine seqV (.lst ((nums t).map D.int)) (del M q') (fun R h => ?_) ?_
 . rw [<- nums_of] at h
   refine compV (p := q') (kvs := encT t) num0 (fun R h => h) hq (by unfold encT; rw [List.length_map]; omega) (fun kv hkv M' R h => ?_) (fun kv hkv y hy M' R h => ?_) h
   . obtain ⟨e, _, rfl⟩ := List.mem_map.mp hkv
     obtain ⟨n, e⟩ := e
     cases e with
     | none => exact h
     | some l => exact h
   . obtain ⟨e, _, rfl⟩ := List.mem_map.mp hkv
     obtain ⟨n, e⟩ := e
     cases e with
     | none => cases hy
     | some l =>
       cases hy
       exact ⟨trivial, h⟩
 refine seqV (.lst ((a1y js t).map eJ)) (del M q') (fun R h => ?_) ?_
 . rw [<- tree_js] at h
   refine compF (js.map eJ) (fun d => inD (row0 d) ((nums t).map D.int)) (fun R h => h) (by rw [List.length_map]; omega) (fun y hy M' R h => ?_) h
   obtain ⟨i, _, rfl⟩ := List.mem_map.mp hy
   simp! only [eJ, frG, Option.join_some]
   have ef : (flD (D.int i.1) && ((nums t).map D.int).all flD) = true := by rw [List.all_map]; exact List.all_eq_true.mpr fun _ _ => rfl
   rw [if_pos ef]
   exact h
 refine ⟨trivial, trivial, a1y js t, j.2.2.1, j.2.2.2, rfl, by omega, fun hn => absurd (b2a gr h1 h2) hn, fun st wy nd hl r hr' => ?_⟩
 dsimp only
 refine b7f .non (put (del M q') r (.lst ((st ++ [(j.1, j.2.2.1)]).map eSt))) (fun R h => ?_) ?_
 . simp! only [eJ, aBM, a2e, a0d, oAppend, a1e, List.length_map]
   rw [List.map_append] at h
   exact ⟨by decide, by omega, h⟩
 . exact .now (q st wy nd (by omega) r hr')
def a7b (C : Addr) (EC : Rk -> Addr) : SpA := fun ds M Q E => ∃ (p d1 d2 : Addr) (S : TS) (o : Option Str), ds = [.obj p, encN o] /\ Tr C M p d1 d2 S /\ Fit S /\ (S.js.map Prod.fst).Nodup /\ (∀ j ∈ S.js, j.2.2.1 ≠ j.2.2.2) /\ match a2i S o with
 | none => E (.ref (EC .noWheel)) M
 | some n => ∀ t, IsTree S.js n t -> Grown S.js n t -> a2n S.js t -> t.length <= 100 -> match S.js.find? (a1j S.ws (a0g S.ws t)) with
   | some _ => ∀ a rs, Ring S.ws S.js n a rs -> rs.length <= 500 -> ∀ r, M r = none -> Q (.obj r) (put M r (.lst (rs.map eSt)))
   | none => Q .non M
theorem b66 {ws : List (Str × Int)} {sh : Sh} {j : Jn} (h : a1j ws sh j = true) : j.2.2.1 ∈ sh.map Prod.fst /\ ¬ mulF (lk sh j.2.2.1) (fac j.2.1 (a0k ws j.2.2.1) (a0k ws j.2.2.2)) = lk sh j.2.2.2 := by
 unfold a1j at h
 rw [Bool.and_eq_true] at h
 refine ⟨of_decide_eq_true h.1, fun e => ?_⟩
 have h2 := h.2
 rw [e] at h2
 rw [eqD_f, decide_eq_true rfl] at h2
 cases h2
theorem ok_ring {f C : Addr} {fd : FuncData} {EC : Rk -> Addr} (Fn : FunD K "ring" "ring" a2y f fd) (h_joins : HasM P w K mg base (CXE P w) 1 C "joins" ["self"] (a0j K (a4o C)))
   (h_wheel_meant : Has P w K mg base (CXE P w) 2 "wheel_meant" ["train", "name"] (a0j K (a9v C EC))) (h_tree_from : Has P w K mg base (CXE P w) 2 "tree_from" ["joins", "start"] (a0j K b02))
   (h_shares_along : Has P w K mg base (CXE P w) 43 "shares_along" ["train", "tree"] (a0j K (a32 C))) (h_jamming_join : Has P w K mg base (CXE P w) 43 "jamming_join" ["train", "shares"] (a0j K (b3b C)))
   (h_ring_closed_by : Has P w K mg base (CXE P w) 4 "ring_closed_by" ["join", "joins", "tree"] (a0j K b07)) : FnOk P w K mg base (CXE P w) 44 f fd ["train", "name"] (a0j K (a7b C EC)) := by
 refine Fn.okA sc_ring (fun ds M Q E h => ?_) ?_
 . obtain ⟨_, _, _, _, _, rfl, _⟩ := h; rfl
 intro cdv A outer s H E F0 ds M Q Ea hr ct hsp
 obtain ⟨p, d1, d2, S, o, rfl, tr, fit, nd, une, q⟩ := hsp
 refine ⟨_, (a0b (sSet (i := 2) sc_ring.nd rfl (Or.inl rfl) (a0t h_tree_from (hr.mono (by decide)) (by rfl) ct (a0a (paFz (a26 h_joins (hr.mono (by decide)) ct (paV (pv 0)))) (a0a (a0t h_wheel_meant (hr.mono (by decide)) (by rfl) ct (a0a (paV (pv 0)) (a0a (paV (pv 1)) a0f))) a0f))))
     (a0b (sSet (i := 3) sc_ring.nd rfl (Or.inl rfl) (a0t h_jamming_join (hr.mono (by decide)) (by rfl) ct (a0a (paV (pv 0)) (a0a (a0t h_shares_along (hr.mono (by decide)) (by rfl) ct (a0a (paV (pv 0)) (a0a (paV (pv 2)) a0f))) a0f))))
     (a0b (sIf (a0q a80 lIs (paV (pv 3)) paN (a0n _))
       (a0i (sRet paN))
       a0s)
     (a0i (sRet (a0t h_ring_closed_by (hr.mono (by decide)) (by rfl) ct (a0a (paV (pv 3)) (a0a (paFz (a26 h_joins (hr.mono (by decide)) ct (paV (pv 0)))) (a0a (paV (pv 2)) a0f))))))))), ?_⟩
 have hjl : S.js.length <= 300 := by have := fit.j; omega
 have hjl2 := fit.j
 refine cut1 (fun Γ' M2 => ∃ (n : Str) (t : TT) (r0 : Addr), a2i S o = some n /\ IsTree S.js n t /\ Grown S.js n t /\ a2n S.js t /\ M r0 = none /\ Γ' = [some (.obj p), some (encN o), some (.obj r0), none] /\ M2 = put M r0 (.dic (encT t))) ?_ ?_
 . rintro Γ' M2 ⟨n, t, r0, hm, ist, gr, cl, h0, rfl, rfl⟩
   have hn := b1n hm
   have hsh := gr.short fit hn
   have hsm := a13 fit.teeth gr
   rw [hm] at q
   have q := q t ist gr cl hsh
   have hnm := a0x S.ws t
   refine cut1 (fun Γ' M2 => ∃ (r : Addr), M r = none /\ r ≠ r0 /\ Γ' = [some (.obj p), some (encN o), some (.obj r0), some (a9g S (a0g S.ws t))] /\ M2 = put (put M r0 (.dic (encT t))) r (.dic (a2f (a0g S.ws t)))) ?_ ?_
   . rintro Γ' M2 ⟨r, hr0, nr0, rfl, rfl⟩
     have hr9 : put M r0 (.dic (encT t)) r = none := by rw [a0h nr0]; exact hr0
     have sb9 : L2.Sub M (put (put M r0 (.dic (encT t))) r (.dic (a2f (a0g S.ws t)))) := L2.Sub.trans (.put h0) (.put hr9)
     unfold a9g
     cases hf : S.js.find? (a1j S.ws (a0g S.ws t)) with
     | none =>
       rw [hf] at q
       refine a2x (fun R h => h) (retV .non _ (fun R h => h) (.sub sb9 q))
     | some j =>
       rw [hf] at q
       have hj := List.mem_of_find?_eq_some hf
       obtain ⟨j1, jam⟩ := b66 (List.find?_some hf)
       rw [hnm] at j1
       have j2 := cl _ j1 (j.1, j.2.1, j.2.2.2) (a5q hj)
       refine a1d (fun R h => h) ?_
       simp! only []
       refine a5m (tr.sub sb9) (fun R h => h) ?_
       refine ⟨r0, S.js, j, t, n, rfl, by rw [a0h nr0.symm, a0d], hjl, by omega, gr, j1, j2, fun st wy nds hl r' hr' => ?_⟩
       have rg := ring_ok fit.teeth nd gr hj j1 j2 (une j hj) jam wy nds
       have nq : r' ≠ r /\ M r' = none := by
         by_cases hz : r' = r
         . rw [hz, a3l nr0, a0d] at hr'; cases hr'
         . refine ⟨hz, ?_⟩
           by_cases hz0 : r' = r0
           . rw [hz0]; exact h0
           . rw [a3l hz0, a0h hz, a0h hz0] at hr'; exact hr'
       refine .sub (fun x o h => ?_) (q j.2.2.1 _ rg (by rw [List.length_append]; simp; omega) r' nq.2)
       by_cases hx : x = r'
       . rw [hx] at h |-; rw [a0d] at h |-; exact h
       . rw [a0h hx] at h |-
         have x0 : x ≠ r0 := fun z => by rw [z, h0] at h; cases h
         have x1 : x ≠ r := fun z => by rw [z, hr0] at h; cases h
         rw [a3l x0, a0h x1, a0h x0]; exact h
   . intro rest hrest
     simp! only [a32, b3b]
     refine ⟨p, d1, d2, r0, S, t, n, rfl, tr.sub (.put h0), fit, a0d, gr, hn, by omega, fun r h => ?_⟩
     obtain ⟨n1, h2⟩ := none_of h
     refine ⟨p, d1, d2, r, S, a0g S.ws t, rfl, tr.sub (L2.Sub.trans (.put h0) (.put h)), fit, a0d, fun e he => (hsm e he).1, fun j hj => ?_, hrest _ _ ⟨r, h2, n1, rfl, rfl⟩⟩
     rw [hnm]
     intro h1
     exact cl _ h1 (j.1, j.2.1, j.2.2.2) (a5q hj)
 . intro rest hrest
   simp! only []
   refine a5m tr (fun R h => h) ?_
   refine ⟨p, d1, d2, S, o, rfl, tr, fit.w, ?_⟩
   cases hm : a2i S o with
   | none => rw [hm] at q; exact q
   | some n =>
     exact ⟨S.js, n, rfl, hjl, fun t ist gr cl _ r0 h0 => hrest _ _ ⟨n, t, r0, hm, ist, gr, cl, h0, rfl, rfl⟩⟩
theorem b25 (a b : Str) : (a ++ b).length = a.length + b.length := PySem.Str.length_append a b
theorem a8k (l m : List Nat) : (⟨l.toArray⟩ : Str) ++ ⟨m.toArray⟩ = ⟨(l ++ m).toArray⟩ := by
 show Str.mk (l.toArray ++ m.toArray) = _
 simp
theorem a2w (c : Nat) : (⟨#[c]⟩ : Str).length = 1 := rfl
theorem a4f (k : Nat) (h : k < 26) : atI ("abcdefghijklmnopqrstuvwxyz" : Str).cps.toList (k : Int) = some (97 + k) := by
 have e : ∀ k, k < 26 -> ("abcdefghijklmnopqrstuvwxyz" : Str).cps.toList[k]? = some (97 + k) := by decide +kernel
 exact a3c (e k h)
theorem sl_a (j : Nat) (h : j < 7) : Txt.slice "aaaaaa" none (some (j : Int)) = ⟨(List.replicate j 97).toArray⟩ := by
 have : ∀ j : Nat, j < 7 -> Txt.slice "aaaaaa" none (some (j : Int)) = ⟨(List.replicate j 97).toArray⟩ := by decide +kernel
 exact this j h
theorem sl_q (j : Nat) (h : j < 7) : Txt.slice "qqqqqq" none (some (j : Int)) = ⟨(List.replicate j 113).toArray⟩ := by
 have : ∀ j : Nat, j < 7 -> Txt.slice "qqqqqq" none (some (j : Int)) = ⟨(List.replicate j 113).toArray⟩ := by decide +kernel
 exact this j h
def b3a : SpA := fun ds M Q _ => ∃ k s : Nat, ds = [.int k, .int s] /\ Q (.str (a1s s k)) M
theorem a96 {f : Addr} {fd : FuncData} (Fn : Fun K "_law_name" "_law_name" a4v f fd) : FnOk P w K mg base (CXE P w) 1 f fd ["_law_k", "_law_spin"] (a0j K b3a) := by
 refine Fn.okA sc_law_name (fun ds M Q E h => ?_) ?_
 . obtain ⟨a, b, rfl, _⟩ := h; rfl
 intro cdv A outer s H E F0 ds M Q Ea hr ct hsp
 obtain ⟨k, sp, rfl, q⟩ := hsp
 refine ⟨_, (a0b (sSet (i := 2) sc_law_name.nd rfl (Or.inl rfl) paS)
     (a0b (sSet (i := 3) sc_law_name.nd rfl (Or.inl rfl) (paIx a0e lIx (paV (pv 2)) (paOp a07 lMod (paOp a1a lAdd (paOp a4z lDiv (paV (pv 0)) paI) (paV (pv 1))) paI) (fun _ _ => rfl)))
     (a0b (sSet (i := 4) sc_law_name.nd rfl (Or.inl rfl) (paIx a0e lIx (paV (pv 2)) (paOp a07 lMod (paOp a1a lAdd (paV (pv 0)) (paV (pv 1))) paI) (fun _ _ => rfl)))
     (a0b (sIf ((b6d (a0q (a1k (un64 ct)) lEq (paOp a07 lMod (paV (pv 1)) paI) paI (a0n _)) (b1a (a0q a59 lLt (paV (pv 0)) paI (a0n _))))).pt
       (a0i (sRet (paV (pv 4))))
       a0s)
     (a0b (sIf (a0q (a1k (un64 ct)) lEq (paOp a07 lMod (paV (pv 1)) paI) paI (a0n _))
       (a0i (sRet (paOp a1a lAdd (paV (pv 3)) (paV (pv 4)))))
       a0s)
     (a0b (sIf (a0q (a1k (un64 ct)) lEq (paOp a07 lMod (paV (pv 1)) paI) paI (a0n _))
       (a0i (sRet (paOp a1a lAdd (paOp a1a lAdd (paSl b3e lSl paS poN (poS (paOp a07 lMod (paV (pv 1)) paI))) (paV (pv 3))) (paV (pv 4)))))
       a0s)
     (a0i (sRet (paOp a1a lAdd (paOp a1a lAdd (paV (pv 3)) (paV (pv 4))) (paSl b3e lSl paS poN (poS (paOp a07 lMod (paOp a1a lAdd (paV (pv 1)) (paV (pv 0))) paI)))))))))))), ?_⟩
 have e1 : ((k : Int) / 26 + (sp : Int)) % 26 = (((k / 26 + sp) % 26 : Nat) : Int) := by omega
 have e2 : ((k : Int) + (sp : Int)) % 26 = (((k + sp) % 26 : Nat) : Int) := by omega
 have e3 : (sp : Int) % 7 = ((sp % 7 : Nat) : Int) := by omega
 have e4 : ((sp : Int) + (k : Int)) % 7 = (((sp + k) % 7 : Nat) : Int) := by omega
 have hl : ∀ n, n <= 100 -> n <= sizeLine := fun n h => b0h (by omega)
 have h26 : ("abcdefghijklmnopqrstuvwxyz" : Str).length <= sizeLine := by decide +kernel
 have ha : ("aaaaaa" : Str).length <= sizeLine := by decide +kernel
 have hq : ("qqqqqq" : Str).length <= sizeLine := by decide +kernel
 by_cases h0 : sp % 3 = 0
 . have d0 : decide ((sp : Int) % 3 = 0) = true := decide_eq_true (by omega)
   by_cases hk : k < 26
   . have dk : decide ((k : Int) < 26) = true := decide_eq_true (by omega)
     simp! only [e1, e2, a4f _ (Nat.mod_lt _ (show 0 < 26 by decide)), d0, dk]
     have e : a1s sp k = ⟨#[97 + (k + sp) % 26]⟩ := by unfold a1s a1o chL; rw [if_pos h0, if_pos hk]
     rw [e] at q
     exact ⟨⟨by decide, by decide⟩, by decide, h26, by decide, h26, by decide, .now q⟩
   . have dk : decide ((k : Int) < 26) = false := decide_eq_false (by omega)
     simp! only [e1, e2, a4f _ (Nat.mod_lt _ (show 0 < 26 by decide)), d0, dk]
     have e : a1s sp k = ⟨#[97 + (k / 26 + sp) % 26]⟩ ++ ⟨#[97 + (k + sp) % 26]⟩ := by unfold a1s a1o chL chF; rw [if_pos h0, if_neg hk]; rfl
     rw [e] at q
     exact ⟨⟨by decide, by decide⟩, by decide, h26, by decide, h26, by decide, by decide, by rw [a2w, a2w]; exact hl _ (by decide), .now q⟩
 . have d0 : decide ((sp : Int) % 3 = 0) = false := decide_eq_false (by omega)
   by_cases h1 : sp % 3 = 1
   . have d1 : decide ((sp : Int) % 3 = 1) = true := decide_eq_true (by omega)
     simp! only [e1, e2, e3, a4f _ (Nat.mod_lt _ (show 0 < 26 by decide)), sl_a _ (Nat.mod_lt _ (show 0 < 7 by decide)), d0, d1]
     have e : a1s sp k = ⟨(List.replicate (sp % 7) 97).toArray⟩ ++ ⟨#[97 + (k / 26 + sp) % 26]⟩ ++ ⟨#[97 + (k + sp) % 26]⟩ := by
       unfold a1s a1o chL chF; rw [if_neg h0, if_pos h1, a8k, a8k, List.append_assoc]; rfl
     rw [e] at q
     have hr1 : (⟨(List.replicate (sp % 7) 97).toArray⟩ : Str).length = sp % 7 := by simp [Str.length]
     exact ⟨⟨by decide, by decide⟩, by decide, h26, by decide, h26, by decide, by decide, by decide, by decide, ha, by rw [a2w, hr1]; exact hl _ (by omega), by rw [b25, a2w, hr1, a2w]; exact hl _ (by omega), .now q⟩
   . have d1 : decide ((sp : Int) % 3 = 1) = false := decide_eq_false (by omega)
     simp! only [e1, e2, e4, a4f _ (Nat.mod_lt _ (show 0 < 26 by decide)), sl_q _ (Nat.mod_lt _ (show 0 < 7 by decide)), d0, d1]
     have e : a1s sp k = ⟨#[97 + (k / 26 + sp) % 26]⟩ ++ ⟨#[97 + (k + sp) % 26]⟩ ++ ⟨(List.replicate ((sp + k) % 7) 113).toArray⟩ := by
       unfold a1s a1o chL chF; rw [if_neg h0, if_neg h1, a8k, a8k]; rfl
     rw [e] at q
     have hr1 : (⟨(List.replicate ((sp + k) % 7) 113).toArray⟩ : Str).length = (sp + k) % 7 := by simp [Str.length]
     exact ⟨⟨by decide, by decide⟩, by decide, h26, by decide, h26, by decide, by decide, by decide, by rw [a2w, a2w]; exact hl _ (by decide), by decide, hq, by rw [b25, a2w, a2w, hr1]; exact hl _ (by omega), .now q⟩
def a9u : SpA := fun ds M Q _ => ∃ a b : Int, ds = [.int a, .int b] /\ ∀ t : Int, 1 <= t -> t < 1000000000 -> Q (.int t) M
theorem a84 {f : Addr} {fd : FuncData} (Fn : Fun K "_law_teeth" "_law_teeth" a3r f fd) : FnOk P w K mg base (CXE P w) 1 f fd ["_law_number", "_law_way_here"] (a0j K a9u) := by
 refine Fn.okA a8u (fun ds M Q E h => ?_) ?_
 . obtain ⟨a, b, rfl, _⟩ := h; rfl
 intro cdv A outer s H E F0 ds M Q Ea hr ct hsp
 obtain ⟨a, b, rfl, q⟩ := hsp
 refine ⟨_, (a0b (sIf (a0q (a1k (un64 ct)) lEq (paV (pv 1)) paI (a0n _))
       (a0i (sRet (paOp a1a lAdd paI (paOp a07 lMod (paOp a1c lMul (paV (pv 0)) paI) paI))))
       a0s)
     (a0b (sIf (a0q (a1k (un64 ct)) lEq (paV (pv 1)) paI (a0n _))
       (a0i (sRet (paOp a1a lAdd paI (paOp a07 lMod (paOp a07 lMod (paOp a1c lMul (paV (pv 0)) paI) paI) paI))))
       a0s)
     (a0b (sIf (a0q (a1k (un64 ct)) lEq (paV (pv 1)) paI (a0n _))
       (a0i (sRet (paOp a1a lAdd paI (paOp a07 lMod (paV (pv 0)) (paOp op_sub lSub (paOp op_pow lPow paI paI) paI)))))
       a0s)
     (a0i (sRet (paOp a1a lAdd paI (paOp a07 lMod (paV (pv 0)) paI))))))), ?_⟩
 have e9 : (10 : Int) ^ Int.toNat 9 - 1 = 999999999 := by decide
 simp! only [e9]
 exact ite2 (fun _ => ⟨CMul.ok (.inr ⟨by decide, by decide⟩), by decide, .now (q _ (by omega) (by omega))⟩) fun _ => ite2 (fun _ => ⟨CMul.ok (.inr ⟨by decide, by decide⟩), by decide, by decide, .now (q _ (by omega) (by omega))⟩) fun _ =>
   ite2 (fun _ => ⟨⟨by decide, by decide, by decide⟩, by decide, .now (q _ (by omega) (by omega))⟩) fun _ => ⟨by decide, .now (q _ (by omega) (by omega))⟩
theorem a71 {f : Addr} {fd : FuncData} (Fn : Fun K "_law_common" "_law_common" a22 f fd) (T : Txt K mg) : FnOk P w K mg base (CXE P w) 1 f fd ["_law_one", "_law_other"] (a0j K b2c) := by
 refine Fn.okA sc_law_common (fun ds M Q E h => ?_) ?_
 . obtain ⟨a, b, rfl, _⟩ := h; rfl
 intro cdv A outer s H E F0 ds M Q Ea hr ct hsp
 obtain ⟨a, b, rfl, q⟩ := hsp
 refine ⟨_, (a0b (sSet (i := 0) sc_law_common.nd rfl (Or.inl rfl) (a02 a5t lAbs (by rfl) T.abs boot_abs (a0a (paV (pv 0)) a0f)))
     (a0b (sSet (i := 1) sc_law_common.nd rfl (Or.inl rfl) (a02 a5t lAbs (by rfl) T.abs boot_abs (a0a (paV (pv 1)) a0f)))
     (a0b (a8v ct (a0q b6q lGt (paV (pv 1)) paI (a0n _))
       (a0i (sPar (i := 0) (j := 1) rfl sc_law_common.nd rfl rfl (by decide) rfl rfl (a0a (paV (pv 1)) (a0a (paOp a07 lMod (paV (pv 0)) (paV (pv 1))) a0f)) rfl)))
     (a0i (sRet (paV (pv 0))))))), ?_⟩
 simp! only [oAbs, absE]
 refine ⟨fun m Γ M' => M' = M /\ ∃ (d r : Nat), r = m /\ Γ = [some (.int d), some (.int r)] /\ Nat.gcd d r = Int.gcd a b, ⟨b.natAbs, rfl, a.natAbs, b.natAbs, rfl, rfl, rfl⟩, ?_⟩
 rintro m Γ M' ⟨rfl, d, r, rfl, rfl, hg⟩
 by_cases hr0 : r = 0
 . subst hr0
   refine cF (fun R h => ?_) ?_
   . simp! only []; exact h
   . rw [<- hg, Nat.gcd_zero_right] at q
     exact .now q
 . refine cT (fun R h => ?_) ?_
   . simp! only [decide_eq_true (show (r : Int) > 0 by omega)]; exact h
   . simp! only [aPar]
     exact ⟨by omega, d % r, Nat.mod_lt _ (by omega), r, d % r, rfl, by rw [Int.natCast_emod], gcd_step.trans hg⟩
theorem b4s (x : Int) : ∃ kd : Str, atI [D.str "mesh", .str "pin", .str "band", .str "cross"] (x % 4) = some (.str kd) /\ a3j kd = true := by
 have h1 := Int.emod_nonneg x (show (4 : Int) ≠ 0 by decide)
 have h2 := Int.emod_lt_of_pos x (show (0 : Int) < 4 by decide)
 obtain ⟨t, ht, hm⟩ := at_map D.str ["mesh", "pin", "band", "cross"] (x % 4) h1 (by simpa using h2)
 refine ⟨t, ht, ?_⟩
 simp only [List.mem_cons, List.not_mem_nil, or_false] at hm
 rcases hm with rfl | rfl | rfl | rfl <;> decide +kernel
theorem a6t (l : List D) (i : Nat) (h : i < l.length) : atI l (i : Int) = some l[i] := a3c (List.getElem?_eq_getElem h)
noncomputable def eK (j : Str × Nat × Nat) : D := .tup [.str j.1, .int j.2.1, .int j.2.2]
theorem a78 (l : List (Str × Nat × Nat)) (x : Str × Nat × Nat) : (l ++ [x]).map eK = l.map eK ++ [eK x] := by rw [List.map_append]; rfl
def Bg (n : Nat) (x : Int) : Prop := x.natAbs < 2 ^ n
theorem Bg.mul {m n : Nat} {x y : Int} (hx : Bg m x) (hy : Bg n y) : Bg (m + n) (x * y) := by
 unfold Bg at *
 rw [Int.natAbs_mul, Nat.pow_add]
 exact Nat.mul_lt_mul'' hx hy
theorem Bg.up {m n : Nat} {x : Int} (h : Bg m x) (hm : m <= n) : Bg n x := Nat.lt_of_lt_of_le h (Nat.pow_le_pow_right (by decide) hm)
theorem Bg.ok {m n : Nat} {x y : Int} (hx : Bg m x) (hy : Bg n y) (hm : m <= 10000) (hn : n <= 10000) : IntMulOk x y :=
 IntMulOk.of_bits (intBits_le_iff.mpr (hx.up (Nat.le_trans hm (by decide)))) (intBits_le_iff.mpr (hy.up (Nat.le_trans hn (by decide))))
theorem b15 {k : Str} {a b : Int} (ha : 1 <= a) (ha2 : a < 1000000000) (hb : 1 <= b) (hb2 : b < 1000000000) : Bg 30 (byF k a b).1 /\ Bg 30 (byF k a b).2 := by
 have e30 : (2 : Nat) ^ 30 = 1073741824 := by decide
 unfold Bg byF
 rw [e30]
 split
 . exact ⟨by decide, by decide⟩
 . split
   . exact ⟨by show a.natAbs < _; omega, by show b.natAbs < _; omega⟩
   . exact ⟨by show (-a).natAbs < _; omega, by show b.natAbs < _; omega⟩
def spBy : SpA := fun ds M Q _ => ∃ (k : Str) (a b : Int), ds = [.str k, .int a, .int b] /\ Q (eF (byF k a b)) M
theorem b36 {f : Addr} {fd : FuncData} (Fn : Fun K "_law_by" "_law_by" a7u f fd) : FnOk P w K mg base (CXE P w) 1 f fd ["_law_kind", "_law_one", "_law_other"] (a0j K spBy) := by
 refine Fn.okA b3i (fun ds M Q E h => ?_) ?_
 . obtain ⟨a, b, c, rfl, _⟩ := h; rfl
 intro cdv A outer s H E F0 ds M Q Ea hr ct hsp
 obtain ⟨k, a, b, rfl, q⟩ := hsp
 refine ⟨_, (a0b (sIf (a0q (a1k (un64 ct)) lEq (paV (pv 0)) paS (a0n _))
       (a0i (sRet (a1w (a0a paI (a0a paI a0f)))))
       a0s)
     (a0b (sIf (a0q (a1k (un64 ct)) lEq (paV (pv 0)) paS (a0n _))
       (a0i (sRet (a1w (a0a (paV (pv 1)) (a0a (paV (pv 2)) a0f)))))
       a0s)
     (a0i (sRet (a1w (a0a (paUn a8o lNeg (paV (pv 1))) (a0a (paV (pv 2)) a0f))))))), ?_⟩
 unfold byF at q
 by_cases h1 : k = "pin"
 . rw [if_pos h1] at q
   refine a2x (fun R h => by simp! only [decide_eq_true h1]; exact h) ?_
   simp! only []
   exact ⟨by decide, .now q⟩
 . rw [if_neg h1] at q
   refine a1d (fun R h => by simp! only [decide_eq_false h1]; exact h) ?_
   by_cases h2 : k = "band"
   . rw [if_pos h2] at q
     refine a2x (fun R h => by simp! only [decide_eq_true h2]; exact h) ?_
     simp! only []
     exact ⟨by decide, .now q⟩
   . rw [if_neg h2] at q
     refine a1d (fun R h => by simp! only [decide_eq_false h2]; exact h) ?_
     simp! only []
     exact ⟨by decide, .now q⟩
noncomputable abbrev Sp := Nat × Int × Int
noncomputable def eSp (s : Sp) : D := .tup [.int s.1, .int s.2.1, .int s.2.2]
theorem sp_at {sp : List Sp} {i : Nat} (h : i < sp.length) : atI (sp.map eSp) (i : Int) = some (eSp sp[i]) := by rw [a6t _ _ (by simpa using h), List.getElem_map]
theorem w_at {ws : List (Str × Int)} {i : Nat} (h : i < ws.length) : atI (ws.map eW) (i : Int) = some (eW ws[i]) := by rw [a6t _ _ (by simpa using h), List.getElem_map]
def b3d : SpA := fun ds M Q _ => ∃ (k : Str) (a b : Nat) (p r : Addr) (ws : List (Str × Int)) (sp : List Sp), ds = [.str k, .int a, .int b, .obj p, .obj r] /\ M p = some (.lst (ws.map eW)) /\ M r = some (.lst (sp.map eSp)) /\ a < ws.length /\ b < ws.length /\ a < sp.length /\ b < sp.length /\ a8l ws /\ (∀ s ∈ sp, Bg 4000 s.2.1 /\ Bg 4000 s.2.2) /\ ∀ v, Q (.bl v) M
theorem a98 {f : Addr} {fd : FuncData} (Fn : Fun K "_law_goes" "_law_goes" a4x f fd) (h_law_by : Has P w K mg base (CXE P w) 1 "_law_by" ["_law_kind", "_law_one", "_law_other"] (a0j K spBy)) : FnOk P w K mg base (CXE P w) 2 f fd ["_law_kind", "_law_one", "_law_other", "_law_wheels", "_law_speeds"] (a0j K b3d) := by
 refine Fn.okA sc_law_goes (fun ds M Q E h => ?_) ?_
 . obtain ⟨_, _, _, _, _, _, _, rfl, _⟩ := h; rfl
 intro cdv A outer s H E F0 ds M Q Ea hr ct hsp
 obtain ⟨k, a, b, p, r, ws, sp, rfl, hp, hr1, ha, hb, ha', hb', ht, hs, q⟩ := hsp
 refine ⟨_, (a0b (sSet (i := 5) sc_law_goes.nd rfl (Or.inl rfl) (a0t h_law_by (hr.mono (by decide)) (by rfl) ct (a0a (paV (pv 0)) (a0a (paIx a0e lIx (paIx a0e lIx (paV (pv 3)) (paV (pv 1)) (fun _ _ => rfl)) paI (fun _ _ => rfl)) (a0a (paIx a0e lIx (paIx a0e lIx (paV (pv 3)) (paV (pv 2)) (fun _ _ => rfl)) paI (fun _ _ => rfl)) a0f)))))
     (a0b (sIf (a0q (a15 (un64 ct)) lNe (paIx a0e lIx (paIx a0e lIx (paV (pv 4)) (paV (pv 1)) (fun _ _ => rfl)) paI (fun _ _ => rfl)) (paIx a0e lIx (paIx a0e lIx (paV (pv 4)) (paV (pv 2)) (fun _ _ => rfl)) paI (fun _ _ => rfl)) (a0n _))
       (a0i (sRet paB))
       a0s)
     (a0b (sSet (i := 6) sc_law_goes.nd rfl (Or.inl rfl) (paIx a0e lIx (paV (pv 4)) (paV (pv 1)) (fun _ _ => rfl)))
     (a0b (sSet (i := 7) sc_law_goes.nd rfl (Or.inl rfl) (paIx a0e lIx (paV (pv 4)) (paV (pv 2)) (fun _ _ => rfl)))
     (a0i (sRet (a8y (a1k (un64 ct)) lEq (paOp a1c lMul (paOp a1c lMul (paIx a0e lIx (paV (pv 6)) paI (fun _ _ => rfl)) (paIx a0e lIx (paV (pv 5)) paI (fun _ _ => rfl))) (paIx a0e lIx (paV (pv 7)) paI (fun _ _ => rfl))) (paOp a1c lMul (paOp a1c lMul (paIx a0e lIx (paV (pv 7)) paI (fun _ _ => rfl)) (paIx a0e lIx (paV (pv 6)) paI (fun _ _ => rfl))) (paIx a0e lIx (paV (pv 5)) paI (fun _ _ => rfl))) (a0n _)))))))), ?_⟩
 have e1 := w_at ha
 have e2 := w_at hb
 have e3 := sp_at ha'
 have e4 := sp_at hb'
 have t1 := ht _ (List.getElem_mem ha)
 have t2 := ht _ (List.getElem_mem hb)
 have s1 := hs _ (List.getElem_mem ha')
 have s2 := hs _ (List.getElem_mem hb')
 generalize ws[a] = wa at *
 generalize ws[b] = wb at *
 generalize sp[a] = sa at *
 generalize sp[b] = sb at *
 obtain ⟨y1, y2⟩ := b15 (k := k) t1.1 t1.2 t2.1 t2.2
 refine seqV (eF (byF k wa.2 wb.2)) M (fun R h => by
   simp! only [hp, e1, e2, eW, spBy]
   exact ⟨k, _, _, rfl, h⟩) ?_
 generalize byF k wa.2 wb.2 = y at *
 by_cases hs : sa.1 = sb.1
 . refine a1d (fun R h => by
     simp! only [hr1, e3, e4, eSp, decide_eq_true (show (sa.1 : Int) = (sb.1 : Int) by omega), Bool.not_true]
     exact h) ?_
   refine seqV (eSp sa) M (fun R h => by simp! only [hr1, e3]; exact h) (seqV (eSp sb) M (fun R h => by simp! only [hr1, e4]; exact h) ?_)
   simp! only [eSp, eF]
   exact ⟨s1.1.ok y1 (by decide) (by decide), (s1.1.mul y1).ok s2.2 (by decide) (by decide), s2.1.ok s1.2 (by decide) (by decide), (s2.1.mul s1.2).ok y2 (by decide) (by decide), .now (q _)⟩
 . refine a2x (fun R h => by
     simp! only [hr1, e3, e4, eSp, decide_eq_false (show ¬ (sa.1 : Int) = (sb.1 : Int) by omega), Bool.not_false]
     exact h) ?_
   simp! only []
   exact .now (q _)
def a5w : SpA := fun ds M Q _ => ∃ (x : Int) (a b : Nat) (p r : Addr) (ws : List (Str × Int)) (sp : List Sp), ds = [.int x, .int a, .int b, .obj p, .obj r] /\ M p = some (.lst (ws.map eW)) /\ M r = some (.lst (sp.map eSp)) /\ a < ws.length /\ b < ws.length /\ a < sp.length /\ b < sp.length /\ a8l ws /\ (∀ s ∈ sp, Bg 4000 s.2.1 /\ Bg 4000 s.2.2) /\
 Q (.lst []) M /\ ∀ kd, a3j kd = true -> Q (.lst [eK (kd, a, b)]) M
theorem a63 {f : Addr} {fd : FuncData} (Fn : Fun K "_law_closing" "_law_closing" a2s f fd) (T : Txt K mg) (h_law_goes : Has P w K mg base (CXE P w) 2 "_law_goes" ["_law_kind", "_law_one", "_law_other", "_law_wheels", "_law_speeds"] (a0j K b3d)) : FnOk P w K mg base (CXE P w) 3 f fd ["_law_kind", "_law_one", "_law_other", "_law_wheels", "_law_speeds"] (a0j K a5w) := by
 refine Fn.okA sc_law_closing (fun ds M Q E h => ?_) ?_
 . obtain ⟨_, _, _, _, _, _, _, rfl, _⟩ := h; rfl
 intro cdv A outer s H E F0 ds M Q Ea hr ct hsp
 obtain ⟨x, a, b, p, r, ws, sp, rfl, hp, hr1, ha, hb, ha', hb', ht, hs, q0, q⟩ := hsp
 refine ⟨_, (a0b (sSet (i := 5) sc_law_closing.nd rfl (Or.inl rfl) (a4d (a0a paS (a0a paS (a0a paS (a0a paS a0f))))))
     (a0b (sFor ct (b0k rfl T.range (a0a paI a0f)) (a0r (i := 6) sc_law_closing.nd rfl (Or.inl rfl))
       (a0b (sSet (i := 7) sc_law_closing.nd rfl (Or.inl rfl) (paIx a0e lIx (paV (pv 5)) (paOp a07 lMod (paOp a1a lAdd (paV (pv 0)) (paV (pv 6))) paI) (fun _ _ => rfl)))
       (a0i (sIf (ptV (a0t h_law_goes (hr.mono (by decide)) (by rfl) ct (a0a (paV (pv 7)) (a0a (paV (pv 1)) (a0a (paV (pv 2)) (a0a (paV (pv 3)) (a0a (paV (pv 4)) a0f)))))))
         (a0i (sRet (a4d (a0a (a1w (a0a (paV (pv 7)) (a0a (paV (pv 1)) (a0a (paV (pv 2)) a0f)))) a0f))))
         a0s))))
     (a0i (sRet (a4d a0f))))), ?_⟩
 simp! only []
 refine ⟨by decide, by decide, by decide, ?_⟩
 refine LoopP.by2 (fun i Γ M' => M' = M /\ ∃ o6 o7, Γ = [some (.int x), some (.int a), some (.int b), some (.obj p), some (.obj r), some (.lst [.str "mesh", .str "pin", .str "band", .str "cross"]), o6, o7]) ⟨rfl, _, _, rfl⟩ (fun _ _ _ _ => trivial) ?_ ?_
 . rintro E' i Γ M' hrt hi hnx ⟨rfl, o6, o7, rfl⟩
   obtain ⟨kd, hkd, hkd2⟩ := b4s (x + (i : Int))
   refine seqV (.str kd) _ (fun R h => by simp! only [hkd]; exact ⟨by decide, h⟩) ?_
   simp! only [b3d]
   refine ⟨kd, a, b, p, r, ws, sp, rfl, hp, hr1, ha, hb, ha', hb', ht, hs, fun v => ?_⟩
   cases v with
   | true =>
     rw [if_pos rfl, hrt]
     exact ⟨by decide, by decide, .now (q kd hkd2)⟩
   | false =>
     rw [if_neg Bool.false_ne_true]
     exact hnx _ _ ⟨rfl, _, _, rfl⟩
 . rintro Γ M' ⟨rfl, o6, o7, rfl⟩
   exact ⟨by decide, .now q0⟩
theorem a4m {M M' : Mem} (h : L2.Sub M M') {p : Addr} (hp : M p = none) {o : MO} : L2.Sub M (put M' p o) := fun x u e => by
 rw [a0h (by rintro rfl; rw [hp] at e; cases e)]; exact h x u e
structure Rows (M M' : Mem) (p r z : Addr) (ws : List (Str × Int)) (js : List (Str × Nat × Nat)) (sp : List Sp) : Prop where
 p1 : M' p = some (.lst (ws.map eW))
 r1 : M' r = some (.lst (js.map eK))
 z1 : M' z = some (.lst (sp.map eSp))
 pr : p ≠ r
 pz : p ≠ z
 rz : r ≠ z
 sub : L2.Sub M M'
 p0 : M p = none
 r0 : M r = none
 z0 : M z = none
section
variable {M M' : Mem} {p r z : Addr} {ws : List (Str × Int)} {js : List (Str × Nat × Nat)} {sp : List Sp}
theorem Rows.sw (R : Rows M M' p r z ws js sp) (ws' : List (Str × Int)) : Rows M (put M' p (.lst (ws'.map eW))) p r z ws' js sp :=
 ⟨a0d, by rw [a0h R.pr.symm]; exact R.r1, by rw [a0h R.pz.symm]; exact R.z1, R.pr, R.pz, R.rz, a4m R.sub R.p0, R.p0, R.r0, R.z0⟩
theorem Rows.sr (R : Rows M M' p r z ws js sp) (js' : List (Str × Nat × Nat)) : Rows M (put M' r (.lst (js'.map eK))) p r z ws js' sp :=
 ⟨by rw [a0h R.pr]; exact R.p1, a0d, by rw [a0h R.rz.symm]; exact R.z1, R.pr, R.pz, R.rz, a4m R.sub R.r0, R.p0, R.r0, R.z0⟩
theorem Rows.sz (R : Rows M M' p r z ws js sp) (sp' : List Sp) : Rows M (put M' z (.lst (sp'.map eSp))) p r z ws js sp' :=
 ⟨by rw [a0h R.pz]; exact R.p1, by rw [a0h R.rz]; exact R.r1, a0d, R.pr, R.pz, R.rz, a4m R.sub R.z0, R.p0, R.r0, R.z0⟩
theorem Rows.nr (R : Rows M M' p r z ws js sp) {r' : Addr} (h : M' r' = none) (js' : List (Str × Nat × Nat)) : Rows M (put M' r' (.lst (js'.map eK))) p r' z ws js' sp := by
 have n1 : p ≠ r' := by rintro rfl; rw [R.p1] at h; cases h
 have n2 : r' ≠ z := by rintro rfl; rw [R.z1] at h; cases h
 have h0 : M r' = none := by
   cases e : M r' with
   | none => rfl
   | some o => have := R.sub _ _ e; rw [h] at this; cases this
 exact ⟨by rw [a0h n1]; exact R.p1, a0d, by rw [a0h n2.symm]; exact R.z1, n1, R.pz, n2, a4m R.sub h0, R.p0, h0, R.z0⟩
end
def spRows : SpA := fun ds M Q _ => ∃ ns : List Int, ds = [.scr (ns.map D.int)] /\ ns.length <= 100 /\ ∀ s ws js, Rw s ws js -> ws.length <= 80 -> js.length <= 80 -> ∀ M', L2.Sub M M' -> Q (.lst [.lst (ws.map eW), .lst (js.map eK)]) M'
theorem b5q (ds : List D) : (cut ds none (some 81)).length = min 81 ds.length := by
 unfold cut
 have e1 : HT.sIx ds.length 0 none = 0 := rfl
 have e2 : HT.sIx ds.length ds.length (some 81) = min 81 ds.length := by
   unfold HT.sIx
   simp
   try omega
 rw [e1, e2]
 simp
def SpOk (n : Nat) (sp : List Sp) : Prop := ∀ s ∈ sp, Bg n s.2.1 /\ Bg n s.2.2
theorem SpOk.up {m n : Nat} {sp : List Sp} (h : SpOk m sp) (hm : m <= n) : SpOk n sp := fun s hs => ⟨(h s hs).1.up hm, (h s hs).2.up hm⟩
theorem SpOk.snoc {n : Nat} {sp : List Sp} (h : SpOk n sp) {s : Sp} (hs : Bg n s.2.1 /\ Bg n s.2.2) : SpOk n (sp ++ [s]) := fun x hx => by
 rcases List.mem_append.mp hx with hx | hx
 . exact h x hx
 . rw [List.mem_singleton.mp hx]; exact hs
theorem SpOk.set {n : Nat} {sp : List Sp} (h : SpOk n sp) {s : Sp} (hs : Bg n s.2.1 /\ Bg n s.2.2) (i : Nat) : SpOk n (sp.set i s) := fun x hx => by
 rcases List.mem_or_eq_of_mem_set hx with hx | hx
 . exact h x hx
 . rw [hx]; exact hs
theorem one_bg (n : Nat) (hn : 1 <= n) : Bg n 1 := Nat.lt_of_lt_of_le (show (1 : Int).natAbs < 2 ^ 1 by decide) (Nat.pow_le_pow_right (by decide) hn)
theorem set_sp (sp : List Sp) (s : Sp) (i : Nat) : (sp.map eSp).set i (eSp s) = (sp.set i s).map eSp := by rw [List.map_set]
theorem a8d (n i : Nat) (h : i < n) : ixN n (i : Int) = some i := by
 unfold ixN
 simp
 omega
theorem a94 {f : Addr} {fd : FuncData} (Fn : Fun K "_law_rows" "_law_rows" a4t f fd) (T : Txt K mg) (h_law_cell_at : Has P w K mg base (CXE P w) 1 "_law_cell_at" ["_law_script", "_law_k"] (a0j K a7d))
   (h_law_name : Has P w K mg base (CXE P w) 1 "_law_name" ["_law_k", "_law_spin"] (a0j K b3a)) (h_law_teeth : Has P w K mg base (CXE P w) 1 "_law_teeth" ["_law_number", "_law_way_here"] (a0j K a9u))
   (h_law_by : Has P w K mg base (CXE P w) 1 "_law_by" ["_law_kind", "_law_one", "_law_other"] (a0j K spBy)) (h_law_closing : Has P w K mg base (CXE P w) 3 "_law_closing" ["_law_kind", "_law_one", "_law_other", "_law_wheels", "_law_speeds"] (a0j K a5w)) :
   FnOk P w K mg base (CXE P w) 4 f fd ["_law_script"] (a0j K spRows) := by
 refine Fn.okA sc_law_rows (fun ds M Q E h => ?_) ?_
 . obtain ⟨a, rfl, _⟩ := h; rfl
 intro cdv A outer s H E F0 ds M Q Ea hr ct hsp
 obtain ⟨ns, rfl, hns, q⟩ := hsp
 refine ⟨_, (a0b (sSet (i := 1) sc_law_rows.nd rfl (Or.inl rfl) (a4c a0f))
     (a0b (sSet (i := 2) sc_law_rows.nd rfl (Or.inl rfl) (a4c a0f))
     (a0b (sSet (i := 3) sc_law_rows.nd rfl (Or.inl rfl) (a4c a0f))
     (a0b (sSet (i := 4) sc_law_rows.nd rfl (Or.inl rfl) (a0t h_law_cell_at (hr.mono (by decide)) (by rfl) ct (a0a (paV (pv 0)) (a0a paI a0f))))
     (a0b (sSet (i := 5) sc_law_rows.nd rfl (Or.inl rfl) (a4d (a0a paS (a0a paS (a0a paS (a0a paS a0f))))))
     (a0b (sFor ct (iRange2 rfl T.range (a0a paI (a0a (a02 a0v lLen (by rfl) T.len PySem.boot_len (a0a (paSl b3e lSl (paV (pv 0)) poN (poS paI)) a0f)) a0f))) (a0r (i := 6) sc_law_rows.nd rfl (Or.inl rfl))
       (a0b (sSet (i := 7) sc_law_rows.nd rfl (Or.inl rfl) (paOp a07 lMod (paIx a0e lIx (paV (pv 0)) (paV (pv 6)) (fun _ _ => rfl)) paI))
       (a0b (sSet (i := 8) sc_law_rows.nd rfl (Or.inl rfl) (paOp a4z lDiv (paIx a0e lIx (paV (pv 0)) (paV (pv 6)) (fun _ _ => rfl)) paI))
       (a0b (sSet (i := 9) sc_law_rows.nd rfl (Or.inl rfl) (paOp a07 lMod (paOp a1a lAdd (paIx a0e lIx (paV (pv 0)) (paV (pv 6)) (fun _ _ => rfl)) (paV (pv 6))) paI))
       (a0b (sSet (i := 10) sc_law_rows.nd rfl (Or.inl rfl) (a02 a0v lLen (by rfl) T.len PySem.boot_len (a0a (paV (pv 1)) a0f)))
       (a0i (sIf ((pwOr (a0q a59 lLt (paV (pv 10)) paI (a0n _)) (a39 (a0q a59 lLt (paV (pv 7)) paI (a0n _))))).pt
         (a0b (a2d (paBM PySem.F.plainAttrs_list PySem.F.slot_list_append PySem.F.type_list_append a09 a1x (paV (pv 1)) (a0a (a1w (a0a (a0t h_law_name (hr.mono (by decide)) (by rfl) ct (a0a (paV (pv 10)) (a0a (paOp a07 lMod (paOp a4z lDiv (paV (pv 4)) paI) paI) a0f))) (a0a (a0t h_law_teeth (hr.mono (by decide)) (by rfl) ct (a0a (paV (pv 8)) (a0a (paOp a07 lMod (paOp a4z lDiv (paV (pv 4)) paI) paI) a0f))) a0f))) a0f)))
         (a0b (a2d (paBM PySem.F.plainAttrs_list PySem.F.slot_list_append PySem.F.type_list_append a09 a1x (paV (pv 3)) (a0a (a1w (a0a (paV (pv 10)) (a0a paI (a0a paI a0f)))) a0f)))
         (a0b (sSet (i := 11) sc_law_rows.nd rfl (Or.inl rfl) (paOp a07 lMod (paOp a1a lAdd (paV (pv 8)) (paOp a1c lMul (paV (pv 6)) (paV (pv 6)))) (a02 (b5s rfl) lMax (by rfl) T.max boot_max (a0a paI (a0a (paV (pv 10)) a0f)))))
         (a0i (sIf ((b6d (a0q b6q lGt (paV (pv 10)) paI (a0n _)) (b1a (a0q a59 lLt (paV (pv 7)) paI (a0n _))))).pt
           (a0b (sSet (i := 12) sc_law_rows.nd rfl (Or.inl rfl) (a0t h_law_by (hr.mono (by decide)) (by rfl) ct (a0a (paIx a0e lIx (paV (pv 5)) (paV (pv 9)) (fun _ _ => rfl)) (a0a (paIx a0e lIx (paIx a0e lIx (paV (pv 1)) (paV (pv 11)) (fun _ _ => rfl)) paI (fun _ _ => rfl)) (a0a (paIx a0e lIx (paIx a0e lIx (paV (pv 1)) (paV (pv 10)) (fun _ _ => rfl)) paI (fun _ _ => rfl)) a0f)))))
           (a0b (sAsg (a1w (a0a (paIx a0e lIx (paIx a0e lIx (paV (pv 3)) (paV (pv 11)) (fun _ _ => rfl)) paI (fun _ _ => rfl)) (a0a (paOp a1c lMul (paIx a0e lIx (paIx a0e lIx (paV (pv 3)) (paV (pv 11)) (fun _ _ => rfl)) paI (fun _ _ => rfl)) (paIx a0e lIx (paV (pv 12)) paI (fun _ _ => rfl))) (a0a (paOp a1c lMul (paIx a0e lIx (paIx a0e lIx (paV (pv 3)) (paV (pv 11)) (fun _ _ => rfl)) paI (fun _ _ => rfl)) (paIx a0e lIx (paV (pv 12)) paI (fun _ _ => rfl))) a0f)))) (tgSub (paV (pv 3)) (paV (pv 10))))
           (a0i (a2d (paBM PySem.F.plainAttrs_list PySem.F.slot_list_append PySem.F.type_list_append a09 a1x (paV (pv 2)) (a0a (paIx a0e lIx (a4d (a0a (a1w (a0a (paIx a0e lIx (paV (pv 5)) (paV (pv 9)) (fun _ _ => rfl)) (a0a (paV (pv 11)) (a0a (paV (pv 10)) a0f)))) (a0a (a1w (a0a (paIx a0e lIx (paV (pv 5)) (paV (pv 9)) (fun _ _ => rfl)) (a0a (paV (pv 10)) (a0a (paV (pv 11)) a0f)))) a0f))) (paOp a07 lMod (paV (pv 8)) paI) (fun _ _ => rfl)) a0f))))))
           a0s)))))
         (a0b (sSet (i := 11) sc_law_rows.nd rfl (Or.inl rfl) (paOp a07 lMod (paV (pv 8)) (paV (pv 10))))
         (a0b (sSet (i := 13) sc_law_rows.nd rfl (Or.inl rfl) (paOp a07 lMod (paOp a1a lAdd (paOp a1a lAdd (paV (pv 11)) paI) (paOp a07 lMod (paOp a1a lAdd (paOp a4z lDiv (paV (pv 8)) (paV (pv 10))) (paV (pv 6))) (paOp op_sub lSub (paV (pv 10)) paI))) (paV (pv 10))))
         (a0i (sIf (a0q (a1k (un64 ct)) lEq (paOp a07 lMod (paV (pv 4)) paI) paI (a0n _))
           (a0i (sSet (i := 2) sc_law_rows.nd rfl (Or.inl rfl) (paOp op_cat lCatM (paV (pv 2)) (a0t h_law_closing (hr.mono (by decide)) (by rfl) ct (a0a (paV (pv 9)) (a0a (paV (pv 11)) (a0a (paV (pv 13)) (a0a (paV (pv 1)) (a0a (paV (pv 3)) a0f)))))))))
           (a0i (a2d (paBM PySem.F.plainAttrs_list PySem.F.slot_list_append PySem.F.type_list_append a09 a1x (paV (pv 2)) (a0a (a1w (a0a (paIx a0e lIx (paV (pv 5)) (paV (pv 9)) (fun _ _ => rfl)) (a0a (paV (pv 11)) (a0a (paV (pv 13)) a0f)))) a0f)))))))))))))))
     (a0i (sRet (a4d (a0a (paFz (paV (pv 1))) (a0a (paFz (paV (pv 2))) a0f))))))))))), ?_⟩
 simp! only []
 refine ⟨Nat.zero_le _, fun p hp => ⟨Nat.zero_le _, fun r hr' => ⟨Nat.zero_le _, fun z hz => ?_⟩⟩⟩
 obtain ⟨nrp, hr2⟩ := none_of hr'
 obtain ⟨nzr, hz2⟩ := none_of hz
 obtain ⟨nzp, hz3⟩ := none_of hz2
 have R0 : Rows M (put (put (put M p (.lst [])) r (.lst [])) z (.lst [])) p r z [] [] [] :=
   ⟨by rw [a0h nzp.symm, a0h nrp.symm, a0d]; rfl, by rw [a0h nzr.symm, a0d]; rfl, by rw [a0d]; rfl, nrp.symm, nzp.symm, nzr.symm, L2.Sub.trans (.put hp) (L2.Sub.trans (.put hr') (.put hz)), hp, hr2, hz3⟩
 generalize put (put (put M p (.lst [])) r (.lst [])) z (.lst []) = M0 at R0
 simp only [a7d]
 refine ⟨ns, 0, rfl, by decide, ?_⟩
 generalize cell ns 0 = st
 obtain ⟨spn, hspn⟩ := Int.eq_ofNat_of_zero_le (Int.emod_nonneg (st / 2) (show (78 : Int) ≠ 0 by decide))
 simp only [b5q, List.length_map]
 refine ⟨by decide, ⟨by decide, by decide, by omega, by omega⟩, ?_⟩
 refine LoopP.by2 (fun i Γ M' => ∃ (r : Addr) (ws : List (Str × Int)) (js : List (Str × Nat × Nat)) (sp : List Sp) (o6 o7 o8 o9 o10 o11 o12 o13 : Option D), Γ = [some (.scr (ns.map D.int)), some (.obj p), some (.obj r), some (.obj z), some (.int st), some (.lst [.str "mesh", .str "pin", .str "band", .str "cross"]), o6, o7, o8, o9, o10, o11, o12, o13] /\ Rows M M' p r z ws js sp /\ Rw spn ws js /\ SpOk (30 * (i + 1)) sp /\ sp.length = ws.length /\ ws.length <= i /\ js.length <= i)
   ⟨r, [], [], [], _, _, _, _, _, _, _, _, rfl, R0, Rw.nil spn, fun _ h => (List.not_mem_nil h).elim, rfl, Nat.zero_le _, Nat.zero_le _⟩ (fun _ _ _ _ => trivial) ?_ ?_
 . rintro E' i Γ M' hrt hi hnx ⟨r, ws, js, sp, o6, o7, o8, o9, o10, o11, o12, o13, rfl, R, rw', hso, hsl, hw, hj⟩
   dsimp only at hi
   have hi2 : 1 + i < ns.length := by omega
   have ex : ∃ x, atI (ns.map D.int) (1 + (i : Int)) = some (.int x) := by
     have ek : (1 : Int) + (i : Int) = ((1 + i : Nat) : Int) := by omega
     rw [ek, a6t _ _ (by simpa using hi2)]
     exact ⟨_, by rw [List.getElem_map]⟩
   obtain ⟨x, ex⟩ := ex
   obtain ⟨kd, hkd, hkd2⟩ := b4s (x + (1 + (i : Int)))
   refine seqV (.int (x % 12)) _ (fun R h => by simp! only [ex]; exact ⟨by decide, h⟩) (seqV (.int (x / 12)) _ (fun R h => by simp! only [ex]; exact ⟨⟨by decide, by decide⟩, h⟩) (seqV (.int ((x + (1 + (i : Int))) % 4)) _ (fun R h => by simp! only [ex]; exact ⟨by decide, h⟩) (seqV (.int ws.length) _ (fun R' h => by simp! only [R.p1, List.length_map]; exact h) ?_)))
   simp only [List.set_cons_zero, List.set_cons_succ]
   generalize hkx : (x + (1 + (i : Int))) % 4 = kx at hkd
   by_cases hc : ws.length < 2 \/ x % 12 < 10
   . refine ifV true (fun R h => ?_) ?_
     . simp! only []
       refine ite2 (fun _ => h) fun h1 => ?_
       rw [decide_eq_true (hc.resolve_left fun z => h1 (decide_eq_true (by omega)))]; exact h
     rw [if_pos rfl]
     refine cut1 (fun Γ' M1 => Γ' = [some (.scr (ns.map D.int)), some (.obj p), some (.obj r), some (.obj z), some (.int st), some (.lst [.str "mesh", .str "pin", .str "band", .str "cross"]), some (.int (1 + (i : Int))), some (.int (x % 12)), some (.int (x / 12)), some (.int kx), some (.int ws.length), o11, o12, o13] /\ ∃ t, Rows M M1 p r z (ws ++ [(a1s spn ws.length, t)]) js sp /\ Rw spn (ws ++ [(a1s spn ws.length, t)]) js) ?_ ?_
     . rintro Γ M1 ⟨rfl, t, R1, rw2⟩
       have hlen : (ws ++ [(a1s spn ws.length, t)]).length = ws.length + 1 := by simp
       generalize hww : ws ++ [(a1s spn ws.length, t)] = ww at *
       have hsl2 : (sp ++ [(ws.length, 1, 1)]).length = ws.length + 1 := by simp [hsl]
       refine b7f .non (put M1 z (.lst ((sp ++ [(ws.length, 1, 1)]).map eSp))) (fun R' h => by
         simp! only [aBM, a2e, R1.z1, oAppend, List.length_map]
         rw [List.map_append] at h
         exact ⟨by decide, by omega, h⟩) ?_
       have R2 := R1.sz (sp ++ [(ws.length, 1, 1)])
       have hso2 : SpOk (30 * (i + 1)) (sp ++ [(ws.length, 1, 1)]) := hso.snoc ⟨one_bg _ (by omega), one_bg _ (by omega)⟩
       generalize put M1 z (.lst ((sp ++ [(ws.length, 1, 1)]).map eSp)) = M2 at R2 |-
       generalize sp ++ [(ws.length, 1, 1)] = sp2 at R2 hso2 hsl2
       have hmx : ∃ m : Nat, (if (ws.length : Int) > 1 then (ws.length : Int) else 1) = (m : Int) /\ 0 < m /\ (0 < ws.length -> m = ws.length) := by
         by_cases h : ws.length <= 1
         . exact ⟨1, by rw [if_neg (by omega)]; rfl, by decide, fun _ => by omega⟩
         . exact ⟨ws.length, by rw [if_pos (by omega)], by omega, fun _ => rfl⟩
       obtain ⟨mx, emx, mx0, mx1⟩ := hmx
       obtain ⟨at', hat⟩ := Int.eq_ofNat_of_zero_le (Int.emod_nonneg (x / 12 + (1 + (i : Int)) * (1 + (i : Int))) (show (mx : Int) ≠ 0 by omega))
       have hat2 := Int.emod_lt_of_pos (x / 12 + (1 + (i : Int)) * (1 + (i : Int))) (show (0 : Int) < (mx : Int) by omega)
       rw [hat] at hat2
       refine seqV (.int (at' : Int)) _ (fun R h => by
         simp! only [oMax, emx, hat]
         exact ⟨CMul.ok (.inr ⟨by omega, by omega⟩), by omega, h⟩) ?_
       simp only [List.set_cons_zero, List.set_cons_succ]
       by_cases hj2 : 0 < ws.length /\ x % 12 < 9
       . refine ifV true (fun R h => ?_) ?_
         . simp! only [decide_eq_true (show (0 : Int) < (ws.length : Int) by omega), decide_eq_true hj2.2]
           exact h
         rw [if_pos rfl]
         have h1 : at' < ww.length := by omega
         have h2 : ws.length < ww.length := by omega
         have e1 := w_at h1
         have e2 := w_at h2
         have t1 := rw2.teeth _ (List.getElem_mem h1)
         have t2 := rw2.teeth _ (List.getElem_mem h2)
         obtain ⟨y1, y2⟩ := b15 (k := kd) t1.1 t1.2 t2.1 t2.2
         refine seqV (eF (byF kd (ww[at']).2 (ww[ws.length]).2)) M2 (fun R h => by
           simp! only [hkd, R2.p1, e1, e2, eW, spBy]
           exact ⟨kd, _, _, rfl, h⟩) ?_
         generalize byF kd (ww[at']).2 (ww[ws.length]).2 = y at *
         have h3 : at' < sp2.length := by omega
         have h4 : ws.length < sp2.length := by omega
         have e3 := sp_at h3
         have s1 := hso2 _ (List.getElem_mem h3)
         generalize sp2[at'] = sa at *
         have hso3 : SpOk (30 * (i + 1 + 1)) (sp2.set ws.length (sa.1, sa.2.1 * y.1, sa.2.2 * y.2)) := (hso2.up (by omega)).set ⟨(s1.1.mul y1).up (by omega), (s1.2.mul y2).up (by omega)⟩ _
         have R3 := R2.sz (sp2.set ws.length (sa.1, sa.2.1 * y.1, sa.2.2 * y.2))
         simp only [List.set_cons_zero, List.set_cons_succ]
         refine cut1 (fun Γ' M3 => Γ' = [some (.scr (ns.map D.int)), some (.obj p), some (.obj r), some (.obj z), some (.int st), some (.lst [.str "mesh", .str "pin", .str "band", .str "cross"]), some (.int (1 + (i : Int))), some (.int (x % 12)), some (.int (x / 12)), some (.int kx), some (.int ws.length), some (.int (at' : Int)), some (eF y), o13] /\ M3 = put M2 z (.lst ((sp2.set ws.length (sa.1, sa.2.1 * y.1, sa.2.2 * y.2)).map eSp))) ?_ ?_
         . rintro Γ M3 ⟨rfl, rfl⟩
           have hk : ∃ j : Str × Nat × Nat, atI [D.tup [.str kd, .int (at' : Int), .int (ws.length : Int)], .tup [.str kd, .int (ws.length : Int), .int (at' : Int)]] (x / 12 % 2) = some (eK j) /\ Rw spn ww (js ++ [j]) := by
             rcases Int.emod_two_eq (x / 12) with h0 | h0
             . exact ⟨(kd, at', ws.length), by rw [h0]; exact at0, rw2.join hkd2 (by omega) (by omega) (by omega)⟩
             . exact ⟨(kd, ws.length, at'), by rw [h0]; exact at1, rw2.join hkd2 (by omega) (by omega) (by omega)⟩
           obtain ⟨j, ej, rj⟩ := hk
           refine dropE .non _ (fun R' h => ?_) (hnx _ _ ⟨_, _, _, _, _, _, _, _, _, _, _, _, rfl, R3.sr (js ++ [j]), rj, hso3, by rw [List.length_set]; omega, by omega, by rw [List.length_append]; simp; omega⟩)
           simp! only [aBM, a2e, R3.r1, oAppend, hkd, ej, List.length_map]
           refine ⟨by decide, by decide, by decide, by decide, by omega, ?_⟩
           rw [a78] at h; exact h
         . intro rest hrest
           simp! only [R2.z1, e3, eSp, eF, gaSub, List.length_map, a8d _ _ h4]
           refine ⟨s1.1.ok y1 (by omega) (by decide), s1.2.ok y2 (by omega) (by decide), by decide, ?_⟩
           exact hrest _ _ ⟨rfl, by rw [<- set_sp]; rfl⟩
       . refine ifV false (fun R h => ?_) ?_
         . simp! only []
           refine ite2 (fun h1 => ?_) fun _ => h
           have h1 := of_decide_eq_true h1
           rw [decide_eq_false fun z => hj2 ⟨by omega, z⟩]; exact h
         rw [if_neg Bool.false_ne_true]
         exact hnx _ _ ⟨_, _, _, _, _, _, _, _, _, _, _, _, rfl, R2, rw2, hso2.up (by omega), by omega, by omega, by omega⟩
     . intro rest hrest
       simp! only [aBM, a2e, R.p1, oAppend, b3a, a9u]
       refine ⟨⟨by decide, by decide⟩, by decide, ws.length, spn, by rw [hspn], ⟨by decide, by decide⟩, by decide, _, _, rfl, fun t h1 h2 => ⟨by decide, by rw [List.length_map]; omega, hrest _ _ ⟨rfl, t, ?_, rw'.wheel h1 h2⟩⟩⟩
       have := R.sw (ws ++ [(a1s spn ws.length, t)])
       rw [List.map_append] at this; exact this
   . have hc1 : 2 <= ws.length := Nat.le_of_not_lt fun z => hc (.inl z)
     refine ifV false (fun R h => ?_) ?_
     . simp! only [decide_eq_false (show ¬ (ws.length : Int) < 2 by omega), decide_eq_false fun z => hc (.inr z)]
       exact h
     rw [if_neg Bool.false_ne_true]
     obtain ⟨at', hat⟩ := Int.eq_ofNat_of_zero_le (Int.emod_nonneg (x / 12) (show (ws.length : Int) ≠ 0 by omega))
     have hat2 := Int.emod_lt_of_pos (x / 12) (show (0 : Int) < (ws.length : Int) by omega)
     rw [hat] at hat2
     obtain ⟨u, hu⟩ := Int.eq_ofNat_of_zero_le (Int.emod_nonneg (x / 12 / (ws.length : Int) + (1 + (i : Int))) (show (ws.length : Int) - 1 ≠ 0 by omega))
     have hu2 := Int.emod_lt_of_pos (x / 12 / (ws.length : Int) + (1 + (i : Int))) (show (0 : Int) < (ws.length : Int) - 1 by omega)
     rw [hu] at hu2
     have hto : ((at' : Int) + 1 + (u : Int)) % (ws.length : Int) = (((at' + 1 + u) % ws.length : Nat) : Int) := by rw [Int.natCast_emod]; rfl
     have hne : at' ≠ (at' + 1 + u) % ws.length := by
       intro z
       by_cases hlt : at' + 1 + u < ws.length
       . rw [Nat.mod_eq_of_lt hlt] at z; omega
       . rw [Nat.mod_eq_sub_mod (by omega), Nat.mod_eq_of_lt (by omega)] at z; omega
     have hlt := Nat.mod_lt (at' + 1 + u) (show 0 < ws.length by omega)
     refine seqV (.int (at' : Int)) _ (fun R h => by
       simp! only [hat]
       exact ⟨by omega, h⟩) (seqV (.int (((at' + 1 + u) % ws.length : Nat) : Int)) _ (fun R h => by
       simp! only [hu, hto]
       exact ⟨⟨by omega, by omega⟩, by omega, by omega, h⟩) ?_)
     simp only [List.set_cons_zero, List.set_cons_succ]
     generalize (at' + 1 + u) % ws.length = to' at hne hlt
     have hso9 : SpOk (30 * (i + 1 + 1)) sp := hso.up (by omega)
     by_cases h0 : st % 2 = 0
     . refine ifV true (fun R h => by simp! only [decide_eq_true h0]; exact ⟨by decide, h⟩) ?_
       rw [if_pos rfl]
       simp! only [a5w]
       refine ⟨kx, at', to', p, z, ws, sp, rfl, R.p1, R.z1, by omega, hlt, by omega, by omega, rw'.teeth, fun s hs => ⟨(hso s hs).1.up (by omega), (hso s hs).2.up (by omega)⟩, ?_, fun k' hk' => ?_⟩
       . simp only [R.r1, a11, List.length_map, List.length_nil]
         refine ⟨by omega, fun r' hr' => ?_⟩
         rw [List.append_nil]
         exact hnx _ _ ⟨r', ws, js, sp, _, _, _, _, _, _, _, _, rfl, R.nr hr' js, rw', hso9, hsl, by omega, by omega⟩
       . simp only [R.r1, a11, List.length_map, List.length_cons, List.length_nil]
         refine ⟨by omega, fun r' hr' => ?_⟩
         rw [<- a78]
         exact hnx _ _ ⟨r', ws, js ++ [(k', at', to')], sp, _, _, _, _, _, _, _, _, rfl, R.nr hr' _, rw'.join hk' (by omega) hlt hne, hso9, hsl, by omega, by rw [List.length_append]; simp; omega⟩
     . refine ifV false (fun R h => by simp! only [decide_eq_false h0]; exact ⟨by decide, h⟩) ?_
       rw [if_neg Bool.false_ne_true]
       refine dropE .non _ (fun R' h => ?_) (hnx _ _ ⟨r, ws, _, sp, _, _, _, _, _, _, _, _, rfl, R.sr (js ++ [(kd, at', to')]), rw'.join hkd2 (by omega) hlt hne, hso9, hsl, by omega, by rw [List.length_append]; simp; omega⟩)
       simp! only [aBM, a2e, R.r1, oAppend, hkd, List.length_map]
       refine ⟨by decide, by omega, ?_⟩
       rw [a78] at h; exact h
 . rintro Γ M' ⟨r, ws, js, sp, o6, o7, o8, o9, o10, o11, o12, o13, rfl, R, rw', hso, hsl, hw, hj⟩
   have e2 : del M' p r = some (.lst (js.map eK)) := by rw [a3l R.pr.symm]; exact R.r1
   simp! only [aFz, R.p1, e2]
   dsimp only at hw hj
   refine ⟨by decide, .now (q spn ws js rw' (by omega) (by omega) _ fun x o h => ?_)⟩
   have hx : x ≠ r := fun y => by rw [y, R.r0] at h; cases h
   have hx2 : x ≠ p := fun y => by rw [y, R.p0] at h; cases h
   rw [a3l hx, a3l hx2]; exact R.sub _ _ h
theorem Tr.n1 {C : Addr} {M : Mem} {p d1 d2 : Addr} {S : TS} (tr : Tr C M p d1 d2 S) : p ≠ d1 := by rintro rfl; have := tr.self; rw [tr.teeth] at this; cases this
theorem Tr.n2 {C : Addr} {M : Mem} {p d1 d2 : Addr} {S : TS} (tr : Tr C M p d1 d2 S) : p ≠ d2 := by rintro rfl; have := tr.self; rw [tr.join] at this; cases this
theorem Tr.wheel {C : Addr} {M : Mem} {p d1 d2 : Addr} {ws : List (Str × Int)} {js : List Jn} {nx : Int} (tr : Tr C M p d1 d2 ⟨ws, js, nx⟩) (w' : Str × Int) : Tr C (put M d1 (.dic (dW (ws ++ [w'])))) p d1 d2 ⟨ws ++ [w'], js, nx⟩ :=
 ⟨by rw [a0h tr.n1]; exact tr.self, a0d, by rw [a0h tr.ne.symm]; exact tr.join, tr.ne, tr.lt⟩
theorem Tr.pin {C : Addr} {M : Mem} {p d1 d2 : Addr} {S : TS} (tr : Tr C M p d1 d2 S) (k a b : Str) : Tr C (put (put M d2 (.dic (dJ (S.js ++ [(S.nx, k, a, b)])))) p (.ins C (fsT d1 d2 (S.nx + 1)))) p d1 d2 ⟨S.ws, S.js ++ [(S.nx, k, a, b)], S.nx + 1⟩ :=
 ⟨a0d, by rw [a0h tr.n1.symm, a0h tr.ne]; exact tr.teeth, by rw [a0h tr.n2.symm, a0d], tr.ne, fun j hj => by
   rcases List.mem_append.mp hj with hj | hj
   . have := tr.lt j hj
     show j.1 < S.nx + 1
     omega
   . rw [List.mem_singleton.mp hj]
     show S.nx < S.nx + 1
     omega⟩
theorem a88 {d1 d2 : Addr} {n : Int} : (fsT d1 d2 n).lookup ("put_wheel" : Str) = none := rfl
theorem b0b {d1 d2 : Addr} {n : Int} : (fsT d1 d2 n).lookup ("put_join" : Str) = none := rfl
theorem b0l (S : TS) (n : Str) : S.has n = decide (n ∈ S.ws.map Prod.fst) := by
 unfold TS.has
 rw [Bool.eq_iff_iff, List.any_eq_true, decide_eq_true_eq, List.mem_map]
 constructor
 . rintro ⟨x, hx, e⟩; exact ⟨x, hx, of_decide_eq_true e⟩
 . rintro ⟨x, hx, e⟩; exact ⟨x, hx, decide_eq_true e⟩
theorem refW_ok {S : TS} {n : Str} {t : Int} (h1 : a2z n = true) (h2 : n ∉ S.ws.map Prod.fst) (h3 : 1 <= t) (h4 : t < 1000000000) (h5 : S.ws.length < 100) : refW S n t = none := by
 unfold refW
 rw [b0l, decide_eq_false h2, h1, if_neg (by decide), if_neg (by decide), if_neg (by omega), if_neg (by omega)]
theorem refJ_ok {S : TS} {k a b : Str} (h1 : a3j k = true) (h2 : a ∈ S.ws.map Prod.fst) (h3 : b ∈ S.ws.map Prod.fst) (h4 : a ≠ b) (h5 : S.js.length < 200) : refJ S k a b = none := by
 unfold refJ
 rw [b0l, b0l, decide_eq_true h2, decide_eq_true h3, h1, if_neg (by decide), if_neg (by decide), if_neg h4, if_neg (by omega)]
theorem a3m {ns : List Str} {i : Nat} (h : i < ns.length) : at_ ns i ∈ ns := by
 unfold at_; rw [List.getD_eq_getElem?_getD, List.getElem?_eq_getElem h]; exact List.getElem_mem h
noncomputable def tsOf (ws : List (Str × Int)) (js : List (Str × Nat × Nat)) : TS := ⟨ws, a1i (ws.map Prod.fst) js, js.length⟩
theorem row_at {ws : List (Str × Int)} {i : Nat} (h : i < ws.length) : atI (ws.map eW) (i : Int) = some (.tup [.str (at_ (ws.map Prod.fst) i), .int (ws[i]).2]) := by
 rw [a6t _ _ (by simpa using h), List.getElem_map]
 unfold at_ eW
 rw [List.getD_eq_getElem?_getD, List.getElem?_map, List.getElem?_eq_getElem h]; rfl
def b27 (C : Addr) : SpA := fun ds M Q _ => ∃ (s : Nat) (ws : List (Str × Int)) (js : List (Str × Nat × Nat)), ds = [.lst (ws.map eW), .lst (js.map eK)] /\ Rw s ws js /\ ws.length <= 80 /\ js.length <= 80 /\ ∀ p d1 d2 M', L2.Sub M M' -> Tr C M' p d1 d2 (tsOf ws js) -> Q (.obj p) M'
theorem a83 {f C : Addr} {fd : FuncData} {EC : Rk -> Addr} (Fn : Fun K "_law_train" "_law_train" a3q f fd) (h_Train : HasC P w K mg base 1 "Train" C (b06 C))
   (h_put_wheel : HasM P w K mg base (CXE P w) 2 C "put_wheel" ["self", "name", "teeth"] (a0j K (b04 C EC))) (h_put_join : HasM P w K mg base (CXE P w) 2 C "put_join" ["self", "kind", "one", "other"] (a0j K (b05 C EC))) :
   FnOk P w K mg base (CXE P w) 3 f fd ["_law_wheels", "_law_joins"] (a0j K (b27 C)) := by
 refine Fn.okA sc_law_train (fun ds M Q E h => ?_) ?_
 . obtain ⟨_, _, _, rfl, _⟩ := h; rfl
 intro cdv A outer s H E F0 ds M Q Ea hr ct hsp
 obtain ⟨sp, ws, js, rfl, rw', hw, hj, q⟩ := hsp
 refine ⟨_, (a0b (sSet (i := 2) sc_law_train.nd rfl (Or.inl rfl) (paMake h_Train (hr.mono (by decide)) (by rfl)))
     (a0b (sFor ct (a2l (paV (pv 0))) (a7m rfl (a0w (a0r (i := 3) sc_law_train.nd rfl (Or.inl rfl)) (a0w (a0r (i := 4) sc_law_train.nd rfl (Or.inl rfl)) a3i)))
       (a0i (a2d (paMeth h_put_wheel (hr.mono (by decide)) ct (paV (pv 2)) (a0a (paV (pv 3)) (a0a (paV (pv 4)) a0f))))))
     (a0b (sFor ct (a2l (paV (pv 1))) (a7m rfl (a0w (a0r (i := 5) sc_law_train.nd rfl (Or.inl rfl)) (a0w (a0r (i := 6) sc_law_train.nd rfl (Or.inl rfl)) (a0w (a0r (i := 7) sc_law_train.nd rfl (Or.inl rfl)) a3i))))
       (a0i (a2d (paMeth h_put_join (hr.mono (by decide)) ct (paV (pv 2)) (a0a (paV (pv 5)) (a0a (paIx a0e lIx (paIx a0e lIx (paV (pv 0)) (paV (pv 6)) (fun _ _ => rfl)) paI (fun _ _ => rfl)) (a0a (paIx a0e lIx (paIx a0e lIx (paV (pv 0)) (paV (pv 7)) (fun _ _ => rfl)) paI (fun _ _ => rfl)) a0f)))))))
     (a0i (sRet (paV (pv 2))))))), ?_⟩
 have nd := rw'.nodup (by omega)
 simp! only [aMake, b06]
 intro p hp
 refine ⟨p, rfl, a0d, fun d1 d2 h1 h2 n12 n1 n2 => ?_⟩
 rw [a0h n1] at h1
 rw [a0h n2] at h2
 have em : put (put (put (put M p (.ins C [])) d1 (.dic [])) d2 (.dic [])) p (.ins C (fsT d1 d2 0)) = put (put (put M d1 (.dic [])) d2 (.dic [])) p (.ins C (fsT d1 d2 0)) := by
   funext x
   by_cases hx : x = p
   . subst hx; rw [a0d, a0d]
   . rw [a0h hx, a0h hx]
     by_cases hx2 : x = d2
     . subst hx2; rw [a0d, a0d]
     . rw [a0h hx2, a0h hx2]
       by_cases hx1 : x = d1
       . subst hx1; rw [a0d, a0d]
       . rw [a0h hx1, a0h hx1, a0h hx]
 rw [em]
 generalize hM0 : put (put (put M d1 (.dic [])) d2 (.dic [])) p (.ins C (fsT d1 d2 0)) = M0
 have tr0 : Tr C M0 p d1 d2 ⟨[], [], 0⟩ := by
   subst hM0
   exact ⟨a0d, by rw [a0h n1, a0h n12, a0d]; rfl, by rw [a0h n2, a0d]; rfl, n12, fun _ h => (List.not_mem_nil h).elim⟩
 have far : ∀ x o, M x = some o -> x ≠ p /\ x ≠ d1 /\ x ≠ d2 := by
   intro x o h
   refine ⟨fun z => ?_, fun z => ?_, fun z => ?_⟩
   . rw [z, hp] at h; cases h
   . rw [z, h1] at h; cases h
   . rw [z, h2] at h; cases h
 have sb0 : L2.Sub M M0 := by
   subst hM0
   intro x o h
   obtain ⟨a, b, c⟩ := far x o h
   rw [a0h a, a0h c, a0h b]; exact h
 have sbW : ∀ {M1 : Mem} {o : MO}, L2.Sub M M1 -> L2.Sub M (put M1 d1 o) := fun sb x o h => by rw [a0h (far x o h).2.1]; exact sb x o h
 have sbJ : ∀ {M1 : Mem} {o o' : MO}, L2.Sub M M1 -> L2.Sub M (put (put M1 d2 o) p o') := fun sb x o h => by rw [a0h (far x o h).1, a0h (far x o h).2.2]; exact sb x o h
 refine LoopP.by (fun i Γ M' => ∃ a b c d e, Γ = [some (.lst (ws.map eW)), some (.lst (js.map eK)), some (.obj p), a, b, c, d, e] /\ L2.Sub M M' /\ Tr C M' p d1 d2 ⟨ws.take i, [], 0⟩) ⟨_, _, _, _, _, rfl, sb0, tr0⟩ (fun _ _ _ _ => trivial) ?_ ?_
 . rintro i Γ M' hi ⟨a, b, c, d, e, rfl, sb, tr⟩
   dsimp only at hi
   have hi' : i < ws.length := by simpa using hi
   simp! only [a1z ws eW i hi', eW, a66, a4j, gaNil, tr.self, a88, b04]
   refine ⟨rfl, p, d1, d2, _, (ws[i]).1, (ws[i]).2, rfl, tr, ?_, ?_⟩
   . have := rw'.name (List.mem_map.mpr ⟨_, List.getElem_mem hi', rfl⟩)
     obtain ⟨k, _, e⟩ := this
     rw [e]
     have := (a4l sp k).2
     show (a1o sp k).length <= 1000
     omega
   . obtain ⟨k, hk, ek⟩ := rw'.name (List.mem_map.mpr ⟨_, List.getElem_mem hi', rfl⟩)
     have hn : (ws[i]).1 ∉ (ws.take i).map Prod.fst := by
       intro z
       obtain ⟨x, hx, ex⟩ := List.mem_map.mp z
       obtain ⟨j, hj', ej⟩ := List.getElem_of_mem hx
       rw [List.length_take] at hj'
       rw [List.getElem_take] at ej
       have P1 := List.pairwise_iff_getElem.mp nd j i (by simp; omega) (by simpa using hi') (by omega)
       rw [List.getElem_map, List.getElem_map] at P1
       exact P1 (by rw [ej, ex])
     have ht := rw'.teeth _ (List.getElem_mem hi')
     rw [refW_ok (by rw [ek]; exact a9i sp k) hn ht.1 ht.2 (by show (ws.take i).length < 100; rw [List.length_take]; omega)]
     refine ⟨hi, _, _, _, _, _, rfl, sbW sb, ?_⟩
     rw [List.take_succ_eq_append_getElem hi']
     exact tr.wheel _
 . rintro Γ M' ⟨a, b, c, d, e, rfl, sb, tr⟩
   have el : (ws.map eW).length = ws.length := List.length_map ..
   dsimp only at tr
   rw [el, List.take_length] at tr
   simp! only []
   refine LoopP.by (fun i Γ M' => ∃ a b c d e, Γ = [some (.lst (ws.map eW)), some (.lst (js.map eK)), some (.obj p), a, b, c, d, e] /\ L2.Sub M M' /\ Tr C M' p d1 d2 (tsOf ws (js.take i))) ⟨_, _, _, _, _, rfl, sb, tr⟩ (fun _ _ _ _ => trivial) ?_ ?_
   . rintro i Γ M' hi ⟨a, b, c, d, e, rfl, sb, tr⟩
     dsimp only at hi
     have hi' : i < js.length := by simpa using hi
     obtain ⟨k1, k2, k3, k4⟩ := rw'.kinds _ (List.getElem_mem hi')
     simp! only [a1z js eK i hi', eK, a66, a4j, gaNil, tr.self, b0b, b05, row_at k2, row_at k3]
     refine ⟨rfl, p, d1, d2, _, _, _, _, rfl, tr, ?_⟩
     have hl : (ws.map Prod.fst).length = ws.length := List.length_map ..
     have m1 : at_ (ws.map Prod.fst) (js[i]).2.1 ∈ (tsOf ws (js.take i)).ws.map Prod.fst := by show _ ∈ ws.map Prod.fst; exact a3m (by rw [hl]; exact k2)
     have m2 : at_ (ws.map Prod.fst) (js[i]).2.2 ∈ (tsOf ws (js.take i)).ws.map Prod.fst := by show _ ∈ ws.map Prod.fst; exact a3m (by rw [hl]; exact k3)
     rw [refJ_ok k1 m1 m2 (fun z => k4 (a4k nd (by rw [hl]; exact k2) (by rw [hl]; exact k3) z)) (by show (a1i _ (js.take i)).length < 200; unfold a1i; rw [List.length_mapIdx, List.length_take]; omega)]
     refine ⟨hi, _, _, _, _, _, rfl, sbJ sb, ?_⟩
     have e1 : tsOf ws (js.take (i + 1)) = ⟨(tsOf ws (js.take i)).ws, (tsOf ws (js.take i)).js ++ [((tsOf ws (js.take i)).nx, (js[i]).1, at_ (ws.map Prod.fst) (js[i]).2.1, at_ (ws.map Prod.fst) (js[i]).2.2)], (tsOf ws (js.take i)).nx + 1⟩ := by
       unfold tsOf
       rw [List.take_succ_eq_append_getElem hi', a9f]
       simp [a8b]
       omega
     rw [e1]
     exact tr.pin _ _ _
   . rintro Γ M' ⟨a, b, c, d, e, rfl, sb, tr⟩
     have el : (js.map eK).length = js.length := List.length_map ..
     dsimp only at tr
     rw [el, List.take_length] at tr
     exact .now (q p d1 d2 M' sb tr)
theorem idx_at {ns : List Str} (nd : ns.Nodup) {i : Nat} (h : i < ns.length) : idxD (.str (at_ ns i)) (ns.map D.str) = some i := by
 induction ns generalizing i with
 | nil => cases h
 | cons x ns ih =>
   obtain ⟨n1, n2⟩ := List.nodup_cons.mp nd
   cases i with
   | zero =>
     have e : at_ (x :: ns) 0 = x := rfl
     rw [e]
     simp [idxD, eqF]
   | succ i =>
     have hi : i < ns.length := by simpa using h
     have e : at_ (x :: ns) (i + 1) = at_ ns i := rfl
     rw [e, List.map_cons]
     unfold idxD
     have ne : ¬ x = at_ ns i := fun z => n1 (by rw [z]; exact a3m hi)
     have e2 : eqF (.str x) (.str (at_ ns i)) = false := by simp [eqF, ne]
     rw [e2, if_neg Bool.false_ne_true, ih n2 hi]; rfl
theorem b1x (ns : List Str) : (ns.map D.str).all flD = true := by
 rw [List.all_map, List.all_eq_true]; intros; rfl
noncomputable def iN (k : Nat) : D := .int k
theorem b7a (ns : List Nat) : (ns.map iN).all flD = true := by
 rw [List.all_map, List.all_eq_true]; intros; rfl
theorem in_nats (ns : List Nat) (k : Nat) : inD (.int k) (ns.map iN) = decide (k ∈ ns) := by
 unfold inD
 induction ns with
 | nil => rfl
 | cons a ns ih =>
   simp only [List.map_cons, List.any_cons, List.mem_cons, Bool.decide_or]
   rw [ih]
   congr 1
   by_cases h : a = k
   . subst h; simp [eqF, iN]
   . have h' : ¬ k = a := fun z => h z.symm
     have h2 : ¬ ((a : Int) = (k : Int)) := by omega
     simp [eqF, iN, h', h2]
theorem a8g (a b : Int) : Gd 1 (.tup [.int a, .int b]) := .tup _ _ fun d hd => by
 simp only [List.mem_cons, List.not_mem_nil, or_false] at hd
 rcases hd with rfl | rfl
 . exact .int _ _
 . exact .int _ _
theorem b0w (bs : List Bool) (i : Nat) (h : i < bs.length) : atI (bs.map D.bl) (i : Int) = some (.bl (bs.getD i false)) := by
 rw [a6t _ _ (by simpa using h), List.getElem_map, List.getD_eq_getElem?_getD, List.getElem?_eq_getElem h]; rfl
theorem set_bl (bs : List Bool) (i : Nat) : (bs.map D.bl).set i (.bl true) = (bs.set i true).map D.bl := by rw [List.map_set]
noncomputable def ent (j : Str × Nat × Nat) : En := (0, j.2.1, j.2.2)
theorem Hung.of {es es' : List En} (h : ∀ e ∈ es, ∃ e' ∈ es', e'.2 = e.2) {a b : Nat} (hb : Hung es a b) : Hung es' a b := by
 induction hb with
 | refl => exact .refl
 | to _ he ih =>
   obtain ⟨e', h1, h2⟩ := h _ he
   rw [<- h2] at ih |-; exact .to ih h1
 | fro _ he ih =>
   obtain ⟨e', h1, h2⟩ := h _ he
   rw [<- h2] at ih |-; exact .fro ih h1
theorem b43 (js : List (Str × Nat × Nat)) (a b : Nat) : Hung (js.map ent) a b ↔ Hung (esOf js) a b := by
 constructor
 . refine Hung.of fun e he => ?_
   obtain ⟨j, hj, rfl⟩ := List.mem_map.mp he
   obtain ⟨k, hk, rfl⟩ := List.getElem_of_mem hj
   exact ⟨esRow k js[k], by unfold esOf; exact List.mem_mapIdx.mpr ⟨k, hk, rfl⟩, rfl⟩
 . refine Hung.of fun e he => ?_
   unfold esOf at he
   obtain ⟨k, hk, rfl⟩ := List.mem_mapIdx.mp he
   exact ⟨ent js[k], List.mem_map.mpr ⟨_, List.getElem_mem hk, rfl⟩, rfl⟩
def b3c : SpA := fun ds M Q _ => ∃ (n : Nat) (js : List (Str × Nat × Nat)) (a : Nat), ds = [.int n, .lst (js.map eK), .int a] /\ n <= 1000 /\ a < n /\ (∀ j ∈ js, j.2.1 < n /\ j.2.2 < n) /\
 ∀ bs : List Bool, bs.length = n -> (∀ b, bs.getD b false = true ↔ Hung (esOf js) a b) -> Q (.lst (bs.map D.bl)) M
theorem a97 {f : Addr} {fd : FuncData} (Fn : Fun K "_law_hung" "_law_hung" a4w f fd) (T : Txt K mg) : FnOk P w K mg base (CXE P w) 1 f fd ["_law_many", "_law_joins", "_law_start"] (a0j K b3c) := by
 refine Fn.okA sc_law_hung (fun ds M Q E h => ?_) ?_
 . obtain ⟨_, _, _, rfl, _⟩ := h; rfl
 intro cdv A outer s H E F0 ds M Q Ea hr ct hsp
 obtain ⟨n, js, a, rfl, hn, ha, he, q⟩ := hsp
 have hu64 := un64 ct
 refine ⟨_, (a0b (sCompM (i := 3) sc_law_hung.nd rfl rfl (Nc := ["_law_k", "_law_start"]) (n := 1) (fs := [2]) comp1 rfl (b0k rfl T.range (a0a (paV (pv 0)) a0f)) (fun _ _ _ _ _ => (a0r (i := 0) (show List.Nodup (["_law_k", "_law_start"] : List Str) by decide +kernel) rfl (Or.inl rfl))) (fun _ _ _ _ _ => b5c) (fun _ _ _ _ _ => (a8y (a1k hu64) lEq (paV (pv 0)) (paV (pv 1)) (a0n _))) (by rfl))
     (a0b (sSet (i := 4) sc_law_hung.nd rfl (Or.inl rfl) paB)
     (a0b (a8v ct (ptV (paV (pv 4)))
       (a0b (sSet (i := 4) sc_law_hung.nd rfl (Or.inl rfl) paB)
       (a0i (sFor ct (a2l (paV (pv 1))) (a7m rfl (a0w (a0r (i := 5) sc_law_hung.nd rfl (Or.inl rfl)) (a0w (a0r (i := 6) sc_law_hung.nd rfl (Or.inl rfl)) (a0w (a0r (i := 7) sc_law_hung.nd rfl (Or.inl rfl)) a3i))))
         (a0i (sIf (a0q (a15 (un64 ct)) lNe (paIx a0e lIx (paV (pv 3)) (paV (pv 6)) (fun _ _ => rfl)) (paIx a0e lIx (paV (pv 3)) (paV (pv 7)) (fun _ _ => rfl)) (a0n _))
           (a0b (sAsg paB (tgSub (paV (pv 3)) (paV (pv 6))))
           (a0b (sAsg paB (tgSub (paV (pv 3)) (paV (pv 7))))
           (a0i (sSet (i := 4) sc_law_hung.nd rfl (Or.inl rfl) paB))))
           a0s))))))
     (a0i (sRet (paV (pv 3))))))), ?_⟩
 simp! only [a3n, frG]
 refine ⟨by omega, by omega, fun i => some (.bl (decide ((i : Int) = (a : Int)))), by omega, fun M' _ i hi own ho => ?_, fun p hp => ?_⟩
 . obtain ⟨o, rfl⟩ := own1 ho
   refine ⟨⟨[some _], rfl, rfl⟩, ?_⟩
   show oEq false (.int i) (.int a) M' _
   rw [b5f]
   exact ⟨rfl, rfl⟩
 have e0 : outs (fun i => some (.bl (decide ((i : Int) = (a : Int))))) (n : Int).toNat = ((List.range n).map fun i => decide (i = a)).map D.bl := by
   rw [b1g, List.map_map]
   show (List.range n).map _ = _
   congr 1
   funext i
   have e : ((i : Int) = (a : Int)) ↔ i = a := by omega
   simp [e]
 rw [e0]
 have g0 : ∀ b, ((List.range n).map fun i => decide (i = a)).getD b false = decide (b < n /\ b = a) := by
   intro b
   rw [List.getD_eq_getElem?_getD, List.getElem?_map]
   by_cases h : b < n
   . rw [List.getElem?_range h]; simp [h]
   . rw [List.getElem?_eq_none (by simpa using h)]; simp [h]
 have hg0 : Hg (js.map ent) a n ((List.range n).map fun i => decide (i = a)) := by
   refine ⟨by simp, fun b hb => ?_, ?_⟩
   . rw [g0] at hb
     have hb := of_decide_eq_true hb
     rw [hb.2]; exact .refl
   . rw [g0]; exact decide_eq_true ⟨ha, rfl⟩
 generalize ((List.range n).map fun i => decide (i = a)) = bs0 at hg0
 refine ⟨fun m Γ M' => ∃ (bs : List Bool) (ag : Bool) (o5 o6 o7 : Option D), Γ = [some (.int n), some (.lst (js.map eK)), some (.int a), some (.obj p), some (.bl ag), o5, o6, o7] /\ M' = put M p (.lst (bs.map D.bl)) /\ Hg (js.map ent) a n bs /\ (ag = false -> ∀ e ∈ js, bs.getD e.2.1 false = bs.getD e.2.2 false) /\ a2j bs + (if ag = true then 1 else 0) <= m,
   ⟨_, bs0, true, none, none, none, rfl, rfl, hg0, fun h => (by cases h), Nat.le_refl _⟩, ?_⟩
 rintro m Γ M' ⟨bs, ag, o5, o6, o7, rfl, rfl, hg, hcl, hm⟩
 cases ag with
 | false =>
   refine Rt.fz hp (q bs hg.len fun b => ⟨(fun h => (b43 js a b).mp (hg.sound b h)), fun h => hg.all (fun e he' => by obtain ⟨j, hj, rfl⟩ := List.mem_map.mp he'; exact hcl rfl j hj) ((b43 js a b).mpr h)⟩)
 | true =>
   rw [if_pos rfl] at hm
   refine cT (fun R h => h) (seqV (.bl false) (put M p (.lst (bs.map D.bl))) (fun R h => h) ?_)
   refine LoopP.by2 (fun i Γ M' => ∃ (bs' : List Bool) (ag' : Bool) (o5 o6 o7 : Option D), Γ = [some (.int n), some (.lst (js.map eK)), some (.int a), some (.obj p), some (.bl ag'), o5, o6, o7] /\ M' = put M p (.lst (bs'.map D.bl)) /\ Hg (js.map ent) a n bs' /\ (ag' = true -> a2j bs' < a2j bs) /\ (ag' = false -> bs' = bs /\ ∀ (k : Nat) (h : k < js.length), k < i -> bs.getD (js[k]).2.1 false = bs.getD (js[k]).2.2 false))
     ⟨bs, false, o5, o6, o7, rfl, rfl, hg, fun h => (by cases h), fun _ => ⟨rfl, fun k _ hk => absurd hk (Nat.not_lt_zero _)⟩⟩ (fun _ _ _ _ => rfl) ?_ ?_
   . rintro E' i Γ M' hrt hi hnx ⟨bs', ag', o5, o6, o7, rfl, rfl, hg', ht, hf⟩
     dsimp only at hi
     have hi' : i < js.length := by simpa using hi
     obtain ⟨j1, j2⟩ := he _ (List.getElem_mem hi')
     have hmem : ent js[i] ∈ js.map ent := List.mem_map.mpr ⟨_, List.getElem_mem hi', rfl⟩
     have last : ∀ k (h : k < js.length), k < i + 1 -> k < i \/ js[k] = js[i] := fun k h hk => by
       by_cases e : k = i
       . subst e; exact .inr rfl
       . exact .inl (by omega)
     simp only [a1z js eK i hi']
     generalize js[i] = e at j1 j2 hmem last |-
     simp only [eK, a66, a4j, gaNil, gaN, List.set_cons_zero, List.set_cons_succ, true_and]
     refine ⟨rfl, ?_⟩
     have l1 : e.2.1 < bs'.length := by rw [hg'.len]; exact j1
     have l2 : e.2.2 < bs'.length := by rw [hg'.len]; exact j2
     by_cases hd : bs'.getD e.2.1 false = bs'.getD e.2.2 false
     . refine ifV false (fun R h => by
         simp! only [a0d, b0w _ _ l1, b0w _ _ l2, hd, decide_true, Bool.not_true]
         exact h) ?_
       rw [if_neg Bool.false_ne_true]
       refine hnx _ _ ⟨bs', ag', _, _, _, rfl, rfl, hg', ht, fun h => ?_⟩
       obtain ⟨rfl, hk⟩ := hf h
       refine ⟨rfl, fun k hk1 hk2 => ?_⟩
       rcases last k hk1 hk2 with h' | h'
       . exact hk k hk1 h'
       . rw [h']; exact hd
     . refine ifV true (fun R h => by
         simp! only [a0d, b0w _ _ l1, b0w _ _ l2, decide_eq_false hd, Bool.not_false]
         exact h) ?_
       rw [if_pos rfl]
       have l2' : e.2.2 < (bs'.set e.2.1 true).length := by simpa using l2
       simp! only [gaSub, a0d, a1e, List.length_map, a8d _ _ l1, a8d _ _ l2', set_bl]
       obtain ⟨hg2, hl⟩ := hg'.edge hmem j1 j2 hd
       have hl : a2j ((bs'.set e.2.1 true).set e.2.2 true) + 1 = a2j bs' := hl
       refine hnx _ _ ⟨_, true, _, _, _, rfl, rfl, hg2, fun _ => ?_, fun h => (by cases h)⟩
       cases ag' with
       | true => have := ht rfl; omega
       | false => obtain ⟨rfl, _⟩ := hf rfl; omega
   . rintro Γ M' ⟨bs', ag', o5, o6, o7, rfl, rfl, hg', ht, hf⟩
     refine ⟨a2j bs' + (if ag' = true then 1 else 0), ?_, bs', ag', _, _, _, rfl, rfl, hg', fun h e he' => ?_, Nat.le_refl _⟩
     . cases ag' with
       | true => have := ht rfl; rw [if_pos rfl]; omega
       | false => obtain ⟨rfl, _⟩ := hf rfl; rw [if_neg Bool.false_ne_true]; omega
     . obtain ⟨rfl, hk⟩ := hf h
       obtain ⟨k, hk1, rfl⟩ := List.getElem_of_mem he'
       exact hk k hk1 (by simpa using hk1)
noncomputable def eQ (x : Nat × Nat) : D := .tup [.int x.1, .int x.2]
noncomputable def stOf (ns : List Str) (x : Nat × Nat) : Int × Str := ((x.1 : Int), at_ ns x.2)
theorem at_of {ns : List Str} {x : Str} (h : x ∈ ns) : ∃ i, i < ns.length /\ at_ ns i = x := by
 obtain ⟨i, hi, rfl⟩ := List.getElem_of_mem h
 exact ⟨i, hi, by unfold at_; rw [List.getD_eq_getElem?_getD, List.getElem?_eq_getElem hi]; rfl⟩
def b29 : SpA := fun ds M Q _ => ∃ (r : Addr) (rs : List (Int × Str)) (ws : List (Str × Int)) (js : List (Str × Nat × Nat)), ds = [.obj r, .lst (ws.map eW), .lst (js.map eK)] /\ M r = some (.lst (rs.map eSt)) /\ ws.length <= 100 /\ rs.length <= 500 /\ (ws.map Prod.fst).Nodup /\ (∀ s ∈ rs, 0 <= s.1 /\ s.1 < js.length /\ s.2 ∈ ws.map Prod.fst) /\
 ∀ qs : List (Nat × Nat), qs.map (stOf (ws.map Prod.fst)) = rs -> (∀ q ∈ qs, q.1 < js.length /\ q.2 < ws.length) -> ∀ x, M x = none -> Q (.obj x) (put M x (.lst (qs.map eQ)))
theorem a85 {f : Addr} {fd : FuncData} (Fn : Fun K "_law_steps" "_law_steps" a3s f fd) (T : Txt K mg) (h_law_whole : Has P w K mg base (CXE P w) 1 "_law_whole" ["_law_found"] (a0j K a5u)) : FnOk P w K mg base (CXE P w) 2 f fd ["_law_way_here", "_law_wheels", "_law_joins"] (a0j K b29) := by
 refine Fn.okA sc_law_steps (fun ds M Q E h => ?_) ?_
 . obtain ⟨_, _, _, _, rfl, _⟩ := h; rfl
 intro cdv A outer s H E F0 ds M Q Ea hr ct hsp
 obtain ⟨r, rs, ws, js, rfl, hrr, hwl, hrl, nd, hin, q⟩ := hsp
 refine ⟨_, (a0b (b3l (i := 3) sc_law_steps.nd rfl rfl (Nc := ["_law_row"]) (n := 1) (fs := []) b7h rfl (a2l (paV (pv 1))) (fun _ _ _ _ _ => (a0r (i := 0) (show List.Nodup (["_law_row"] : List Str) by decide +kernel) rfl (Or.inl rfl))) (fun _ _ _ _ _ => b5c) (fun _ _ _ _ _ => (paIx a0e lIx (paV (pv 0)) paI (fun _ _ => rfl))) (by rfl))
     (a0b (sIf (a3u (ptV (a57 (T := "list") (x := "list") (by decide) (by rfl) T.isinstance (by rfl) T.list boot_list (paV (pv 0)))))
       (a0i (sRet (a4d a0f)))
       a0s)
     (a0b (sSet (i := 4) sc_law_steps.nd rfl (Or.inl rfl) (a4c a0f))
     (a0b (sFor ct (a2l (paV (pv 0))) (a0r (i := 5) sc_law_steps.nd rfl (Or.inl rfl))
       (a0b (sIf ((pwOr (a3u (ptV (a57 (T := "tuple") (x := "tuple") (by decide) (by rfl) T.isinstance (by rfl) T.tuple boot_tuple (paV (pv 5))))) (pwOr (a0q (a15 (un64 ct)) lNe (a02 a0v lLen (by rfl) T.len PySem.boot_len (a0a (paV (pv 5)) a0f)) paI (a0n _)) (pwOr (a3u (ptV (a0t h_law_whole (hr.mono (by decide)) (by rfl) ct (a0a (paIx a0e lIx (paV (pv 5)) paI (fun _ _ => rfl)) a0f)))) (a39 (a3u (ptV (a57 (T := "str") (x := "str") (by decide) (by rfl) T.isinstance (by rfl) T.str boot_str (paIx a0e lIx (paV (pv 5)) paI (fun _ _ => rfl)))))))))).pt
         (a0i (sRet (a4d a0f)))
         a0s)
       (a0b (sIf ((pwOr (a0q a59 lLt (paIx a0e lIx (paV (pv 5)) paI (fun _ _ => rfl)) paI (a0n _)) (pwOr (a0q b6r lGe (paIx a0e lIx (paV (pv 5)) paI (fun _ _ => rfl)) (a02 a0v lLen (by rfl) T.len PySem.boot_len (a0a (paV (pv 2)) a0f)) (a0n _)) (a39 (a0q a58 b4p (paIx a0e lIx (paV (pv 5)) paI (fun _ _ => rfl)) (paV (pv 3)) (by with_unfolding_all rfl)))))).pt
         (a0i (sRet (a4d a0f)))
         a0s)
       (a0i (a2d (paBM PySem.F.plainAttrs_list PySem.F.slot_list_append PySem.F.type_list_append a09 a1x (paV (pv 4)) (a0a (a1w (a0a (paIx a0e lIx (paV (pv 5)) paI (fun _ _ => rfl)) (a0a (paBM PySem.F.plainAttrs_list PySem.F.slot_list_index PySem.F.type_list_index b6z lIndex (paV (pv 3)) (a0a (paIx a0e lIx (paV (pv 5)) paI (fun _ _ => rfl)) a0f)) a0f))) a0f)))))))
     (a0i (sRet (paV (pv 4)))))))), ?_⟩
 have hnl : (ws.map Prod.fst).length = ws.length := List.length_map ..
 have hnames : (ws.map eW).map row0 = (ws.map Prod.fst).map D.str := by rw [List.map_map, List.map_map]; rfl
 refine seqV (.lst ((ws.map Prod.fst).map D.str)) M (fun R h => compL (ws.map eW) row0 (fun R h => h) (by rw [List.length_map]; omega) (fun x hx M' R h => by
   obtain ⟨w', _, rfl⟩ := List.mem_map.mp hx
   exact ⟨trivial, h⟩) (by rw [hnames]; exact h)) ?_
 have e0 : (!("list" : String) == "list") = false := by decide
 refine a1d (fun R h => by
   simp! only [b2w, a8e, a4h, hrr, e0]
   exact h) ?_
 generalize hns : ws.map Prod.fst = ns at *
 refine cut1 (fun Γ' M1 => ∃ x, M x = none /\ Γ' = [some (.obj r), some (.lst (ws.map eW)), some (.lst (js.map eK)), some (.lst (ns.map D.str)), some (.obj x), none] /\ M1 = put M x (.lst [])) ?_ ?_
 . rintro Γ' M1 ⟨x, hx, rfl, rfl⟩
   have nxr : r ≠ x := by rintro rfl; rw [hrr] at hx; cases hx
   have hrx : ∀ o, put M x o r = some (.lst (rs.map eSt)) := fun o => by rw [a0h nxr]; exact hrr
   refine b69 (d := .obj r) (ds := rs.map eSt) (fun R h => h) (by simp only [dr, hrx]) ?_
   refine LoopP.by2 (fun i Γ M' => ∃ (qs : List (Nat × Nat)) (o5 : Option D), Γ = [some (.obj r), some (.lst (ws.map eW)), some (.lst (js.map eK)), some (.lst (ns.map D.str)), some (.obj x), o5] /\ M' = put M x (.lst (qs.map eQ)) /\ qs.map (stOf ns) = rs.take i /\ ∀ q ∈ qs, q.1 < js.length /\ q.2 < ns.length)
     ⟨[], _, rfl, rfl, rfl, fun _ h => (List.not_mem_nil h).elim⟩ (fun _ _ _ ⟨_, _, _, e, _⟩ => by rw [e]; simp only [dr, hrx]) ?_ ?_
   . rintro E' i Γ M' hrt hi hnx ⟨qs, o5, rfl, rfl, hq, hqs⟩
     dsimp only at hi
     have hi' : i < rs.length := by simpa using hi
     obtain ⟨g1, g2, g3⟩ := hin _ (List.getElem_mem hi')
     have htk := List.take_succ_eq_append_getElem hi'
     have hql : qs.length = i := by
       have := congrArg List.length hq
       rw [List.length_map, List.length_take] at this
       omega
     simp only [a1z rs eSt i hi', gaN, List.set_cons_zero, List.set_cons_succ]
     generalize rs[i] = sx at g1 g2 g3 htk
     obtain ⟨n, y⟩ := sx
     dsimp only at g1 g2 g3
     obtain ⟨t, ht, ety⟩ := at_of g3
     obtain ⟨m, rfl⟩ := Int.eq_ofNat_of_zero_le g1
     have e3 : (!("tuple" : String) == "tuple") = false := by decide
     have e4 : (!("str" : String) == "str") = false := by decide
     have e5 : (!decide ((2 : Int) = 2)) = false := by decide
     have fl : (flD (.str y) && (ns.map D.str).all flD) = true := by rw [b1x]; rfl
     have eix : idxD (.str y) (ns.map D.str) = some t := by rw [<- ety]; exact idx_at nd ht
     simp only [eSt]
     refine a1d (fun R h => by
       simp! only [b2w, a8e, a4h, e3, e4, e5, a5u]
       exact ⟨_, rfl, rfl, h⟩) ?_
     refine a1d (fun R h => by
       simp! only [fl, b1u, decide_eq_true g3, Bool.not_true, List.length_map, decide_eq_false (show ¬ (m : Int) < 0 by omega), decide_eq_false (show ¬ (m : Int) >= (js.length : Int) by omega)]
       exact h) ?_
     refine dropE .non (put M x (.lst ((qs ++ [(m, t)]).map eQ))) (fun R h => by
       simp! only [aBM, a2e, a0d, oAppend, a1e, oIndex, eix, List.length_map]
       rw [List.map_append] at h
       exact ⟨b1x ns, rfl, by decide, by omega, h⟩) ?_
     refine hnx _ _ ⟨_, _, rfl, rfl, ?_, fun q hq' => ?_⟩
     . rw [List.map_append, hq, htk, <- ety]; rfl
     . rcases List.mem_append.mp hq' with hq' | hq'
       . exact hqs q hq'
       . rw [List.mem_singleton.mp hq']; exact ⟨by omega, ht⟩
   . rintro Γ M' ⟨qs, o5, rfl, rfl, hq, hqs⟩
     have el : (rs.map eSt).length = rs.length := List.length_map ..
     dsimp only at hq
     rw [el, List.take_length] at hq
     rw [hnl] at hqs
     exact .now (q qs hq hqs x hx)
 . intro rest hrest
   simp! only []
   exact ⟨Nat.zero_le _, fun x hx => hrest _ _ ⟨x, hx, rfl, rfl⟩⟩
structure Th (M M' : Mem) (p r z : Addr) (a b c : MO) : Prop where
 p1 : M' p = some a
 r1 : M' r = some b
 z1 : M' z = some c
 pr : p ≠ r
 pz : p ≠ z
 rz : r ≠ z
 sub : L2.Sub M M'
 p0 : M p = none
 r0 : M r = none
 z0 : M z = none
section
variable {M M' : Mem} {p r z : Addr} {a b c : MO}
theorem Th.s2 (R : Th M M' p r z a b c) (b' : MO) : Th M (put M' r b') p r z a b' c :=
 ⟨by rw [a0h R.pr]; exact R.p1, a0d, by rw [a0h R.rz.symm]; exact R.z1, R.pr, R.pz, R.rz, a4m R.sub R.r0, R.p0, R.r0, R.z0⟩
theorem Th.s3 (R : Th M M' p r z a b c) (c' : MO) : Th M (put M' z c') p r z a b c' :=
 ⟨by rw [a0h R.pz]; exact R.p1, by rw [a0h R.rz]; exact R.r1, a0d, R.pr, R.pz, R.rz, a4m R.sub R.z0, R.p0, R.r0, R.z0⟩
end
theorem a3e {ws : List (Str × Int)} (nd : (ws.map Prod.fst).Nodup) {c : Nat} (h : c < ws.length) : a0k ws (at_ (ws.map Prod.fst) c) = (ws[c]).2 := by
 induction ws generalizing c with
 | nil => cases h
 | cons x ws ih =>
   rw [List.map_cons, List.nodup_cons] at nd
   cases c with
   | zero => simp [a0k, at_]
   | succ c =>
     have hc : c < ws.length := by simpa using h
     have e : at_ ((x :: ws).map Prod.fst) (c + 1) = at_ (ws.map Prod.fst) c := rfl
     have hne : x.1 ≠ at_ (ws.map Prod.fst) c := fun z => nd.1 (by rw [z]; exact a3m (by simpa using hc))
     rw [e]
     have := ih nd.2 hc
     unfold a0k at this |-
     rw [List.find?_cons, decide_eq_false hne]
     exact this
theorem a77 {ns : List Str} {js : List (Str × Nat × Nat)} {j : Jn} (h : j ∈ a1i ns js) : ∃ m, ∃ h : m < js.length, j = a8b ns m js[m] := by
 unfold a1i at h
 obtain ⟨k, hk, rfl⟩ := List.mem_mapIdx.mp h
 exact ⟨k, hk, rfl⟩
theorem a8c {ns : List Str} {js : List (Str × Nat × Nat)} {m : Nat} (h : m < js.length) : a8b ns m js[m] ∈ a1i ns js := by
 unfold a1i
 exact List.mem_mapIdx.mpr ⟨m, h, rfl⟩
theorem b5z {js : List Jn} {a b : Str} {s : Int × Str} {st : List (Int × Str)} (h : Way js a (s :: st) b) : ∃ l ∈ lead js a, l.1 = s.1 /\ l.2.2 = s.2 /\ Way js s.2 st b := by
 generalize e : s :: st = rs at h
 cases h with
 | nil => cases e
 | cons hl h =>
   cases e
   exact ⟨_, hl, rfl, rfl, h⟩
theorem Rw.at {s : Nat} {ws : List (Str × Int)} {js : List (Str × Nat × Nat)} (r : Rw s ws js) (hw : ws.length <= 676) {c t n : Nat} (hc : c < ws.length) (ht : t < ws.length) {l : Ld} (hl : l ∈ lead (a1i (ws.map Prod.fst) js) (at_ (ws.map Prod.fst) c)) (h1 : l.1 = (n : Int)) (h2 : l.2.2 = at_ (ws.map Prod.fst) t) :
   ∃ h : n < js.length, l.2.1 = (js[n]).1 /\ (((js[n]).2.1 = c /\ (js[n]).2.2 = t) \/ ((js[n]).2.1 = t /\ (js[n]).2.2 = c)) := by
 have hnl : (ws.map Prod.fst).length = ws.length := List.length_map ..
 have nd := r.nodup hw
 obtain ⟨j, hj, e1, e2, e3⟩ := a1r hl
 obtain ⟨m, hm, rfl⟩ := a77 hj
 have em : m = n := by
   have : ((m : Nat) : Int) = (n : Int) := by rw [<- h1, <- e1]; rfl
   omega
 subst em
 obtain ⟨_, k1, k2, _⟩ := r.kinds _ (List.getElem_mem hm)
 refine ⟨hm, e2.symm, ?_⟩
 rw [h2] at e3
 rcases e3 with ⟨e3, e4⟩ | ⟨e3, e4⟩
 . exact .inl ⟨a4k nd (by omega) (by omega) e3, a4k nd (by omega) (by omega) e4⟩
 . exact .inr ⟨a4k nd (by omega) (by omega) e4, a4k nd (by omega) (by omega) e3⟩
theorem Rw.way_in {s : Nat} {ws : List (Str × Int)} {js : List (Str × Nat × Nat)} (r : Rw s ws js) {a b : Str} {st : List (Int × Str)} (h : Way (a1i (ws.map Prod.fst) js) a st b) : ∀ x ∈ st, 0 <= x.1 /\ x.1 < js.length /\ x.2 ∈ ws.map Prod.fst := by
 induction h with
 | nil => intro x hx; cases hx
 | cons hl _ ih =>
   intro x hx
   rcases List.mem_cons.mp hx with rfl | hx
   . obtain ⟨j, hj, e1, _, e3⟩ := a1r hl
     obtain ⟨m, hm, rfl⟩ := a77 hj
     obtain ⟨_, k1, k2, _⟩ := r.kinds _ (List.getElem_mem hm)
     have e1 : ((m : Nat) : Int) = _ := e1
     refine ⟨by rw [<- e1]; omega, by rw [<- e1]; omega, ?_⟩
     rcases e3 with ⟨_, e3⟩ | ⟨_, e3⟩
     . rw [<- e3]; exact a3m (by simpa using k2)
     . rw [<- e3]; exact a3m (by simpa using k1)
   . exact ih x hx
theorem b4x (ns : List Str) (js : List (Str × Nat × Nat)) : ((a1i ns js).map Prod.fst).Nodup := by
 have e : (a1i ns js).map Prod.fst = (List.range js.length).map fun (i : Nat) => (i : Int) := by
   unfold a1i
   apply List.ext_getElem?
   intro i
   simp only [List.getElem?_map, List.getElem?_mapIdx]
   by_cases h : i < js.length
   . rw [List.getElem?_eq_getElem h, List.getElem?_range h]; rfl
   . rw [List.getElem?_eq_none (by omega), List.getElem?_eq_none (by simp; omega)]; rfl
 rw [e]
 refine List.pairwise_map.mpr (List.Pairwise.imp (fun {a b} hab e => ?_) List.pairwise_lt_range)
 omega
theorem at_last (l : List D) (d : D) : atI (l ++ [d]) (-1) = some d := by
 have e : ixN (l ++ [d]).length (-1) = some l.length := by
   unfold ixN
   rw [if_neg (by decide), if_pos (by simp; omega)]
   congr 1
   simp
   omega
 unfold atI
 rw [e]
 simp
theorem Bg.right {x y : Int} (h : Bg 30 y) : IntMulOk x y := IntMulOk.of_right (intBits_le_iff.mpr (h.up (by decide)))
theorem k_at {js : List (Str × Nat × Nat)} {i : Nat} (h : i < js.length) : atI (js.map eK) (i : Int) = some (eK js[i]) := by rw [a6t _ _ (by simpa using h), List.getElem_map]
theorem b7b (ns : List Int) : (ns.map D.int).all flD = true := by
 rw [List.all_map, List.all_eq_true]; intros; rfl
theorem b2z (ws : List (Str × Int)) (js : List Jn) (a : Str) (s : Int × Str) (st : List (Int × Str)) (f : Fr) : wayF ws js a (s :: st) f = wayF ws js s.2 st (f.1 * (byF (kindOf js s.1) (a0k ws a) (a0k ws s.2)).1, f.2 * (byF (kindOf js s.1) (a0k ws a) (a0k ws s.2)).2) := rfl
def a7q : SpA := fun ds M Q _ => ∃ (r : Addr) (rs : List (Int × Str)) (s : Nat) (ws : List (Str × Int)) (js : List (Str × Nat × Nat)) (bs : List Bool) (x a : Str), ds = [.obj r, .lst (ws.map eW), .lst (js.map eK), .lst (bs.map D.bl)] /\ M r = some (.lst (rs.map eSt)) /\ Rw s ws js /\ ws.length <= 80 /\ js.length <= 80 /\ rs.length <= 500 /\ Ring ws (a1i (ws.map Prod.fst) js) x a rs /\ bs.length = ws.length /\
 (∀ b, b < ws.length -> Reach (a1i (ws.map Prod.fst) js) x (at_ (ws.map Prod.fst) b) -> bs.getD b false = true) /\ ∀ M', L2.Sub M M' -> Q (.bl true) M'
theorem a70 {f : Addr} {fd : FuncData} (Fn : Fun K "_law_jammed" "_law_jammed" a21 f fd) (T : Txt K mg) (h_law_steps : Has P w K mg base (CXE P w) 2 "_law_steps" ["_law_way_here", "_law_wheels", "_law_joins"] (a0j K b29)) (h_law_by : Has P w K mg base (CXE P w) 1 "_law_by" ["_law_kind", "_law_one", "_law_other"] (a0j K spBy)) : FnOk P w K mg base (CXE P w) 3 f fd ["_law_way_here", "_law_wheels", "_law_joins", "_law_hung_here"] (a0j K a7q) := by
 refine Fn.okA sc_law_jammed (fun ds M Q E h => ?_) ?_
 . obtain ⟨_, _, _, _, _, _, _, _, rfl, _⟩ := h; rfl
 intro cdv A outer s H E F0 ds M Q Ea hr ct hsp
 obtain ⟨r, rs, sn0, ws, js, bs, x, a, rfl, hrr, rw', hwl, hjl, hrl, ring, hbl, hbs, q⟩ := hsp
 refine ⟨_, (a0b (sSet (i := 4) sc_law_jammed.nd rfl (Or.inl rfl) (a0t h_law_steps (hr.mono (by decide)) (by rfl) ct (a0a (paV (pv 0)) (a0a (paV (pv 1)) (a0a (paV (pv 2)) a0f)))))
     (a0b (sIf ((pwOr (a0q a59 lLt (a02 a0v lLen (by rfl) T.len PySem.boot_len (a0a (paV (pv 4)) a0f)) paI (a0n _)) (a39 (a3u (ptV (paIx a0e lIx (paV (pv 3)) (paIx a0e lIx (paIx a0e lIx (paV (pv 4)) (paUn a8o lNeg paI) (fun _ _ => rfl)) paI (fun _ _ => rfl)) (fun _ _ => rfl))))))).pt
       (a0i (sRet paB))
       a0s)
     (a0b (sSet (i := 5) sc_law_jammed.nd rfl (Or.inl rfl) (paIx a0e lIx (paIx a0e lIx (paV (pv 4)) (paUn a8o lNeg paI) (fun _ _ => rfl)) paI (fun _ _ => rfl)))
     (a0b (sSet (i := 6) sc_law_jammed.nd rfl (Or.inl rfl) paI)
     (a0b (sSet (i := 7) sc_law_jammed.nd rfl (Or.inl rfl) paI)
     (a0b (sSet (i := 8) sc_law_jammed.nd rfl (Or.inl rfl) (a4c a0f))
     (a0b (sSet (i := 9) sc_law_jammed.nd rfl (Or.inl rfl) (a4c a0f))
     (a0b (sFor ct (a2l (paV (pv 4))) (a7m rfl (a0w (a0r (i := 10) sc_law_jammed.nd rfl (Or.inl rfl)) (a0w (a0r (i := 11) sc_law_jammed.nd rfl (Or.inl rfl)) a3i)))
       (a0b (sAsg (paIx a0e lIx (paV (pv 2)) (paV (pv 10)) (fun _ _ => rfl)) (a7m rfl (a0w (a0r (i := 12) sc_law_jammed.nd rfl (Or.inl rfl)) (a0w (a0r (i := 13) sc_law_jammed.nd rfl (Or.inl rfl)) (a0w (a0r (i := 14) sc_law_jammed.nd rfl (Or.inl rfl)) a3i)))))
       (a0b (sIf ((pwOr (a0q b1h lIn (paV (pv 10)) (paV (pv 8)) (by with_unfolding_all rfl)) (pwOr (a0q b1h lIn (paV (pv 11)) (paV (pv 9)) (by with_unfolding_all rfl)) (a39 ((b6d (a0q (a15 (un64 ct)) lNe (a1w (a0a (paV (pv 13)) (a0a (paV (pv 14)) a0f))) (a1w (a0a (paV (pv 5)) (a0a (paV (pv 11)) a0f))) (a0n _)) (b1a (a0q (a15 (un64 ct)) lNe (a1w (a0a (paV (pv 13)) (a0a (paV (pv 14)) a0f))) (a1w (a0a (paV (pv 11)) (a0a (paV (pv 5)) a0f))) (a0n _))))).pt)))).pt
         (a0i (sRet paB))
         a0s)
       (a0b (sSet (i := 15) sc_law_jammed.nd rfl (Or.inl rfl) (a0t h_law_by (hr.mono (by decide)) (by rfl) ct (a0a (paV (pv 12)) (a0a (paIx a0e lIx (paIx a0e lIx (paV (pv 1)) (paV (pv 5)) (fun _ _ => rfl)) paI (fun _ _ => rfl)) (a0a (paIx a0e lIx (paIx a0e lIx (paV (pv 1)) (paV (pv 11)) (fun _ _ => rfl)) paI (fun _ _ => rfl)) a0f)))))
       (a0b (sSet (i := 6) sc_law_jammed.nd rfl (Or.inl rfl) (paOp a1c lMul (paV (pv 6)) (paIx a0e lIx (paV (pv 15)) paI (fun _ _ => rfl))))
       (a0b (sSet (i := 7) sc_law_jammed.nd rfl (Or.inl rfl) (paOp a1c lMul (paV (pv 7)) (paIx a0e lIx (paV (pv 15)) paI (fun _ _ => rfl))))
       (a0b (a2d (paBM PySem.F.plainAttrs_list PySem.F.slot_list_append PySem.F.type_list_append a09 a1x (paV (pv 8)) (a0a (paV (pv 10)) a0f)))
       (a0b (a2d (paBM PySem.F.plainAttrs_list PySem.F.slot_list_append PySem.F.type_list_append a09 a1x (paV (pv 9)) (a0a (paV (pv 11)) a0f)))
       (a0i (sSet (i := 5) sc_law_jammed.nd rfl (Or.inl rfl) (paV (pv 11))))))))))))
     (a0i (sRet (a8y (a15 (un64 ct)) lNe (paV (pv 6)) (paV (pv 7)) (a0n _)))))))))))), ?_⟩
 have nd := rw'.nodup (by omega)
 have hnl : (ws.map Prod.fst).length = ws.length := List.length_map ..
 refine ⟨r, rs, ws, js, rfl, hrr, by omega, hrl, nd, rw'.way_in ring.way, fun qs hq hqs y hy => ?_⟩
 obtain ⟨st0, n0, er⟩ := ring.last
 have hlen : qs.length = rs.length := by rw [<- hq, List.length_map]
 obtain ⟨q0, ql, eq0, eql⟩ : ∃ q0 ql, qs = q0 ++ [ql] /\ at_ (ws.map Prod.fst) ql.2 = a := by
   have hne : qs ≠ [] := by
     intro z
     have := ring.two
     rw [z] at hlen
     simp at hlen
     omega
   refine ⟨qs.dropLast, qs.getLast hne, (List.dropLast_concat_getLast hne).symm, ?_⟩
   have h1 : (qs.map (stOf (ws.map Prod.fst))).getLast? = some (n0, a) := by rw [hq, er]; simp
   rw [List.getLast?_map, List.getLast?_eq_some_getLast hne] at h1
   have h2 := Option.some.inj h1
   exact congrArg Prod.snd h2
 have hqlm : ql ∈ qs := by rw [eq0]; simp
 have hql := (hqs ql hqlm).2
 have eal : atI (qs.map eQ) (-1) = some (eQ ql) := by rw [eq0, List.map_append]; exact at_last _ _
 have hbt : bs.getD ql.2 false = true := hbs _ hql (by
   rw [eql]
   obtain ⟨z, hz, ez⟩ : ∃ z ∈ rs, z.2 = a := ⟨(n0, a), by rw [er]; simp, rfl⟩
   rw [<- ez]; exact ring.hang z hz)
 have htwo := ring.two
 dsimp only
 refine a1d (fun R h => by
   simp! only [a0d, eal, eQ, b0w bs ql.2 (by omega), hbt, List.length_map, decide_eq_false (show ¬ (qs.length : Int) < 2 by omega), Bool.not_true]
   exact h) ?_
 refine seqV (.int ql.2) _ (fun R h => by
   simp! only [a0d, eal, eQ]
   exact h) (seqV (.int 1) _ (fun R h => h) (seqV (.int 1) _ (fun R h => h) ?_))
 refine cut2 (fun Γ' M1 => ∃ g z, Γ' = [some (.obj r), some (.lst (ws.map eW)), some (.lst (js.map eK)), some (.lst (bs.map D.bl)), some (.obj y), some (.int ql.2), some (.int 1), some (.int 1), some (.obj g), some (.obj z), none, none, none, none, none, none] /\ Th M M1 y g z (.lst (qs.map eQ)) (.lst []) (.lst [])) ?_ ?_
 . rintro Γ' M1 ⟨g, z, rfl, th⟩
   refine b69 (d := .obj y) (ds := qs.map eQ) (fun R h => h) (by simp only [dr, th.p1]) ?_
   refine LoopP.by2 (fun i Γ M' => ∃ (c : Nat) (top bot : Int) (sn : List Nat) (o10 o11 o12 o13 o14 o15 : Option D), Γ = [some (.obj r), some (.lst (ws.map eW)), some (.lst (js.map eK)), some (.lst (bs.map D.bl)), some (.obj y), some (.int c), some (.int top), some (.int bot), some (.obj g), some (.obj z), o10, o11, o12, o13, o14, o15] /\
       Th M M' y g z (.lst (qs.map eQ)) (.lst (((rs.take i).map Prod.fst).map D.int)) (.lst (sn.map iN)) /\ c < ws.length /\ sn.map (at_ (ws.map Prod.fst)) = (rs.take i).map Prod.snd /\ sn.length <= i /\ Way (a1i (ws.map Prod.fst) js) (at_ (ws.map Prod.fst) c) (rs.drop i) a /\ wayF ws (a1i (ws.map Prod.fst) js) (at_ (ws.map Prod.fst) c) (rs.drop i) (top, bot) = wayF ws (a1i (ws.map Prod.fst) js) a rs (1, 1))
     ⟨ql.2, 1, 1, [], _, _, _, _, _, _, rfl, th, hql, rfl, Nat.zero_le _, by rw [eql]; exact ring.way, by rw [eql]; rfl⟩ (fun _ _ _ ⟨_, _, _, _, _, _, _, _, _, _, _, th', _⟩ => by simp only [dr, th'.p1]) ?_ ?_
   . rintro E' i Γ M' hrt hi hnx ⟨c, top, bot, sn, o10, o11, o12, o13, o14, o15, rfl, th', hc, esn, hsl, wy, hF⟩
     dsimp only at hi
     have hi' : i < qs.length := by simpa using hi
     have hir : i < rs.length := by omega
     have erq : rs[i] = stOf (ws.map Prod.fst) qs[i] := by
       have h1 : rs[i]? = (qs.map (stOf (ws.map Prod.fst)))[i]? := by rw [hq]
       rw [List.getElem?_map, List.getElem?_eq_getElem hi', List.getElem?_eq_getElem hir] at h1
       exact Option.some.inj h1
     have ed : rs.drop i = rs[i] :: rs.drop (i + 1) := List.drop_eq_getElem_cons hir
     have htk := List.take_succ_eq_append_getElem hir
     have hqb := hqs _ (List.getElem_mem hi')
     rw [ed] at wy hF
     have nj := ring.joins
     have nw := ring.wheels
     rw [<- List.take_append_drop i rs, ed, List.map_append, List.map_cons] at nj nw
     rw [erq] at wy hF htk nj nw
     simp only [a1z qs eQ i hi']
     generalize qs[i] = qx at *
     obtain ⟨n, t⟩ := qx
     obtain ⟨hn, ht⟩ := hqb
     dsimp only at hn ht
     obtain ⟨l, hl, l1, l2, wy2⟩ := b5z wy
     have l1 : l.1 = (n : Int) := l1
     have l2 : l.2.2 = at_ (ws.map Prod.fst) t := l2
     obtain ⟨_, ek, ends⟩ := rw'.at (by omega) hc ht hl l1 l2
     obtain ⟨jm1, jm2⟩ : a8b (ws.map Prod.fst) n js[n] ∈ a1i (ws.map Prod.fst) js /\ kindOf (a1i (ws.map Prod.fst) js) (n : Int) = (js[n]).1 := ⟨a8c hn, a44 (b4x _ _) (a8c (ns := ws.map Prod.fst) hn)⟩
     have hng : ((n : Nat) : Int) ∉ (rs.take i).map Prod.fst := fun h => (List.nodup_append.mp nj).2.2 _ h _ List.mem_cons_self rfl
     have hts : t ∉ sn := by
       intro h
       have h1 : at_ (ws.map Prod.fst) t ∈ sn.map (at_ (ws.map Prod.fst)) := List.mem_map.mpr ⟨t, h, rfl⟩
       rw [esn] at h1
       exact (List.nodup_append.mp nw).2.2 _ h1 _ List.mem_cons_self rfl
     have ekn := k_at hn
     have e1 := w_at hc
     have e2 := w_at ht
     have t1 := rw'.teeth _ (List.getElem_mem hc)
     have t2 := rw'.teeth _ (List.getElem_mem ht)
     rw [b2z] at hF
     have hs1 : (stOf (ws.map Prod.fst) (n, t)).1 = (n : Int) := rfl
     have hs2 : (stOf (ws.map Prod.fst) (n, t)).2 = at_ (ws.map Prod.fst) t := rfl
     rw [hs1, hs2, jm2, a3e nd hc, a3e nd ht] at hF
     rw [hs2] at wy2
     obtain ⟨y1, y2⟩ := b15 (k := (js[n]).1) t1.1 t1.2 t2.1 t2.2
     generalize js[n] = jn at *
     obtain ⟨kd, one, other⟩ := jn
     dsimp only at ends hF y1 y2
     have fl1 : (flD (.int (n : Int)) && (((rs.take i).map Prod.fst).map D.int).all flD) = true := by rw [b7b]; rfl
     have fl2 : (flD (.int (t : Int)) && (sn.map iN).all flD) = true := by rw [b7a]; rfl
     simp only [eQ, a66, a4j, gaNil, gaN, List.set_cons_zero, List.set_cons_succ]
     refine ⟨rfl, trivial, ?_⟩
     refine cut1 (fun Γ' M2 => M2 = M' /\ Γ' = [some (.obj r), some (.lst (ws.map eW)), some (.lst (js.map eK)), some (.lst (bs.map D.bl)), some (.obj y), some (.int c), some (.int top), some (.int bot), some (.obj g), some (.obj z), some (.int n), some (.int t), some (.str kd), some (.int one), some (.int other), o15]) ?_ ?_
     . rintro Γ2 M2 ⟨rfl, rfl⟩
       refine a1d (fun R h => by
         simp! only [th'.r1, th'.z1, fl1, fl2, b1v, in_nats, decide_eq_false hts, decide_eq_false hng]
         rcases ends with ⟨e1, e2⟩ | ⟨e1, e2⟩
         . rw [e1, e2]
           exact ⟨by decide, by decide, a75 (a8g _ _).sh h⟩
         . rw [e1, e2]
           refine ⟨by decide, by decide, .inr ⟨(a8g _ _).sh, (a8g _ _).sh⟩, ?_⟩
           dsimp only
           refine ite2 (fun _ => ?_) fun _ => h
           exact ⟨by decide, by decide, a75 (a8g _ _).sh h⟩) ?_
       refine seqV (eF (byF kd (ws[c]).2 (ws[t]).2)) _ (fun R h => by
         simp! only [e1, e2, eW, spBy]
         exact ⟨_, _, _, rfl, h⟩) ?_
       generalize byF kd (ws[c]).2 (ws[t]).2 = yy at *
       refine seqV (.int (top * yy.1)) _ (fun R h => by simp! only [eF]; exact ⟨y1.right, h⟩) (seqV (.int (bot * yy.2)) _ (fun R h => by simp! only [eF]; exact ⟨y2.right, h⟩) ?_)
       refine b7f .non _ (fun R h => by
         simp! only [aBM, a2e, th'.r1, oAppend, List.length_map, List.length_take]
         exact ⟨by omega, h⟩) ?_
       have th2 := th'.s2 (.lst (((rs.take i).map Prod.fst).map D.int ++ [.int n]))
       refine b7f .non _ (fun R h => by
         simp! only [aBM, a2e, th2.z1, oAppend, List.length_map]
         exact ⟨by omega, h⟩) ?_
       have th3 := th2.s3 (.lst (sn.map iN ++ [.int t]))
       refine setV (.int t) _ (fun R h => h) ?_
       refine hnx _ _ ⟨t, _, _, sn ++ [t], _, _, _, _, _, _, rfl, ?_, ht, ?_, by simp; omega, wy2, hF⟩
       . rw [htk, List.map_append, List.map_append, List.map_append]
         exact th3
       . rw [List.map_append, esn, htk, List.map_append]; rfl
     . intro rest hrest
       simp! only [ekn, eK, a66, a4j, gaNil]
       exact ⟨rfl, hrest _ _ ⟨rfl, rfl⟩⟩
   . rintro Γ M' ⟨c, top, bot, sn, o10, o11, o12, o13, o14, o15, rfl, th', hc, esn, hsl, wy, hF⟩
     have el : (qs.map eQ).length = rs.length := by rw [List.length_map]; exact hlen
     dsimp only at hF
     rw [el, List.drop_length] at hF
     have hne := ring.ne
     rw [<- hF] at hne
     simp! only []
     have hne : ¬ top = bot := hne
     rw [decide_eq_false hne, Bool.not_false]
     exact .now (q _ th'.sub)
 . intro rest hrest
   simp! only []
   refine ⟨Nat.zero_le _, fun g hg => ⟨Nat.zero_le _, fun z hz => ?_⟩⟩
   obtain ⟨n1, hg2⟩ := none_of hg
   obtain ⟨n2, hz2⟩ := none_of hz
   obtain ⟨n3, hz3⟩ := none_of hz2
   refine hrest _ _ ⟨g, z, rfl, by rw [a0h n3.symm, a0h n1.symm, a0d], by rw [a0h n2.symm, a0d], a0d, n1.symm, n3.symm, n2.symm, L2.Sub.trans (.put hy) (L2.Sub.trans (.put hg) (.put hz)), hy, hg2, hz3⟩
noncomputable def eO : Option Fr -> D | none => .non | some x => eF x
noncomputable def tsO (ws : List (Str × Int)) (sh : Sh) : List (Option Fr) := ws.map fun w => if w.1 ∈ sh.map Prod.fst then some (lk sh w.1) else none
theorem told_eq (ws : List (Str × Int)) (sh : Sh) : told ws sh = (tsO ws sh).map eO := by
 unfold told tsO
 rw [List.map_map, List.map_map]
 refine List.map_congr_left fun w _ => ?_
 show (getK (a2f sh) (Sum.inr w.1)).getD .non = eO (if w.1 ∈ sh.map Prod.fst then some (lk sh w.1) else none)
 by_cases h : w.1 ∈ sh.map Prod.fst
 . rw [a46 h, if_pos h]; rfl
 . rw [a45 h, if_neg h]; rfl
def a7c : SpA := fun ds M Q _ => ∃ x : Fr, ds = [eF x] /\ Low x /\ Q (.bl true) M
theorem a6b {f : Addr} {fd : FuncData} (Fn : Fun K "_law_fraction" "_law_fraction" a2b f fd) (T : Txt K mg) (h_law_whole : Has P w K mg base (CXE P w) 1 "_law_whole" ["_law_found"] (a0j K a5u)) (h_law_common : Has P w K mg base (CXE P w) 1 "_law_common" ["_law_one", "_law_other"] (a0j K b2c)) :
   FnOk P w K mg base (CXE P w) 2 f fd ["_law_found"] (a0j K a7c) := by
 refine Fn.okA a5y (fun ds M Q E h => ?_) ?_
 . obtain ⟨a, rfl, _⟩ := h; rfl
 intro cdv A outer s H E F0 ds M Q Ea hr ct hsp
 obtain ⟨x, rfl, hx, q⟩ := hsp
 refine ⟨_, (a0b (sIf ((pwOr (a3u (ptV (a57 (T := "tuple") (x := "tuple") (by decide) (by rfl) T.isinstance (by rfl) T.tuple boot_tuple (paV (pv 0))))) (a39 (a0q (a15 (un64 ct)) lNe (a02 a0v lLen (by rfl) T.len PySem.boot_len (a0a (paV (pv 0)) a0f)) paI (a0n _))))).pt
       (a0i (sRet paB))
       a0s)
     (a0b (sIf ((pwOr (a3u (ptV (a0t h_law_whole (hr.mono (by decide)) (by rfl) ct (a0a (paIx a0e lIx (paV (pv 0)) paI (fun _ _ => rfl)) a0f)))) (pwOr (a3u (ptV (a0t h_law_whole (hr.mono (by decide)) (by rfl) ct (a0a (paIx a0e lIx (paV (pv 0)) paI (fun _ _ => rfl)) a0f)))) (a39 (a0q a59 lLt (paIx a0e lIx (paV (pv 0)) paI (fun _ _ => rfl)) paI (a0n _)))))).pt
       (a0i (sRet paB))
       a0s)
     (a0i (sRet (a8y (a1k (un64 ct)) lEq (a0t h_law_common (hr.mono (by decide)) (by rfl) ct (a0a (paIx a0e lIx (paV (pv 0)) paI (fun _ _ => rfl)) (a0a (paIx a0e lIx (paV (pv 0)) paI (fun _ _ => rfl)) a0f))) paI (a0n _)))))), ?_⟩
 have e3 : (!("tuple" : String) == "tuple") = false := by decide
 have e5 : (!decide ((2 : Int) = 2)) = false := by decide
 refine a1d (fun R h => by
   simp! only [b2w, a8e, a4h, eF, e3, e5]
   exact h) ?_
 refine a1d (fun R h => by
   simp! only [eF, a5u]
   refine ⟨_, rfl, rfl, _, rfl, rfl, ?_⟩
   rw [decide_eq_false (show ¬ x.2 < 1 by have := hx.1; omega)]
   exact h) ?_
 simp! only [eF, b2c]
 refine ⟨_, _, rfl, ?_⟩
 rw [hx.2]
 exact .now q
theorem o_at {ts : List (Option Fr)} {i : Nat} (h : i < ts.length) : atI (ts.map eO) (i : Int) = some (eO (ts.getD i none)) := by
 rw [a6t _ _ (by simpa using h), List.getElem_map, List.getD_eq_getElem?_getD, List.getElem?_eq_getElem h]; rfl
def a9w : SpA := fun ds M Q _ => ∃ (ts : List (Option Fr)) (s : Nat) (ws : List (Str × Int)) (js : List (Str × Nat × Nat)) (bs : List Bool) (a : Nat), ds = [.lst (ts.map eO), .lst (ws.map eW), .lst (js.map eK), .lst (bs.map D.bl), .int a] /\ Rw s ws js /\ ws.length <= 80 /\ ts.length = ws.length /\ bs.length = ws.length /\ a < ws.length /\
 (∀ k, k < ws.length -> bs.getD k false = (ts.getD k none).isSome) /\ (∀ k x, ts.getD k none = some x -> Low x /\ Bg 3000 x.1 /\ Bg 3000 x.2) /\ ts.getD a none = some (1, 1) /\
 (∀ (i : Nat) (h : i < js.length) (h1 : (js[i]).2.1 < ws.length) (h2 : (js[i]).2.2 < ws.length), bs.getD (js[i]).2.1 false = true -> ∃ x y, ts.getD (js[i]).2.1 none = some x /\ ts.getD (js[i]).2.2 none = some y /\ x.1 * (byF (js[i]).1 (ws[(js[i]).2.1]).2 (ws[(js[i]).2.2]).2).1 * y.2 = y.1 * x.2 * (byF (js[i]).1 (ws[(js[i]).2.1]).2 (ws[(js[i]).2.2]).2).2) /\ Q (.bl true) M
theorem a99 {f : Addr} {fd : FuncData} (Fn : Fun K "_law_free" "_law_free" a4y f fd) (T : Txt K mg) (h_law_fraction : Has P w K mg base (CXE P w) 2 "_law_fraction" ["_law_found"] (a0j K a7c)) (h_law_by : Has P w K mg base (CXE P w) 1 "_law_by" ["_law_kind", "_law_one", "_law_other"] (a0j K spBy)) :
   FnOk P w K mg base (CXE P w) 3 f fd ["_law_told_here", "_law_wheels", "_law_joins", "_law_hung_here", "_law_start"] (a0j K a9w) := by
 refine Fn.okA sc_law_free (fun ds M Q E h => ?_) ?_
 . obtain ⟨_, _, _, _, _, _, rfl, _⟩ := h; rfl
 intro cdv A outer s H E F0 ds M Q Ea hr ct hsp
 obtain ⟨ts, sn, ws, js, bs, a, rfl, rw', hwl, htl, hbl, ha, hb, hx, hst, hag, q⟩ := hsp
 refine ⟨_, (a0b (sIf ((pwOr (a3u (ptV (a57 (T := "list") (x := "list") (by decide) (by rfl) T.isinstance (by rfl) T.list boot_list (paV (pv 0))))) (a39 (a0q (a15 (un64 ct)) lNe (a02 a0v lLen (by rfl) T.len PySem.boot_len (a0a (paV (pv 0)) a0f)) (a02 a0v lLen (by rfl) T.len PySem.boot_len (a0a (paV (pv 1)) a0f)) (a0n _))))).pt
       (a0i (sRet paB))
       a0s)
     (a0b (sFor ct (b0k rfl T.range (a0a (a02 a0v lLen (by rfl) T.len PySem.boot_len (a0a (paV (pv 1)) a0f)) a0f)) (a0r (i := 5) sc_law_free.nd rfl (Or.inl rfl))
       (a0i (sIf ((pwOr (a0q (a15 (un64 ct)) lNe (paIx a0e lIx (paV (pv 3)) (paV (pv 5)) (fun _ _ => rfl)) (a8y a91 b4q (paIx a0e lIx (paV (pv 0)) (paV (pv 5)) (fun _ _ => rfl)) paN (a0n _)) (a0n _)) (a39 ((b6d (ptV (paIx a0e lIx (paV (pv 3)) (paV (pv 5)) (fun _ _ => rfl))) (b1a (a3u (ptV (a0t h_law_fraction (hr.mono (by decide)) (by rfl) ct (a0a (paIx a0e lIx (paV (pv 0)) (paV (pv 5)) (fun _ _ => rfl)) a0f))))))).pt))).pt
         (a0i (sRet paB))
         a0s)))
     (a0b (sIf (a0q (a15 (un64 ct)) lNe (paIx a0e lIx (paV (pv 0)) (paV (pv 4)) (fun _ _ => rfl)) (a1w (a0a paI (a0a paI a0f))) (a0n _))
       (a0i (sRet paB))
       a0s)
     (a0b (sFor ct (a2l (paV (pv 2))) (a7m rfl (a0w (a0r (i := 6) sc_law_free.nd rfl (Or.inl rfl)) (a0w (a0r (i := 7) sc_law_free.nd rfl (Or.inl rfl)) (a0w (a0r (i := 8) sc_law_free.nd rfl (Or.inl rfl)) a3i))))
       (a0i (sIf (ptV (paIx a0e lIx (paV (pv 3)) (paV (pv 7)) (fun _ _ => rfl)))
         (a0b (sSet (i := 9) sc_law_free.nd rfl (Or.inl rfl) (a0t h_law_by (hr.mono (by decide)) (by rfl) ct (a0a (paV (pv 6)) (a0a (paIx a0e lIx (paIx a0e lIx (paV (pv 1)) (paV (pv 7)) (fun _ _ => rfl)) paI (fun _ _ => rfl)) (a0a (paIx a0e lIx (paIx a0e lIx (paV (pv 1)) (paV (pv 8)) (fun _ _ => rfl)) paI (fun _ _ => rfl)) a0f)))))
         (a0b (sSet (i := 10) sc_law_free.nd rfl (Or.inl rfl) (paIx a0e lIx (paV (pv 0)) (paV (pv 7)) (fun _ _ => rfl)))
         (a0b (sSet (i := 11) sc_law_free.nd rfl (Or.inl rfl) (paIx a0e lIx (paV (pv 0)) (paV (pv 8)) (fun _ _ => rfl)))
         (a0i (sIf (a0q (a15 (un64 ct)) lNe (paOp a1c lMul (paOp a1c lMul (paIx a0e lIx (paV (pv 10)) paI (fun _ _ => rfl)) (paIx a0e lIx (paV (pv 9)) paI (fun _ _ => rfl))) (paIx a0e lIx (paV (pv 11)) paI (fun _ _ => rfl))) (paOp a1c lMul (paOp a1c lMul (paIx a0e lIx (paV (pv 11)) paI (fun _ _ => rfl)) (paIx a0e lIx (paV (pv 10)) paI (fun _ _ => rfl))) (paIx a0e lIx (paV (pv 9)) paI (fun _ _ => rfl))) (a0n _))
           (a0i (sRet paB))
           a0s)))))
         a0s)))
     (a0i (sRet paB)))))), ?_⟩
 have e0 : (!("list" : String) == "list") = false := by decide
 refine a1d (fun R h => by
   simp! only [b2w, a8e, a4h, e0, List.length_map, decide_eq_true (show (ts.length : Int) = (ws.length : Int) by omega), Bool.not_true]
   exact h) ?_
 simp only [aSeq, aFor, iaR1, b2x, oLen, lenC, lenF, L2.dq, a68, aNil, aV, a48, Option.map_some, a08, true_and, List.map_cons, List.map_nil, List.length_cons, List.length_nil, List.replicate, List.cons_append, List.nil_append, Nat.reduceAdd, Nat.reduceSub, List.getElem?_cons_zero, List.getElem?_cons_succ, List.length_map]
 refine ⟨by omega, by omega, ?_⟩
 refine LoopP.by2 (fun i Γ M' => M' = M /\ ∃ o5, Γ = [some (.lst (ts.map eO)), some (.lst (ws.map eW)), some (.lst (js.map eK)), some (.lst (bs.map D.bl)), some (.int a), o5, none, none, none, none, none, none]) ⟨rfl, _, rfl⟩ (fun _ _ _ _ => trivial) ?_ ?_
 . rintro E' i Γ M' hrt hi hnx ⟨rfl, o5, rfl⟩
   dsimp only at hi
   have hi' : i < ws.length := by simpa using hi
   have e1 := o_at (ts := ts) (i := i) (by omega)
   have e2 := b0w bs i (by omega)
   have h1 := hb i hi'
   simp only [gaN, List.set_cons_zero, List.set_cons_succ]
   refine ifV false (fun R h => ?_) (by rw [if_neg Bool.false_ne_true]; exact hnx _ _ ⟨rfl, _, rfl⟩)
   simp! only [e1, e2, h1]
   cases hk : ts.getD i none with
   | none => exact h
   | some x => exact ⟨x, rfl, (hx i x hk).1, h⟩
 . rintro Γ M' ⟨rfl, o5, rfl⟩
   have e1 := o_at (ts := ts) (i := a) (by omega)
   rw [hst] at e1
   dsimp only
   refine a1d (fun R h => by
     simp! only [e1]
     exact ⟨by decide, a75 (gd_f (1, 1)).sh h⟩) ?_
   refine b69 (d := .lst (js.map eK)) (ds := js.map eK) (fun R h => h) rfl ?_
   refine LoopP.by2 (fun i Γ M'' => M'' = M' /\ ∃ o6 o7 o8 o9 o10 o11, Γ = [some (.lst (ts.map eO)), some (.lst (ws.map eW)), some (.lst (js.map eK)), some (.lst (bs.map D.bl)), some (.int a), o5, o6, o7, o8, o9, o10, o11]) ⟨rfl, _, _, _, _, _, _, rfl⟩ (fun _ _ _ _ => rfl) ?_ ?_
   . rintro E' i Γ M'' hrt hi hnx ⟨rfl, o6, o7, o8, o9, o10, o11, rfl⟩
     dsimp only at hi
     have hi' : i < js.length := by simpa using hi
     obtain ⟨_, k1, k2, _⟩ := rw'.kinds _ (List.getElem_mem hi')
     have hag := hag i hi' k1 k2
     have e2 := b0w bs (js[i]).2.1 (by omega)
     have e3 := w_at k1
     have e4 := w_at k2
     have t1 := rw'.teeth _ (List.getElem_mem k1)
     have t2 := rw'.teeth _ (List.getElem_mem k2)
     have e5 := o_at (ts := ts) (i := (js[i]).2.1) (by omega)
     have e6 := o_at (ts := ts) (i := (js[i]).2.2) (by omega)
     obtain ⟨y1, y2⟩ := b15 (k := (js[i]).1) t1.1 t1.2 t2.1 t2.2
     simp only [a1z js eK i hi', eK, a66, a4j, gaNil, gaN, List.set_cons_zero, List.set_cons_succ, true_and]
     refine ⟨rfl, ?_⟩
     cases hbv : bs.getD (js[i]).2.1 false with
     | false =>
       rw [hbv] at e2
       refine ifV false (fun R h => by simp! only [e2]; exact h) (by rw [if_neg Bool.false_ne_true]; exact hnx _ _ ⟨rfl, _, _, _, _, _, _, rfl⟩)
     | true =>
       obtain ⟨x, y, hx1, hy1, eq⟩ := hag hbv
       rw [hbv] at e2
       rw [hx1] at e5
       rw [hy1] at e6
       obtain ⟨_, bx1, bx2⟩ := hx _ _ hx1
       obtain ⟨_, by1, by2⟩ := hx _ _ hy1
       refine ifV true (fun R h => by simp! only [e2]; exact h) ?_
       rw [if_pos rfl]
       refine seqV (eF (byF (js[i]).1 (ws[(js[i]).2.1]).2 (ws[(js[i]).2.2]).2)) _ (fun R h => by
         simp! only [e3, e4, eW, spBy]
         exact ⟨_, _, _, rfl, h⟩) ?_
       generalize byF (js[i]).1 (ws[(js[i]).2.1]).2 (ws[(js[i]).2.2]).2 = f at *
       refine seqV (eF x) _ (fun R h => by simp! only [e5]; exact h) (seqV (eF y) _ (fun R h => by simp! only [e6]; exact h) ?_)
       refine ifV false (fun R h => ?_) (by rw [if_neg Bool.false_ne_true]; exact hnx _ _ ⟨rfl, _, _, _, _, _, _, rfl⟩)
       simp! only [eF, eq, decide_true, Bool.not_true]
       exact ⟨bx1.ok y1 (by decide) (by decide), (bx1.mul y1).ok by2 (by decide) (by decide), by1.ok bx2 (by decide) (by decide), (by1.mul bx2).ok y2 (by decide) (by decide), h⟩
   . rintro Γ M'' ⟨rfl, o6, o7, o8, o9, o10, o11, rfl⟩
     exact .now q
def asksB (S : TS) (x : Str) (b : Bool) : Prop := x ∈ S.ws.map Prod.fst /\ (b = true -> (S.ws.map Prod.fst).head? = some x)
theorem asksB.yes {S : TS} {x : Str} {b : Bool} (h : asksB S x b) : a2i S (some x) = some x := if_pos h.1
structure Sound (S : TS) : Prop where
 fit : Fit S
 nd : (S.js.map Prod.fst).Nodup
 une : ∀ j ∈ S.js, j.2.2.1 ≠ j.2.2.2
def b28 (C EJ : Addr) : SpA := fun ds M Q E => ∃ (p d1 d2 : Addr) (S : TS) (x : Str) (b : Bool), ds = [.obj p, .str x, .bl b] /\ Tr C M p d1 d2 S /\ Sound S /\ asksB S x b /\ ∀ t, IsTree S.js x t -> Grown S.js x t -> a2n S.js t -> t.length <= 100 -> match S.js.find? (a1j S.ws (a0g S.ws t)) with
   | some _ => ∀ M', L2.Sub M M' -> E (.ref EJ) M'
   | none => Q (.lst (told S.ws (a0g S.ws t))) M
def b26 (C : Addr) : SpA := fun ds M Q _ => ∃ (p d1 d2 : Addr) (S : TS) (x : Str) (b : Bool), ds = [.obj p, .str x, .bl b] /\ Tr C M p d1 d2 S /\ Sound S /\ asksB S x b /\ ∀ t, IsTree S.js x t -> Grown S.js x t -> a2n S.js t -> t.length <= 100 -> match S.js.find? (a1j S.ws (a0g S.ws t)) with
   | some _ => ∀ a rs, Ring S.ws S.js x a rs -> rs.length <= 500 -> ∀ r, M r = none -> Q (.obj r) (put M r (.lst (rs.map eSt)))
   | none => Q .non M
theorem a93 {f C EJ : Addr} {fd : FuncData} {EC : Rk -> Addr} (Fn : Fun K "_law_told" "_law_told" a4s f fd) (h_turns : HasD P w K mg base 45 "turns" ["train", "name"] (a0j K (a4n C EC EJ))) :
   FnOk P w K mg base (CXE P w) 46 f fd ["_law_train_here", "_law_name_here", "_law_left_out"] (a0j K (b28 C EJ)) := by
 refine Fn.okA a9x (fun ds M Q E h => ?_) ?_
 . obtain ⟨_, _, _, _, _, _, rfl, _⟩ := h; rfl
 intro cdv A outer s H E F0 ds M Q Ea hr ct hsp
 obtain ⟨p, d1, d2, S, x, b, rfl, tr, snd, as, q⟩ := hsp
 refine ⟨_, (a0b (sIf (ptV (paV (pv 2)))
       (a0i (sRet (b1e h_turns (hr.mono (by decide)) (by rfl) ct (a0a (paV (pv 0)) a0f))))
       a0s)
     (a0i (sRet (a0t h_turns.all (hr.mono (by decide)) (by rfl) ct (a0a (paV (pv 0)) (a0a (paV (pv 1)) a0f)))))), ?_⟩
 have key : ∀ o, a2i S o = some x -> a4n C EC EJ [.obj p, encN o] M (Rt Q) fun cls M' => Ea cls M' := by
   intro o ho
   refine ⟨p, d1, d2, S, o, rfl, tr, snd.fit, ?_⟩
   rw [ho]
   intro t ist gr cl hl
   have q := q t ist gr cl hl
   revert q
   cases S.js.find? (a1j S.ws (a0g S.ws t)) with
   | none => exact fun q r hr' => .fz hr' q
   | some _ => exact fun q => q
 cases b with
 | true =>
   refine a2x (fun R h => h) ?_
   exact key none (as.2 rfl)
 | false =>
   refine a1d (fun R h => h) ?_
   exact key (some x) as.yes
theorem b2m {f C : Addr} {fd : FuncData} {EC : Rk -> Addr} (Fn : Fun K "_law_way" "_law_way" a51 f fd) (h_ring : HasD P w K mg base 44 "ring" ["train", "name"] (a0j K (a7b C EC))) :
   FnOk P w K mg base (CXE P w) 46 f fd ["_law_train_here", "_law_name_here", "_law_left_out"] (a0j K (b26 C)) := by
 refine Fn.okA b2h (fun ds M Q E h => ?_) ?_
 . obtain ⟨_, _, _, _, _, _, rfl, _⟩ := h; rfl
 intro cdv A outer s H E F0 ds M Q Ea hr ct hsp
 obtain ⟨p, d1, d2, S, x, b, rfl, tr, snd, as, q⟩ := hsp
 refine ⟨_, (a0b (sIf (ptV (paV (pv 2)))
       (a0i (sRet (b1e h_ring (hr.mono (by decide)) (by rfl) ct (a0a (paV (pv 0)) a0f))))
       a0s)
     (a0i (sRet (a0t h_ring.all (hr.mono (by decide)) (by rfl) ct (a0a (paV (pv 0)) (a0a (paV (pv 1)) a0f)))))), ?_⟩
 have key : ∀ o, a2i S o = some x -> a7b C EC [.obj p, encN o] M (Rt Q) fun cls M' => Ea cls M' := by
   intro o ho
   refine ⟨p, d1, d2, S, o, rfl, tr, snd.fit, snd.nd, snd.une, ?_⟩
   rw [ho]
   intro t ist gr cl hl
   have q := q t ist gr cl hl
   revert q
   cases S.js.find? (a1j S.ws (a0g S.ws t)) with
   | none => exact fun q => .now q
   | some _ => exact fun q a rs h1 h2 r h3 => .now (q a rs h1 h2 r h3)
 cases b with
 | true =>
   refine a2x (fun R h => h) ?_
   exact key none (as.2 rfl)
 | false =>
   refine a1d (fun R h => h) ?_
   exact key (some x) as.yes
structure ExJ (K : PySem.W.Frag) (mg : Str -> Option Value) (EC : Rk -> Addr) (EJ CX CT : Addr) : Prop where
 look : ExLook K EJ
 other : ∀ r, PySem.W.kitOne K (.ref EJ) (.ref (EC r)) = some false
 noText : PySem.W.kitOne K (.ref EJ) (.ref CX) = some false
 same : PySem.W.kitOne K (.ref EJ) (.ref EJ) = some true
 value : PySem.W.kitOne K (.ref EJ) (.type "ValueError") = some true
 train : PySem.W.exmOne K (.ref EJ) (.ref CT) = some true
 bX : mg "NoText" = some (.ref CX)
 bJ : mg "Jams" = some (.ref EJ)
 bT : mg "TrainError" = some (.ref CT)
def spOnly (EJ : Addr) : Addr -> SpA := fun a ds M Q _ => ds = [.obj a] /\ M a = some (.exc (.ref EJ)) /\ Q (.bl true) M
theorem instX {K' : PySem.W.Frag} {cv : Value} {Γ : G} {M : Mem} {Q : AK} {D0 e : Addr} {b : Bool} {t : AE} (ht : ∀ R : AK, R (.obj e) M -> t Γ M R) (he : M e = some (.exc (.ref D0))) (hL : ExLook K' D0) (hk : PySem.W.kitOne K' (.ref D0) cv = some b) (q : Q (.bl b) M) : a9r K' cv t Γ M Q :=
 ht _ ⟨D0, b, he, hL, hk, q⟩
theorem a95 {f EJ CX CT : Addr} {fd : FuncData} {EC : Rk -> Addr} (Fn : Fun K "_law_only" "_law_only" a4u f fd) (T : Txt K mg) (XK : ExK K mg EC) (XT : ExJ K mg EC EJ CX CT) :
   FnOkH P w K mg base 1 f fd ["_law_e"] (fun a => a0j K (spOnly EJ a)) := by
 refine Fn.okHA sc_law_only (fun a ds M Q E h => ?_) ?_
 . obtain ⟨rfl, _⟩ := h; rfl
 intro cdv A a outer s H E F0 ds M Q Ea hr hh hsp
 obtain ⟨rfl, he, q⟩ := hsp
 have X_NoName := XK.noName
 have X_Twice := XK.twice
 have X_NoTeeth := XK.noTeeth
 have X_Full := XK.full
 have X_NoWheel := XK.noWheel
 have X_NoJoin := XK.noJoin
 refine ⟨_, (a0b (sForH .never hh (a4d (a0a (a27 X_Full.bound (by rfl) T.isinstance (by rfl) (paV (pv 0))) (a0a (a27 X_NoWheel.bound (by rfl) T.isinstance (by rfl) (paV (pv 0))) (a0a (a27 X_NoJoin.bound (by rfl) T.isinstance (by rfl) (paV (pv 0))) (a0a (a27 X_NoName.bound (by rfl) T.isinstance (by rfl) (paV (pv 0))) a0f))))) (a0r (i := 1) sc_law_only.nd rfl (Or.inl rfl))
       (a0i (sIf (ptV (paV (pv 1)))
         (a0i (sRet paB))
         a0s)))
     (a0b (sIf ((pwOr (ptV (a27 X_NoTeeth.bound (by rfl) T.isinstance (by rfl) (paV (pv 0)))) (pwOr (ptV (a27 XT.bX (by rfl) T.isinstance (by rfl) (paV (pv 0)))) (a39 (ptV (a27 X_Twice.bound (by rfl) T.isinstance (by rfl) (paV (pv 0)))))))).pt
       (a0i (sRet paB))
       a0s)
     (a0i (sRet (b33 (a27 XT.bJ (by rfl) T.isinstance (by rfl) (paV (pv 0))) (b31 (paInstV (by rfl) T.isinstance (by rfl) T.ValueError a6s (paV (pv 0))))))))), ?_⟩
 have v0 : ∀ {Γ : G}, Γ[0]? = some (some (.obj a)) -> ∀ R : AK, R (.obj a) M -> aV 0 Γ M R := fun h R hR => by simp only [aV, h, a08]; exact hR
 have no : ∀ {Γ : G} {cv : Value} {Q : AK}, Γ[0]? = some (some (.obj a)) -> PySem.W.kitOne K (.ref EJ) cv = some false -> Q (.bl false) M -> a9r K cv (aV 0) Γ M Q := fun h hk q => instX (v0 h) he XT.look hk q
 have yes : ∀ {Γ : G} {cv : Value} {Q : AK}, Γ[0]? = some (some (.obj a)) -> PySem.W.kitOne K (.ref EJ) cv = some true -> Q (.bl true) M -> a9r K cv (aV 0) Γ M Q := fun h hk q => instX (v0 h) he XT.look hk q
 simp only [aSeq, aForH, aLst, a68, aNil]
 refine no rfl (XT.other .full) ?_
 refine no rfl (XT.other .noWheel) ?_
 refine no rfl (XT.other .noJoin) ?_
 refine no rfl (XT.other .noName) ?_
 refine ⟨by decide, ?_⟩
 refine LoopP.by2 (fun i Γ M' => M' = M /\ ∃ o1, Γ = [some (.obj a), o1]) ⟨rfl, _, rfl⟩ (fun _ _ _ ⟨e, _⟩ => by rw [e]; exact ⟨_, he⟩) ?_ ?_
 . rintro E' i Γ M' hrt hi hnx ⟨rfl, o1, rfl⟩
   have hb : [D.bl false, .bl false, .bl false, .bl false].getD i .non = .bl false := by
     have hi : i < 4 := hi
     match i, hi with
     | 0, _ => rfl
     | 1, _ => rfl
     | 2, _ => rfl
     | 3, _ => rfl
     | n + 4, h => omega
   dsimp only
   rw [hb]
   exact ifV false (fun R h => h) (by rw [if_neg Bool.false_ne_true]; exact hnx _ _ ⟨rfl, _, rfl⟩)
 . rintro Γ M' ⟨rfl, o1, rfl⟩
   dsimp only
   refine a1d (fun R h => ?_) ?_
   . simp! only []
     refine no rfl (XT.other .noTeeth) ?_
     dsimp only
     rw [if_neg Bool.false_ne_true]
     refine no rfl XT.noText ?_
     dsimp only
     rw [if_neg Bool.false_ne_true]
     refine no rfl (XT.other .twice) ?_
     exact h
   . simp! only []
     refine yes rfl XT.same ?_
     dsimp only
     rw [if_pos rfl]
     refine yes rfl XT.value ?_
     exact .now q
def a8r (C : Addr) : SpA := fun ds M Q _ => ∃ (p d1 d2 : Addr) (S : TS) (x : Str), ds = [.obj p] /\ Tr C M p d1 d2 S /\ Sound S /\ a2i S none = some x /\ ∀ M', L2.Sub M M' -> Q .non M'
theorem a62 {f C EJ : Addr} {fd : FuncData} {EC : Rk -> Addr} (Fn : Fun K "_law_emptied" "_law_emptied" a2r f fd) (h_ring : HasD P w K mg base 44 "ring" ["train", "name"] (a0j K (a7b C EC))) (h_turns : HasD P w K mg base 45 "turns" ["train", "name"] (a0j K (a4n C EC EJ))) :
   FnOk P w K mg base (CXE P w) 46 f fd ["_law_train_here"] (a0j K (a8r C)) := by
 refine Fn.okA sc_law_emptied (fun ds M Q E h => ?_) ?_
 . obtain ⟨_, _, _, _, _, rfl, _⟩ := h; rfl
 intro cdv A outer s H E F0 ds M Q Ea hr ct hsp
 obtain ⟨p, d1, d2, S, x, rfl, tr, snd, hm, q⟩ := hsp
 refine ⟨_, (a0b (sSet (i := 1) sc_law_emptied.nd rfl (Or.inl rfl) (b1e h_ring (hr.mono (by decide)) (by rfl) ct (a0a (paV (pv 0)) a0f)))
     (a0i (sIf (a0q a80 lIs (paV (pv 1)) paN (a0n _))
       (a0b (sSet (i := 2) sc_law_emptied.nd rfl (Or.inl rfl) (b1e h_turns (hr.mono (by decide)) (by rfl) ct (a0a (paV (pv 0)) a0f)))
       (a0i (a2d (paBM0 PySem.F.plainAttrs_list PySem.F.slot_list_clear PySem.F.type_list_clear b1l lClear (paV (pv 2))))))
       (a0i (a2d (paBM0 PySem.F.plainAttrs_list PySem.F.slot_list_clear PySem.F.type_list_clear b1l lClear (paV (pv 1)))))))), ?_⟩
 refine ⟨p, d1, d2, S, none, rfl, tr, snd.fit, snd.nd, snd.une, ?_⟩
 rw [hm]
 intro t ist gr cl hl
 cases hf : S.js.find? (a1j S.ws (a0g S.ws t)) with
 | none =>
   dsimp only
   refine ifV true (fun R h => h) ?_
   rw [if_pos rfl]
   refine ⟨p, d1, d2, S, none, rfl, tr, snd.fit, ?_⟩
   rw [hm]
   intro t' ist' gr' cl' hl'
   obtain rfl := ist'.one ist
   rw [hf]
   intro r hr'
   refine ⟨?_, ?_⟩
   . show a2e (put M r (.lst _)) (.obj r) = "list"
     simp only [a2e, a0d]
   . show oClear (.obj r) [] (put M r (.lst _)) _
     simp only [oClear, a0d, a1e]
     exact .now (q _ (.put hr'))
 | some j =>
   dsimp only
   intro a rs hrs hrl r hr'
   refine ifV false (fun R h => h) ?_
   rw [if_neg Bool.false_ne_true]
   refine ⟨?_, ?_⟩
   . show a2e (put M r (.lst _)) (.obj r) = "list"
     simp only [a2e, a0d]
   . show oClear (.obj r) [] (put M r (.lst _)) _
     simp only [oClear, a0d, a1e]
     exact .now (q _ (.put hr'))
def a33 (C : Addr) : SpA := fun ds M Q _ => ∃ (p d1 d2 : Addr) (S : TS) (o : Option Str) (v : Int), ds = [.obj p, encN o, .int v] /\ Tr C M p d1 d2 S /\ Sound S /\ a2i S o = none /\ Q (.bl true) M
theorem a61 {f C EJ : Addr} {fd : FuncData} {EC : Rk -> Addr} (Fn : Fun K "_law_refused" "_law_refused" a2q f fd) (XK : ExK K mg EC) (xm : PySem.W.exmOne K (.ref (EC .noWheel)) (.ref (EC .noWheel)) = some true)
   (h_ring : HasD P w K mg base 44 "ring" ["train", "name"] (a0j K (a7b C EC))) (h_turns : HasD P w K mg base 45 "turns" ["train", "name"] (a0j K (a4n C EC EJ))) : FnOk P w K mg base (CXE P w) 46 f fd ["_law_train_here", "_law_name_here", "_law_way_here"] (a0j K (a33 C)) := by
 refine Fn.okA sc_law_refused (fun ds M Q E h => ?_) ?_
 . obtain ⟨_, _, _, _, _, _, rfl, _⟩ := h; rfl
 intro cdv A outer s H E F0 ds M Q Ea hr ct hsp
 obtain ⟨p, d1, d2, S, o, v, rfl, tr, snd, hm, q⟩ := hsp
 have X_NoWheel := XK.noWheel
 refine ⟨_, (a0b (sSet (i := 3) sc_law_refused.nd rfl (Or.inl rfl) paB)
     (a0b (sTry ct (fun _ _ _ ct => (a0i (sIf (a0q (a1k (un64 ct)) lEq (paV (pv 2)) paI (a0n _))
           (a0i (a2d (a0t h_ring.all (hr.mono (by decide)) (by rfl) ct (a0a (paV (pv 0)) (a0a (paV (pv 1)) a0f)))))
           (a0i (a2d (a0t h_turns.all (hr.mono (by decide)) (by rfl) ct (a0a (paV (pv 0)) (a0a (paV (pv 1)) a0f))))))))
       (fun pn => (haCons (K' := K) rfl (ct.pl.pin pn) X_NoWheel.bound (by rfl) (fun _ => (a0i (sSet (i := 3) sc_law_refused.nd rfl (Or.inl rfl) paB))) (haNil ct rfl pn))) a0s)
     (a0i (sRet (paV (pv 3)))))), ?_⟩
 refine seqV (.bl false) M (fun R h => h) ?_
 by_cases hv : v = 0
 . refine (show aIf _ _ _ _ _ _ from ?_)
   refine ifV true (fun R h => by simp! only [decide_eq_true hv]; exact h) ?_
   rw [if_pos rfl]
   refine ⟨p, d1, d2, S, o, rfl, tr, snd.fit, snd.nd, snd.une, ?_⟩
   rw [hm]
   refine ⟨true, xm, ?_⟩
   rw [if_pos rfl]
   intro _
   exact .now q
 . refine (show aIf _ _ _ _ _ _ from ?_)
   refine ifV false (fun R h => by simp! only [decide_eq_false hv]; exact h) ?_
   rw [if_neg Bool.false_ne_true]
   refine ⟨p, d1, d2, S, o, rfl, tr, snd.fit, ?_⟩
   rw [hm]
   refine ⟨true, xm, ?_⟩
   rw [if_pos rfl]
   intro _
   exact .now q
theorem b50 (s k : Nat) : PySem.PyData.strOk (a1s s k) = true := by
 unfold PySem.PyData.strOk
 rw [<- Array.all_toList]
 refine List.all_eq_true.mpr fun c hc => ?_
 have h3 := a3d (s := s) (k := k) hc
 exact decide_eq_true (by omega)
theorem Rw.ok {s : Nat} {ws : List (Str × Int)} {js : List (Str × Nat × Nat)} (r : Rw s ws js) : ∀ x ∈ ws.map Prod.fst, PySem.PyData.strOk x = true := by
 intro x hx
 obtain ⟨k, _, rfl⟩ := r.name hx
 exact b50 s k
theorem Rw.no {s : Nat} {ws : List (Str × Int)} {js : List (Str × Nat × Nat)} (r : Rw s ws js) {x : Str} (h : x ∈ noNames) : x ∉ ws.map Prod.fst := by
 intro z
 obtain ⟨k, _, rfl⟩ := r.name z
 exact b51 s k h
theorem Rw.gw {s : Nat} {ws : List (Str × Int)} {js : List (Str × Nat × Nat)} (r : Rw s ws js) : Gd 2 (.lst (ws.map eW)) := .lst _ _ fun d hd => by
 obtain ⟨x, hx, rfl⟩ := List.mem_map.mp hd
 refine .tup _ _ fun e he => ?_
 simp only [List.mem_cons, List.not_mem_nil, or_false] at he
 rcases he with rfl | rfl
 . exact .str _ _ (r.ok _ (List.mem_map.mpr ⟨x, hx, rfl⟩))
 . exact .int _ _
theorem Rw.fit {s : Nat} {ws : List (Str × Int)} {js : List (Str × Nat × Nat)} (r : Rw s ws js) (hw : ws.length <= 80) (hj : js.length <= 80) : Fit (tsOf ws js) := by
 refine ⟨r.nodup (by omega), r.teeth, fun j hj' => ?_, Nat.le_trans hw (by decide), ?_⟩
 . obtain ⟨i, hi, e⟩ := List.mem_mapIdx.mp (show j ∈ js.mapIdx (a8b (ws.map Prod.fst)) from hj')
   obtain ⟨_, k2, k3, _⟩ := r.kinds _ (List.getElem_mem hi)
   rw [<- e]
   exact ⟨a3m (by rw [List.length_map]; exact k2), a3m (by rw [List.length_map]; exact k3)⟩
 . show (js.mapIdx _).length <= 200
   rw [List.length_mapIdx]; omega
theorem at_fst {ws : List (Str × Int)} {i : Nat} (h : i < ws.length) : at_ (ws.map Prod.fst) i = (ws[i]).1 := by
 unfold at_
 rw [List.getD_eq_getElem?_getD, List.getElem?_map, List.getElem?_eq_getElem h]; rfl
theorem Rw.sound {s : Nat} {ws : List (Str × Int)} {js : List (Str × Nat × Nat)} (r : Rw s ws js) (hw : ws.length <= 80) (hj : js.length <= 80) : Sound (tsOf ws js) := by
 refine ⟨r.fit hw hj, b4x _ _, fun j hj' e => ?_⟩
 obtain ⟨m, hm, rfl⟩ := a77 hj'
 obtain ⟨_, k1, k2, k3⟩ := r.kinds _ (List.getElem_mem hm)
 have hl : (ws.map Prod.fst).length = ws.length := List.length_map ..
 exact k3 (a4k (r.nodup (by omega)) (by omega) (by omega) e)
theorem b61 {ws : List (Str × Int)} {js : List Jn} {x : Str} {t : TT} (g : Grown js x t) : lk (a0g ws t) x = (1, 1) := by
 induction g with
 | root => simp [a0g, a5x, lk]
 | more t n e g new old by_ ih => rw [a1p, b4i (by rw [a0x]; exact g.start)]; exact ih
theorem a8p {ws : List (Str × Int)} {sh : Sh} {k : Nat} (h : k < ws.length) : (tsO ws sh).getD k none = if at_ (ws.map Prod.fst) k ∈ sh.map Prod.fst then some (lk sh (at_ (ws.map Prod.fst) k)) else none := by
 rw [at_fst h]
 unfold tsO
 rw [List.getD_eq_getElem?_getD, List.getElem?_map, List.getElem?_eq_getElem h]; rfl
theorem b55 {ws : List (Str × Int)} {sh : Sh} {k : Nat} {x : Fr} (h : (tsO ws sh).getD k none = some x) : ∃ n, n ∈ sh.map Prod.fst /\ x = lk sh n := by
 by_cases hk : k < ws.length
 . rw [a8p hk] at h
   split at h
   . rename_i h1; exact ⟨_, h1, (Option.some.inj h).symm⟩
   . cases h
 . have : (tsO ws sh).getD k none = none := by
     unfold tsO
     rw [List.getD_eq_getElem?_getD, List.getElem?_eq_none (by simp; omega)]; rfl
   rw [this] at h; cases h
section
variable {s : Nat} {ws : List (Str × Int)} {js : List (Str × Nat × Nat)} {a : Nat} {t : TT} {bs : List Bool}
theorem a5r (r : Rw s ws js) (hw : ws.length <= 80) (ha : a < ws.length) (gr : Grown (a1i (ws.map Prod.fst) js) (at_ (ws.map Prod.fst) a) t) (cl : a2n (a1i (ws.map Prod.fst) js) t) (hbs : ∀ b, bs.getD b false = true ↔ Hung (esOf js) a b) {k : Nat} (hk : k < ws.length) :
   bs.getD k false = true ↔ at_ (ws.map Prod.fst) k ∈ names t := by
 have N := r.net (by omega)
 have hl : (ws.map Prod.fst).length = ws.length := List.length_map ..
 rw [hbs, <- N.reach_iff (by omega) (by omega)]
 exact ⟨fun h => gr.all cl h, fun h => gr.reach _ h⟩
theorem free_ok (r : Rw s ws js) (hw : ws.length <= 80) (hj : js.length <= 80) (ha : a < ws.length) (gr : Grown (a1i (ws.map Prod.fst) js) (at_ (ws.map Prod.fst) a) t) (cl : a2n (a1i (ws.map Prod.fst) js) t) (hbs : ∀ b, bs.getD b false = true ↔ Hung (esOf js) a b)
   (hno : (a1i (ws.map Prod.fst) js).find? (a1j ws (a0g ws t)) = none) :
   (∀ k, k < ws.length -> bs.getD k false = ((tsO ws (a0g ws t)).getD k none).isSome) /\ (∀ k x, (tsO ws (a0g ws t)).getD k none = some x -> Low x /\ Bg 3000 x.1 /\ Bg 3000 x.2) /\ (tsO ws (a0g ws t)).getD a none = some (1, 1) /\
   (∀ (i : Nat) (h : i < js.length) (h1 : (js[i]).2.1 < ws.length) (h2 : (js[i]).2.2 < ws.length), bs.getD (js[i]).2.1 false = true -> ∃ x y, (tsO ws (a0g ws t)).getD (js[i]).2.1 none = some x /\ (tsO ws (a0g ws t)).getD (js[i]).2.2 none = some y /\ x.1 * (byF (js[i]).1 (ws[(js[i]).2.1]).2 (ws[(js[i]).2.2]).2).1 * y.2 = y.1 * x.2 * (byF (js[i]).1 (ws[(js[i]).2.1]).2 (ws[(js[i]).2.2]).2).2) := by
 have hl : (ws.map Prod.fst).length = ws.length := List.length_map ..
 have fit := r.fit hw hj
 have nd := r.nodup (by omega)
 have hnm := a0x ws t
 have hin : at_ (ws.map Prod.fst) a ∈ ws.map Prod.fst := a3m (by omega)
 have hsh : t.length <= 100 := gr.short fit hin
 have hsm := a13 fit.teeth gr
 have low : ∀ m ∈ names t, Low (lk (a0g ws t) m) := a3f fit.teeth gr
 refine ⟨fun k hk => ?_, fun k x hx => ?_, ?_, fun i h h1 h2 hb => ?_⟩
 . rw [a8p hk, hnm]
   by_cases hn : at_ (ws.map Prod.fst) k ∈ names t
   . rw [if_pos hn, (a5r r hw ha gr cl hbs hk).mpr hn]; rfl
   . rw [if_neg hn]
     cases hb : bs.getD k false with
     | false => rfl
     | true => exact absurd ((a5r r hw ha gr cl hbs hk).mp hb) hn
 . obtain ⟨n, hn, rfl⟩ := b55 hx
   obtain ⟨e, he, _, ee⟩ := b1p hn
   rw [hnm] at hn
   have sm := (hsm e he).up hsh
   refine ⟨low n hn, ?_, ?_⟩
   . rw [ee]; exact sm.2.2
   . rw [ee]
     have h1 := sm.1
     have h2 := sm.2.1
     have e3 : ((2 ^ (30 * 100) : Nat) : Int) = (2 : Int) ^ (30 * 100) := by rw [Int.natCast_pow]; rfl
     unfold Bg
     have : (e.2.2.natAbs : Int) < ((2 ^ (30 * 100) : Nat) : Int) := by rw [e3]; omega
     exact Int.ofNat_lt.mp this
 . rw [a8p ha, hnm, if_pos gr.start, b61 gr]
 . have n1 := (a5r r hw ha gr cl hbs h1).mp hb
   have hm : a8b (ws.map Prod.fst) i js[i] ∈ a1i (ws.map Prod.fst) js := a8c h
   have n2 : at_ (ws.map Prod.fst) (js[i]).2.2 ∈ names t := cl _ n1 _ (a5q hm)
   refine ⟨_, _, by rw [a8p h1, hnm, if_pos n1], by rw [a8p h2, hnm, if_pos n2], ?_⟩
   have hj := List.find?_eq_none.mp hno _ hm
   have e : mulF (lk (a0g ws t) (at_ (ws.map Prod.fst) (js[i]).2.1)) (fac (js[i]).1 (a0k ws (at_ (ws.map Prod.fst) (js[i]).2.1)) (a0k ws (at_ (ws.map Prod.fst) (js[i]).2.2))) = lk (a0g ws t) (at_ (ws.map Prod.fst) (js[i]).2.2) := by
     by_cases e : mulF (lk (a0g ws t) (at_ (ws.map Prod.fst) (js[i]).2.1)) (fac (js[i]).1 (a0k ws (at_ (ws.map Prod.fst) (js[i]).2.1)) (a0k ws (at_ (ws.map Prod.fst) (js[i]).2.2))) = lk (a0g ws t) (at_ (ws.map Prod.fst) (js[i]).2.2)
     . exact e
     . refine absurd ?_ hj
       unfold a1j a8b
       dsimp only
       rw [hnm, decide_eq_true n1, eqD_f, decide_eq_false e]; rfl
   rw [a3e nd h1, a3e nd h2] at e
   have t1 := r.teeth _ (List.getElem_mem h1)
   have t2 := r.teeth _ (List.getElem_mem h2)
   exact (a76 (by have := (low _ n1).1; omega) (low _ n2) t1.1 t2.1).mp e
end
def WayOk (S : TS) (x : Str) (M : Mem) (v : D) : Prop := ∃ t, IsTree S.js x t /\ Grown S.js x t /\ a2n S.js t /\ match S.js.find? (a1j S.ws (a0g S.ws t)) with
 | some _ => ∃ r a rs, v = .obj r /\ M r = some (.lst (rs.map eSt)) /\ Ring S.ws S.js x a rs /\ rs.length <= 500
 | none => v = .non
theorem WayOk.sub {S : TS} {x : Str} {M M' : Mem} {v : D} (h : WayOk S x M v) (sb : L2.Sub M M') : WayOk S x M' v := by
 obtain ⟨t, h1, h2, h3, h4⟩ := h
 refine ⟨t, h1, h2, h3, ?_⟩
 revert h4
 cases S.js.find? (a1j S.ws (a0g S.ws t)) with
 | none => exact id
 | some j => exact fun ⟨r, a, rs, e1, e2, e3⟩ => ⟨r, a, rs, e1, sb _ _ e2, e3⟩
theorem b0z {C p d1 d2 : Addr} {S : TS} {x : Str} {b : Bool} {M : Mem} {Q : AK} {E : Value -> Mem -> Prop} (tr : Tr C M p d1 d2 S) (snd : Sound S) (as : asksB S x b) (h : ∀ v M', L2.Sub M M' -> WayOk S x M' v -> Q v M') : b26 C [.obj p, .str x, .bl b] M Q E := by
 refine ⟨p, d1, d2, S, x, b, rfl, tr, snd, as, fun t ist gr cl _ => ?_⟩
 cases hf : S.js.find? (a1j S.ws (a0g S.ws t)) with
 | none => exact h _ _ (fun _ _ z => z) ⟨t, ist, gr, cl, by rw [hf]⟩
 | some j => exact fun a rs h1 h2 r h3 => h _ _ (.put h3) ⟨t, ist, gr, cl, by rw [hf]; exact ⟨r, a, rs, rfl, a0d, h1, h2⟩⟩
def a7s (C : Addr) : SpA := fun ds M Q _ => ∃ (p d1 d2 : Addr) (s : Nat) (ws : List (Str × Int)) (js : List (Str × Nat × Nat)) (a : Nat) (b1 b2 : Bool), ds = [.obj p, .lst (ws.map eW), .lst (js.map eK), .int a, .lst [.bl b1, .bl b2]] /\ Tr C M p d1 d2 (tsOf ws js) /\ Rw s ws js /\ ws.length <= 80 /\ js.length <= 80 /\ a < ws.length /\ (b2 = true -> a = 0) /\ ∀ M', L2.Sub M M' -> Q (.bl true) M'
theorem a86 {f C EJ CX CT : Addr} {fd : FuncData} {EC : Rk -> Addr} (Fn : Fun K "_law_asked" "_law_asked" a3t f fd) (T : Txt K mg) (XT : ExJ K mg EC EJ CX CT)
   (h_law_hung : Has P w K mg base (CXE P w) 1 "_law_hung" ["_law_many", "_law_joins", "_law_start"] (a0j K b3c)) (h_law_way : Has P w K mg base (CXE P w) 46 "_law_way" ["_law_train_here", "_law_name_here", "_law_left_out"] (a0j K (b26 C)))
   (h_law_told : Has P w K mg base (CXE P w) 46 "_law_told" ["_law_train_here", "_law_name_here", "_law_left_out"] (a0j K (b28 C EJ))) (h_law_only : HasH P w K mg base 1 "_law_only" ["_law_e"] (fun a => a0j K (spOnly EJ a)))
   (h_law_jammed : Has P w K mg base (CXE P w) 3 "_law_jammed" ["_law_way_here", "_law_wheels", "_law_joins", "_law_hung_here"] (a0j K a7q)) (h_law_free : Has P w K mg base (CXE P w) 3 "_law_free" ["_law_told_here", "_law_wheels", "_law_joins", "_law_hung_here", "_law_start"] (a0j K a9w)) :
   FnOk P w K mg base (CXE P w) 47 f fd ["_law_train_here", "_law_wheels", "_law_joins", "_law_start", "_law_ways"] (a0j K (a7s C)) := by
 refine Fn.okA sc_law_asked (fun ds M Q E h => ?_) ?_
 . obtain ⟨_, _, _, _, _, _, _, _, _, rfl, _⟩ := h; rfl
 intro cdv A outer s H E F0 ds M Q Ea hr ct hsp
 obtain ⟨p, d1, d2, sn, ws, js, a, b1, b2, rfl, tr, rw', hw, hj, ha, hb2, q⟩ := hsp
 refine ⟨_, (a0b (sSet (i := 5) sc_law_asked.nd rfl (Or.inl rfl) (paIx a0e lIx (paIx a0e lIx (paV (pv 1)) (paV (pv 3)) (fun _ _ => rfl)) paI (fun _ _ => rfl)))
     (a0b (sSet (i := 6) sc_law_asked.nd rfl (Or.inl rfl) (a0t h_law_hung (hr.mono (by decide)) (by rfl) ct (a0a (a02 a0v lLen (by rfl) T.len PySem.boot_len (a0a (paV (pv 1)) a0f)) (a0a (paV (pv 2)) (a0a (paV (pv 3)) a0f)))))
     (a0b (sSet (i := 7) sc_law_asked.nd rfl (Or.inl rfl) paN)
     (a0b (sIf (ptV (paIx a0e lIx (paV (pv 4)) paI (fun _ _ => rfl)))
       (a0i (sSet (i := 7) sc_law_asked.nd rfl (Or.inl rfl) (a0t h_law_way (hr.mono (by decide)) (by rfl) ct (a0a (paV (pv 0)) (a0a (paV (pv 5)) (a0a (paIx a0e lIx (paV (pv 4)) paI (fun _ _ => rfl)) a0f))))))
       a0s)
     (a0b (sSet (i := 8) sc_law_asked.nd rfl (Or.inl rfl) paN)
     (a0b (sSet (i := 9) sc_law_asked.nd rfl (Or.inl rfl) paB)
     (a0b (sSet (i := 10) sc_law_asked.nd rfl (Or.inl rfl) paB)
     (a0b (sTry ct (fun _ _ _ ct => (a0i (sSet (i := 8) sc_law_asked.nd rfl (Or.inl rfl) (a0t h_law_told (hr.mono (by decide)) (by rfl) ct (a0a (paV (pv 0)) (a0a (paV (pv 5)) (a0a (paIx a0e lIx (paV (pv 4)) paI (fun _ _ => rfl)) a0f)))))))
       (fun pn => (haAs (i := 11) (K' := K) rfl (ct.pl.pin pn) sc_law_asked.nd rfl rfl XT.bT (by rfl) (fun _ => (a0b (sSet (i := 9) sc_law_asked.nd rfl (Or.inl rfl) paB)
         (a0i (sSet (i := 10) sc_law_asked.nd rfl (Or.inl rfl) (paFunH h_law_only ((hr.mono (by decide)).hand _) rfl (by rfl) (a0a (paV (pv 11)) a0f)))))) (haNil ct rfl pn))) a0s)
     (a0b (sIf (a3u (ptV (paIx a0e lIx (paV (pv 4)) paI (fun _ _ => rfl))))
       (a0i (sSet (i := 7) sc_law_asked.nd rfl (Or.inl rfl) (a0t h_law_way (hr.mono (by decide)) (by rfl) ct (a0a (paV (pv 0)) (a0a (paV (pv 5)) (a0a (paIx a0e lIx (paV (pv 4)) paI (fun _ _ => rfl)) a0f))))))
       a0s)
     (a0b (sIf (ptV (paV (pv 9)))
       (a0i (sRet (b33 (paV (pv 10)) (b31 (a0t h_law_jammed (hr.mono (by decide)) (by rfl) ct (a0a (paV (pv 7)) (a0a (paV (pv 1)) (a0a (paV (pv 2)) (a0a (paV (pv 6)) a0f)))))))))
       a0s)
     (a0i (sRet (b33 (a8y a80 lIs (paV (pv 7)) paN (a0n _)) (b31 (a0t h_law_free (hr.mono (by decide)) (by rfl) ct (a0a (paV (pv 8)) (a0a (paV (pv 1)) (a0a (paV (pv 2)) (a0a (paV (pv 6)) (a0a (paV (pv 3)) a0f)))))))))))))))))))), ?_⟩
 have snd := rw'.sound hw hj
 have hl : (ws.map Prod.fst).length = ws.length := List.length_map ..
 have ea := w_at ha
 have efst := at_fst ha
 generalize hx : at_ (ws.map Prod.fst) a = x at *
 have as : asksB (tsOf ws js) x b2 := by
   refine ⟨by rw [<- hx]; exact a3m (ns := ws.map Prod.fst) (by omega), fun h2 => ?_⟩
   have h0 := hb2 h2
   subst h0
   rw [<- hx]
   show (ws.map Prod.fst).head? = some ((ws.map Prod.fst).getD 0 "")
   cases ws with
   | nil => cases ha
   | cons _ _ => rfl
 refine seqV (.str x) M (fun R h => by
   simp! only [ea, eW, <- efst]
   exact h) ?_
 refine cut1 (fun Γ' M1 => M1 = M /\ ∃ bs : List Bool, bs.length = ws.length /\ (∀ b, bs.getD b false = true ↔ Hung (esOf js) a b) /\ Γ' = [some (.obj p), some (.lst (ws.map eW)), some (.lst (js.map eK)), some (.int a), some (.lst [.bl b1, .bl b2]), some (.str x), some (.lst (bs.map D.bl)), none, none, none, none, none]) ?_ ?_
 rotate_left
 . intro rest hrest
   simp! only [b3c, List.length_map]
   exact ⟨ws.length, js, a, rfl, by omega, ha, fun j hj' => ⟨(rw'.kinds j hj').2.1, (rw'.kinds j hj').2.2.1⟩, fun bs h1 h2 => hrest _ _ ⟨rfl, bs, h1, h2, rfl⟩⟩
 rintro Γ' M1 ⟨rfl, bs, hbl, hbs, rfl⟩
 refine seqV .non M1 (fun R h => h) ?_
 refine cut1 (fun Γ' M2 => L2.Sub M1 M2 /\ ∃ v, (b1 = true -> WayOk (tsOf ws js) x M2 v) /\ Γ' = [some (.obj p), some (.lst (ws.map eW)), some (.lst (js.map eK)), some (.int a), some (.lst [.bl b1, .bl b2]), some (.str x), some (.lst (bs.map D.bl)), some v, none, none, none, none]) ?_ ?_
 rotate_left
 . intro rest hrest
   refine b3g b1 (fun R h => by simp! only []; exact h) ?_
   cases b1 with
   | true =>
     rw [if_pos rfl]
     simp! only []
     exact b0z tr snd as fun v M' sb wo => hrest _ _ ⟨sb, v, fun _ => wo, rfl⟩
   | false =>
     rw [if_neg Bool.false_ne_true]
     exact hrest _ _ ⟨fun _ _ z => z, .non, (fun z => by cases z), rfl⟩
 rintro Γ' M2 ⟨sb2, v, hv, rfl⟩
 refine seqV .non M2 (fun R h => h) (seqV (.bl false) M2 (fun R h => h) (seqV (.bl false) M2 (fun R h => h) ?_))
 refine cut1 (fun Γ' M3 => L2.Sub M2 M3 /\ ∃ t, IsTree (tsOf ws js).js x t /\ Grown (tsOf ws js).js x t /\ a2n (tsOf ws js).js t /\ ∃ l b, b = ((tsOf ws js).js.find? (a1j (tsOf ws js).ws (a0g (tsOf ws js).ws t))).isSome /\ (b = false -> l = .lst (told (tsOf ws js).ws (a0g (tsOf ws js).ws t))) /\ Γ' = [some (.obj p), some (.lst (ws.map eW)), some (.lst (js.map eK)), some (.int a), some (.lst [.bl b1, .bl b2]), some (.str x), some (.lst (bs.map D.bl)), some v, some l, some (.bl b), some (.bl b), none]) ?_ ?_
 rotate_left
 . intro rest hrest
   refine ⟨trivial, p, d1, d2, tsOf ws js, x, b2, rfl, tr.sub sb2, snd, as, fun t ist gr cl _ => ?_⟩
   cases hf : (tsOf ws js).js.find? (a1j (tsOf ws js).ws (a0g (tsOf ws js).ws t)) with
   | none => exact hrest _ _ ⟨fun _ _ z => z, t, ist, gr, cl, _, false, by rw [hf]; rfl, fun _ => rfl, rfl⟩
   | some j =>
     intro M' sb'
     refine ⟨true, XT.train, ?_⟩
     rw [if_pos rfl]
     intro e he
     refine seqV (.bl true) _ (fun R h => h) ?_
     exact ⟨rfl, a0d, hrest _ _ ⟨L2.Sub.trans sb' (.put he), t, ist, gr, cl, .non, true, by rw [hf]; rfl, (fun z => by cases z), rfl⟩⟩
 rintro Γ' M3 ⟨sb3, t, ist, gr, cl, l, b, hb, hlt, rfl⟩
 have sb13 := L2.Sub.trans sb2 sb3
 refine cut1 (fun Γ' M4 => L2.Sub M3 M4 /\ ∃ v, WayOk (tsOf ws js) x M4 v /\ Γ' = [some (.obj p), some (.lst (ws.map eW)), some (.lst (js.map eK)), some (.int a), some (.lst [.bl b1, .bl b2]), some (.str x), some (.lst (bs.map D.bl)), some v, some l, some (.bl b), some (.bl b), none]) ?_ ?_
 rotate_left
 . intro rest hrest
   refine b3g (!b1) (fun R h => by simp! only []; exact h) ?_
   cases b1 with
   | true =>
     rw [if_neg (by decide)]
     exact hrest _ _ ⟨fun _ _ z => z, v, (hv rfl).sub sb3, rfl⟩
   | false =>
     rw [if_pos (by decide)]
     simp! only []
     exact b0z (tr.sub sb13) snd as fun v' M' sb wo => hrest _ _ ⟨sb, v', wo, rfl⟩
 rintro Γ' M4 ⟨sb4, v4, wo, rfl⟩
 have sb14 := L2.Sub.trans sb13 sb4
 obtain ⟨t', ist', gr', cl', wo⟩ := wo
 obtain rfl := ist'.one ist
 have hgx : Grown (a1i (ws.map Prod.fst) js) (at_ (ws.map Prod.fst) a) t' := by rw [hx]; exact gr'
 cases hf : (tsOf ws js).js.find? (a1j (tsOf ws js).ws (a0g (tsOf ws js).ws t')) with
 | some j =>
   rw [hf] at wo hb
   obtain ⟨r, a', rs, rfl, hr4, ring, hrl⟩ := wo
   subst hb
   refine a2x (fun R h => h) ?_
   simp! only [a7q, Option.isSome_some]
   refine ⟨r, rs, sn, ws, js, bs, x, a', rfl, hr4, rw', hw, hj, hrl, ring, hbl, fun k hk hre => ?_, fun M' sb' => .now (q _ (L2.Sub.trans sb14 sb'))⟩
   refine (a5r rw' hw ha hgx cl' hbs hk).mpr (gr'.all cl' hre)
 | none =>
   rw [hf] at wo hb
   subst hb
   have wo : v4 = .non := wo
   rw [wo, hlt rfl]
   obtain ⟨f1, f2, f3, f4⟩ := free_ok rw' hw hj ha hgx cl' hbs hf
   refine a1d (fun R h => h) ?_
   simp! only [a9w]
   have etl : (tsO ws (a0g ws t')).length = ws.length := by unfold tsO; exact List.length_map ..
   have etd : told (tsOf ws js).ws (a0g (tsOf ws js).ws t') = (tsO ws (a0g ws t')).map eO := told_eq ws (a0g ws t')
   rw [etd]
   exact ⟨_, sn, ws, js, bs, a, rfl, rw', hw, etl, hbl, ha, f1, f2, f3, f4, .now (q _ sb14)⟩
theorem ok_law {f C : Addr} {fd : FuncData} {EC : Rk -> Addr} (Fn : Fun K "law" "law" a7v f fd) (T : Txt K mg) (h_law_cell_at : Has P w K mg base (CXE P w) 1 "_law_cell_at" ["_law_script", "_law_k"] (a0j K a7d))
   (h_law_rows : Has P w K mg base (CXE P w) 4 "_law_rows" ["_law_script"] (a0j K spRows)) (h_law_train : Has P w K mg base (CXE P w) 3 "_law_train" ["_law_wheels", "_law_joins"] (a0j K (b27 C)))
   (h_law_refused : Has P w K mg base (CXE P w) 46 "_law_refused" ["_law_train_here", "_law_name_here", "_law_way_here"] (a0j K (a33 C))) (h_law_asked : Has P w K mg base (CXE P w) 47 "_law_asked" ["_law_train_here", "_law_wheels", "_law_joins", "_law_start", "_law_ways"] (a0j K (a7s C)))
   (h_law_emptied : Has P w K mg base (CXE P w) 46 "_law_emptied" ["_law_train_here"] (a0j K (a8r C))) : FnOk P w K mg base (CXE P w) 48 f fd ["_law_script"] (a0j K spTrue) := by
 refine Fn.okA sc_law (fun ds M Q E h => ?_) ?_
 . obtain ⟨a, rfl, _⟩ := h; rfl
 intro cdv A outer s H E F0 ds M Q Ea hr ct hsp
 obtain ⟨sc, rfl, hsc, q⟩ := hsp
 refine ⟨_, (a0b (sAsg (a0t h_law_rows (hr.mono (by decide)) (by rfl) ct (a0a (paV (pv 0)) a0f)) (tgLst rfl (a0w (a0r (i := 1) sc_law.nd rfl (Or.inl rfl)) (a0w (a0r (i := 2) sc_law.nd rfl (Or.inl rfl)) a3i))))
     (a0b (sSet (i := 3) sc_law.nd rfl (Or.inl rfl) (a0t h_law_train (hr.mono (by decide)) (by rfl) ct (a0a (paV (pv 1)) (a0a (paV (pv 2)) a0f))))
     (a0b (sSet (i := 4) sc_law.nd rfl (Or.inl rfl) (a0t h_law_cell_at (hr.mono (by decide)) (by rfl) ct (a0a (paV (pv 0)) (a0a paI a0f))))
     (a0b (sSet (i := 5) sc_law.nd rfl (Or.inl rfl) (paIx a0e lIx (a4d (a0a paS (a0a paS (a0a paS (a0a paS a0f))))) (paOp a07 lMod (paV (pv 4)) paI) (fun _ _ => rfl)))
     (a0b (sIf ((pwOr (a3u (ptV (a0t h_law_refused (hr.mono (by decide)) (by rfl) ct (a0a (paV (pv 3)) (a0a (paV (pv 5)) (a0a paI a0f)))))) (a39 (a3u (ptV (a0t h_law_refused (hr.mono (by decide)) (by rfl) ct (a0a (paV (pv 3)) (a0a (paV (pv 5)) (a0a paI a0f))))))))).pt
       (a0i (sRet paB))
       a0s)
     (a0b (sIf (a0q (a1k (un64 ct)) lEq (paV (pv 1)) (a4d a0f) (a0n _))
       (a0i (sRet (b33 (a0t h_law_refused (hr.mono (by decide)) (by rfl) ct (a0a (paV (pv 3)) (a0a paN (a0a paI a0f)))) (b31 (a0t h_law_refused (hr.mono (by decide)) (by rfl) ct (a0a (paV (pv 3)) (a0a paN (a0a paI a0f))))))))
       a0s)
     (a0b (sSet (i := 6) sc_law.nd rfl (Or.inl rfl) (paOp a07 lMod (paOp a1c lMul (a0t h_law_cell_at (hr.mono (by decide)) (by rfl) ct (a0a (paV (pv 0)) (a0a paI a0f))) paI) (a02 a0v lLen (by rfl) T.len PySem.boot_len (a0a (paV (pv 1)) a0f))))
     (a0b (sSet (i := 7) sc_law.nd rfl (Or.inl rfl) (a8y (a1k (un64 ct)) lEq (paOp a07 lMod (paOp a4z lDiv (paV (pv 4)) paI) paI) paI (a0n _)))
     (a0b (sIf (a3u (ptV (a0t h_law_asked (hr.mono (by decide)) (by rfl) ct (a0a (paV (pv 3)) (a0a (paV (pv 1)) (a0a (paV (pv 2)) (a0a (paV (pv 6)) (a0a (a4d (a0a (paV (pv 7)) (a0a paB a0f))) a0f))))))))
       (a0i (sRet paB))
       a0s)
     (a0b (a2d (a0t h_law_emptied (hr.mono (by decide)) (by rfl) ct (a0a (paV (pv 3)) a0f)))
     (a0i (sRet (a0t h_law_asked (hr.mono (by decide)) (by rfl) ct (a0a (paV (pv 3)) (a0a (paV (pv 1)) (a0a (paV (pv 2)) (a0a paI (a0a (a4d (a0a (paNot (paV (pv 7))) (a0a paB a0f))) a0f)))))))))))))))))), ?_⟩
 refine cut2 (fun Γ' M1 => ∃ s ws js p d1 d2, Rw s ws js /\ ws.length <= 80 /\ js.length <= 80 /\ Γ' = [some (.scr (sc.map D.int)), some (.lst (ws.map eW)), some (.lst (js.map eK)), some (.obj p), none, none, none, none] /\ Tr C M1 p d1 d2 (tsOf ws js)) ?_ ?_
 rotate_left
 . intro rest hrest
   refine ⟨sc, rfl, Nat.le_trans hsc.1 (by decide), fun s' ws js rw' hw hj M' sb => ?_⟩
   refine ⟨rfl, rfl, ?_⟩
   exact ⟨s', ws, js, rfl, rw', hw, hj, fun p d1 d2 M'' _ tr => hrest _ _ ⟨s', ws, js, p, d1, d2, rw', hw, hj, rfl, tr⟩⟩
 rintro Γ' M1 ⟨s', ws, js, p, d1, d2, rw', hw, hj, rfl, tr⟩
 have snd := rw'.sound hw hj
 have gw := rw'.gw.sh
 have hl : (ws.map Prod.fst).length = ws.length := List.length_map ..
 generalize hst : cell sc 0 = st
 refine seqV (.int st) M1 (fun R h => by
   simp! only [a7d]
   exact ⟨sc, 0, rfl, by decide, by rw [hst]; exact h⟩) ?_
 obtain ⟨no, hno, hno2⟩ : ∃ no : Str, atI [D.str "", .str "zzzzzzzz", .str "A", .str "a b"] (st % 4) = some (.str no) /\ no ∈ noNames := by
   have h1 := Int.emod_nonneg st (show (4 : Int) ≠ 0 by decide)
   have h2 := Int.emod_lt_of_pos st (show (0 : Int) < 4 by decide)
   exact at_map D.str ["", "zzzzzzzz", "A", "a b"] (st % 4) h1 (by simpa using h2)
 have hnm : a2i (tsOf ws js) (some no) = none := if_neg (rw'.no hno2)
 refine seqV (.str no) M1 (fun R h => by
   simp! only [hno]
   exact ⟨by decide, by decide, h⟩) ?_
 refine a1d (fun R h => by
   simp! only [a33]
   exact ⟨p, d1, d2, _, some no, 0, rfl, tr, snd, hnm, p, d1, d2, _, some no, 1, rfl, tr, snd, hnm, h⟩) ?_
 by_cases h0 : ws.length = 0
 . have : ws = [] := List.eq_nil_of_length_eq_zero h0
   subst this
   refine a2x (fun R h => ⟨by decide, b7d (d := .lst []) gw h⟩) ?_
   simp! only [a33]
   exact ⟨p, d1, d2, _, none, 0, rfl, tr, snd, rfl, p, d1, d2, _, none, 1, rfl, tr, snd, rfl, .now (q _)⟩
 have h0 : 0 < ws.length := by omega
 refine a1d (fun R h => ?_) ?_
 . refine ⟨by decide, .inr ⟨gw, show shD (.lst []) = true by decide +kernel⟩, ?_⟩
   cases ws with
   | nil => cases h0
   | cons a l => exact h
 obtain ⟨dr', hdr⟩ := Int.eq_ofNat_of_zero_le (Int.emod_nonneg (cell sc 1 * 7) (show (ws.length : Int) ≠ 0 by omega))
 have hdr2 := Int.emod_lt_of_pos (cell sc 1 * 7) (show (0 : Int) < (ws.length : Int) by omega)
 rw [hdr] at hdr2
 refine seqV (.int (dr' : Int)) M1 (fun R h => by
   simp! only [a7d, List.length_map]
   exact ⟨sc, 1, rfl, by decide, CMul.ok (.inr ⟨by decide, by decide⟩), by omega, by rw [hdr]; exact h⟩) ?_
 refine seqV (.bl (decide (st / 3 % 2 = 0))) M1 (fun R h => by
   simp! only []
   exact ⟨⟨by decide, by decide⟩, by decide, h⟩) ?_
 generalize decide (st / 3 % 2 = 0) = fb
 simp only [List.set_cons_zero, List.set_cons_succ]
 refine cut1 (fun Γ' M2 => L2.Sub M1 M2 /\ Γ' = [some (.scr (sc.map D.int)), some (.lst (ws.map eW)), some (.lst (js.map eK)), some (.obj p), some (.int st), some (.str no), some (.int (dr' : Int)), some (.bl fb)]) ?_ ?_
 rotate_left
 . intro rest hrest
   simp! only [a7s]
   exact ⟨by decide, p, d1, d2, s', ws, js, dr', fb, false, rfl, tr, rw', hw, hj, by omega, (fun z => by cases z), fun M' sb => hrest _ _ ⟨sb, rfl⟩⟩
 rintro Γ' M2 ⟨sb2, rfl⟩
 have tr2 := tr.sub sb2
 obtain ⟨x, hx⟩ : ∃ x, a2i (tsOf ws js) none = some x := by
   cases ws with
   | nil => cases h0
   | cons a l => exact ⟨a.1, rfl⟩
 refine cut1 (fun Γ' M3 => L2.Sub M2 M3 /\ Γ' = [some (.scr (sc.map D.int)), some (.lst (ws.map eW)), some (.lst (js.map eK)), some (.obj p), some (.int st), some (.str no), some (.int (dr' : Int)), some (.bl fb)]) ?_ ?_
 rotate_left
 . intro rest hrest
   exact ⟨p, d1, d2, _, x, rfl, tr2, snd, hx, fun M' sb => hrest _ _ ⟨sb, rfl⟩⟩
 rintro Γ' M3 ⟨sb3, rfl⟩
 simp! only [a7s]
 exact ⟨by decide, p, d1, d2, s', ws, js, 0, !fb, true, rfl, tr2.sub sb3, rw', hw, hj, h0, fun _ => rfl, fun M' _ => .now (q _)⟩
end
theorem b0g {α : Type} (us : List α) (h : us.length = 1) : ∃ a, us = [a] := List.length_eq_one_iff.mp h
theorem b62 {α : Type} (us : List α) (h : us.length = 2) : ∃ a b, us = [a, b] := by
 cases us with
 | nil => cases h
 | cons a us =>
   obtain ⟨b, rfl⟩ := b0g us (by simpa using h)
   exact ⟨a, b, rfl⟩
theorem len_3 {α : Type} (us : List α) (h : us.length = 3) : ∃ a b c, us = [a, b, c] := by
 cases us with
 | nil => cases h
 | cons a us =>
   obtain ⟨b, c, rfl⟩ := b62 us (by simpa using h)
   exact ⟨a, b, c, rfl⟩
theorem len_4 {α : Type} (us : List α) (h : us.length = 4) : ∃ a b c d, us = [a, b, c, d] := by
 cases us with
 | nil => cases h
 | cons a us =>
   obtain ⟨b, c, d, rfl⟩ := len_3 us (by simpa using h)
   exact ⟨a, b, c, d, rfl⟩
theorem len_5 {α : Type} (us : List α) (h : us.length = 5) : ∃ a b c d e, us = [a, b, c, d, e] := by
 cases us with
 | nil => cases h
 | cons a us =>
   obtain ⟨b, c, d, e, rfl⟩ := len_4 us (by simpa using h)
   exact ⟨a, b, c, d, e, rfl⟩
def DAt (K : PySem.W.Frag) (x : Str) (st : Stmt) (f : Addr) : Prop := PySem.W.nsIn K mainGlobals x = some (some (.ref f)) /\ ∃ fd, Fun K x x st f fd
theorem DAt.mk {K : PySem.W.Frag} {x : Str} {st : Stmt} {f : Addr} {oc : Value} {od an : Option Addr} {sl : Array (Option Value)} {kV dc pm cd ct : Value} (a : PySem.W.nsIn K mainGlobals x = some (some (.ref f))) (l : K.lookup f = some ⟨oc, od, .func (PySem.W.fnOf x x (a04 st) (a0u st) (a0c st) .none kV dc pm an cd ct), sl⟩) (c : PySem.W.codeIn K cd x = true) (k : PySem.W.keepIn K (.ref f) = true) : DAt K x st f := ⟨a, _, a6l l c k⟩
local macro_rules
 | `(tactic| bv_omega) => `(tactic| (intro _ _ _ _ _ _ us hl; first | (obtain ⟨_, h9⟩ := b0g us hl; subst h9; rfl) | (obtain ⟨_, _, h9⟩ := b62 us hl; subst h9; rfl) | (obtain ⟨_, _, _, h9⟩ := len_3 us hl; subst h9; rfl) | (obtain ⟨_, _, _, _, h9⟩ := len_4 us hl; subst h9; rfl) | (obtain ⟨_, _, _, _, _, h9⟩ := len_5 us hl; subst h9; rfl)))
section
variable {P : Program} {w : World} {K : PySem.W.Frag} {mg : Str -> Option Value} {base h : Heap} {x : Str} {st : Stmt} {f : Addr} {ps : List Str} {n : Nat}
theorem DAt.has {sp : L2.Sp} (d : DAt K x st f) (X : K.In h) (G : h.Ns mainGlobals mg) (ok : ∀ fd, Fun K x x st f fd -> FnOk P w K mg base (CXE P w) n f fd ps sp) (hb : ∀ (kV doc pm : Value) (an : Option Addr) (cdv ct : Value) (us : List Value), us.length = ps.length -> bindArgs (PySem.W.fnOf x x (a04 st) (a0u st) (a0c st) .none kV doc pm an cdv ct) ⟨us, []⟩ = pure (ps.zip us) := by bv_omega) : Has P w K mg base (CXE P w) n x ps sp := by
 obtain ⟨a, fd, F⟩ := d
 exact ⟨f, fd, ok fd F, PySem.W.mg_of X G a, F.kp, F.binds hb⟩
theorem DAt.hasH {sp : Addr -> L2.Sp} (d : DAt K x st f) (X : K.In h) (G : h.Ns mainGlobals mg) (ok : ∀ fd, Fun K x x st f fd -> FnOkH P w K mg base n f fd ps sp) (hb : ∀ (kV doc pm : Value) (an : Option Addr) (cdv ct : Value) (us : List Value), us.length = ps.length -> bindArgs (PySem.W.fnOf x x (a04 st) (a0u st) (a0c st) .none kV doc pm an cdv ct) ⟨us, []⟩ = pure (ps.zip us) := by bv_omega) : HasH P w K mg base n x ps sp := by
 obtain ⟨a, fd, F⟩ := d
 exact ⟨f, fd, ok fd F, PySem.W.mg_of X G a, F.kp, F.binds hb⟩
end
theorem all_mk {l : PySem.W.OpenLaw} {w : World} {K : PySem.W.Frag} {h : Heap} {mg : Str -> Option Value} {fa : Addr} (X : K.In h) (G : h.Ns mainGlobals mg) (hfa : mg "law" = some (.ref fa)) (hp : l.prog.given.tree = none)
   {f0 f1 f2 f3 f4 f5 f6 f7 f8 f9 f10 f11 f12 f13 f14 f15 f16 f17 f18 f19 f20 f21 f22 f23 f24 f25 f26 f27 f28 f29 f30 f31 f32 f33 f34 f35 f36 f37 f38 f39 f40 f41 f42 C_Train E_NoName E_Twice E_NoTeeth E_Full E_NoWheel E_NoJoin E_TrainError E_NoText E_Jams dv12 dv14 q_KINDS : Addr} {od12 an12 od14 an14 od16 an16 od17 an17 od18 an18 od19 an19 od20 an20 od42 an42 odd12 odd14 qd_KINDS : Option Addr} {sl12 sl14 sl16 sl17 sl18 sl19 sl20 sl42 sll12 sll14 qs_KINDS : Array (Option Value)} {oc12 kV12 dc12 pm12 cd12 ct12 oc14 kV14 dc14 pm14 cd14 ct14 oc16 kV16 dc16 pm16 cd16 ct16 oc17 kV17 dc17 pm17 cd17 ct17 oc18 kV18 dc18 pm18 cd18 ct18 oc19 kV19 dc19 pm19 cd19 ct19 oc20 kV20 dc20 pm20 cd20 ct20 oc42 kV42 dc42 pm42 cd42 ct42 : Value}
   {t_LONGEST_NAME t_TEETH_BOUND t_MOST_WHEELS t_MOST_JOINS t_LETTERS t_KINDS0 t_KINDS1 t_KINDS2 t_KINDS3 : Tok}
   {nn12 nn14 qn_KINDS : Nat}
   (aC_Train : PySem.W.nsIn K mainGlobals "Train" = some (some (.ref C_Train)))
   (aE_NoName : PySem.W.nsIn K mainGlobals "NoName" = some (some (.ref E_NoName)))
   (aE_Twice : PySem.W.nsIn K mainGlobals "Twice" = some (some (.ref E_Twice)))
   (aE_NoTeeth : PySem.W.nsIn K mainGlobals "NoTeeth" = some (some (.ref E_NoTeeth)))
   (aE_Full : PySem.W.nsIn K mainGlobals "Full" = some (some (.ref E_Full)))
   (aE_NoWheel : PySem.W.nsIn K mainGlobals "NoWheel" = some (some (.ref E_NoWheel)))
   (aE_NoJoin : PySem.W.nsIn K mainGlobals "NoJoin" = some (some (.ref E_NoJoin)))
   (aE_TrainError : PySem.W.nsIn K mainGlobals "TrainError" = some (some (.ref E_TrainError)))
   (aE_NoText : PySem.W.nsIn K mainGlobals "NoText" = some (some (.ref E_NoText)))
   (aE_Jams : PySem.W.nsIn K mainGlobals "Jams" = some (some (.ref E_Jams)))
   (d0 : DAt K "greatest_divisor" a1m f0)
   (d1 : DAt K "lowest" a37 f1)
   (d2 : DAt K "times" a9y f2)
   (d3 : DAt K "factor" a7w f3)
   (d4 : DAt K "refuse_unknown" a1v f4)
   (d5 : DAt K "wheel_meant" a2p f5)
   (d6 : DAt K "joins_from" a23 f6)
   (d7 : DAt K "tree_from" a3o f7)
   (d8 : DAt K "road_by" a50 f8)
   (d9 : DAt K "shares_along" a2a f9)
   (d10 : DAt K "jamming_join" a2c f10)
   (d11 : DAt K "ring_closed_by" a1u f11)
   (a12 : PySem.W.nsIn K mainGlobals "ring" = some (some (.ref f12)))
   (l12 : K.lookup f12 = some ⟨oc12, od12, .func (PySem.W.fnOf "ring" "ring" (a04 a2y) (a0u a2y) (a0c a2y) (.ref dv12) kV12 dc12 pm12 an12 cd12 ct12), sl12⟩)
   (d12 : K.lookup dv12 = some ⟨.type "tuple", odd12, .seq #[.none] nn12, sll12⟩)
   (c12 : PySem.W.codeIn K cd12 "ring" = true)
   (k12 : PySem.W.keepIn K (.ref f12) = true)
   (d13 : DAt K "free_shares" a2u f13)
   (a14 : PySem.W.nsIn K mainGlobals "turns" = some (some (.ref f14)))
   (l14 : K.lookup f14 = some ⟨oc14, od14, .func (PySem.W.fnOf "turns" "turns" (a04 a1t) (a0u a1t) (a0c a1t) (.ref dv14) kV14 dc14 pm14 an14 cd14 ct14), sl14⟩)
   (d14 : K.lookup dv14 = some ⟨.type "tuple", odd14, .seq #[.none] nn14, sll14⟩)
   (c14 : PySem.W.codeIn K cd14 "turns" = true)
   (k14 : PySem.W.keepIn K (.ref f14) = true)
   (d15 : DAt K "is_name" a52 f15)
   (a16 : PySem.W.findIn K (.ref C_Train) "__init__" = some (some (.ref f16)))
   (i16 : PySem.W.isFn K (.ref f16) = true)
   (l16 : K.lookup f16 = some ⟨oc16, od16, .func (PySem.W.fnOf "__init__" "Train.__init__" (a04 a06) (a0u a06) (a0c a06) .none kV16 dc16 pm16 an16 cd16 ct16), sl16⟩)
   (c16 : PySem.W.codeIn K cd16 "Train.__init__" = true)
   (k16 : PySem.W.keepIn K (.ref f16) = true)
   (a17 : PySem.W.findIn K (.ref C_Train) "put_wheel" = some (some (.ref f17)))
   (i17 : PySem.W.isFn K (.ref f17) = true)
   (l17 : K.lookup f17 = some ⟨oc17, od17, .func (PySem.W.fnOf "put_wheel" "Train.put_wheel" (a04 a01) (a0u a01) (a0c a01) .none kV17 dc17 pm17 an17 cd17 ct17), sl17⟩)
   (c17 : PySem.W.codeIn K cd17 "Train.put_wheel" = true)
   (k17 : PySem.W.keepIn K (.ref f17) = true)
   (a18 : PySem.W.findIn K (.ref C_Train) "put_join" = some (some (.ref f18)))
   (i18 : PySem.W.isFn K (.ref f18) = true)
   (l18 : K.lookup f18 = some ⟨oc18, od18, .func (PySem.W.fnOf "put_join" "Train.put_join" (a04 a05) (a0u a05) (a0c a05) .none kV18 dc18 pm18 an18 cd18 ct18), sl18⟩)
   (c18 : PySem.W.codeIn K cd18 "Train.put_join" = true)
   (k18 : PySem.W.keepIn K (.ref f18) = true)
   (a19 : PySem.W.findIn K (.ref C_Train) "wheels" = some (some (.ref f19)))
   (i19 : PySem.W.isFn K (.ref f19) = true)
   (l19 : K.lookup f19 = some ⟨oc19, od19, .func (PySem.W.fnOf "wheels" "Train.wheels" (a04 a1b) (a0u a1b) (a0c a1b) .none kV19 dc19 pm19 an19 cd19 ct19), sl19⟩)
   (c19 : PySem.W.codeIn K cd19 "Train.wheels" = true)
   (k19 : PySem.W.keepIn K (.ref f19) = true)
   (a20 : PySem.W.findIn K (.ref C_Train) "joins" = some (some (.ref f20)))
   (i20 : PySem.W.isFn K (.ref f20) = true)
   (l20 : K.lookup f20 = some ⟨oc20, od20, .func (PySem.W.fnOf "joins" "Train.joins" (a04 a1g) (a0u a1g) (a0c a1g) .none kV20 dc20 pm20 an20 cd20 ct20), sl20⟩)
   (c20 : PySem.W.codeIn K cd20 "Train.joins" = true)
   (k20 : PySem.W.keepIn K (.ref f20) = true)
   (d21 : DAt K "_law_cell_at" a2t f21)
   (d22 : DAt K "_law_whole" a3p f22)
   (d23 : DAt K "_law_common" a22 f23)
   (d24 : DAt K "_law_name" a4v f24)
   (d25 : DAt K "_law_teeth" a3r f25)
   (d26 : DAt K "_law_by" a7u f26)
   (d27 : DAt K "_law_goes" a4x f27)
   (d28 : DAt K "_law_closing" a2s f28)
   (d29 : DAt K "_law_rows" a4t f29)
   (d30 : DAt K "_law_train" a3q f30)
   (d31 : DAt K "_law_hung" a4w f31)
   (d32 : DAt K "_law_steps" a3s f32)
   (d33 : DAt K "_law_jammed" a21 f33)
   (d34 : DAt K "_law_fraction" a2b f34)
   (d35 : DAt K "_law_free" a4y f35)
   (d36 : DAt K "_law_told" a4s f36)
   (d37 : DAt K "_law_way" a51 f37)
   (d38 : DAt K "_law_only" a4u f38)
   (d39 : DAt K "_law_emptied" a2r f39)
   (d40 : DAt K "_law_asked" a3t f40)
   (d41 : DAt K "_law_refused" a2q f41)
   (a42 : PySem.W.nsIn K mainGlobals "law" = some (some (.ref f42)))
   (l42 : K.lookup f42 = some ⟨oc42, od42, .func (PySem.W.fnOf "law" "law" (a04 a7v) (a0u a7v) (a0c a7v) .none kV42 dc42 pm42 an42 cd42 ct42), sl42⟩)
   (c42 : PySem.W.codeIn K cd42 "law" = true)
   (k42 : PySem.W.keepIn K (.ref f42) = true)
   (pg_Train : PySem.W.plainGet K C_Train Str.empty = true)
   (hd_Train : PySem.W.hasDictIn K C_Train = true)
   (po_Train : PySem.W.plainOver K C_Train = true)
   (sa_Train : PySem.W.findIn K (.ref C_Train) "__setattr__" = some (some (.builtin "object.__setattr__")))
   (mk_Train : PySem.W.makesIn K C_Train = true)
   (kc_Train : PySem.W.keepIn K (.ref C_Train) = true)
   (n_Train_teeth_of : PySem.W.findIn K (.ref C_Train) "teeth_of" = some none)
   (n_Train_join_of : PySem.W.findIn K (.ref C_Train) "join_of" = some none)
   (n_Train_next_number : PySem.W.findIn K (.ref C_Train) "next_number" = some none)
   (z0 : PySem.W.nsIn K mainGlobals "len" = some none)
   (z1 : PySem.W.nsIn K mainGlobals "all" = some none)
   (z2 : PySem.W.nsIn K mainGlobals "list" = some none)
   (z3 : PySem.W.nsIn K mainGlobals "range" = some none)
   (z4 : PySem.W.nsIn K mainGlobals "isinstance" = some none)
   (z5 : PySem.W.nsIn K mainGlobals "int" = some none)
   (z6 : PySem.W.nsIn K mainGlobals "bool" = some none)
   (z7 : PySem.W.nsIn K mainGlobals "str" = some none)
   (z8 : PySem.W.nsIn K mainGlobals "max" = some none)
   (z9 : PySem.W.nsIn K mainGlobals "abs" = some none)
   (z10 : PySem.W.nsIn K mainGlobals "dict" = some none)
   (z11 : PySem.W.nsIn K mainGlobals "tuple" = some none)
   (z12 : PySem.W.nsIn K mainGlobals "ValueError" = some none)
   (g_LONGEST_NAME : PySem.W.nsIn K mainGlobals "LONGEST_NAME" = some (some (.int 8 t_LONGEST_NAME)))
   (g_TEETH_BOUND : PySem.W.nsIn K mainGlobals "TEETH_BOUND" = some (some (.int 1000000000 t_TEETH_BOUND)))
   (g_MOST_WHEELS : PySem.W.nsIn K mainGlobals "MOST_WHEELS" = some (some (.int 100 t_MOST_WHEELS)))
   (g_MOST_JOINS : PySem.W.nsIn K mainGlobals "MOST_JOINS" = some (some (.int 200 t_MOST_JOINS)))
   (g_LETTERS : PySem.W.nsIn K mainGlobals "LETTERS" = some (some (.str "abcdefghijklmnopqrstuvwxyz" t_LETTERS)))
   (g_KINDS : PySem.W.nsIn K mainGlobals "KINDS" = some (some (.ref q_KINDS)))
   (gl_KINDS : K.lookup q_KINDS = some ⟨.type "tuple", qd_KINDS, .seq #[.str "mesh" t_KINDS0, .str "pin" t_KINDS1, .str "band" t_KINDS2, .str "cross" t_KINDS3] qn_KINDS, qs_KINDS⟩)
   (ex_NoName : PySem.W.excIn K E_NoName bmV "ValueError.__new__" = true)
   (ex_Twice : PySem.W.excIn K E_Twice bmV "ValueError.__new__" = true)
   (ex_NoTeeth : PySem.W.excIn K E_NoTeeth bmV "ValueError.__new__" = true)
   (ex_Full : PySem.W.excIn K E_Full bmV "ValueError.__new__" = true)
   (ex_NoWheel : PySem.W.excIn K E_NoWheel bmV "ValueError.__new__" = true)
   (ex_NoJoin : PySem.W.excIn K E_NoJoin bmV "ValueError.__new__" = true)
   (ex_TrainError : PySem.W.excIn K E_TrainError bmV "ValueError.__new__" = true)
   (ex_NoText : PySem.W.excIn K E_NoText bmV "ValueError.__new__" = true)
   (ex_Jams : PySem.W.excIn K E_Jams bmV "ValueError.__new__" = true)
   (lc_Jams : PySem.W.isClsIn K E_Jams = true)
   (lg_Jams : PySem.W.findIn K (.ref E_Jams) "__getattribute__" = some (some (.builtin "BaseException.__getattribute__")))
   (ln_Jams : PySem.W.findIn K (.ref E_Jams) "__getattr__" = some none)
   (la_Jams : PySem.W.findIn K (.ref E_Jams) "__class__" = some (some (.builtin "object.__class__")))
   (ls_Jams : PySem.W.specialIn K (.builtin "object.__class__") "__get__" = some (some (.builtin "getset_descriptor.__get__")))
   (lt_Jams : PySem.W.takesIn K (.builtin "object.__class__") = some true)
   (lo_Jams : PySem.W.mroIn K E_Jams (.type "object") = some true)
   (lb_Jams : PySem.W.mroIn K E_Jams (.type "BaseException") = some true)
   (kt_Jams_NoName : PySem.W.kitOne K (.ref E_Jams) (.ref E_NoName) = some false)
   (kt_Jams_Twice : PySem.W.kitOne K (.ref E_Jams) (.ref E_Twice) = some false)
   (kt_Jams_NoTeeth : PySem.W.kitOne K (.ref E_Jams) (.ref E_NoTeeth) = some false)
   (kt_Jams_Full : PySem.W.kitOne K (.ref E_Jams) (.ref E_Full) = some false)
   (kt_Jams_NoWheel : PySem.W.kitOne K (.ref E_Jams) (.ref E_NoWheel) = some false)
   (kt_Jams_NoJoin : PySem.W.kitOne K (.ref E_Jams) (.ref E_NoJoin) = some false)
   (kt_Jams_NoText : PySem.W.kitOne K (.ref E_Jams) (.ref E_NoText) = some false)
   (kt_Jams_Jams : PySem.W.kitOne K (.ref E_Jams) (.ref E_Jams) = some true)
   (kt_Jams_ValueError : PySem.W.kitOne K (.ref E_Jams) (.type "ValueError") = some true)
   (xm_NoWheel_NoWheel : PySem.W.exmOne K (.ref E_NoWheel) (.ref E_NoWheel) = some true)
   (xm_Jams_TrainError : PySem.W.exmOne K (.ref E_Jams) (.ref E_TrainError) = some true)
   : ∃ fd : FuncData, (∀ (s : Shared) (v : Value), BindsTo s fd ⟨[v], []⟩ [("_law_script", v)]) /\ ∀ base : Heap, K.In base -> base.Ns mainGlobals mg -> base.NoSeer -> FnOk l.prog w K mg base CX0 48 fa fd ["_law_script"] (a5l K) := by
 have e := hfa.symm.trans (PySem.W.mg_of X G a42)
 cases e
 have T : Txt K mg := ⟨PySem.W.mg_none_of X G z0, PySem.W.mg_none_of X G z1, PySem.W.mg_none_of X G z2, PySem.W.mg_none_of X G z3, PySem.W.mg_none_of X G z4, PySem.W.mg_none_of X G z5, PySem.W.mg_none_of X G z6, PySem.W.mg_none_of X G z7, PySem.W.mg_none_of X G z8, PySem.W.mg_none_of X G z9, PySem.W.mg_none_of X G z10, PySem.W.mg_none_of X G z11, PySem.W.mg_none_of X G z12, ⟨_, PySem.W.mg_of X G g_LONGEST_NAME⟩, ⟨_, PySem.W.mg_of X G g_TEETH_BOUND⟩, ⟨_, PySem.W.mg_of X G g_MOST_WHEELS⟩, ⟨_, PySem.W.mg_of X G g_MOST_JOINS⟩, ⟨_, PySem.W.mg_of X G g_LETTERS⟩, ⟨_, PySem.W.mg_of X G g_KINDS, fun _ => .inr ⟨_, _, _, gl_KINDS, rfl, rfl, Nat.le_of_ble_eq_true rfl, (.cons ⟨_, rfl⟩ (.cons ⟨_, rfl⟩ (.cons ⟨_, rfl⟩ (.cons ⟨_, rfl⟩ .nil))))⟩⟩⟩
 have F_ring := b5a (st := a2y) l12 c12 d12
 have b_ring : Binds K (PySem.W.fnOf "ring" "ring" (a04 a2y) (a0u a2y) (a0c a2y) (.ref dv12) kV12 dc12 pm12 an12 cd12 ct12) ["train", "name"] [] := fun s us hk hl => by rw [List.append_nil] at hl |-; obtain ⟨_, _, rfl⟩ := b62 us hl; exact .of_defaults rfl (hk _ _ d12) rfl rfl rfl
 have bd_ring : Binds K (PySem.W.fnOf "ring" "ring" (a04 a2y) (a0u a2y) (a0c a2y) (.ref dv12) kV12 dc12 pm12 an12 cd12 ct12) ["train", "name"] [.none] := fun s us hk hl => by obtain ⟨_, rfl⟩ := b0g us (by simpa using hl); exact .of_defaults rfl (hk _ _ d12) rfl rfl rfl
 have m_ring := PySem.W.mg_of X G a12
 have k_ring := k12
 have F_turns := b5a (st := a1t) l14 c14 d14
 have b_turns : Binds K (PySem.W.fnOf "turns" "turns" (a04 a1t) (a0u a1t) (a0c a1t) (.ref dv14) kV14 dc14 pm14 an14 cd14 ct14) ["train", "name"] [] := fun s us hk hl => by rw [List.append_nil] at hl |-; obtain ⟨_, _, rfl⟩ := b62 us hl; exact .of_defaults rfl (hk _ _ d14) rfl rfl rfl
 have bd_turns : Binds K (PySem.W.fnOf "turns" "turns" (a04 a1t) (a0u a1t) (a0c a1t) (.ref dv14) kV14 dc14 pm14 an14 cd14 ct14) ["train", "name"] [.none] := fun s us hk hl => by obtain ⟨_, rfl⟩ := b0g us (by simpa using hl); exact .of_defaults rfl (hk _ _ d14) rfl rfl rfl
 have m_turns := PySem.W.mg_of X G a14
 have k_turns := k14
 have F_Train___init__ := a6l (st := a06) l16 c16 k16
 have b_Train___init__ := F_Train___init__.binds (ps := ["self"]) fun _ _ _ _ _ _ us hl => by obtain ⟨_, rfl⟩ := b0g us hl; rfl
 have me_Train___init__ : Meth K C_Train "__init__" _ := ⟨a16, i16, k16⟩
 have F_Train_put_wheel := a6l (st := a01) l17 c17 k17
 have b_Train_put_wheel := F_Train_put_wheel.binds (ps := ["self", "name", "teeth"]) fun _ _ _ _ _ _ us hl => by obtain ⟨_, _, _, rfl⟩ := len_3 us hl; rfl
 have me_Train_put_wheel : Meth K C_Train "put_wheel" _ := ⟨a17, i17, k17⟩
 have F_Train_put_join := a6l (st := a05) l18 c18 k18
 have b_Train_put_join := F_Train_put_join.binds (ps := ["self", "kind", "one", "other"]) fun _ _ _ _ _ _ us hl => by obtain ⟨_, _, _, _, rfl⟩ := len_4 us hl; rfl
 have me_Train_put_join : Meth K C_Train "put_join" _ := ⟨a18, i18, k18⟩
 have F_Train_wheels := a6l (st := a1b) l19 c19 k19
 have b_Train_wheels := F_Train_wheels.binds (ps := ["self"]) fun _ _ _ _ _ _ us hl => by obtain ⟨_, rfl⟩ := b0g us hl; rfl
 have me_Train_wheels : Meth K C_Train "wheels" _ := ⟨a19, i19, k19⟩
 have F_Train_joins := a6l (st := a1g) l20 c20 k20
 have b_Train_joins := F_Train_joins.binds (ps := ["self"]) fun _ _ _ _ _ _ us hl => by obtain ⟨_, rfl⟩ := b0g us hl; rfl
 have me_Train_joins : Meth K C_Train "joins" _ := ⟨a20, i20, k20⟩
 have F_law := a6l (st := a7v) l42 c42 k42
 have cl_Train : Cls K C_Train := ⟨pg_Train, hd_Train, po_Train, sa_Train⟩
 have pl_teeth_of : Pln K C_Train "teeth_of" := ⟨cl_Train, n_Train_teeth_of⟩
 have pl_join_of : Pln K C_Train "join_of" := ⟨cl_Train, n_Train_join_of⟩
 have pl_next_number : Pln K C_Train "next_number" := ⟨cl_Train, n_Train_next_number⟩
 have X_NoName : ExCls K mg "NoName" E_NoName := ⟨PySem.W.mg_of X G aE_NoName, ex_NoName⟩
 have X_Twice : ExCls K mg "Twice" E_Twice := ⟨PySem.W.mg_of X G aE_Twice, ex_Twice⟩
 have X_NoTeeth : ExCls K mg "NoTeeth" E_NoTeeth := ⟨PySem.W.mg_of X G aE_NoTeeth, ex_NoTeeth⟩
 have X_Full : ExCls K mg "Full" E_Full := ⟨PySem.W.mg_of X G aE_Full, ex_Full⟩
 have X_NoWheel : ExCls K mg "NoWheel" E_NoWheel := ⟨PySem.W.mg_of X G aE_NoWheel, ex_NoWheel⟩
 have X_NoJoin : ExCls K mg "NoJoin" E_NoJoin := ⟨PySem.W.mg_of X G aE_NoJoin, ex_NoJoin⟩
 have X_TrainError : ExCls K mg "TrainError" E_TrainError := ⟨PySem.W.mg_of X G aE_TrainError, ex_TrainError⟩
 have X_NoText : ExCls K mg "NoText" E_NoText := ⟨PySem.W.mg_of X G aE_NoText, ex_NoText⟩
 have X_Jams : ExCls K mg "Jams" E_Jams := ⟨PySem.W.mg_of X G aE_Jams, ex_Jams⟩
 refine ⟨PySem.W.fnOf "law" "law" (a04 a7v) (a0u a7v) (a0c a7v) .none kV42 dc42 pm42 an42 cd42 ct42, fun s v => .of_eq rfl, fun base kb nb sb => ?_⟩
 let EC : Rk -> Addr := fun r => match r with | .noName => E_NoName | .twice => E_Twice | .noTeeth => E_NoTeeth | .full => E_Full | .noWheel => E_NoWheel | .noJoin => E_NoJoin
 have XK : ExK K mg EC := ⟨X_NoName, X_Twice, X_NoTeeth, X_Full, X_NoWheel, X_NoJoin⟩
 have XT : ExJ K mg EC E_Jams E_NoText E_TrainError := ⟨⟨lc_Jams, lg_Jams, ln_Jams, la_Jams, ls_Jams, lt_Jams, lo_Jams, lb_Jams⟩, fun r => match r with | .noName => kt_Jams_NoName | .twice => kt_Jams_Twice | .noTeeth => kt_Jams_NoTeeth | .full => kt_Jams_Full | .noWheel => kt_Jams_NoWheel | .noJoin => kt_Jams_NoJoin, kt_Jams_NoText, kt_Jams_Jams, kt_Jams_ValueError, xm_Jams_TrainError, X_NoText.1, X_Jams.1, X_TrainError.1⟩
 have h_law_cell_at := d21.has (P := l.prog) (w := w) (base := base) X G fun _ F => ok_cell F T
 have h_law_whole := d22.has (P := l.prog) (w := w) (base := base) X G fun _ F => b6s F T
 have h_is_name := d15.has (P := l.prog) (w := w) (base := base) X G fun _ F => b2n F T
 have h_Train : HasC l.prog w K mg base 1 "Train" C_Train (b06 C_Train) := ⟨PySem.W.mg_of X G aC_Train, _, _, ok_init F_Train___init__ pl_teeth_of pl_join_of pl_next_number, ⟨mk_Train, me_Train___init__.1, me_Train___init__.2, kc_Train⟩, b_Train___init__⟩
 have h_put_wheel : HasM l.prog w K mg base (CXE l.prog w) 2 C_Train "put_wheel" ["self", "name", "teeth"] (a0j K (b04 C_Train EC)) := ⟨cl_Train, _, _, a82 F_Train_put_wheel T XK pl_teeth_of h_is_name, me_Train_put_wheel, b_Train_put_wheel⟩
 have h_put_join : HasM l.prog w K mg base (CXE l.prog w) 2 C_Train "put_join" ["self", "kind", "one", "other"] (a0j K (b05 C_Train EC)) := ⟨cl_Train, _, _, a92 F_Train_put_join T XK pl_teeth_of pl_join_of pl_next_number, me_Train_put_join, b_Train_put_join⟩
 have h_wheels : HasM l.prog w K mg base (CXE l.prog w) 1 C_Train "wheels" ["self"] (a0j K (a2o C_Train)) := ⟨cl_Train, _, _, b35 F_Train_wheels T pl_teeth_of, me_Train_wheels, b_Train_wheels⟩
 have h_joins : HasM l.prog w K mg base (CXE l.prog w) 1 C_Train "joins" ["self"] (a0j K (a4o C_Train)) := ⟨cl_Train, _, _, b6v F_Train_joins T pl_join_of, me_Train_joins, b_Train_joins⟩
 have h_greatest_divisor := d0.has (P := l.prog) (w := w) (base := base) X G fun _ F => ok_gcd F T
 have h_lowest := d1.has (P := l.prog) (w := w) (base := base) X G fun _ F => ok_low F sb hp h_greatest_divisor
 have h_times := d2.has (P := l.prog) (w := w) (base := base) X G fun _ F => b6u F h_lowest
 have h_factor := d3.has (P := l.prog) (w := w) (base := base) X G fun _ F => b37 F h_lowest
 have h_refuse_unknown := d4.has (P := l.prog) (w := w) (base := base) X G fun _ F => a41 F XK
 have h_wheel_meant := d5.has (P := l.prog) (w := w) (base := base) X G fun _ F => a60 F T XK h_wheels h_refuse_unknown
 have h_joins_from := d6.has (P := l.prog) (w := w) (base := base) X G fun _ F => a72 F
 have h_tree_from := d7.has (P := l.prog) (w := w) (base := base) X G fun _ F => a81 F T h_joins_from
 have h_shares_along := d9.has (P := l.prog) (w := w) (base := base) X G fun _ F => a6a F T h_wheels h_times h_factor
 have h_jamming_join := d10.has (P := l.prog) (w := w) (base := base) X G fun _ F => a6c F T h_wheels h_joins h_times h_factor
 have h_free_shares := d13.has (P := l.prog) (w := w) (base := base) X G fun _ F => a64 F X_Jams h_joins h_wheel_meant h_tree_from h_shares_along h_jamming_join
 have h_turns : HasD l.prog w K mg base 45 "turns" ["train", "name"] (a0j K (a4n C_Train EC E_Jams)) := ⟨_, _, b6t F_turns T h_wheels h_free_shares, m_turns, k_turns, b_turns, bd_turns⟩
 have h_road_by := d8.has (P := l.prog) (w := w) (base := base) X G fun _ F => b2l F h_tree_from
 have h_ring_closed_by := d11.has (P := l.prog) (w := w) (base := base) X G fun _ F => a40 F h_road_by
 have h_ring : HasD l.prog w K mg base 44 "ring" ["train", "name"] (a0j K (a7b C_Train EC)) := ⟨_, _, ok_ring F_ring h_joins h_wheel_meant h_tree_from h_shares_along h_jamming_join h_ring_closed_by, m_ring, k_ring, b_ring, bd_ring⟩
 have h_law_name := d24.has (P := l.prog) (w := w) (base := base) X G fun _ F => a96 F
 have h_law_teeth := d25.has (P := l.prog) (w := w) (base := base) X G fun _ F => a84 F
 have h_law_common := d23.has (P := l.prog) (w := w) (base := base) X G fun _ F => a71 F T
 have h_law_by := d26.has (P := l.prog) (w := w) (base := base) X G fun _ F => b36 F
 have h_law_goes := d27.has (P := l.prog) (w := w) (base := base) X G fun _ F => a98 F h_law_by
 have h_law_closing := d28.has (P := l.prog) (w := w) (base := base) X G fun _ F => a63 F T h_law_goes
 have h_law_rows := d29.has (P := l.prog) (w := w) (base := base) X G fun _ F => a94 F T h_law_cell_at h_law_name h_law_teeth h_law_by h_law_closing
 have h_law_train := d30.has (P := l.prog) (w := w) (base := base) X G fun _ F => a83 F h_Train h_put_wheel h_put_join
 have h_law_hung := d31.has (P := l.prog) (w := w) (base := base) X G fun _ F => a97 F T
 have h_law_steps := d32.has (P := l.prog) (w := w) (base := base) X G fun _ F => a85 F T h_law_whole
 have h_law_jammed := d33.has (P := l.prog) (w := w) (base := base) X G fun _ F => a70 F T h_law_steps h_law_by
 have h_law_fraction := d34.has (P := l.prog) (w := w) (base := base) X G fun _ F => a6b F T h_law_whole h_law_common
 have h_law_free := d35.has (P := l.prog) (w := w) (base := base) X G fun _ F => a99 F T h_law_fraction h_law_by
 have h_law_told := d36.has (P := l.prog) (w := w) (base := base) X G fun _ F => a93 F h_turns
 have h_law_way := d37.has (P := l.prog) (w := w) (base := base) X G fun _ F => b2m F h_ring
 have h_law_only := d38.hasH (P := l.prog) (w := w) (base := base) X G fun _ F => a95 F T XK XT
 have h_law_emptied := d39.has (P := l.prog) (w := w) (base := base) X G fun _ F => a62 F h_ring h_turns
 have h_law_refused := d41.has (P := l.prog) (w := w) (base := base) X G fun _ F => a61 F XK xm_NoWheel_NoWheel h_ring h_turns
 have h_law_asked := d40.has (P := l.prog) (w := w) (base := base) X G fun _ F => a86 F T XT h_law_hung h_law_way h_law_told h_law_only h_law_jammed h_law_free
 exact law_ok (ok_law (C := C_Train) (EC := EC) F_law T h_law_cell_at h_law_rows h_law_train h_law_refused h_law_asked h_law_emptied)
theorem walk {l : PySem.W.OpenLaw} {q : Program} {a2j : List Str} {XP : (Str -> Option Value) -> Heap -> Prop} {YP : World -> Heap -> Prop} {d : DefRec} {K : Params -> PySem.W.Frag} (hn : l.most = some 63) (hdf : d.params.defaults = []) (him : importsNone q = true)
   (hY : ∀ (w : World) (h : Heap), YP w h -> (K w.params).In h)
   (F : ∀ (w : World) (mg : Str -> Option Value) (fa : Addr) (h : Heap), (K w.params).In h -> h.Ns mainGlobals mg -> mg d.name = some (.ref fa) ->
     ∃ fd : FuncData, (∀ (s : Shared) (u : Value), BindsTo s fd ⟨[u], []⟩ [("_law_script", u)]) /\ ∀ base : Heap, (K w.params).In base -> base.Ns mainGlobals mg -> base.NoSeer -> FnOk l.prog w (K w.params) mg base CX0 48 fa fd ["_law_script"] (a5l (K w.params))) :
   PySem.W.WalkO q a2j XP YP l.row.toRowW d [] (fun f vs => PySem.call f vs) :=
 L2.walk_ofB (n := 63) (k := 48) (x := "_law_script") (CX := CX0) (sp := a5l) hn (by decide) hdf ⟨rfl, by decide, by decide⟩ him hY F (fun _ _ a ns hl _ hS => ⟨a, ns, rfl, hS, hl, fun _ => rfl⟩) fun _ _ _ _ z => z
end K6
open PySem PySem.W PyProof.Rows
local macro_rules
 | `(tactic| bv_normalize) => `(tactic| (refine' K6.DAt.mk ?a ?l ?c ?k; (case a => k_is); (case l => k_is); (case c => k_is); (case k => k_is)))
noncomputable def PySem.W.Fast.tw9382185103056286785 : Nat := 0
noncomputable def PySem.W.Fast.tw6321671932322264386 : Nat := 0
noncomputable def PySem.W.Fast.tw9677731604642881635 : Nat := 0
noncomputable def PySem.W.Fast.tw3988981720718073479 : Nat := 0
noncomputable def PySem.W.Fast.tw15538791031398720073 : Nat := 0
noncomputable def PySem.W.Fast.tw2779074234528185870 : Nat := 0
noncomputable def PySem.W.Fast.tw520074859057207567 : Nat := 0
noncomputable def PySem.W.Fast.tw6261016568206472022 : Nat := 0
noncomputable def PySem.W.Fast.tw4048991553271235352 : Nat := 0
noncomputable def PySem.W.Fast.tw13234325864811251259 : Nat := 0
noncomputable def PySem.W.Fast.tw13931002755264121470 : Nat := 0
noncomputable def PySem.W.Fast.tw7784672884751736831 : Nat := 0
noncomputable def PySem.W.Fast.tw16139965076207876083 : Nat := 0
noncomputable def PySem.W.Fast.tw5041860197985405861 : Nat := 0
noncomputable def PySem.W.Fast.tw1699916854823749672 : Nat := 0
noncomputable def PySem.W.Fast.tw13744103224844138737 : Nat := 0
noncomputable def PySem.W.Fast.tw3696048795314284685 : Nat := 0
noncomputable def PySem.W.Fast.tw2720827198363897070 : Nat := 0
noncomputable def PySem.W.Fast.tw9875021435265000810 : Nat := 0
noncomputable def PySem.W.Fast.tw12818593688467284702 : Nat := 0
noncomputable def PySem.W.Fast.tw8017585302786559891 : Nat := 0
noncomputable def PySem.W.Fast.tw3187458879508785403 : Nat := 0
noncomputable def PySem.W.Fast.tw87980524451990942 : Nat := 0
noncomputable def PySem.W.Fast.tw2919775685263195129 : Nat := 0
noncomputable def PySem.W.Fast.tw13994185383719880482 : Nat := 0
noncomputable def PySem.W.Fast.tw6773498215493790479 : Nat := 0
noncomputable def PySem.W.Fast.tw1983268650512056295 : Nat := 0
noncomputable def PySem.W.Fast.tw17038507063356687119 : Nat := 0
noncomputable def PySem.W.Fast.tw455508733548395902 : Nat := 0
noncomputable def PySem.W.Fast.tw10085760462300036755 : Nat := 0
noncomputable def PySem.W.Fast.tw12472140654830127596 : Nat := 0
noncomputable def PySem.W.Fast.tw3345423608887316052 : Nat := 0
noncomputable def PySem.W.Fast.tw8613431219562627184 : Nat := 0
noncomputable def PySem.W.Fast.tw13251208882952039910 : Nat := 0
noncomputable def PySem.W.Fast.tw1199775343680036085 : Nat := 0
noncomputable def PySem.W.Fast.tw9304089135648485518 : Nat := 0
noncomputable def PySem.W.Fast.tw9297185828978864896 : Nat := 0
noncomputable def PySem.W.Fast.tw8741024852029927793 : Nat := 0
noncomputable def PySem.W.Fast.tw10785032886985865763 : Nat := 0
noncomputable def PySem.W.Fast.tw4499353977212473192 : Nat := 0
noncomputable def PySem.W.Fast.tw4301155124196207070 : Nat := 0
noncomputable def PySem.W.Fast.tw10792097227819916047 : Nat := 0
noncomputable def PySem.W.Fast.tw9270401832067141013 : Nat := 0
noncomputable def PySem.W.Fast.tw14479999266556503487 : Nat := 0
noncomputable def PySem.W.Fast.tw7757664446036333909 : Nat := 0
noncomputable def PySem.W.Fast.tw12747494406924064989 : Nat := 0
noncomputable def PySem.W.Fast.tw14854990467192201946 : Nat := 0
noncomputable def PySem.W.Fast.tw2497597854686722595 : Nat := 0
noncomputable def PySem.W.Fast.tw16443175522225469563 : Nat := 0
noncomputable def PySem.W.Fast.tw4373759510387911075 : Nat := 0
noncomputable def PySem.W.Fast.tw12412720910162233397 : Nat := 0
noncomputable def PySem.W.Fast.tw17392640709631178033 : Nat := 0
noncomputable def PySem.W.Fast.tw13960679952828851522 : Nat := 0
noncomputable def PySem.W.Fast.tw11755839684549031235 : Nat := 0
noncomputable def PySem.W.Fast.tw16970776900224443728 : Nat := 0
noncomputable def PySem.W.Fast.tw17448326243934249636 : Nat := 0
noncomputable def PySem.W.Fast.tw14892328377120804058 : Nat := 0
noncomputable def PySem.W.Fast.tw11269416726948710476 : Nat := 0
noncomputable def PySem.W.Fast.tw18154410845615379806 : Nat := 0
noncomputable def PySem.W.Fast.tw4623633645182326179 : Nat := 0
noncomputable def PySem.W.Fast.tw2311815689022294497 : Nat := 0
set_option maxRecDepth 100000 in
set_option maxHeartbeats 0 in
theorem PySem.Challenge.cw_cogtrain_k06_whole_turns_or_a_ring_holds : PySem.Challenge.rw_cogtrain_k06_whole_turns_or_a_ring.Holds := by
 w_on; o_law; k_head; (case hw => w_witness2)
 k_fill
 refine K6.walk (l := PySem.Challenge.rw_cogtrain_k06_whole_turns_or_a_ring) rfl rfl (by decide +kernel) (fun w h Y => PySem.W.kIn_of Y) ?F
 case F =>
   intro w mg fa h KX G hmg
   refine' K6.all_mk KX G hmg rfl ?aC_Train ?aE_NoName ?aE_Twice ?aE_NoTeeth ?aE_Full ?aE_NoWheel ?aE_NoJoin ?aE_TrainError ?aE_NoText ?aE_Jams ?d0 ?d1 ?d2 ?d3 ?d4 ?d5 ?d6 ?d7 ?d8 ?d9 ?d10 ?d11 ?a12 ?l12 ?d12 ?c12 ?k12 ?d13 ?a14 ?l14 ?d14 ?c14 ?k14 ?d15 ?a16 ?i16 ?l16 ?c16 ?k16 ?a17 ?i17 ?l17 ?c17 ?k17 ?a18 ?i18 ?l18 ?c18 ?k18 ?a19 ?i19 ?l19 ?c19 ?k19 ?a20 ?i20 ?l20 ?c20 ?k20 ?d21 ?d22 ?d23 ?d24 ?d25 ?d26 ?d27 ?d28 ?d29 ?d30 ?d31 ?d32 ?d33 ?d34 ?d35 ?d36 ?d37 ?d38 ?d39 ?d40 ?d41 ?a42 ?l42 ?c42 ?k42 ?pg_Train ?hd_Train ?po_Train ?sa_Train ?mk_Train ?kc_Train ?n_Train_teeth_of ?n_Train_join_of ?n_Train_next_number ?z0 ?z1 ?z2 ?z3 ?z4 ?z5 ?z6 ?z7 ?z8 ?z9 ?z10 ?z11 ?z12 ?g_LONGEST_NAME ?g_TEETH_BOUND ?g_MOST_WHEELS ?g_MOST_JOINS ?g_LETTERS ?g_KINDS ?gl_KINDS ?ex_NoName ?ex_Twice ?ex_NoTeeth ?ex_Full ?ex_NoWheel ?ex_NoJoin ?ex_TrainError ?ex_NoText ?ex_Jams ?lc_Jams ?lg_Jams ?ln_Jams ?la_Jams ?ls_Jams ?lt_Jams ?lo_Jams ?lb_Jams ?kt_Jams_NoName ?kt_Jams_Twice ?kt_Jams_NoTeeth ?kt_Jams_Full ?kt_Jams_NoWheel ?kt_Jams_NoJoin ?kt_Jams_NoText ?kt_Jams_Jams ?kt_Jams_ValueError ?xm_NoWheel_NoWheel ?xm_Jams_TrainError
   (case aC_Train => k_is)
   (case aE_NoName => k_is)
   (case aE_Twice => k_is)
   (case aE_NoTeeth => k_is)
   (case aE_Full => k_is)
   (case aE_NoWheel => k_is)
   (case aE_NoJoin => k_is)
   (case aE_TrainError => k_is)
   (case aE_NoText => k_is)
   (case aE_Jams => k_is)
   (case d0 => bv_normalize)
   (case d1 => bv_normalize)
   (case d2 => bv_normalize)
   (case d3 => bv_normalize)
   (case d4 => bv_normalize)
   (case d5 => bv_normalize)
   (case d6 => bv_normalize)
   (case d7 => bv_normalize)
   (case d8 => bv_normalize)
   (case d9 => bv_normalize)
   (case d10 => bv_normalize)
   (case d11 => bv_normalize)
   (case a12 => k_is)
   (case l12 => k_is)
   (case d12 => k_is)
   (case c12 => k_is)
   (case k12 => k_is)
   (case d13 => bv_normalize)
   (case a14 => k_is)
   (case l14 => k_is)
   (case d14 => k_is)
   (case c14 => k_is)
   (case k14 => k_is)
   (case d15 => bv_normalize)
   (case a16 => k_is)
   (case i16 => k_is)
   (case l16 => k_is)
   (case c16 => k_is)
   (case k16 => k_is)
   (case a17 => k_is)
   (case i17 => k_is)
   (case l17 => k_is)
   (case c17 => k_is)
   (case k17 => k_is)
   (case a18 => k_is)
   (case i18 => k_is)
   (case l18 => k_is)
   (case c18 => k_is)
   (case k18 => k_is)
   (case a19 => k_is)
   (case i19 => k_is)
   (case l19 => k_is)
   (case c19 => k_is)
   (case k19 => k_is)
   (case a20 => k_is)
   (case i20 => k_is)
   (case l20 => k_is)
   (case c20 => k_is)
   (case k20 => k_is)
   (case d21 => bv_normalize)
   (case d22 => bv_normalize)
   (case d23 => bv_normalize)
   (case d24 => bv_normalize)
   (case d25 => bv_normalize)
   (case d26 => bv_normalize)
   (case d27 => bv_normalize)
   (case d28 => bv_normalize)
   (case d29 => bv_normalize)
   (case d30 => bv_normalize)
   (case d31 => bv_normalize)
   (case d32 => bv_normalize)
   (case d33 => bv_normalize)
   (case d34 => bv_normalize)
   (case d35 => bv_normalize)
   (case d36 => bv_normalize)
   (case d37 => bv_normalize)
   (case d38 => bv_normalize)
   (case d39 => bv_normalize)
   (case d40 => bv_normalize)
   (case d41 => bv_normalize)
   (case a42 => k_is)
   (case l42 => k_is)
   (case c42 => k_is)
   (case k42 => k_is)
   (case pg_Train => k_is)
   (case hd_Train => k_is)
   (case po_Train => k_is)
   (case sa_Train => k_is)
   (case mk_Train => k_is)
   (case kc_Train => k_is)
   (case n_Train_teeth_of => k_is)
   (case n_Train_join_of => k_is)
   (case n_Train_next_number => k_is)
   (case z0 => k_is)
   (case z1 => k_is)
   (case z2 => k_is)
   (case z3 => k_is)
   (case z4 => k_is)
   (case z5 => k_is)
   (case z6 => k_is)
   (case z7 => k_is)
   (case z8 => k_is)
   (case z9 => k_is)
   (case z10 => k_is)
   (case z11 => k_is)
   (case z12 => k_is)
   (case g_LONGEST_NAME => k_is)
   (case g_TEETH_BOUND => k_is)
   (case g_MOST_WHEELS => k_is)
   (case g_MOST_JOINS => k_is)
   (case g_LETTERS => k_is)
   (case g_KINDS => k_is)
   (case gl_KINDS => k_is)
   (case ex_NoName => k_exc)
   (case ex_Twice => k_exc)
   (case ex_NoTeeth => k_exc)
   (case ex_Full => k_exc)
   (case ex_NoWheel => k_exc)
   (case ex_NoJoin => k_exc)
   (case ex_TrainError => k_exc)
   (case ex_NoText => k_exc)
   (case ex_Jams => k_exc)
   (case lc_Jams => k_is)
   (case lg_Jams => k_is)
   (case ln_Jams => k_is)
   (case la_Jams => k_is)
   (case ls_Jams => k_is)
   (case lt_Jams => k_is)
   (case lo_Jams => k_is)
   (case lb_Jams => k_is)
   (case kt_Jams_NoName => kit_is)
   (case kt_Jams_Twice => kit_is)
   (case kt_Jams_NoTeeth => kit_is)
   (case kt_Jams_Full => kit_is)
   (case kt_Jams_NoWheel => kit_is)
   (case kt_Jams_NoJoin => kit_is)
   (case kt_Jams_NoText => kit_is)
   (case kt_Jams_Jams => kit_is)
   (case kt_Jams_ValueError => kit_is)
   (case xm_NoWheel_NoWheel => kts_exm)
   (case xm_Jams_TrainError => kts_exm)
#print axioms PySem.Challenge.cw_cogtrain_k06_whole_turns_or_a_ring_holds
