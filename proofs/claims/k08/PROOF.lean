import PyProof.Rows.All
import Wide.All
import OpenK.AllK
import Wide.FinOn
import Lean
import PyProof.EqAt
import PyProof.EqKinds
import PyProof.TupleCall
import KE.KIntText
import PySem.Challenge.RW_cogtrain_k08_whole_loosened
set_option Elab.async false
set_option linter.all false
set_option maxRecDepth 100000
namespace L2
open PySem PySem.Spec PyProof.Rows
noncomputable abbrev Key:=Sum Int Str
noncomputable def b4u:Key->Value->Bool
 | .inl k,v=>Value.isInt k v
 | .inr x,v=>Value.isStrOf x v
noncomputable def keyH(w:World):Key->Int
 | .inl k=>hashInt k
 | .inr x=>hashStr w x
theorem a1a: ∀{k:Key}{v:Value},b4u k v=true->(∃i t,k=Sum.inl i/\v=Value.int i t)\/(∃x t,k=Sum.inr x/\v=Value.str x t)
 | .inl i,v,h=>by
   obtain⟨t,e⟩:=Value.isInt_shape (k:=i) (v:=v) h
   exact .inl ⟨i,t,rfl,e⟩
 | .inr x,v,h=>by
   obtain⟨t,e⟩:=Value.isStrOf_shape (x:=x) (v:=v) h
   exact .inr ⟨x,t,rfl,e⟩
theorem b62(i:Int)(t:Tok):b4u (.inl i) (.int i t)=true:=by simp[b4u,Value.isInt]
theorem b61(x:Str)(t:Tok):b4u (.inr x) (.str x t)=true:=by simp[b4u,Value.isStrOf]
theorem key_ll(a b:Int):decide ((Sum.inl a:Key)=Sum.inl b)=(a==b):=by
 by_cases e:a=b
 . subst e;simp
 . have h: ¬ (Sum.inl a:Key)=Sum.inl b:=fun q=>e (Sum.inl.inj q)
   rw[decide_eq_false h]
   exact(beq_eq_false_iff_ne.mpr e).symm
theorem key_rr(a b:Str):decide ((Sum.inr a:Key)=Sum.inr b)=decide (a=b):=by
 by_cases e:a=b
 . subst e;simp
 . have h: ¬ (Sum.inr a:Key)=Sum.inr b:=fun q=>e (Sum.inr.inj q)
   rw[decide_eq_false h,decide_eq_false e]
theorem key_lr(a:Int)(b:Str):decide ((Sum.inl a:Key)=Sum.inr b)=false:=decide_eq_false (fun q=>nomatch q)
theorem key_rl(a:Str)(b:Int):decide ((Sum.inr a:Key)=Sum.inl b)=false:=decide_eq_false (fun q=>nomatch q)
noncomputable def a00(prog:Program)(w:World):PySem.KeyKind prog w Key where
 is:=b4u
 hash:=keyH w
 inj:=fun v a b ha hb=>by
   rcases a1a ha with⟨i,t,rfl,rfl⟩ | ⟨x,t,rfl,rfl⟩
   . rcases a1a hb with⟨j,u,rfl,e⟩ | ⟨y,u,rfl,e⟩
     . injection e with e1 _;rw[e1]
     . exact nomatch e
   . rcases a1a hb with⟨j,u,rfl,e⟩ | ⟨y,u,rfl,e⟩
     . exact nomatch e
     . injection e with e1 _;rw[e1]
 byValue:=fun k v h=>by
   rcases a1a h with⟨i,t,rfl,rfl⟩ | ⟨x,t,rfl,rfl⟩<;>rfl
 pyHash:=fun hv h=>by
   rcases a1a hv with⟨i,t,rfl,rfl⟩ | ⟨x,t,rfl,rfl⟩
   . exact wpAny_pyHash_int h
   . exact wpAny_pyHash_str h
 eqBool:=fun hu hv h=>by
   rcases a1a hu with⟨i,t,rfl,rfl⟩ | ⟨x,t,rfl,rfl⟩
   . rcases a1a hv with⟨j,u,rfl,rfl⟩ | ⟨y,u,rfl,rfl⟩
     . rw[key_ll]at h;exact wpAny_eqBool_int h
     . rw[key_lr]at h;exact SeqAt.EqAt.int_str i t y u _ _ _ _ h
   . rcases a1a hv with⟨j,u,rfl,rfl⟩ | ⟨y,u,rfl,rfl⟩
     . rw[key_rl]at h;exact SeqAt.EqAt.str_int x t j u _ _ _ _ h
     . rw[key_rr]at h;exact wpAny_eqBool_str h
 «strs» := fun k x t v h => by
   rcases a1a h with⟨i,u,rfl,e⟩ | ⟨y,u,rfl,e⟩
   . exact nomatch e
   . injection e with e1 _
     subst e1
     cases v<;>rfl
theorem b1j(prog:Program)(w:World)(i:Int)(t:Tok):(a00 prog w).is (.inl i) (.int i t)=true:=b62 i t
theorem b1i(prog:Program)(w:World)(x:Str)(t:Tok):(a00 prog w).is (.inr x) (.str x t)=true:=b61 x t
inductive V where
 |non |bl (b:Bool) |int (i:Int) |str (x:Str) |byt (b:Array UInt8) |flt (b:UInt64) |ref (a:Addr) |ty (n:String)
 deriving DecidableEq
def RelV:V->Value->Prop
 | .non,u=>u=Value.none
 | .bl b,u=>u=Value.bool b
 | .int i,u=> ∃t,u=Value.int i t
 | .str x,u=> ∃t,u=Value.str x t
 | .byt b,u=> ∃t,u=Value.bytes b t
 | .flt b,u=> ∃t,u=Value.float b t
 | .ref a,u=>u=Value.ref a
 | .ty n,u=>u=Value.type n
abbrev Vals:List V->List Value->Prop:=Paired RelV
theorem Vals.length{xs:List V}{us:List Value}(r:Vals xs us):xs.length=us.length:=Paired.length r
theorem Vals.get: ∀{xs:List V}{us:List Value}{i:Nat}{x:V},Vals xs us->xs[i]? =some x-> ∃u,us[i]? =some u/\RelV x u
 |_,_,_,_,.nil,e=>by simp at e
 |_,_,0,_,.cons r _,e=>by simp at e;subst e;exact⟨_,rfl,r⟩
 |_,_,i+1,x,.cons _ t,e=>by
   obtain⟨u,h1,h2⟩:=Vals.get (i:=i) (x:=x) t (by simpa using e)
   exact⟨u,by simpa using h1,h2⟩
theorem Vals.set{x:V}{u:Value}(r:RelV x u): ∀{xs:List V}{us:List Value} (i:Nat),Vals xs us->Vals (xs.set i x) (us.set i u)
 |_,_,_,.nil=> .nil
 |_,_,0,.cons _ t=> .cons r t
 |_,_,i+1,.cons q t=> .cons q (Vals.set r i t)
theorem Vals.append: ∀{xs ys:List V}{us ws:List Value},Vals xs us->Vals ys ws->Vals (xs++ys) (us++ws)
 |_,_,_,_,.nil,s=>s
 |_,_,_,_,.cons r t,s=> .cons r (Vals.append t s)
theorem Vals.take: ∀{xs:List V}{us:List Value} (n:Nat),Vals xs us->Vals (xs.take n) (us.take n)
 |_,_,0,_=> .nil
 |_,_,_+1,.nil=> .nil
 |_,_,n+1,.cons r t=> .cons r (Vals.take n t)
theorem Vals.drop: ∀{xs:List V}{us:List Value} (n:Nat),Vals xs us->Vals (xs.drop n) (us.drop n)
 |_,_,0,r=>r
 |_,_,_+1,.nil=> .nil
 |_,_,n+1,.cons _ t=>Vals.drop n t
def RelO:Option V->Option Value->Prop
 |some v,some u=>RelV v u
 |none,none=>True
 |_,_=>False
def KV{κ:Type}:List (κ×V)->List (κ×Value)->Prop:=Paired fun (p:κ×V) (q:κ×Value)=>p.1=q.1/\RelV p.2 q.2
noncomputable def kV:Key->V
 | .inl i=> .int i
 | .inr x=> .str x
inductive HO where
 /-- a list -/
 |lst (xs:List V)
 /-- a tuple (never changes) -/
 |tup (xs:List V)
 /-- a dict whose keys are ints and texts; one whose keys are tuples of ints and texts (the empty one is both) -/
 |dK (kvs:List (Key×V)) |dT (kvs:List (List Key×V))
 /-- a set of ints: its members, its size -/
 |set (S:Int->Bool) (n:Nat)
 /-- an instance of the class at C, its dict at dx, its attributes -/
 |ins (C dx:Addr) (fs:List (Str×V))
 /-- the dict of the instance at x -/
 |own (x:Addr)
 /-- the dict of an exception -/
 |xd (fs:List (Str×V))
 /-- a bound method, f of x -/
 |met (f x:Addr)
 /-- a range object lo, lo + 1, .. below hi -/
 |rng (lo hi:Int)
 /-- a thing that is known to the object (the script; a dict while a loop walks it): read, never written while it is so -/
 |frz (o:Obj) (u:HO)
 /-- a code object's table -/
 |tbl (ps:Array Value)
 /-- any other thing, by what is true of its one object (a def of one's own: SetO a S n := HO.ext fun h => ..) -/
 |ext (φ:Heap->Prop)
noncomputable abbrev Hp:=Addr->Option HO
noncomputable def upd(H:Hp)(a:Addr)(o:HO):Hp:=fun b=>if b=a then some o else H b
theorem a0t{H:Hp}{a:Addr}{o:HO}:upd H a o a=some o:=by unfold upd;rw[if_pos rfl]
theorem a0o{H:Hp}{a b:Addr}{o:HO}(h:b≠a):upd H a o b=H b:=by unfold upd;rw[if_neg h]
theorem a5j{H:Hp}{a b:Addr}{o u:HO}(h:H a=some o)(h':H b=some u)(d:o≠u):a≠b:=by
 intro e;subst e;rw[h]at h';exact d (Option.some.inj h')
theorem a2s{H:Hp}{a b:Addr}{o:HO}(h:H a=some o)(h':H b=none):a≠b:=by
 intro e;subst e;rw[h]at h';cases h'
section
variable (P:Program)(w:World)
def ObjOk(H:Hp)(h:Heap)(a:Addr):HO->Prop
 | .lst xs=>xs.length<=sizeLine/\ ∃(its:List Value) (n:Nat),Vals xs its/\h.get? a=some {cls:= .type "list",data:= .seq its.toArray n}
 | .tup xs=>xs.length<=sizeLine/\ ∃its:List Value,Vals xs its/\IsTup h a its.toArray
 | .dK kvs=>kvs.length<=sizeLine/\(a==sysModules)=false/\ ∃vs,KV kvs vs/\h.DictOf (a00 P w) a vs
 | .dT kvs=>kvs.length<=sizeLine/\(a==sysModules)=false/\ ∃xs:List (List Key×Addr×Value),
     Paired (fun (p:List Key×V) (q:List Key×Addr×Value)=>p.1=q.1/\H q.2.1=some (.tup (p.1.map kV))/\RelV p.2 q.2.2) kvs xs/\
     ∃o es ep,h.get? a=some o/\o.ExactDict/\o.data= .dict es ep/\es.toList=xs.map (entryOfKey (tupleKind (a00 P w)))/\(xs.map (·.1)).Nodup
 | .set S n=>h.SetOf (intKind P w) a S n
 | .ins C dx fs=>H dx=some (.own a)/\fs.length<=1000/\dx≠a/\h.get? a=some (PySem.W.instObj C dx)/\
     ∃mA,h.Ns1 dx mA/\(∀f,RelO (fs.lookup f) (mA f))/\PySem.Within mA (fs.map (·.1))
 | .own _=> ∃o,h.get? a=some o
 | .xd fs=> ∃mA,h.Ns1 a mA/\ ∀f,RelO (fs.lookup f) (mA f)
 | .rng lo hi=> ∃t u v,h.get? a=some {cls:= .type "range",data:= .fields #[.int lo t,.int hi u,.int 1 v]}
 | .frz o u=>h.get? a=some o/\ObjOk H h a u
 | .tbl ps=>h.get? a=some {cls:= .none,data:= .fields ps}
 | .met f x=>h.get? a=some (PySem.W.methodObj (.ref f) (.ref x))
 | .ext φ=>φ h/\(∃o,h.get? a=some o)/\ ∀h1 h2:Heap,φ h1->(∀o,h1.get? a=some o->h2.get? a=some o)->φ h2
def HOk(H:Hp)(h:Heap):Prop:= ∀a o,H a=some o->ObjOk P w H h a o
end
section
variable {P:Program}{w:World}{H H':Hp}{h h':Heap}{a:Addr}{o:HO}
theorem ObjOk.lt(x:ObjOk P w H h a o):a<h.objs.size:=by
 cases o with
 |lst xs=>obtain⟨_,_,_,_,e⟩:=x;exact Heap.lt_size e
 |tup xs=>obtain⟨_,_,_,p⟩:=x;exact p.lt
 |dK kvs=>obtain⟨_,_,_,_,o,_,_,e,_⟩:=x;exact Heap.lt_size e
 |dT kvs=>obtain⟨_,_,_,_,o,_,_,e,_⟩:=x;exact Heap.lt_size e
 |set S n=>obtain⟨o,_,_,_,e,_⟩:=x;exact Heap.lt_size e
 |ins C dx fs=>obtain⟨_,_,_,e,_⟩:=x;exact Heap.lt_size e
 |own y=>obtain⟨_,e⟩:=x;exact Heap.lt_size e
 |xd fs=>obtain⟨_,⟨_,_,_,e,_⟩,_⟩:=x;exact Heap.lt_size e
 |rng lo hi=>obtain⟨_,_,_,e⟩:=x;exact Heap.lt_size e
 |frz ob u=>obtain⟨e,_⟩:=x;exact Heap.lt_size e
 |tbl ps=>exact Heap.lt_size (show h.get? a=some _ from x)
 |met f y=>exact Heap.lt_size (show h.get? a=some _ from x)
 |ext φ=>obtain⟨_,⟨_,e⟩,_⟩:=x;exact Heap.lt_size e
theorem Paired.mapP{α β:Type}{F G:α->β->Prop}: ∀{l₁:List α}{l₂:List β},Paired F l₁ l₂->(∀a b,F a b->G a b)->Paired G l₁ l₂
 |_,_,.nil,_=> .nil
 |_,_,.cons r t,f=> .cons (f _ _ r) (Paired.mapP t f)
theorem ObjOk.stay(x:ObjOk P w H h a o)(k: ∀b u,(b=a\/H b=some (.own a))->h.get? b=some u->h'.get? b=some u)
   (ho: ∀b,H b=some (.own a)->H' b=some (.own a)) (ht: ∀b xs,H b=some (.tup xs)->H' b=some (.tup xs)):ObjOk P w H' h' a o:=by
 induction o with
 |lst xs=>obtain⟨z,its,n,r,e⟩:=x;exact⟨z,its,n,r,k _ _ (.inl rfl) e⟩
 |tup xs=>obtain⟨z,its,r,ob,e,c⟩:=x;exact⟨z,its,r,ob,k _ _ (.inl rfl) e,c⟩
 |dK kvs=>obtain⟨z,y,vs,r,ob,es,ep,e,c⟩:=x;exact⟨z,y,vs,r,ob,es,ep,k _ _ (.inl rfl) e,c⟩
 |dT kvs=>
   obtain⟨z,y,xs,r,ob,es,ep,e,c⟩:=x
   exact⟨z,y,xs,Paired.mapP r fun p q z=>⟨z.1,ht _ _ z.2.1,z.2.2⟩,ob,es,ep,k _ _ (.inl rfl) e,c⟩
 |set S n=>obtain⟨ob,es,ep,t,e,c⟩:=x;exact⟨ob,es,ep,t,k _ _ (.inl rfl) e,c⟩
 |ins C dx fs=>
   obtain⟨d,z,ne,e,mA,⟨od,es,ep,e2,c⟩,r⟩:=x
   exact⟨ho _ d,z,ne,k _ _ (.inl rfl) e,mA,⟨od,es,ep,k _ _ (.inr d) e2,c⟩,r⟩
 |own y=>obtain⟨ob,e⟩:=x;exact⟨ob,k _ _ (.inl rfl) e⟩
 |xd fs=>obtain⟨mA,⟨od,es,ep,e,c⟩,r⟩:=x;exact⟨mA,⟨od,es,ep,k _ _ (.inl rfl) e,c⟩,r⟩
 |rng lo hi=>obtain⟨t,u,v,e⟩:=x;exact⟨t,u,v,k _ _ (.inl rfl) e⟩
 |frz ob u ih=>obtain⟨e,q⟩:=x;exact⟨k _ _ (.inl rfl) e,ih q⟩
 |tbl ps=>
   have e:h.get? a=some {cls:= .none,data:= .fields ps}:=x
   show h'.get? a=some {cls:= .none,data:= .fields ps}
   exact k a _ (.inl rfl) e
 |met f y=>
   have e:h.get? a=some (PySem.W.methodObj (.ref f) (.ref y)):=x
   show h'.get? a=some (PySem.W.methodObj (.ref f) (.ref y))
   exact k a _ (.inl rfl) e
 |ext φ=>obtain⟨p,⟨o,e⟩,st⟩:=x;exact⟨st _ _ p fun o q=>k _ _ (.inl rfl) q,⟨o,k _ _ (.inl rfl) e⟩,st⟩
theorem HOk.lt(x:HOk P w H h)(e:H a=some o):a<h.objs.size:=(x a o e).lt
theorem HOk.fresh(x:HOk P w H h)(e:h.objs.size<=a):H a=none:=by
 cases q:H a with
 |none=>rfl
 |some u=>exact absurd (Nat.lt_of_lt_of_le (x.lt q) e) (Nat.lt_irrefl _)
theorem HOk.kept(x:HOk P w H h)(k: ∀b u,h.get? b=some u->h'.get? b=some u):HOk P w H h':=fun a o e=>
 (x a o e).stay (fun b u _ q=>k b u q) (fun _ q=>q) fun _ _ q=>q
theorem HOk.laid(x:HOk P w H h)(k: ∀b u,h.get? b=some u->h'.get? b=some u)(hp:h.objs.size<=a)(new:ObjOk P w (upd H a o) h' a o):HOk P w (upd H a o) h':=fun b u e=>by
 have hn:=x.fresh hp
 by_cases hb:b=a
 . subst hb;rw[a0t]at e;cases e;exact new
 . rw[a0o hb]at e
   exact(x b u e).stay (fun c v _ q=>k c v q) (fun c q=>by rw[a0o (a2s q hn)];exact q) fun c xs q=>by rw[a0o (a2s q hn)];exact q
end
def Rd(H:Hp)(a:Addr)(u:HO):Prop:=H a=some u\/ ∃o,H a=some (.frz o u)
theorem Rd.of{H:Hp}{a:Addr}{u:HO}(h:H a=some u):Rd H a u:= .inl h
theorem Rd.ok{P:Program}{w:World}{H:Hp}{h:Heap}{a:Addr}{u:HO}(r:Rd H a u)(x:HOk P w H h):ObjOk P w H h a u:=by
 rcases r with r | ⟨o,r⟩
 . exact x a u r
 . obtain⟨_,q⟩:=x a _ r
   exact q
def Mut:Option HO->Prop
 |some (.lst _)=>True
 |some (.dK _)=>True
 |some (.dT _)=>True
 |some (.set _ _)=>True
 |some (.ins _ _ _)=>True
 |some (.ext _)=>True
 |_=>False
section
variable {P:Program}{w:World}{H:Hp}{h h':Heap}{x e:Addr}{o':HO}
theorem HOk.write(ok:HOk P w H h)(mu:Mut (H x))(he:e=x\/H e=some (.own x))(k: ∀b u,b≠e->h.get? b=some u->h'.get? b=some u)(heo: ∃u,h'.get? e=some u)
   (new:ObjOk P w (upd H x o') h' x o'):HOk P w (upd H x o') h':=fun b u q=>by
 have nown: ∀c y,H c=some (.own y)->c≠x:=fun c y r z=>by subst z;rw[r]at mu;exact mu
 have ntup: ∀c xs,H c=some (.tup xs)->c≠x:=fun c xs r z=>by subst z;rw[r]at mu;exact mu
 by_cases hb:b=x
 . subst hb;rw[a0t]at q;cases q;exact new
 . rw[a0o hb]at q
   by_cases hbe:b=e
   . have q':H b=some (.own x):=by
       rcases he with z |z
       . exact absurd (hbe.trans z) hb
       . rw[hbe];exact z
     rw[q]at q';cases q'
     obtain⟨v,hv⟩:=heo
     exact⟨v,by rw[hbe];exact hv⟩
   . refine(ok b u q).stay (fun c v hc r=>k c v ?_ r) (fun c r=>by rw[a0o (nown c b r)];exact r) fun c xs r=>by rw[a0o (ntup c xs r)];exact r
     rcases hc with rfl |hc
     . exact hbe
     . rintro rfl
       rcases he with z |z
       . exact nown c b hc z
       . rw[hc]at z;cases z;exact hb rfl
end
structure Un(fs ex:List Addr)(H H':Hp)(h h':Heap):Prop where
 keep: ∀b o,h.get? b=some o->H b=none->b∉fs->b∉ex->h'.get? b=some o
 slot: ∀b o,h.get? b=some o->H b=none->b∈fs->b∉ex-> ∃sl,h'.get? b=some {o with slots:=sl}
 free: ∀b o,h.get? b=some o->H b=none->b∉ex->H' b=none
 there: ∀b o,h.get? b=some o->b∉ex-> ∃o',h'.get? b=some o'
 tups: ∀b xs,H b=some (.tup xs)->H' b=some (.tup xs)
 frzs: ∀b o u,H b=some (.frz o u)->H' b=some (.frz o u)
 tbls: ∀b ps,H b=some (.tbl ps)-> ∃more,H' b=some (.tbl (ps++more))
section
variable {fs fs' ex ex':List Addr}{H H1 H2:Hp}{h h1 h2 h':Heap}{a x e:Addr}{o:HO}
theorem Un.any(u:Un fs ex H H1 h h1){b:Addr}{ob:Obj}(q:h.get? b=some ob)(n:H b=none)(hx:b∉ex): ∃sl,h1.get? b=some {ob with slots:=sl}:=by
 by_cases hb:b∈fs
 . exact u.slot b ob q n hb hx
 . exact⟨ob.slots,u.keep b ob q n hb hx⟩
theorem Un.kept(k: ∀b u,h.get? b=some u->h'.get? b=some u):Un fs ex H H h h':=
 ⟨fun b ob q _ _ _=>k b ob q,fun b ob q _ _ _=>⟨ob.slots,k b ob q⟩,fun _ _ _ n _=>n,fun b ob q _=>⟨ob,k b ob q⟩,fun _ _ q=>q,fun _ _ _ q=>q,fun _ ps q=>⟨#[],by rw[q];simp⟩⟩
theorem Un.refl:Un fs ex H H h h:=Un.kept fun _ _ q=>q
theorem Un.laid(k: ∀b u,h.get? b=some u->h'.get? b=some u)(hp:h.objs.size<=a)(hn:H a=none):Un fs ex H (upd H a o) h h' where
 keep:=fun b u q _ _ _=>k b u q
 slot:=fun b u q _ _ _=>⟨u.slots,k b u q⟩
 free:=fun b u q n _=>by rw[a0o (Nat.ne_of_lt (Nat.lt_of_lt_of_le (Heap.lt_size q) hp))];exact n
 there:=fun b u q _=>⟨u,k b u q⟩
 tups:=fun b xs q=>by rw[a0o (a2s q hn)];exact q
 frzs:=fun b u xs q=>by rw[a0o (a2s q hn)];exact q
 tbls:=fun b ps q=>⟨#[],by rw[a0o (a2s q hn),q];simp⟩
theorem Un.write(mu:Mut (H x))(he:e=x\/H e=some (.own x))(k: ∀b u,b≠e->h.get? b=some u->h'.get? b=some u)(heo: ∃u,h'.get? e=some u):Un fs ex H (upd H x o) h h':=by
 have hx: ∀b,H b=none->b≠x:=fun b n z=>by subst z;rw[n]at mu;exact mu
 have hb: ∀b,H b=none->b≠e:=fun b n z=>by
   subst z
   rcases he with r |r
   . exact hx b n r
   . rw[n]at r;cases r
 have hm: ∀b u,H b=some u-> ¬ Mut (some u)->b≠x:=fun b u q nm z=>by subst z;rw[q]at mu;exact nm mu
 refine⟨fun b u q n _ _=>k b u (hb b n) q,fun b u q n _ _=>⟨u.slots,k b u (hb b n) q⟩,fun b u q n _=>by rw[a0o (hx b n)];exact n,fun b u q _=> ?_,
   fun b xs q=>by rw[a0o (hm b _ q fun z=>z)];exact q,fun b u xs q=>by rw[a0o (hm b _ q fun z=>z)];exact q,fun b ps q=>⟨#[],by rw[a0o (hm b _ q fun z=>z),q];simp⟩⟩
 by_cases hbe:b=e
 . subst hbe;exact heo
 . exact⟨u,k b u hbe q⟩
end
noncomputable def trk(h:Heap)(H:Hp):List Addr:=(List.range h.objs.size).filter fun a=>(H a).isSome
noncomputable def hidT(h:Heap)(H:Hp):Heap:=PySem.W.hideAll h (trk h H)
theorem b7b(h:Heap)(H:Hp):(hidT h H).objs.size=h.objs.size:=PySem.W.hideAll_size _ _
theorem b3l{h:Heap}{H:Hp}{b:Addr}{o:Obj}(e:h.get? b=some o)(n:H b=none):(hidT h H).get? b=some o:=
 PySem.W.hideAll_get _ e fun hm=>by
   have q:(H b).isSome=true:=(List.mem_filter.mp hm).2
   rw[n]at q;simp at q
theorem of_hidT{h:Heap}{H:Hp}{b:Addr}{o:Obj}(e:(hidT h H).get? b=some o):h.get? b=some o/\H b=none:=by
 have e':h.get? b=some o:=PySem.W.of_hideAll (trk h H) e
 refine⟨e',?_⟩
 cases q:H b with
 |none=>rfl
 |some x=>
   have hm:b∈trk h H:=List.mem_filter.mpr ⟨List.mem_range.mpr (Heap.lt_size e'),by simp[q]⟩
   have z:(hidT h H).get? b=none:=PySem.W.hideAll_none (trk h H) hm
   rw[z]at e;cases e
noncomputable def allNews(g h:Heap)(L:Addr):List (Addr×Obj):=(List.range h.objs.size).filterMap fun a=>if a=L\/(g.get? a).isSome=true then none else(h.get? a).map fun o=>(a,o)
noncomputable def rest(g h:Heap)(L d:Addr):List (Addr×Obj):=(allNews g h L).filter fun p=>decide (p.1≠d)
structure Mod(K:PySem.W.Frag)(mg:Str->Option Value)(base:Heap):Prop where
 kin:K.In base
 glob:base.Ns mainGlobals mg
 blt: ∃mb,base.Ns builtinsNs mb/\ ∀x:Str,x≠ "__name__"->mb x=bootBuiltins x
 nolimit:base.NoLimit
structure Cx where
 prog:Program
 w:World
 K:PySem.W.Frag
 mg:Str->Option Value
 base:Heap
 A:Around
 N:List Str
 s₀:Shared
 H₀:Hp
 env:Env
 outer:List Env
 stack:List Env
 ex:List Addr
 fn:Str->Bool
 calm:Bool
 pn:List (Addr×Obj)
 xe:Value->Shared->Prop
noncomputable def frs(l:List Env):List Addr:=l.filterMap (·.frame)
noncomputable abbrev Cx.fs(X:Cx):List Addr:=frs X.outer
def Vis(sc:Scope)(x:Str):Prop:=sc.names.lookup x=some .local\/sc.names.lookup x=some .cell\/sc.names.lookup x=some .free
def Loc(sc:Scope)(x:Str):Prop:=sc.names.lookup x=some .local\/sc.names.lookup x=some .cell
def Look(env:Env)(h:Heap)(m:Str->Option Value)(x:Str)(u:Value):Prop:=
 (env.kindOf x=some .local/\m x=some u)\/((env.kindOf x=some .cell\/env.kindOf x=some .free)/\ ∃c,env.cells.lookup x=some c/\h.IsCell c (some u))
structure Cx.Ok(X:Cx):Prop where
 mod:Mod X.K X.mg X.base
 kind:X.env.scope.kind= .function
 glob:X.env.globals=mainGlobals
 blt:X.env.builtins=builtinsNs
 above:X.s₀.heap.objs.size<=X.env.locals
 inj: ∀x y c,X.env.cells.lookup x=some c->X.env.cells.lookup y=some c->x=y
 has: ∀x,(X.env.kindOf x=some .cell\/X.env.kindOf x=some .free)-> ∃c,X.env.cells.lookup x=some c
 cab: ∀x c,X.fn x=true->X.env.cells.lookup x=some c->X.s₀.heap.objs.size<=c
 hd:X.calm=true->X.A.handled=none
 frames:X.A.frames=some X.stack
 stk:X.stack=X.outer\/(X.stack=X.env::X.outer/\X.env.frame=some X.env.locals)
 exf: ∀b∈X.ex,b≠X.env.locals/\ ∀x c,X.env.cells.lookup x=some c->c≠b
 bs: ∀b o,X.base.get? b=some o->X.s₀.heap.get? b=some o/\X.H₀ b=none
 bsz:X.base.objs.size<=X.s₀.heap.objs.size
 noex: ∀b o,X.base.get? b=some o->b∉X.ex
 exfs: ∀b∈X.ex,b∉X.fs
 funs:X.s₀.heap.FunFrames X.base X.outer
 frf: ∀b∈X.fs,X.H₀ b=none
structure Inv(X:Cx)(pins:List (Addr×Obj))(σ:List (Option V))(H:Hp)(s:Shared):Prop where
 ok:X.Ok
 os:s.os=X.s₀.os
 bare:AllBare s.gens
 base:Un X.fs X.ex X.H₀ H X.s₀.heap s.heap
 loc: ∃m,s.heap.Ns X.env.locals m/\ ∀(i:Nat) (x:Str) (v:V),X.N[i]? =some x->σ[i]? =some (some v)->Vis X.env.scope x-> ∃u,RelV v u/\Look X.env s.heap m x u
 cell: ∀x c,X.env.cells.lookup x=some c-> ∃v,s.heap.IsCell c v
 free:H X.env.locals=none
 freeC: ∀x c,X.env.cells.lookup x=some c->H c=none
 pin: ∀p∈X.pn++pins,s.heap.get? p.1=some p.2/\H p.1=none/\p.1≠X.env.locals/\p.1∉X.fs/\ ∀v,p.2.data≠ .cell v
 hok:HOk X.prog X.w H s.heap
 len:σ.length=X.N.length
section
variable {X:Cx}{pins:List (Addr×Obj)}{σ:List (Option V)}{H H':Hp}{s:Shared}{h':Heap}
theorem Cx.Ok.nofr(ok:X.Ok){b:Addr}{o:Obj}(e:X.base.get? b=some o):b∉X.fs:=fun hb=>by
 have:=(ok.funs.mem hb).1
 rw[e]at this;cases this
theorem Inv.bs(I:Inv X pins σ H s): ∀b o,X.base.get? b=some o->s.heap.get? b=some o/\H b=none:=fun b o e=>
 ⟨I.base.keep b o (I.ok.bs b o e).1 (I.ok.bs b o e).2 (I.ok.nofr e) (I.ok.noex b o e),I.base.free b o (I.ok.bs b o e).1 (I.ok.bs b o e).2 (I.ok.noex b o e)⟩
theorem Inv.bk(I:Inv X pins σ H s): ∀b o,X.base.get? b=some o->s.heap.get? b=some o:=fun b o e=>(I.bs b o e).1
theorem Inv.mod(I:Inv X pins σ H s):Mod X.K X.mg X.base:=I.ok.mod
theorem Inv.kIn(I:Inv X pins σ H s):X.K.In s.heap:=I.ok.mod.kin.keeps I.bk
theorem Inv.nolimit(I:Inv X pins σ H s):s.heap.NoLimit:=I.ok.mod.nolimit.keeps I.bk
theorem Inv.lt(I:Inv X pins σ H s):X.env.locals<s.heap.objs.size:=let ⟨_,hn,_⟩:=I.loc;hn.lt
theorem Inv.sz(I:Inv X pins σ H s):X.s₀.heap.objs.size<=s.heap.objs.size:=Nat.le_trans I.ok.above (Nat.le_of_lt I.lt)
theorem Inv.nofs(I:Inv X pins σ H s){a:Addr}(h:s.heap.objs.size<=a):a∉X.fs:=fun hb=>by
 obtain⟨_,o,ho,_⟩:=I.ok.funs.mem hb
 exact absurd (Nat.lt_of_lt_of_le (Heap.lt_size ho) (Nat.le_trans I.sz h)) (Nat.lt_irrefl _)
theorem Inv.cne(I:Inv X pins σ H s): ∀x c,X.env.cells.lookup x=some c->c≠X.env.locals:=fun x c e z=>by
 obtain⟨v,o,ho,hd⟩:=I.cell x c e
 obtain⟨m,⟨o',es,ep,ho',hd',_⟩,_⟩:=I.loc
 rw[z,ho']at ho;cases ho;rw[hd']at hd;cases hd
theorem Inv.funs(I:Inv X pins σ H s):s.heap.FunFrames X.base X.outer:=by
 have all: ∀(l:List Env),(∀b∈frs l,b∈X.fs)->X.s₀.heap.FunFrames X.base l->s.heap.FunFrames X.base l:=by
   intro l
   induction l with
   |nil=>intro _ _;trivial
   |cons env r ih=>
     intro hs hl
     obtain⟨hk,⟨L,o,hf,hn,ho,hd⟩,hr⟩:=hl
     have hL:L∈X.fs:=hs L (by unfold frs;rw[List.filterMap_cons,hf];exact List.mem_cons_self)
     obtain⟨sl,e⟩:=I.base.slot L o ho (I.ok.frf L hL) hL fun z=>I.ok.exfs L z hL
     exact⟨hk,⟨L,_,hf,hn,e,hd⟩,ih (fun b hb=>hs b (by unfold frs;rw[List.filterMap_cons,hf];exact List.mem_cons_of_mem _ hb)) hr⟩
 exact all X.outer (fun _ hb=>hb) I.ok.funs
theorem Inv.stack(I:Inv X pins σ H s):s.heap.FunFrames X.base X.stack:=by
 rcases I.ok.stk with e | ⟨e,hf⟩
 . rw[e];exact I.funs
 . rw[e]
   obtain⟨m,hn,_⟩:=I.loc
   refine .cons (by rw[I.ok.kind];decide) hf hn ?_ I.funs
   exact Heap.get?_none_of_le (Nat.le_trans I.ok.bsz I.ok.above)
theorem Inv.stkSub(I:Inv X pins σ H s): ∀b∈frs X.stack,b∈X.env.locals::X.fs:=fun b hb=>by
 rcases I.ok.stk with e | ⟨e,hf⟩
 . rw[e]at hb;exact List.mem_cons_of_mem _ hb
 . rw[e]at hb
   unfold frs at hb
   rw[List.filterMap_cons,hf]at hb
   exact hb
theorem Inv.stkFree(I:Inv X pins σ H s): ∀b∈frs X.stack,H b=none:=fun b hb=>by
 rcases List.mem_cons.mp (I.stkSub b hb)with e |hb
 . rw[e];exact I.free
 . obtain⟨_,o,ho,_⟩:=I.ok.funs.mem hb
   exact I.base.free b o ho (I.ok.frf b hb) fun z=>I.ok.exfs b z hb
theorem Inv.step{g':Array GenState}{t':Nat}{d':Drawn}{ch:List Addr}(I:Inv X pins σ H s)
   (hch: ∀b∈ch,(b∈X.ex\/X.s₀.heap.objs.size<=b)/\b≠X.env.locals/\(∀x c,X.env.cells.lookup x=some c->c≠b)/\ ∀p∈X.pn++pins,p.1≠b)
   (keep: ∀b o,b≠X.env.locals->b∉X.fs->b∉ch->s.heap.get? b=some o->H b=none->h'.get? b=some o)
   (slot: ∀b o,b≠X.env.locals->b∈X.fs->b∉ch->s.heap.get? b=some o->H b=none-> ∃sl,h'.get? b=some {o with slots:=sl}) (free: ∀b o,b∉ch->s.heap.get? b=some o->H b=none->H' b=none)
   (there: ∀b o,b∉ch->s.heap.get? b=some o-> ∃o',h'.get? b=some o')
   (tups: ∀b xs,H b=some (.tup xs)->H' b=some (.tup xs)) (frzs: ∀b o u,H b=some (.frz o u)->H' b=some (.frz o u)) (tbls: ∀b ps,H b=some (.tbl ps)-> ∃more,H' b=some (.tbl (ps++more)))
   (ns: ∀m,s.heap.Ns X.env.locals m->h'.Ns X.env.locals m) (hok:HOk X.prog X.w H' h') (hg:AllBare g'):
   Inv X pins σ H' {s with heap:=h',gens:=g',drawn:=d',toks:=t'}:=by
 have neL: ∀b o,X.s₀.heap.get? b=some o->b≠X.env.locals:=fun b o e=>Nat.ne_of_lt (Nat.lt_of_lt_of_le (Heap.lt_size e) I.ok.above)
 have neC: ∀b o,X.s₀.heap.get? b=some o->b∉X.ex->b∉ch:=fun b o e hx hb=>by
   rcases(hch b hb).1 with z |z
   . exact hx z
   . exact absurd (Nat.lt_of_lt_of_le (Heap.lt_size e) z) (Nat.lt_irrefl _)
 have cellK: ∀x c,X.env.cells.lookup x=some c-> ∀v,s.heap.IsCell c v->h'.IsCell c v:=fun x c e v ⟨o,ho,hd⟩=>by
   have nch:c∉ch:=fun z=>(hch c z).2.2.1 x c e rfl
   by_cases hc:c∈X.fs
   . obtain⟨sl,q⟩:=slot c o (I.cne x c e) hc nch ho (I.freeC x c e)
     exact⟨_,q,hd⟩
   . exact⟨o,keep c o (I.cne x c e) hc nch ho (I.freeC x c e),hd⟩
 refine⟨I.ok,I.os,hg,⟨fun b o e n hb hx=> ?_,fun b o e n hb hx=> ?_,fun b o e n hx=> ?_,fun b o e hx=> ?_,fun b xs e=>tups b xs (I.base.tups b xs e),fun b o xs e=>frzs b o xs (I.base.frzs b o xs e),fun b ps e=> ?_⟩,?_,fun x c e=> ?_,?_,fun x c e=> ?_,fun p hp=> ?_,hok,I.len⟩
 . exact keep b o (neL b o e) hb (neC b o e hx) (I.base.keep b o e n hb hx) (I.base.free b o e n hx)
 . obtain⟨sl,e1⟩:=I.base.slot b o e n hb hx
   obtain⟨sl',e2⟩:=slot b _ (neL b o e) hb (neC b o e hx) e1 (I.base.free b o e n hx)
   exact⟨sl',e2⟩
 . obtain⟨o',e1⟩:=I.base.there b o e hx
   exact free b o' (neC b o e hx) e1 (I.base.free b o e n hx)
 . obtain⟨o',e1⟩:=I.base.there b o e hx
   exact there b o' (neC b o e hx) e1
 . obtain⟨m1,e1⟩:=I.base.tbls b ps e
   obtain⟨m2,e2⟩:=tbls b _ e1
   exact⟨m1++m2,by rw[e2,Array.append_assoc]⟩
 . obtain⟨m,hn,hl⟩:=I.loc
   refine⟨m,ns m hn,fun i x v e1 e2 e3=> ?_⟩
   obtain⟨u,r,l⟩:=hl i x v e1 e2 e3
   refine⟨u,r,?_⟩
   rcases l with l | ⟨k,c,e,z⟩
   . exact .inl l
   . exact .inr ⟨k,c,e,cellK x c e _ z⟩
 . obtain⟨v,z⟩:=I.cell x c e
   exact⟨v,cellK x c e v z⟩
 . obtain⟨m,⟨o,_,_,ho,_⟩,_⟩:=I.loc
   exact free _ o (fun z=>(hch _ z).2.1 rfl) ho I.free
 . obtain⟨v,o,ho,hd⟩:=I.cell x c e
   exact free c o (fun z=>(hch c z).2.2.1 x c e rfl) ho (I.freeC x c e)
 . obtain⟨e,n,ne,nf,d⟩:=I.pin p hp
   have nch:p.1∉ch:=fun z=>(hch p.1 z).2.2.2 p hp rfl
   exact⟨keep p.1 p.2 ne nf nch e n,free p.1 p.2 nch e n,ne,nf,d⟩
theorem Inv.un{t':Nat}(I:Inv X pins σ H s)(u:Un X.fs [] H H' s.heap h')(hok:HOk X.prog X.w H' h'):Inv X pins σ H' {s with heap:=h',toks:=t'}:=by
 obtain⟨m,⟨o,es,ep,ho,r⟩,_⟩:=id I.loc
 obtain⟨sl,hL⟩:=u.any ho I.free (by simp)
 exact I.step (g':=s.gens) (d':=s.drawn) (ch:=[]) (fun _ z=>nomatch z) (fun b o _ hb _ e n=>u.keep b o e n hb (by simp)) (fun b o _ hb _ e n=>u.slot b o e n hb (by simp)) (fun b o _ e n=>u.free b o e n (by simp)) (fun b o _ e=>u.there b o e (by simp)) u.tups u.frzs u.tbls (fun m' hm=>by
   obtain⟨o',es',ep',ho',r'⟩:=hm
   rw[ho]at ho';cases ho'
   exact⟨_,es',ep',hL,r'⟩) hok I.bare
theorem Inv.call{g':Array GenState}{t':Nat}{d':Drawn}{ch:List Addr}(I:Inv X pins σ H s)(u:Un (frs X.stack) ch H H' s.heap h')(hok:HOk X.prog X.w H' h')(hg:AllBare g')
   (hch: ∀b∈ch,(b∈X.ex\/X.s₀.heap.objs.size<=b)/\b≠X.env.locals/\(∀x c,X.env.cells.lookup x=some c->c≠b)/\ ∀p∈X.pn++pins,p.1≠b):
   Inv X pins σ H' {s with heap:=h',gens:=g',drawn:=d',toks:=t'}:=by
 obtain⟨m,⟨o,es,ep,ho,r⟩,_⟩:=id I.loc
 obtain⟨sl,hL⟩:=u.any ho I.free fun z=>(hch _ z).2.1 rfl
 exact I.step (ch:=ch) hch (fun b o hL hb hc e n=>u.keep b o e n (fun z=>(List.mem_cons.mp (I.stkSub b z)).elim hL hb) hc) (fun b o _ _ hc e n=>u.any e n hc) (fun b o hc e n=>u.free b o e n hc) (fun b o hc e=>u.there b o e hc) u.tups u.frzs u.tbls (fun m' hm=>by
   obtain⟨o',es',ep',ho',r'⟩:=hm
   rw[ho]at ho';cases ho'
   exact⟨_,es',ep',hL,r'⟩) hok hg
theorem Inv.turned{t':Nat}{it:Addr}(I:Inv X pins σ H s)(k: ∀b o,b≠it->s.heap.get? b=some o->h'.get? b=some o)(hn:H it=none)(hL:it≠X.env.locals)
   (h1:it∈X.ex\/X.s₀.heap.objs.size<=it) (h2: ∀x c,X.env.cells.lookup x=some c->c≠it) (h3: ∀p∈X.pn++pins,p.1≠it):Inv X pins σ H {s with heap:=h',toks:=t'}:=by
 have nit: ∀b u,H b=some u->b≠it:=fun b u e z=>by rw[z,hn]at e;cases e
 refine I.step (g':=s.gens) (d':=s.drawn) (ch:=[it]) (fun b hb=> ?_) (fun b o _ _ hc e _=>k b o (fun z=>hc (by simp[z])) e) (fun b o _ _ hc e _=>⟨o.slots,k b o (fun z=>hc (by simp[z])) e⟩) (fun _ _ _ _ n=>n)
   (fun b o hc e=>⟨o,k b o (fun z=>hc (by simp[z])) e⟩) (fun _ _ e=>e) (fun _ _ _ e=>e) (fun b ps e=>⟨#[],by rw[e];simp⟩) (fun m hm=> ?_) (fun b u e=> ?_) I.bare
 . have e:b=it:=by simpa using hb
   subst e
   exact⟨h1,hL,h2,h3⟩
 . obtain⟨o,es,ep,ho,r⟩:=hm
   exact⟨o,es,ep,k _ o (Ne.symm hL) ho,r⟩
 . refine(I.hok b u e).stay (fun c v hc q=>k c v ?_ q) (fun _ q=>q) fun _ _ q=>q
   rcases hc with z |z
   . rw[z];exact nit b u e
   . exact nit c _ z
theorem Inv.tok(I:Inv X pins σ H s)(t:Nat):Inv X pins σ H {s with toks:=t}:=I.un (h':=s.heap) (t':=t) Un.refl I.hok
theorem Inv.kept{t':Nat}(I:Inv X pins σ H s)(k: ∀b u,s.heap.get? b=some u->h'.get? b=some u):Inv X pins σ H {s with heap:=h',toks:=t'}:=I.un (Un.kept k) (I.hok.kept k)
theorem Inv.laid{a:Addr}{o:HO}{t':Nat}(I:Inv X pins σ H s)(k: ∀b u,s.heap.get? b=some u->h'.get? b=some u)(hp:s.heap.objs.size<=a)(new:ObjOk X.prog X.w (upd H a o) h' a o):
   Inv X pins σ (upd H a o) {s with heap:=h',toks:=t'}:=I.un (Un.laid k hp (I.hok.fresh hp)) (I.hok.laid k hp new)
theorem Inv.write{x e:Addr}{o:HO}{t':Nat}(I:Inv X pins σ H s)(mu:Mut (H x))(he:e=x\/H e=some (.own x))(k: ∀b u,b≠e->s.heap.get? b=some u->h'.get? b=some u)(heo: ∃u,h'.get? e=some u)
   (new:ObjOk X.prog X.w (upd H x o) h' x o):Inv X pins σ (upd H x o) {s with heap:=h',toks:=t'}:=I.un (Un.write mu he k heo) (I.hok.write mu he k heo new)
theorem Inv.pins_of{pins':List (Addr×Obj)}(I:Inv X pins σ H s)(h: ∀p∈pins',s.heap.get? p.1=some p.2/\H p.1=none/\p.1≠X.env.locals/\p.1∉X.fs/\ ∀v,p.2.data≠ .cell v):Inv X pins' σ H s:=
 ⟨I.ok,I.os,I.bare,I.base,I.loc,I.cell,I.free,I.freeC,fun p hp=>(List.mem_append.mp hp).elim (fun z=>I.pin p (List.mem_append_left _ z)) (h p),I.hok,I.len⟩
theorem b21{N:List Str}(hN:N.Nodup){i j:Nat}{x:Str}(a:N[i]? =some x)(b:N[j]? =some x):i=j:=by
 obtain⟨h1,e1⟩:=List.getElem?_eq_some_iff.mp a
 obtain⟨h2,e2⟩:=List.getElem?_eq_some_iff.mp b
 exact(List.getElem_inj hN).mp (e1.trans e2.symm)
theorem a9n{M:Model}{A:Around}{E:Value->Shared->Prop}{i:Nat}{x:Str}{v:V}{u:Value}{Q:Unit->Shared->Prop}(I:Inv X pins σ H s)(hN:X.N.Nodup)(hi:X.N[i]? =some x)(hx:Loc X.env.scope x)(r:RelV v u)
   (h: ∀s',Inv X pins (σ.set i (some v)) H s'->(∃a,Heap.SameBut a s.heap s'.heap/\(a=X.env.locals\/X.env.cells.lookup x=some a))->Q () s') (hf:X.fn x=true\/X.env.scope.names.lookup x=some .local:=by first |exact .inl rfl |exact .inr rfl |assumption):wpAny M A (storeName X.env x u) Q E s:=by
 obtain⟨m,hn,hl⟩:=id I.loc
 have hcls:(X.env.scope.kind== .class||(X.env.scope.kind== .module&&X.env.locals !=X.env.globals))=false:=by rw[I.ok.kind];rfl
 have hiσ:i<σ.length:=by rw[I.len];exact(List.getElem?_eq_some_iff.mp hi).1
 have cne:=I.cne
 have tracked: ∀{a:Addr}{h':Heap},(∃o,s.heap.get? a=some o/\H a=none)->Heap.SameBut a s.heap h'->HOk X.prog X.w H h':=fun {a h'} ha hs b ob e=>by
   obtain⟨_,_,hfree⟩:=ha
   refine(I.hok b ob e).stay (fun c w' hc q=>(hs.2 c ?_).trans q) (fun _ q=>q) fun _ _ q=>q
   rintro rfl
   rcases hc with rfl |hc
   . rw[hfree]at e;cases e
   . rw[hfree]at hc;cases hc
 rcases hx with hk |hk
 . refine wpAny_storeName_local hk hn (fun h' hn' hs=> ?_) hcls
   obtain⟨oL,_,_,hoL,_⟩:=id hn
   refine h _ ⟨I.ok,I.os,I.bare,⟨fun b o e n hb hx=> ?_,fun b o e n hb hx=> ?_,I.base.free,fun b o e hx=> ?_,I.base.tups,I.base.frzs,I.base.tbls⟩,⟨_,hn',fun j y v' e1 e2 e3=> ?_⟩,fun y c e=> ?_,I.free,I.freeC,fun p hp=> ?_,tracked ⟨oL,hoL,I.free⟩ hs,by simpa using I.len⟩ ⟨_,hs,.inl rfl⟩
   . exact(hs.2 b (Nat.ne_of_lt (Nat.lt_of_lt_of_le (Heap.lt_size e) I.ok.above))).trans (I.base.keep b o e n hb hx)
   . obtain⟨sl,e1⟩:=I.base.slot b o e n hb hx
     exact⟨sl,(hs.2 b (Nat.ne_of_lt (Nat.lt_of_lt_of_le (Heap.lt_size e) I.ok.above))).trans e1⟩
   . obtain⟨o',e1⟩:=I.base.there b o e hx
     exact⟨o',(hs.2 b (Nat.ne_of_lt (Nat.lt_of_lt_of_le (Heap.lt_size e) I.ok.above))).trans e1⟩
   . by_cases hj:j=i
     . subst hj
       rw[hi]at e1;cases e1
       rw[List.getElem?_set_self hiσ]at e2
       cases e2
       exact⟨u,r,.inl ⟨hk,by simp⟩⟩
     . rw[List.getElem?_set_ne (Ne.symm hj)]at e2
       obtain⟨u',r',q⟩:=hl j y v' e1 e2 e3
       refine⟨u',r',?_⟩
       rcases q with⟨k,e⟩ | ⟨k,c,e,z⟩
       . refine .inl ⟨k,?_⟩
         have:y≠x:=fun e=>hj (b21 hN e1 (e▸hi))
         simp[this,e]
       . exact .inr ⟨k,c,e,z.sameBut hs (cne y c e)⟩
   . obtain⟨w',z⟩:=I.cell y c e
     exact⟨w',z.sameBut hs (cne y c e)⟩
   . obtain⟨e,n,ne,nf,d⟩:=I.pin p hp
     exact⟨(hs.2 p.1 ne).trans e,n,ne,nf,d⟩
 . have hfn:X.fn x=true:=by
     rcases hf with z |z
     . exact z
     . rw[z]at hk;cases hk
   obtain⟨c,hc⟩:=I.ok.has x (.inl hk)
   obtain⟨w',z⟩:=I.cell x c hc
   refine wpAny_storeName_cell I.ok.kind hk hc z (fun h' hc' hs=> ?_)
   obtain⟨oc,hoc,hocd⟩:=id z
   refine h {s with heap:=h'} ⟨I.ok,I.os,I.bare,⟨fun b o e n hb hx=> ?_,fun b o e n hb hx=> ?_,I.base.free,fun b o e hx=> ?_,I.base.tups,I.base.frzs,I.base.tbls⟩,⟨m,hn.sameBut hs (Ne.symm (cne x c hc)),fun j y v' e1 e2 e3=> ?_⟩,fun y c' e=> ?_,I.free,I.freeC,fun p hp=> ?_,tracked ⟨oc,hoc,I.freeC x c hc⟩ hs,by simpa using I.len⟩ ⟨c,hs,.inr hc⟩
   . exact(hs.2 b (Nat.ne_of_lt (Nat.lt_of_lt_of_le (Heap.lt_size e) (I.ok.cab x c hfn hc)))).trans (I.base.keep b o e n hb hx)
   . obtain⟨sl,e1⟩:=I.base.slot b o e n hb hx
     exact⟨sl,(hs.2 b (Nat.ne_of_lt (Nat.lt_of_lt_of_le (Heap.lt_size e) (I.ok.cab x c hfn hc)))).trans e1⟩
   . obtain⟨o',e1⟩:=I.base.there b o e hx
     exact⟨o',(hs.2 b (Nat.ne_of_lt (Nat.lt_of_lt_of_le (Heap.lt_size e) (I.ok.cab x c hfn hc)))).trans e1⟩
   . by_cases hj:j=i
     . subst hj
       rw[hi]at e1;cases e1
       rw[List.getElem?_set_self hiσ]at e2
       cases e2
       exact⟨u,r,.inr ⟨.inl hk,c,hc,hc'⟩⟩
     . rw[List.getElem?_set_ne (Ne.symm hj)]at e2
       obtain⟨u',r',q⟩:=hl j y v' e1 e2 e3
       refine⟨u',r',?_⟩
       rcases q with q | ⟨k,c',e,z'⟩
       . exact .inl q
       . refine .inr ⟨k,c',e,z'.sameBut hs ?_⟩
         rintro rfl
         exact hj (b21 hN e1 (I.ok.inj _ _ _ e hc▸hi))
   . by_cases hcc:c'=c
     . subst hcc;exact⟨_,hc'⟩
     . obtain⟨w2,z2⟩:=I.cell y c' e
       exact⟨w2,z2.sameBut hs hcc⟩
   . obtain⟨e,n,ne,nf,d⟩:=I.pin p hp
     refine⟨(hs.2 p.1 ?_).trans e,n,ne,nf,d⟩
     intro q
     rw[q,hoc]at e
     have q':oc=p.2:=Option.some.inj e
     exact d w' (by rw[<-q'];exact hocd)
theorem b2f{M:Model}{A:Around}{E:Value->Shared->Prop}{i:Nat}{x:Str}{v:V}{u:Value}{Q:Unit->Shared->Prop}(I:Inv X pins σ H s)(hN:X.N.Nodup)(hi:X.N[i]? =some x)(hx:Loc X.env.scope x)(r:RelV v u)
   (h: ∀s',Inv X pins (σ.set i (some v)) H s'->Q () s') (hf:X.fn x=true\/X.env.scope.names.lookup x=some .local:=by first |exact .inl rfl |exact .inr rfl |assumption):wpAny M A (storeName X.env x u) Q E s:=
 a9n I hN hi hx r (fun s' I' _=>h s' I') hf
theorem Inv.call'{s':Shared}{ch:List Addr}(I:Inv X pins σ H s)(ho:s'.os=s.os)(u:Un (frs X.stack) ch H H' s.heap s'.heap)(hok:HOk X.prog X.w H' s'.heap)(hg:AllBare s'.gens)
   (hch: ∀b∈ch,(b∈X.ex\/X.s₀.heap.objs.size<=b)/\b≠X.env.locals/\(∀x c,X.env.cells.lookup x=some c->c≠b)/\ ∀p∈X.pn++pins,p.1≠b):Inv X pins σ H' s':=by
 obtain⟨h',g',d',t',o'⟩:=s'
 have e:o'=s.os:=ho
 subst e
 exact I.call (g':=g') (t':=t') (d':=d') u hok hg hch
end
noncomputable abbrev XK:=Value->Option Addr->Hp->Prop
noncomputable abbrev St:=List (Option V)
noncomputable abbrev VK:=V->Hp->Prop
noncomputable abbrev TE:=St->Hp->VK->Prop
noncomputable abbrev TT:=St->Hp->(Bool->Hp->Prop)->Prop
noncomputable abbrev TA:=St->Hp->(List V->Hp->Prop)->Prop
structure Ends where
 nx:St->Hp->Prop
 rt:VK
 bk:St->Hp->Prop:=fun _ _=>False
 ct:St->Hp->Prop:=fun _ _=>False
noncomputable abbrev TS:=Ends->St->Hp->Prop
def EP(X:Cx)(pins:List (Addr×Obj))(σ:St)(Q:VK)(u:Value)(s':Shared):Prop:= ∃v H',Inv X pins σ H' s'/\RelV v u/\Q v H'
def TP(X:Cx)(pins:List (Addr×Obj))(σ:St)(Q:Bool->Hp->Prop)(b:Bool)(s':Shared):Prop:= ∃H',Inv X pins σ H' s'/\Q b H'
def AP(X:Cx)(pins:List (Addr×Obj))(σ:St)(Q:List V->Hp->Prop)(us:List Value)(s':Shared):Prop:= ∃vs H',Inv X pins σ H' s'/\Vals vs us/\Q vs H'
def SP(X:Cx)(pins:List (Addr×Obj))(D:Ends)(f:Flow)(s':Shared):Prop:=
 match f with
 | .next=> ∃σ' H',Inv X pins σ' H' s'/\D.nx σ' H'
 | .brk=> ∃σ' H',Inv X pins σ' H' s'/\D.bk σ' H'
 | .cont=> ∃σ' H',Inv X pins σ' H' s'/\D.ct σ' H'
 | .ret u=> ∃v σ' H',Inv X pins σ' H' s'/\RelV v u/\D.rt v H'
def PE(X:Cx)(e:Expr)(t:TE):Prop:=
 ∀(pins:List (Addr×Obj)) (s:Shared) (σ:St) (H:Hp) (Q:VK),Inv X pins σ H s->t σ H Q->wpAny (model X.prog X.w) X.A (eval e X.env) (EP X pins σ Q) X.xe s
def PT(X:Cx)(e:Expr)(t:TT):Prop:=
 ∀(pins:List (Addr×Obj)) (s:Shared) (σ:St) (H:Hp) (Q:Bool->Hp->Prop),Inv X pins σ H s->t σ H Q->wpAny (model X.prog X.w) X.A (isTrue e X.env (eval e X.env)) (TP X pins σ Q) X.xe s
def PW(X:Cx)(e:Expr)(t:TT):Prop:=
 ∀(whole:Sem Value) (pins:List (Addr×Obj)) (s:Shared) (σ:St) (H:Hp) (Q:Bool->Hp->Prop),Inv X pins σ H s->t σ H Q->wpAny (model X.prog X.w) X.A (isTrue e X.env whole) (TP X pins σ Q) X.xe s
theorem PW.pt{X:Cx}{e:Expr}{t:TT}(h:PW X e t):PT X e t:=h _
def PA(X:Cx)(es:List Expr)(t:TA):Prop:=
 ∀(pos:Pos) (pins:List (Addr×Obj)) (s:Shared) (σ:St) (H:Hp) (Q:List V->Hp->Prop),Inv X pins σ H s->t σ H Q->wpAny (model X.prog X.w) X.A (spliced (backTo pos (starEach es X.env))) (AP X pins σ Q) X.xe s
def PS(X:Cx)(st:Stmt)(t:TS):Prop:=
 ∀(pins:List (Addr×Obj)) (s:Shared) (σ:St) (H:Hp) (D:Ends),Inv X pins σ H s->t D σ H->wpAny (model X.prog X.w) X.A (exec st X.env) (SP X pins D) X.xe s
def PSs(X:Cx)(st:List Stmt)(t:TS):Prop:=
 ∀(pins:List (Addr×Obj)) (s:Shared) (σ:St) (H:Hp) (D:Ends),Inv X pins σ H s->t D σ H->wpAny (model X.prog X.w) X.A (execs st X.env) (SP X pins D) X.xe s
theorem thn{α:Type}{t:Sem α}{Q Q':α->Shared->Prop}{M:Model}{A:Around}{E:Value->Shared->Prop}{s:Shared}(h:wpAny M A t Q E s)(hQ: ∀a s,Q a s->Q' a s):wpAny M A t Q' E s:=wpAny_mono h hQ fun _ _ x=>x
section
variable {X:Cx}
def tVar(i:Nat):TE:=fun σ H Q=> ∃v,σ[i]? =some (some v)/\Q v H
def tC(v:V):TE:=fun _ H Q=>Q v H
theorem pe_var{i:Nat}{x:Str}{pos:Pos}(hN:X.N[i]? =some x)(hv:Vis X.env.scope x)(hd:(x==("__debug__":Str))=false:=by decide)(hcd:(x==("__classdict__":Str))=false:=by decide):PE X (.Name x pos) (tVar i):=by
 intro pins s σ H Q I h
 obtain⟨v,e,h⟩:=h
 obtain⟨m,hn,hl⟩:=I.loc
 obtain⟨u,r,l⟩:=hl i x v hN e hv
 have fin:EP X pins σ Q u s:=⟨v,H,I,r,h⟩
 rcases l with⟨hk,hm⟩ | ⟨hk,c,hc,hcell⟩
 . exact wpAny_Name (wpAny_loadName_local I.ok.kind hk hn hm fin) hd
 . rcases hk with hk |hk
   . exact wpAny_Name (wpAny_loadName_cell I.ok.kind hk hc hcell fin) hd
   . exact wpAny_Name (wpAny_loadName_free I.ok.kind hk hc hcell fin hcd) hd
theorem pe_int{i j pos}:PE X (.Constant (.int i) j pos) (tC (.int i)):=fun _ _ _ H _ I h=>wpAny_Constant_int ⟨.int i,H,I.tok _,⟨_,rfl⟩,h⟩
theorem pe_bl{b j pos}:PE X (.Constant (.bool b) j pos) (tC (.bl b)):=fun _ _ _ H _ I h=>Constant_bool ⟨.bl b,H,I,rfl,h⟩
theorem pe_non{j pos}:PE X (.Constant .none j pos) (tC .non):=fun _ _ _ H _ I h=>Constant_none ⟨.non,H,I,rfl,h⟩
theorem pe_str{x j pos}:PE X (.Constant (.str x) j pos) (tC (.str x)):=fun _ _ _ H _ I h=>Calls.Constant_str ⟨.str x,H,I.tok _,⟨_,rfl⟩,h⟩
def Gl(X:Cx)(x:Str):Prop:=X.env.kindOf x=some .globalImplicit
theorem a5l{E:Value->Shared->Prop}{pins:List (Addr×Obj)}{s:Shared}{σ:St}{H:Hp}{x:Str}{u:Value}{pos:Pos}{Q:Value->Shared->Prop}(I:Inv X pins σ H s)(hg:Gl X x)(hm:X.mg x=some u)(h:Q u s)
   (hd:(x==("__debug__":Str))=false:=by decide):wpAny (model X.prog X.w) X.A (eval (.Name x pos) X.env) Q E s:=
 Calls.Name_function_global I.ok.kind hg (Calls.loadGlobal_global (by rw[I.ok.glob];exact I.mod.glob.keeps I.bk) hm h) hd
theorem b0e{E:Value->Shared->Prop}{pins:List (Addr×Obj)}{s:Shared}{σ:St}{H:Hp}{x:Str}{u:Value}{pos:Pos}{Q:Value->Shared->Prop}(I:Inv X pins σ H s)(hg:Gl X x)(hm:X.mg x=none)(hv:bootBuiltins x=some u)(h:Q u s)
   (hn:x≠ "__name__":=by decide) (hd:(x==("__debug__":Str))=false:=by decide):wpAny (model X.prog X.w) X.A (eval (.Name x pos) X.env) Q E s:=by
 obtain⟨mb,h1,h2⟩:=I.mod.blt
 exact Calls.Name_function_global I.ok.kind hg (Calls.loadGlobal_builtin (by rw[I.ok.glob];exact I.mod.glob.keeps I.bk) hm (by rw[I.ok.blt];exact h1.keeps I.bk) ((h2 x hn).trans hv) h) hd
theorem a3l{x:Str}{v:V}{u:Value}{pos:Pos}(hg:Gl X x)(hm:X.mg x=some u)(r:RelV v u)(hd:(x==("__debug__":Str))=false:=by decide):PE X (.Name x pos) (tC v):=
 fun _ _ _ H _ I h=>a5l I hg hm ⟨v,H,I,r,h⟩ hd
theorem pe_bltn{x:Str}{v:V}{u:Value}{pos:Pos}(hg:Gl X x)(hm:X.mg x=none)(hv:bootBuiltins x=some u)(r:RelV v u)(hn:x≠ "__name__":=by decide)(hd:(x==("__debug__":Str))=false:=by decide):PE X (.Name x pos) (tC v):=
 fun _ _ _ H _ I h=>b0e I hg hm hv ⟨v,H,I,r,h⟩ hn hd
variable {a b:Expr}{ta tb:TE}{pos:Pos}
def PC(X:Cx)(op:CmpOp)(a b:Expr)(t:TE):Prop:=
 ∀(pins:List (Addr×Obj)) (s:Shared) (σ:St) (H:Hp) (Q:VK),Inv X pins σ H s->t σ H Q->
   wpAny (model X.prog X.w) X.A (eval a X.env) (fun v s₁=>wpAny (model X.prog X.w) X.A (eval b X.env) (fun u s₂=>wpAny (model X.prog X.w) X.A (compareOp op v u) (EP X pins σ Q) X.xe s₂) X.xe s₁) X.xe s
noncomputable def tB(t:TE):TT:=fun σ H Q=>t σ H fun x H1=> ∃c,x= .bl c/\Q c H1
theorem pt_cmp{op:CmpOp}{t:TE}(h:PC X op a b t)(h1:behindInMarks op b=false:=by first |exact nobehind _ (by decide) (by decide) |rfl):PT X (.Compare a [op] [b] pos) (tB t):=by
 intro pins s σ H Q I hw
 refine wpAny_isTrue_Compare1 (thn (h pins s σ H _ I hw) fun v s1 h1=>thn h1 fun u s2 h2=>thn h2 fun c s3 ⟨x,H1,I1,r1,q1⟩=> ?_) h1
 obtain⟨d,rfl,q⟩:=q1
 cases r1
 exact wpAny_truthy_bool ⟨H1,I1,q⟩
theorem pt_val{e:Expr}{t:TE}(h:PE X e t)(he: ∀whole,isTrue e X.env whole=(do let v <-whole;standAt e.pos;holding [v] (truthy v)):=by intro _;rfl):PT X e (tB t):=by
 intro pins s σ H Q I hw
 refine isTrue_plain (thn (h pins s σ H _ I hw) fun v s1 ⟨x,H1,I1,r1,q1⟩=> ?_) (he _)
 obtain⟨d,rfl,q⟩:=q1
 cases r1
 exact wpAny_truthy_bool ⟨H1,I1,q⟩
variable {tA tB':TT}{rest:List Expr}
noncomputable def tAnd(t u:TT):TT:=fun σ H Q=>t σ H fun c H1=>if c=true then u σ H1 Q else Q false H1
noncomputable def tOr(t u:TT):TT:=fun σ H Q=>t σ H fun c H1=>if c=true then Q true H1 else u σ H1 Q
noncomputable def tNot(t:TT):TT:=fun σ H Q=>t σ H fun c H1=>Q (!c) H1
theorem pw_and1(ha:PT X a tA):PW X (.BoolOp .And [a] pos) tA:=by
 intro wh pins s σ H Q I h
 refine isTrue_and (thn (ha pins s σ H Q I h) fun c s1 e=> ?_)
 cases c with
 |true=>exact isTrue_and_nil e
 |false=>exact e
theorem pw_or1(ha:PT X a tA):PW X (.BoolOp .Or [a] pos) tA:=by
 intro wh pins s σ H Q I h
 refine isTrue_or (thn (ha pins s σ H Q I h) fun c s1 e=> ?_)
 cases c with
 |false=>exact isTrue_or_nil e
 |true=>exact e
theorem pw_and(ha:PT X a tA)(hb:PW X (.BoolOp .And (b::rest) pos) tB'):PW X (.BoolOp .And (a::b::rest) pos) (tAnd tA tB'):=by
 intro wh pins s σ H Q I h
 refine isTrue_and (thn (ha pins s σ H _ I h) fun c s1 zz9=> ?_)
 obtain⟨H1,I1,q1⟩:=zz9
 cases c with
 |true=>exact hb wh pins s1 σ H1 Q I1 q1
 |false=>exact⟨H1,I1,q1⟩
theorem pw_or(ha:PT X a tA)(hb:PW X (.BoolOp .Or (b::rest) pos) tB'):PW X (.BoolOp .Or (a::b::rest) pos) (tOr tA tB'):=by
 intro wh pins s σ H Q I h
 refine isTrue_or (thn (ha pins s σ H _ I h) fun c s1 zz9=> ?_)
 obtain⟨H1,I1,q1⟩:=zz9
 cases c with
 |true=>exact⟨H1,I1,q1⟩
 |false=>exact hb wh pins s1 σ H1 Q I1 q1
theorem pt_not(ha:PT X a tA):PT X (.UnaryOp .Not a pos) (tNot tA):=by
 intro pins s σ H Q I h
 exact isTrue_not (ha pins s σ H (fun c H1=>Q (!c) H1) I h)
def tAndV(ta tb:TE):TE:=fun σ H Q=>ta σ H fun x H1=> ∃c,x= .bl c/\if c=true then tb σ H1 Q else Q (.bl false) H1
def tNotV(ta:TE):TE:=fun σ H Q=>ta σ H fun x H1=> ∃c,x= .bl c/\Q (.bl (!c)) H1
theorem pe_one{op}{t:TE}(h:PE X a t):PE X (.BoolOp op [a] pos) t:=fun pins s σ H Q I hw=>BoolOp_one (h pins s σ H Q I hw)
theorem pe_and(ha:PE X a ta)(hb:PE X (.BoolOp .And (b::rest) pos) tb):PE X (.BoolOp .And (a::b::rest) pos) (tAndV ta tb):=by
 intro pins s σ H Q I h
 refine BoolOp_and (thn (ha pins s σ H _ I h) fun v s1 zz9=> ?_)
 obtain⟨x,H1,I1,r1,q1⟩:=zz9
 obtain⟨c,rfl,q1⟩:=q1
 cases r1
 refine wpAny_truthy_bool ?_
 cases c with
 |true=>exact hb pins s1 σ H1 Q I1 q1
 |false=>exact⟨.bl false,H1,I1,rfl,q1⟩
theorem pe_not(ha:PE X a ta):PE X (.UnaryOp .Not a pos) (tNotV ta):=by
 intro pins s σ H Q I h
 refine UnaryOp_ (thn (ha pins s σ H _ I h) fun v s1 zz9=> ?_)
 obtain⟨x,H1,I1,r1,q1⟩:=zz9
 obtain⟨c,rfl,q1⟩:=q1
 cases r1
 exact not_of (wpAny_truthy_bool ⟨.bl (!c),H1,I1,rfl,q1⟩)
end
def SqL(K:PySem.W.Frag)(H:Hp)(a:Addr)(xs:List V):Prop:=
 Rd H a (.lst xs)\/
   ∃(o:Obj) (its:Array Value) (n:Nat),K.lookup a=some o/\o.cls= .type "list"/\o.dict=none/\o.data= .seq its n/\its.size<=sizeLine/\Vals xs its.toList
def SqT(K:PySem.W.Frag)(H:Hp)(a:Addr)(xs:List V):Prop:=
 Rd H a (.tup xs)\/
   ∃(o:Obj) (its:Array Value) (n:Nat),K.lookup a=some o/\o.cls= .type "tuple"/\o.data= .seq its n/\its.size<=sizeLine/\Vals xs its.toList
noncomputable def absV:Value->Option V
 | .none=>some .non
 | .bool b=>some (.bl b)
 | .int i _=>some (.int i)
 | .str x _=>some (.str x)
 | .bytes b _=>some (.byt b)
 | .float b _=>some (.flt b)
 | .ref a=>some (.ref a)
 | .type n=>some (.ty n)
 |_=>none
theorem RelV.abs{x:V}{u:Value}(r:RelV x u):absV u=some x:=by
 cases x with
 |non=>cases r;rfl
 |bl _=>cases r;rfl
 |int _=>obtain⟨t,rfl⟩:=r;rfl
 |str _=>obtain⟨t,rfl⟩:=r;rfl
 |byt _=>obtain⟨t,rfl⟩:=r;rfl
 |flt _=>obtain⟨t,rfl⟩:=r;rfl
 |ref _=>cases r;rfl
 |ty _=>cases r;rfl
theorem RelV.inj{x y:V}{u:Value}(r:RelV x u)(q:RelV y u):x=y:=Option.some.inj (r.abs.symm.trans q.abs)
theorem Vals.inj: ∀{xs ys:List V}{us:List Value},Vals xs us->Vals ys us->xs=ys
 |_,_,_,.nil,.nil=>rfl
 |_,_,_,.cons r t,.cons r' t'=>by rw[r.inj r',Vals.inj t t']
section
variable {X:Cx}{pins:List (Addr×Obj)}{σ:St}{H:Hp}{s:Shared}{a:Addr}{xs ys:List V}
theorem SqL.of{K:PySem.W.Frag}(h:H a=some (.lst xs)):SqL K H a xs:= .inl (.inl h)
theorem SqT.of{K:PySem.W.Frag}(h:H a=some (.tup xs)):SqT K H a xs:= .inl (.inl h)
theorem Inv.list(I:Inv X pins σ H s)(h:SqL X.K H a xs): ∃its:List Value,Vals xs its/\PlainL s.heap a its.toArray/\xs.length<=sizeLine:=by
 rcases h with h | ⟨o,its,n,hk,hc,hd,hs,hz,r⟩
 . obtain⟨z,its,n,r,e⟩:=h.ok I.hok
   exact⟨its,r,⟨_,n,e,rfl,rfl,rfl⟩,z⟩
 . refine⟨its.toList,r,⟨o,n,I.kIn a o hk,hc,hd,by simpa using hs⟩,?_⟩
   have e:=r.length
   simp only[Array.length_toList]at e
   omega
theorem Inv.tuple(I:Inv X pins σ H s)(h:SqT X.K H a xs): ∃its:List Value,Vals xs its/\IsTup s.heap a its.toArray/\xs.length<=sizeLine:=by
 rcases h with h | ⟨o,its,n,hk,hc,hs,hz,r⟩
 . obtain⟨z,its,r,p⟩:=h.ok I.hok
   exact⟨its,r,p,z⟩
 . refine⟨its.toList,r,⟨o,I.kIn a o hk,hc,n,by simpa using hs⟩,?_⟩
   have e:=r.length
   simp only[Array.length_toList]at e
   omega
theorem Inv.list_inj(I:Inv X pins σ H s)(h:SqL X.K H a xs)(h':SqL X.K H a ys):xs=ys:=by
 obtain⟨its,r,⟨o,n,e,_,_,d⟩,_⟩:=I.list h
 obtain⟨its',r',⟨o',n',e',_,_,d'⟩,_⟩:=I.list h'
 rw[e]at e';cases e'
 rw[d]at d'
 injection d' with d1 _
 have:its=its':=by simpa using congrArg Array.toList d1
 subst this
 exact r.inj r'
end
noncomputable abbrev Cx.wish(X:Cx)(E:Value->Shared->Prop):Cx:={X with xe:=E}
theorem Cx.Ok.wish{X:Cx}(ok:X.Ok)(E:Value->Shared->Prop):(X.wish E).Ok:=
 ⟨ok.mod,ok.kind,ok.glob,ok.blt,ok.above,ok.inj,ok.has,ok.cab,ok.hd,ok.frames,ok.stk,ok.exf,ok.bs,ok.bsz,ok.noex,ok.exfs,ok.funs,ok.frf⟩
theorem Cx.Ok.unwish{X:Cx}{E:Value->Shared->Prop}(ok:(X.wish E).Ok):X.Ok:=
 ⟨ok.mod,ok.kind,ok.glob,ok.blt,ok.above,ok.inj,ok.has,ok.cab,ok.hd,ok.frames,ok.stk,ok.exf,ok.bs,ok.bsz,ok.noex,ok.exfs,ok.funs,ok.frf⟩
section
variable {X:Cx}{pins:List (Addr×Obj)}{σ:St}{H:Hp}{s:Shared}{E:Value->Shared->Prop}
theorem Inv.wish(I:Inv X pins σ H s)(E:Value->Shared->Prop):Inv (X.wish E) pins σ H s:=⟨I.ok.wish E,I.os,I.bare,I.base,I.loc,I.cell,I.free,I.freeC,I.pin,I.hok,I.len⟩
theorem Inv.unwish(I:Inv (X.wish E) pins σ H s):Inv X pins σ H s:=⟨I.ok.unwish,I.os,I.bare,I.base,I.loc,I.cell,I.free,I.freeC,I.pin,I.hok,I.len⟩
theorem SP.unwish{D:Ends}{f:Flow}{s':Shared}(h:SP (X.wish E) pins D f s'):SP X pins D f s':=by
 cases f with
 |next=>obtain⟨σ',H',I,q⟩:=h;exact⟨σ',H',I.unwish,q⟩
 |brk=>obtain⟨σ',H',I,q⟩:=h;exact⟨σ',H',I.unwish,q⟩
 |cont=>obtain⟨σ',H',I,q⟩:=h;exact⟨σ',H',I.unwish,q⟩
 |ret u=>obtain⟨v,σ',H',I,r,q⟩:=h;exact⟨v,σ',H',I.unwish,r,q⟩
end
section
variable {X:Cx}{st:Stmt}{rest:List Stmt}{t u:TS}{e:Expr}{te:TE}{pos:Pos}
noncomputable def tNext:TS:=fun D σ H=>D.nx σ H
noncomputable def tSeq(t u:TS):TS:=fun D σ H=>t {D with nx:=u D} σ H
theorem pss_nil:PSs X [] tNext:=fun _ _ σ H _ I h=>wpAny_execs_nil ⟨σ,H,I,h⟩
theorem b8j(h1:PS X st t)(h2:PSs X rest u):PSs X (st::rest) (tSeq t u):=by
 intro pins s σ H D I h
 refine wpAny_execs_cons (thn (h1 pins s σ H {D with nx:=u D} I h) fun f s1 q=> ?_)
 cases f with
 |next=>
   obtain⟨σ',H',I',q⟩:=q
   exact h2 pins s1 σ' H' D I' q
 |ret v=>exact q
 |brk=>exact q
 |cont=>exact q
theorem pss_one(h1:PS X st t):PSs X [st] t:=by
 intro pins s σ H D I h
 refine wpAny_execs_cons (thn (h1 pins s σ H D I h) fun f s1 q=> ?_)
 cases f with
 |next=>exact wpAny_execs_nil q
 |ret v=>exact q
 |brk=>exact q
 |cont=>exact q
theorem Inv.quiet{pins:List (Addr×Obj)}{σ:St}{H:Hp}{s:Shared}(I:Inv X pins σ H s):interactive X.env=false:=by simp[interactive,I.ok.kind]
noncomputable def tDrop(te:TE):TS:=fun D σ H=>te σ H fun _ H1=>D.nx σ H1
theorem ps_expr(he:PE X e te)(hs:swapsWith e none pos.line X.env=pure false:=by rfl):PS X (.Expr e pos) (tDrop te):=by
 intro pins s σ H D I h
 exact wpAny_Expr_any (thn (he pins s σ H _ I h) fun v s1 ⟨x,H1,I1,r1,q1⟩=>⟨σ,H1,I1,q1⟩) I.quiet hs
noncomputable def tRet(te:TE):TS:=fun D σ H=>te σ H D.rt
theorem ps_ret(he:PE X e te):PS X (.Return (some e) pos) (tRet te):=by
 intro pins s σ H D I h
 exact wpAny_Return_some (thn (he pins s σ H _ I h) fun v s1 ⟨x,H1,I1,r1,q1⟩=>⟨x,σ,H1,I1,r1,q1⟩)
noncomputable def tIfS(c:TT)(t u:TS):TS:=fun D σ H=>c σ H fun b H1=>if b=true then t D σ H1 else u D σ H1
theorem ps_if{c:Expr}{a b:List Stmt}{tc:TT}(hc:PT X c tc)(ha:PSs X a t)(hb:PSs X b u):PS X (.If c a b pos) (tIfS tc t u):=by
 intro pins s σ H D I h
 refine wpAny_If (thn (hc pins s σ H _ I h) fun d s1 zz9=> ?_)
 obtain⟨H1,I1,q1⟩:=zz9
 cases d with
 |true=>exact ha pins s1 σ H1 D I1 q1
 |false=>exact hb pins s1 σ H1 D I1 q1
end
noncomputable abbrev TG:=V->St->Hp->(St->Hp->Prop)->Prop
noncomputable abbrev TGs:=List V->St->Hp->(St->Hp->Prop)->Prop
def PG(X:Cx)(target:Expr)(t:TG):Prop:=
 ∀(pins:List (Addr×Obj)) (s:Shared) (σ:St) (H:Hp) (v:V) (u:Value) (Q:St->Hp->Prop),Inv X pins σ H s->RelV v u->t v σ H Q->
   wpAny (model X.prog X.w) X.A (assign target X.env u) (fun _ s'=> ∃σ' H',Inv X pins σ' H' s'/\Q σ' H') X.xe s
def PGs(X:Cx)(ts:List Expr)(t:TGs):Prop:=
 ∀(pins:List (Addr×Obj)) (s:Shared) (σ:St) (H:Hp) (vs:List V) (us:List Value) (Q:St->Hp->Prop),Inv X pins σ H s->Vals vs us->t vs σ H Q->
   wpAny (model X.prog X.w) X.A (assignInOrder ((assignEach ts X.env).map (·.2)) us) (fun _ s'=> ∃σ' H',Inv X pins σ' H' s'/\Q σ' H') X.xe s
noncomputable abbrev TSet:=V->V->V->Hp->(Hp->Prop)->Prop
def PSet(X:Cx)(t:TSet):Prop:=
 ∀(pins:List (Addr×Obj)) (s:Shared) (σ:St) (H:Hp) (o i v:V) (ov iv u:Value) (Q:Hp->Prop),Inv X pins σ H s->RelV o ov->RelV i iv->RelV v u->t o i v H Q->
   wpAny (model X.prog X.w) X.A (setItem ov iv u) (fun _ s'=> ∃H',Inv X pins σ H' s'/\Q H') X.xe s
section
variable {X:Cx}{pos:Pos}
def gName(i:Nat):TG:=fun v σ H Q=>Q (σ.set i (some v)) H
theorem pg_name{i:Nat}{x:Str}(hN:X.N.Nodup)(hi:X.N[i]? =some x)(hx:Loc X.env.scope x)(hf:X.fn x=true\/X.env.scope.names.lookup x=some .local:=by first |exact .inl rfl |exact .inr rfl |assumption):PG X (.Name x pos) (gName i):=by
 intro pins s σ H v u Q I r h
 exact wpAny_assign_Name (b2f I hN hi hx r (fun s' I'=>⟨_,H,I',h⟩) hf)
def gNil:TGs:=fun vs σ H Q=>vs=[]/\Q σ H
def gCons(t:TG)(u:TGs):TGs:=fun vs σ H Q=> ∃v r,vs=v::r/\t v σ H fun σ' H'=>u r σ' H' Q
theorem pgs_nil:PGs X [] gNil:=by
 intro pins s σ H vs us Q I r h
 obtain⟨e,h⟩:=h
 subst e
 cases r
 exact assignInOrder_nil ⟨σ,H,I,h⟩
theorem b8n{e:Expr}{es:List Expr}{t:TG}{u:TGs}(h1:PG X e t)(h2:PGs X es u)
   (hs:(assignEach (e::es) X.env).map (·.2)=assign e X.env::(assignEach es X.env).map (·.2):=by rfl):PGs X (e::es) (gCons t u):=by
 intro pins s σ H vs us Q I r h
 obtain⟨v,vr,e1,h⟩:=h
 subst e1
 cases r with
 |cons r rr=>
   rw[hs]
   refine assignInOrder_cons (thn (h1 pins s σ H _ _ _ I r h) fun _ s1 zz9=> ?_)
   obtain⟨σ1,H1,I1,q1⟩:=zz9
   exact h2 pins s1 σ1 H1 _ _ Q I1 rr q1
def gTup(K:PySem.W.Frag)(n:Nat)(t:TGs):TG:=fun v σ H Q=> ∃a xs,v= .ref a/\SqT K H a xs/\xs.length=n/\t xs σ H Q
theorem pg_tup{es:List Expr}{k:Nat}{t:TGs}{n:Nat}(hc:X.calm=true)(h:PGs X es t)
   (hn:(assignEach es X.env).length=n:=by rfl) (hst:(assignEach es X.env).findIdx? (·.1)=none:=by rfl):PG X (.Tuple es k pos) (gTup X.K n t):=by
 intro pins s σ H v u Q I r hw
 obtain⟨a,xs,e1,hq,hl,hw⟩:=hw
 subst e1
 cases r
 obtain⟨its,rv,ht,hz⟩:=I.tuple hq
 refine assign_Tuple_tuple (I.ok.hd hc) ht (by simp[hn,<-hl,rv.length]) hst fun h' hx=> ?_
 have I1:Inv X pins σ H {s with heap:=h'}:=I.kept (t':=s.toks) fun b o e=>hx b o (Nat.ne_of_lt (Heap.lt_size e)) e
 exact h pins _ σ H xs _ Q I1 (by simpa using rv) hw
def gSub(to ti:TE)(t:TSet):TG:=fun v σ H Q=>to σ H fun o H1=>ti σ H1 fun i H2=>t o i v H2 fun H3=>Q σ H3
theorem pg_sub{o i:Expr}{to ti:TE}{t:TSet}(ho:PE X o to)(hi:PE X i ti)(hs:PSet X t)
   (ha: ∀v,assign (.Subscript o i pos) X.env v=(do
     let ov <-holding [v] (eval o X.env)
     let iv <-holding [v,ov] (eval i X.env)
     standAt pos
     holding [v,ov,iv] (setItem ov iv v)
     release [v,ov,iv] []):=by intro _;rfl):PG X (.Subscript o i pos) (gSub to ti t):=by
 intro pins s σ H v u Q I r h
 rw[ha]
 refine wpAny_bind (wpAny_holding (thn (ho pins s σ H _ I h) fun ov s1 zz9=> ?_))
 obtain⟨x,H1,I1,r1,q1⟩:=zz9
 refine wpAny_bind (wpAny_holding (thn (hi pins s1 σ H1 _ I1 q1) fun iv s2 zz9=> ?_))
 obtain⟨y,H2,I2,r2,q2⟩:=zz9
 refine wpAny_bind (wpAny_standAt (wpAny_bind (wpAny_holding (thn (hs pins s2 σ H2 x y v ov iv u _ I2 r1 r2 r q2) fun _ s3 zz9=> ?_))))
 obtain⟨H3,I3,q3⟩:=zz9
 exact wpAny_release ⟨σ,H3,I3,q3⟩
noncomputable def tAsg(te:TE)(g:TG):TS:=fun D σ H=>te σ H fun x H1=>g x σ H1 D.nx
theorem ps_asg{tg e:Expr}{te:TE}{g:TG}(he:PE X e te)(hg:PG X tg g)(hs:swapsWithSole [tg] e pos.line X.env=pure false:=by rfl)(hw:swappedStores [tg] e X.env=pure none:=by rfl)
   (h1:(assignEach [tg] X.env).map (·.2)=[assign tg X.env]:=by rfl):PS X (.Assign [tg] e pos) (tAsg te g):=by
 intro pins s σ H D I h
 refine wpAny_Assign_stores (thn (he pins s σ H _ I h) fun v s1 ⟨x,H1,I1,r1,q1⟩=> ?_) hs hw
 rw[h1]
 exact thn (hg pins s1 σ H1 x v _ I1 r1 q1) fun _ s2 q=>q
theorem ps_set{i:Nat}{x:Str}{e:Expr}{te:TE}{pos':Pos}(hN:X.N.Nodup)(hi:X.N[i]? =some x)(hx:Loc X.env.scope x)(he:PE X e te)(hs:swapsWith e (some (.Name x pos')) pos.line X.env=pure false:=by rfl)(hf:X.fn x=true\/X.env.scope.names.lookup x=some .local:=by first |exact .inl rfl |exact .inr rfl |assumption):
   PS X (.Assign [.Name x pos'] e pos) (tAsg te (gName i)):=by
 intro pins s σ H D I h
 refine wpAny_Assign_Name (thn (he pins s σ H _ I h) fun v s1 ⟨y,H1,I1,r1,q1⟩=> ?_) hs
 exact b2f I1 hN hi hx r1 (fun s2 I2=>⟨_,H1,I2,q1⟩) hf
end
section
variable {X:Cx}{pos:Pos}
noncomputable def tWhile(c:TT)(tb:TS):TS:=fun D σ H=> ∃W:Nat->St->Hp->Prop,(∃m,W m σ H)/\ ∀m σ H,W m σ H->
 c σ H fun b H1=>if b=true then ∃N:St->Hp->Prop,(∀σ' H',N σ' H'-> ∃m',m'<m/\W m' σ' H')/\tb {D with nx:=N,ct:=N,bk:=D.nx} σ H1 else D.nx σ H1
theorem b8k{c:Expr}{body:List Stmt}{tc:TT}{tb:TS}(hp:PassesOwn (model X.prog X.w) X.A X.env X.xe)(hc:PT X c tc)(hb:PSs X body tb):PS X (.While c body [] pos) (tWhile tc tb):=by
 intro pins s σ H D I h
 obtain⟨W,⟨m0,w0⟩,turn⟩:=h
 refine wpAny_While (codeAny_whileLoop (fun n s'=> ∃σ' H',Inv X pins σ' H' s'/\W n σ' H') ?_ m0 ⟨σ,H,I,w0⟩)
 rintro n s1 ⟨σ1,H1,I1,w1⟩
 refine wpAny_passesOwn hp (thn (hc pins s1 σ1 H1 _ I1 (turn n σ1 H1 w1)) fun b s2 zz9=> ?_)
 obtain⟨H2,I2,q2⟩:=zz9
 cases b with
 |true=>
   obtain⟨N,hN,q2⟩:=q2
   rw[if_pos rfl]
   refine wpAny_passesOwn hp (thn (hb pins s2 σ1 H2 _ I2 q2) fun f s3 q3=> ?_)
   cases f with
   |next=>
     obtain⟨σ3,H3,I3,n3⟩:=q3
     obtain⟨m',hm,w3⟩:=hN σ3 H3 n3
     exact⟨m',hm,σ3,H3,I3,w3⟩
   |cont=>
     obtain⟨σ3,H3,I3,n3⟩:=q3
     obtain⟨m',hm,w3⟩:=hN σ3 H3 n3
     exact⟨m',hm,σ3,H3,I3,w3⟩
   |brk=>exact q3
   |ret v=>exact q3
 |false=>
   rw[if_neg Bool.false_ne_true]
   exact wpAny_execs_nil ⟨σ1,H2,I2,q2⟩
end
structure It where
 go:Nat->Hp->Prop
 yld:Nat->Hp->V->Hp->Prop
 stop:Nat->Hp->Prop
def FpOk(X:Cx)(pins:List (Addr×Obj))(H:Hp)(b:Addr):Prop:=
 H b=none/\b≠X.env.locals/\b∉X.fs/\(b∈X.ex\/X.s₀.heap.objs.size<=b)/\(∀x c,X.env.cells.lookup x=some c->c≠b)/\ ∀p∈X.pn++pins,p.1≠b
theorem Inv.fpOk{X:Cx}{pins:List (Addr×Obj)}{σ:St}{H H':Hp}{s:Shared}{b:Addr}(I:Inv X pins σ H s)(hb:s.heap.objs.size<=b)(hn:H' b=none):FpOk X pins H' b:=by
 refine⟨hn,Nat.ne_of_gt (Nat.lt_of_lt_of_le I.lt hb),I.nofs hb,.inr (Nat.le_trans I.sz hb),fun x c e z=> ?_,fun p hp z=> ?_⟩
 . obtain⟨v,q⟩:=I.cell x c e
   exact absurd (Nat.lt_of_lt_of_le q.lt (by rw[z];exact hb)) (Nat.lt_irrefl _)
 . exact absurd (Nat.lt_of_lt_of_le (Heap.lt_size (I.pin p hp).1) (by rw[z];exact hb)) (Nat.lt_irrefl _)
structure Turn(P:Program)(w:World)(K:PySem.W.Frag)(tg:Expr)(J:It)(fp:List Addr)(it:Addr)(tn:Nat->Heap->Prop):Prop where
 mem:it∈fp
 obj: ∀i h,tn i h-> ∀b∈fp,∃o,h.get? b=some o/\ ∀v,o.data≠ .cell v
 keep: ∀i h h',tn i h->(∀b∈fp,∀o,h.get? b=some o->h'.get? b=some o)->tn i h'
 item: ∀(X:Cx),X.prog=P->X.w=w->X.K=K->X.calm=true-> ∀(i:Nat) (pins:List (Addr×Obj)) (s:Shared) (σ:St) (H:Hp) (E:Value->Shared->Prop),Inv X pins σ H s->(∀b∈fp,FpOk X pins H b)->tn i s.heap->J.go i H->
   wpAny (model P w) X.A (pyNext (.ref it)) (fun r s1=> ∃u,r=some u/\
     wpAny (model P w) X.A (letOwnedTupleGo tg (.ref it) u) (fun _ s2=> ∃x H',Inv X pins σ H' s2/\RelV x u/\J.yld i H x H'/\tn (i+1) s2.heap/\ ∀b∈fp,H' b=none) E s1) E s
 done: ∀(X:Cx),X.prog=P->X.w=w->X.K=K->X.calm=true-> ∀(i:Nat) (pins:List (Addr×Obj)) (s:Shared) (σ:St) (H:Hp) (E:Value->Shared->Prop),Inv X pins σ H s->(∀b∈fp,FpOk X pins H b)->tn i s.heap->J.stop i H->
   wpAny (model P w) X.A (pyNext (.ref it)) (fun r s1=>r=none/\Inv X pins σ H s1) E s
 self: ∀(A:Around) (i:Nat) (s:Shared) (Q:Value->Shared->Prop) (E:Value->Shared->Prop),tn i s.heap->Q (.ref it) s->wpAny (model P w) A (pyIter (.ref it)) Q E s
noncomputable abbrev TI:=St->Hp->(It->Hp->Prop)->Prop
def PIE(X:Cx)(pins:List (Addr×Obj))(σ:St)(tg:Expr)(R:It->Hp->Prop)(itv:Value)(s2:Shared):Prop:=
 ∃(it:Addr) (fp:List Addr) (tn:Nat->Heap->Prop) (J:It) (H':Hp),itv= .ref it/\Inv X pins σ H' s2/\Turn X.prog X.w X.K tg J fp it tn/\tn 0 s2.heap/\(∀b∈fp,FpOk X pins H' b)/\R J H'
def PI(X:Cx)(tg iter:Expr)(wi:TI):Prop:=
 ∀(pins:List (Addr×Obj)) (s:Shared) (σ:St) (H:Hp) (R:It->Hp->Prop),Inv X pins σ H s->wi σ H R->
   wpAny (model X.prog X.w) X.A (eval iter X.env) (fun v s1=>wpAny (model X.prog X.w) X.A (pyIter v) (PIE X pins σ tg R) X.xe s1) X.xe s
theorem b9c{M:Model}{A:Around}{E:Value->Shared->Prop}{s:Shared}{tg:Expr}{it:Addr}{u:Value}{o:Obj}{n:String}{vs:Array Value}{Q:Unit->Shared->Prop}(ho:s.heap.get? it=some o)(hc:o.cls= .type n)(hd:o.data= .fields vs)
   (hn:["enumerate","zip","dict_itemiterator","dict_reverseitemiterator","odict_iterator","itertools.zip_longest","itertools.pairwise"].contains n=false) (hQ:Q () s):wpAny M A (letOwnedTupleGo tg (.ref it) u) Q E s:=by
 unfold letOwnedTupleGo
 cases tg<;>first
   |exact wpAny_pure hQ
   | (cases u<;>first
       |exact wpAny_pure hQ
       | (refine wpAny_bind (wpAny_load ho ?_)
          rw[hc,hd]
          show wpAny M A (if(["enumerate","zip","dict_itemiterator","dict_reverseitemiterator","odict_iterator","itertools.zip_longest","itertools.pairwise"].contains n&&vs[0]? ==some (rawInt _))=true then _ else _) Q E s
          rw[if_neg (by intro h;rw[hn,Bool.false_and]at h;cases h)]
          exact wpAny_pure hQ))
noncomputable def Itl(K:PySem.W.Frag)(a:Addr):It:=
 ⟨fun i H=> ∃xs x,SqL K H a xs/\xs[i]? =some x,fun i H x H'=>H'=H/\ ∀xs,SqL K H a xs->xs[i]? =some x,fun i H=> ∃xs,SqL K H a xs/\xs.length<=i⟩
noncomputable def Itr(lo:Int)(n:Nat):It:=⟨fun i _=>i<n,fun i H x H'=>H'=H/\x= .int (lo+i),fun i _=>n<=i⟩
theorem b47{P:Program}{w:World}{K:PySem.W.Frag}{tg:Expr}(a it:Addr):Turn P w K tg (Itl K a) [it] it (fun i h=>h.IsListIter it a i) where
 mem:=by simp
 obj:=fun i h st b hb=>by
   have e:b=it:=by simpa using hb
   subst e
   obtain⟨o,e,c,d⟩:=st
   exact⟨o,e,fun v z=>by rw[d]at z;cases z⟩
 keep:=fun i h h' st k=>st.at fun o e=>k it (by simp) o e
 item:=by
   intro X hP hw hK hc i pins s σ H E I hf st hg
   subst hP hw hK
   obtain⟨xs,x,hq,hx⟩:=hg
   obtain⟨its,rv,p,hz⟩:=I.list hq
   obtain⟨u,hu,ru⟩:=rv.get hx
   obtain⟨f0,f1,f2,f3,f4,f5⟩:=hf it (by simp)
   refine wpAny_pyNext_list_item st p.isList (x:=u) (by simpa using hu) fun h' st' sb=> ?_
   have I1:Inv X pins σ H {s with heap:=h'}:=I.turned (t':=s.toks) (fun b o hb e=>(sb.2 b hb).trans e) f0 f1 f3 f4 f5
   obtain⟨o,e,c,d⟩:=id st'
   exact⟨u,rfl,b9c (s:={s with heap:=h'}) e c d (by decide) ⟨x,H,I1,ru,⟨rfl,fun ys hy=>by rw[I.list_inj hy hq];exact hx⟩,st',fun b hb=>(hf b hb).1⟩⟩
 done:=by
   intro X hP hw hK hc i pins s σ H E I hf st hg
   subst hP hw hK
   obtain⟨xs,hq,hx⟩:=hg
   obtain⟨its,rv,p,hz⟩:=I.list hq
   obtain⟨f0,f1,f2,f3,f4,f5⟩:=hf it (by simp)
   have hl:=rv.length
   exact wpAny_pyNext_list_end (I.ok.hd hc) st p.isList (by simp;omega) fun h' eb=>⟨rfl,I.turned (t':=s.toks) (fun b o hb e=>eb b o hb e) f0 f1 f3 f4 f5⟩
 self:=fun _ _ _ _ _ st h=>wpAny_pyIter_listiter st h
theorem b33{P:Program}{w:World}{K:PySem.W.Frag}{tg:Expr}(it:Addr)(lo:Int)(n:Nat):Turn P w K tg (Itr lo n) [it] it (fun i h=>IsRangeIter h it (lo+(i:Nat) *1) ((n:Int)- (i:Nat)) 1) where
 mem:=by simp
 obj:=fun i h st b hb=>by
   have e:b=it:=by simpa using hb
   subst e
   exact⟨_,st,fun v z=>by
     have z':Data.fields _=Data.cell v:=z
     cases z'⟩
 keep:=fun i h h' st k=>k it (by simp) _ st
 item:=by
   intro X hP hw hK hc i pins s σ H E I hf st hg
   subst hP hw hK
   obtain⟨f0,f1,f2,f3,f4,f5⟩:=hf it (by simp)
   have W:=Walks.range (prog:=X.prog) (w:=X.w) (I.ok.hd hc) it lo 1 n
   refine W.item i s _ _ hg st fun v h' tk hv st' kk=> ?_
   obtain⟨t,rfl⟩:=hv
   have I1:Inv X pins σ H {s with heap:=h',toks:=tk}:=I.turned (fun b o hb e=>kk b o (by simpa using hb) e) f0 f1 f3 f4 f5
   refine⟨_,rfl,b9c (s:={s with heap:=h',toks:=tk}) (n:="range_iterator") st' rfl rfl (by decide) ⟨.int (lo+i),H,I1,⟨t,?_⟩,⟨rfl,rfl⟩,st',fun b hb=>(hf b hb).1⟩⟩
   rw[Int.mul_one]
 done:=by
   intro X hP hw hK hc i pins s σ H E I hf st hg
   subst hP hw hK
   obtain⟨f0,f1,f2,f3,f4,f5⟩:=hf it (by simp)
   exact wpAny_pyNext_range_end (I.ok.hd hc) st (by have:n<=i:=hg;omega) fun h' eb=>⟨rfl,I.turned (t':=s.toks) (fun b o hb e=>eb b o hb e) f0 f1 f3 f4 f5⟩
 self:=fun _ _ _ _ _ st h=>wpAny_pyIter_rangeiter st h
section
variable {X:Cx}{tg:Expr}
def iList(K:PySem.W.Frag)(tl:TE):TI:=fun σ H R=>tl σ H fun x H1=> ∃a,x= .ref a/\(∃xs,SqL K H1 a xs)/\R (Itl K a) H1
theorem pi_list{l:Expr}{tl:TE}(hl:PE X l tl):PI X tg l (iList X.K tl):=by
 intro pins s σ H R I h
 refine thn (hl pins s σ H _ I h) fun v s1 zz9=> ?_
 obtain⟨x,H1,I1,r1,q1⟩:=zz9
 obtain⟨a,e,⟨xs,hq⟩,q⟩:=q1
 subst e
 cases r1
 obtain⟨its,rv,p,hz⟩:=I1.list hq
 refine wpAny_pyIter_list p.isList ?_
 refine⟨s1.heap.objs.size,[s1.heap.objs.size],_,_,H1,rfl,I1.kept (t':=s1.toks) fun b o e=>Heap.get?_push_of_some _ e,b47 a _,⟨_,Heap.get?_push_size _ rfl,rfl,rfl⟩,fun b hb=> ?_,q⟩
 have e:b=s1.heap.objs.size:=by simpa using hb
 subst e
 exact I1.fpOk (Nat.le_refl _) (I1.hok.fresh (Nat.le_refl _))
theorem b2t{pins:List (Addr×Obj)}{σ:St}{H:Hp}{s:Shared}{R:It->Hp->Prop}{E:Value->Shared->Prop}{lo hi:Int}{t u v:Tok}{tk:Nat}(I:Inv X pins σ H s)(h1: -(2^62)<=lo)(h2:lo<2^62)(h3: -(2^62)<=hi)(h4:hi<2^62)
   (q:R (Itr lo (hi- lo).toNat) H):wpAny (model X.prog X.w) X.A (pyIter (.ref s.heap.objs.size)) (PIE X pins σ tg R) E {s with heap:=s.heap.push {cls:= .type "range",data:= .fields #[.int lo t,.int hi u,.int 1 v]},toks:=tk}:=by
 refine wpAny_pyIter_range (IsRange.new ..) (small_one h1 h2 h3 h4) ?_
 have I1:Inv X pins σ H {s with heap:=s.heap.push {cls:= .type "range",data:= .fields #[.int lo t,.int hi u,.int 1 v]},toks:=tk}:=I.kept fun b o e=>Heap.get?_push_of_some _ e
 refine⟨(s.heap.push {cls:= .type "range",data:= .fields #[.int lo t,.int hi u,.int 1 v]}).objs.size,[(s.heap.push {cls:= .type "range",data:= .fields #[.int lo t,.int hi u,.int 1 v]}).objs.size],_,_,H,rfl,
   I1.kept (t':=tk) fun b o e=>Heap.get?_push_of_some _ e,b33 _ lo (hi- lo).toNat,?_,fun b hb=> ?_,q⟩
 . have e1:lo+((0:Nat):Int) *1=lo:=by simp
   have e2:(((hi- lo).toNat:Nat):Int)- ((0:Nat):Int)=Builtin.Range.rangeSize lo hi 1:=by rw[rangeSize_one];split<;>omega
   show IsRangeIter _ _ (lo+((0:Nat):Int) *1) ((((hi- lo).toNat:Nat):Int)- ((0:Nat):Int)) 1
   rw[e1,e2]
   exact Heap.get?_push_size _ rfl
 . have e:b=(s.heap.push {cls:= .type "range",data:= .fields #[.int lo t,.int hi u,.int 1 v]}).objs.size:=by simpa using hb
   subst e
   exact I1.fpOk (Nat.le_refl _) (I1.hok.fresh (Nat.le_refl _))
def iRng1(ta:TA):TI:=fun σ H R=>ta σ H fun vs H1=> ∃j:Int,vs=[.int j]/\ -(2^62)<=j/\j<2^62/\R (Itr 0 j.toNat) H1
def iRng2(ta:TA):TI:=fun σ H R=>ta σ H fun vs H1=> ∃i j:Int,vs=[.int i,.int j]/\(-(2^62)<=i/\i<2^62/\ -(2^62)<=j/\j<2^62)/\R (Itr i (j- i).toNat) H1
theorem b5z{a:Expr}{ta:TA}{p pos:Pos}(hg:Gl X "range")(hm:X.mg "range"=none)(ha:PA X [a] ta)(hs:starEach [a] X.env=[(false,eval a X.env)]:=by rfl):PI X tg (.Call (.Name "range" p) [a] [] pos) (iRng1 ta):=by
 intro pins s σ H R I h
 refine Call_ (b0e I hg hm boot_range (PyProof.Rows.callWith_type1 (thn (ha pos pins s σ H _ I h) fun us s1 ⟨vs,H1,I1,r1,q1⟩=> ?_) hs rfl))
 obtain⟨j,e,q1,q2,q⟩:=q1
 subst e
 cases r1 with
 |cons r rr=>
   cases rr
   obtain⟨t,rfl⟩:=r
   exact call_range_1 (b2t I1 (by omega) (by omega) q1 q2 (by simpa using q))
theorem b5y{a b:Expr}{ta:TA}{p pos:Pos}(hg:Gl X "range")(hm:X.mg "range"=none)(ha:PA X [a,b] ta)(hs:starEach [a,b] X.env=[(false,eval a X.env),(false,eval b X.env)]:=by rfl)(hs2:starEach [b] X.env=[(false,eval b X.env)]:=by rfl):
   PI X tg (.Call (.Name "range" p) [a,b] [] pos) (iRng2 ta):=by
 intro pins s σ H R I h
 refine Call_ (b0e I hg hm boot_range (PyProof.Rows.callWith_type1 (thn (ha pos pins s σ H _ I h) fun us s1 ⟨vs,H1,I1,r1,q1⟩=> ?_) (by rw[hs,hs2]) (by rw[hs2];rfl)))
 obtain⟨i,j,e,⟨q1,q2,q3,q4⟩,q⟩:=q1
 subst e
 cases r1 with
 |cons r rr=>
   cases rr with
   |cons r' rr=>
     cases rr
     obtain⟨t,rfl⟩:=r
     obtain⟨t',rfl⟩:=r'
     exact call_range_2 (b2t I1 q1 q2 q3 q4 q)
noncomputable def tFor(wi:TI)(g:TG)(tb:TS):TS:=fun D σ H=>wi σ H fun J H1=> ∃W:Nat->Nat->St->Hp->Prop,(∃m,W 0 m σ H1)/\ ∀i m σ H,W i m σ H->
 (J.stop i H/\D.nx σ H)\/(J.go i H/\ ∃N:St->Hp->Prop,(∀σ' H',N σ' H'-> ∃m',m'<m/\W (i+1) m' σ' H')/\ ∀x H',J.yld i H x H'->g x σ H' fun σ2 H2=>tb {D with nx:=N,ct:=N,bk:=D.nx} σ2 H2)
noncomputable def a9u(fp:List Addr)(h:Heap):List (Addr×Obj):=fp.filterMap fun b=>(h.get? b).map fun o=>(b,o)
theorem a3w{fp:List Addr}{h:Heap}{b:Addr}{o:Obj}(hb:b∈fp)(e:h.get? b=some o):(b,o)∈a9u fp h:=List.mem_filterMap.mpr ⟨b,hb,by rw[e];rfl⟩
theorem b6a{fp:List Addr}{h:Heap}{p:Addr×Obj}(hp:p∈a9u fp h):p.1∈fp/\h.get? p.1=some p.2:=by
 obtain⟨b,hb,e⟩:=List.mem_filterMap.mp hp
 cases q:h.get? b with
 |none=>rw[q]at e;cases e
 |some o=>
   rw[q]at e
   have e':(b,o)=p:=Option.some.inj e
   subst e'
   exact⟨hb,q⟩
theorem Inv.pinned{pins:List (Addr×Obj)}{σ:St}{H:Hp}{s:Shared}{fp:List Addr}(I:Inv X pins σ H s)(hf: ∀b∈fp,FpOk X pins H b)(ho: ∀b∈fp,∃o,s.heap.get? b=some o/\ ∀v,o.data≠ .cell v):Inv X (pins++a9u fp s.heap) σ H s:=
 I.pins_of fun p hp=>(List.mem_append.mp hp).elim (fun z=>I.pin p (List.mem_append_right _ z)) fun z=>by
   obtain⟨hb,e⟩:=b6a z
   obtain⟨f0,f1,f2,_⟩:=hf p.1 hb
   obtain⟨o,e',d⟩:=ho p.1 hb
   rw[e]at e';cases e'
   exact⟨e,f0,f1,f2,d⟩
theorem Inv.unpinned{pins pl:List (Addr×Obj)}{σ:St}{H:Hp}{s:Shared}(I:Inv X (pins++pl) σ H s):Inv X pins σ H s:=I.pins_of fun p hp=>I.pin p (List.mem_append_right _ (List.mem_append_left _ hp))
theorem ps_for{iter:Expr}{body:List Stmt}{wi:TI}{g:TG}{tb:TS}{pos:Pos}(hp:PassesOwn (model X.prog X.w) X.A X.env X.xe)(hc:X.calm=true)(hi:PI X tg iter wi)(hg:PG X tg g)(hb:PSs X body tb)
   (hs: ∀x,foldedSetIterable iter X.env x=pure x:=by intro _;rfl):PS X (.For tg iter body [] pos) (tFor wi g tb):=by
 intro pins s σ H D I h
 refine wpAny_For (thn (hi pins s σ H _ I h) fun v s1 h1=>thn h1 fun itv s2 h2=> ?_) hs
 obtain⟨it,fp,tn,J,H2,e,I2,T,st2,f2,W,⟨m0,w0⟩,turn⟩:=h2
 subst e
 -- what stays true of the iterator's objects through the loop
 have stat: ∀{H':Hp},(∀b∈fp,H' b=none)-> ∀b∈fp,FpOk X pins H' b:=fun hn b hb=>⟨hn b hb,(f2 b hb).2⟩
 refine codeAny_forLoop_any (fun n s'=> ∃i σ' H',Inv X pins σ' H' s'/\tn i s'.heap/\(∀b∈fp,H' b=none)/\W i n σ' H') ?_ m0 ⟨0,σ,H2,I2,st2,fun b hb=>(f2 b hb).1,w0⟩
 rintro n s3 ⟨i,σ3,H3,I3,st3,fr3,w3⟩
 rcases turn i n σ3 H3 w3 with⟨stop,qn⟩ | ⟨go,N,hN,step⟩
 . refine wpAny_passesOwn hp (thn (T.done X rfl rfl rfl hc i pins s3 σ3 H3 X.xe I3 (stat fr3) st3 stop) fun r s4 zz9=> ?_)
   obtain⟨hr,I4⟩:=zz9
   subst hr
   exact wpAny_execs_nil ⟨σ3,H3,I4,qn⟩
 . refine wpAny_passesOwn hp (thn (T.item X rfl rfl rfl hc i pins s3 σ3 H3 X.xe I3 (stat fr3) st3 go) fun r s4 zz9=> ?_)
   obtain⟨u,hr,h4⟩:=zz9
   subst hr
   refine wpAny_passesOwn hp (thn h4 fun _ s5 zz9=> ?_)
   obtain⟨x,H5,I5,r5,y5,st5,fr5⟩:=zz9
   have I5':=I5.pinned (stat fr5) (T.obj _ _ st5)
   refine wpAny_passesOwn hp (thn (hg _ s5 σ3 H5 x u _ I5' r5 (step x H5 y5)) fun _ s6 zz9=> ?_)
   obtain⟨σ6,H6,I6,q6⟩:=zz9
   refine wpAny_passesOwn hp (thn (hb _ s6 σ6 H6 _ I6 q6) fun f s7 q7=> ?_)
   have again: ∀{σ7:St}{H7:Hp},Inv X (pins++a9u fp s5.heap) σ7 H7 s7->N σ7 H7-> ∃m,m<n/\ ∃i σ' H',Inv X pins σ' H' s7/\tn i s7.heap/\(∀b∈fp,H' b=none)/\W i m σ' H':=fun {σ7 H7} I7 n7=>by
     obtain⟨m',hm,w7⟩:=hN σ7 H7 n7
     refine⟨m',hm,i+1,σ7,H7,I7.unpinned,T.keep _ _ _ st5 fun b hb o e=>(I7.pin (b,o) (List.mem_append_right _ (List.mem_append_right _ (a3w hb e)))).1,fun b hb=> ?_,w7⟩
     obtain⟨o,e,d⟩:=T.obj _ _ st5 b hb
     exact(I7.pin (b,o) (List.mem_append_right _ (List.mem_append_right _ (a3w hb e)))).2.1
   cases f with
   |next=>obtain⟨σ7,H7,I7,n7⟩:=q7;exact again I7 n7
   |cont=>obtain⟨σ7,H7,I7,n7⟩:=q7;exact again I7 n7
   |brk=>obtain⟨σ7,H7,I7,q7⟩:=q7;exact⟨σ7,H7,I7.unpinned,q7⟩
   |ret v=>obtain⟨x7,σ7,H7,I7,r7,q7⟩:=q7;exact⟨x7,σ7,H7,I7.unpinned,r7,q7⟩
end
noncomputable abbrev R2:=V->V->Hp->VK->Prop
def OpR(X:Cx)(f:Value->Value->Sem Value)(r:R2):Prop:=
 ∀(pins:List (Addr×Obj)) (s:Shared) (σ:St) (H:Hp) (x y:V) (v u:Value) (Q:VK),Inv X pins σ H s->RelV x v->RelV y u->r x y H Q->
   wpAny (model X.prog X.w) X.A (f v u) (EP X pins σ Q) X.xe s
def UnR(X:Cx)(f:Value->Sem Value)(r:V->Hp->VK->Prop):Prop:=
 ∀(pins:List (Addr×Obj)) (s:Shared) (σ:St) (H:Hp) (x:V) (v:Value) (Q:VK),Inv X pins σ H s->RelV x v->r x H Q->
   wpAny (model X.prog X.w) X.A (f v) (EP X pins σ Q) X.xe s
def CallR(X:Cx)(f:Value)(r:List V->Hp->VK->Prop):Prop:=
 ∀(pins:List (Addr×Obj)) (s:Shared) (σ:St) (H:Hp) (xs:List V) (us:List Value) (Q:VK),Inv X pins σ H s->Vals xs us->r xs H Q->
   wpAny (model X.prog X.w) X.A (call f us) (EP X pins σ Q) X.xe s
def tOp(r:R2)(ta tb:TE):TE:=fun σ H Q=>ta σ H fun x H1=>tb σ H1 fun y H2=>r x y H2 Q
def tUn(r:V->Hp->VK->Prop)(ta:TE):TE:=fun σ H Q=>ta σ H fun x H1=>r x H1 Q
def rI(C:Int->Int->Prop)(g:Int->Int->V):R2:=fun x y H Q=> ∃i j,x= .int i/\y= .int j/\C i j/\Q (g i j) H
def rI0(g:Int->Int->V):R2:=fun x y H Q=> ∃i j,x= .int i/\y= .int j/\Q (g i j) H
def rU(g:Int->V):V->Hp->VK->Prop:=fun x H Q=> ∃i,x= .int i/\Q (g i) H
section
variable {X:Cx}{a b c:Expr}{ta tb tc:TE}{pos:Pos}
theorem binT(ha:PE X a ta)(hb:PE X b tb){pins:List (Addr×Obj)}{s:Shared}{σ:St}{H:Hp}{R:V->V->Hp->Prop}(I:Inv X pins σ H s)
   (h:ta σ H fun x H1=>tb σ H1 fun y H2=>R x y H2) {Q:Value->Shared->Prop}{f:Value->Value->Sem Value}
   (hf: ∀v u s2 x y H2,Inv X pins σ H2 s2->RelV x v->RelV y u->R x y H2->wpAny (model X.prog X.w) X.A (f v u) Q X.xe s2):
   wpAny (model X.prog X.w) X.A (eval a X.env) (fun v s₁=>wpAny (model X.prog X.w) X.A (eval b X.env) (fun u s₂=>wpAny (model X.prog X.w) X.A (f v u) Q X.xe s₂) X.xe s₁) X.xe s:=by
 refine thn (ha pins s σ H _ I h) fun v s1 zz9=> ?_
 obtain⟨x,H1,I1,r1,q1⟩:=zz9
 refine thn (hb pins s1 σ H1 _ I1 q1) fun u s2 zz9=> ?_
 obtain⟨y,H2,I2,r2,q2⟩:=zz9
 exact hf v u s2 x y H2 I2 r1 r2 q2
theorem pe_op{op:Operator}{r:R2}(ho:OpR X (binaryOp op) r)(ha:PE X a ta)(hb:PE X b tb):PE X (.BinOp a op b pos) (tOp r ta tb):=by
 intro pins s σ H Q I h
 exact wpAny_BinOp (binT ha hb I h fun v u s2 x y H2 I2 rx ry q=>ho pins s2 σ H2 x y v u Q I2 rx ry q)
theorem pe_un{op:UnaryOp}{r:V->Hp->VK->Prop}(ho:UnR X (unaryOp op) r)(ha:PE X a ta):PE X (.UnaryOp op a pos) (tUn r ta):=by
 intro pins s σ H Q I h
 exact UnaryOp_ (thn (ha pins s σ H _ I h) fun v s1 ⟨x,H1,I1,r1,q1⟩=>ho pins s1 σ H1 x v Q I1 r1 q1)
theorem opI{f:Value->Value->Sem Value}{C:Int->Int->Prop}{g:Int->Int->Int}
   (rule: ∀(i j:Int) (t u:Tok) (s:Shared) (Q:Value->Shared->Prop) (E:Value->Shared->Prop),C i j->Q (.int (g i j) s.toks) {s with toks:=s.toks+1}->wpAny (model X.prog X.w) X.A (f (.int i t) (.int j u)) Q E s):
   OpR X f (rI C fun i j=> .int (g i j)):=by
 intro pins s σ H x y v u Q I rx ry h
 obtain⟨i,j,rfl,rfl,hc,q⟩:=h
 obtain⟨t,rfl⟩:=rx
 obtain⟨t',rfl⟩:=ry
 exact rule i j t t' s _ _ hc ⟨.int (g i j),H,I.tok _,⟨_,rfl⟩,q⟩
theorem opI0{f:Value->Value->Sem Value}{g:Int->Int->Int}
   (rule: ∀(i j:Int) (t u:Tok) (s:Shared) (Q:Value->Shared->Prop) (E:Value->Shared->Prop),Q (.int (g i j) s.toks) {s with toks:=s.toks+1}->wpAny (model X.prog X.w) X.A (f (.int i t) (.int j u)) Q E s):
   OpR X f (rI0 fun i j=> .int (g i j)):=by
 intro pins s σ H x y v u Q I rx ry h
 obtain⟨i,j,rfl,rfl,q⟩:=h
 obtain⟨t,rfl⟩:=rx
 obtain⟨t',rfl⟩:=ry
 exact rule i j t t' s _ _ ⟨.int (g i j),H,I.tok _,⟨_,rfl⟩,q⟩
theorem opB0{f:Value->Value->Sem Value}{g:Int->Int->Bool}
   (rule: ∀(i j:Int) (t u:Tok) (s:Shared) (Q:Value->Shared->Prop) (E:Value->Shared->Prop),Q (.bool (g i j)) s->wpAny (model X.prog X.w) X.A (f (.int i t) (.int j u)) Q E s):
   OpR X f (rI0 fun i j=> .bl (g i j)):=by
 intro pins s σ H x y v u Q I rx ry h
 obtain⟨i,j,rfl,rfl,q⟩:=h
 obtain⟨t,rfl⟩:=rx
 obtain⟨t',rfl⟩:=ry
 exact rule i j t t' s _ _ ⟨.bl (g i j),H,I,rfl,q⟩
def CDiv(i j:Int):Prop:=0<j/\j<1073741824
def CPow(i j:Int):Prop:=0<=j/\j<=1000000/\i.natAbs<2^64
def CMul(i j:Int):Prop:=(-(2^64)<i/\i<2^64)\/(-(2^64)<j/\j<2^64)
theorem CMul.ok{i j:Int}(h:CMul i j):IntMulOk i j:=by
 rcases h with⟨h1,h2⟩ | ⟨h1,h2⟩
 . exact .of_left (intBits_le_64 h1 h2)
 . exact .of_right (intBits_le_64 h1 h2)
theorem op_add:OpR X (binaryOp .Add) (rI0 fun i j=> .int (i+j)):=opI0 fun _ _ _ _ _ _ _ q=>add_int q
theorem op_sub:OpR X (binaryOp .Sub) (rI0 fun i j=> .int (i- j)):=opI0 fun _ _ _ _ _ _ _ q=>sub_int q
theorem a60:OpR X (binaryOp .FloorDiv) (rI CDiv fun i j=> .int (i/j)):=opI fun i j _ _ _ _ _ hc q=>by
 have h1:(0:Int)<j:=hc.1
 have h2:j<1073741824:=hc.2
 exact floordiv_int (by omega) (by rw[Int.fdiv_eq_ediv_of_nonneg i (by omega)];exact q) (.inl (PyProof.noPylong_small (by omega)))
theorem a1k:OpR X (binaryOp .Mod) (rI (fun _ j=>0<j) fun i j=> .int (i % j)):=opI fun i j _ _ _ _ _ hc q=>by
 have h1:(0:Int)<j:=hc
 exact mod_int' (by omega) (by rw[Int.fmod_eq_emod_of_nonneg i (by omega)];exact q)
theorem op_pow:OpR X (binaryOp .Pow) (rI CPow fun i j=> .int (i^j.toNat)):=opI fun _ _ _ _ _ _ _ hc q=>pow_int_small hc.1 hc.2.1 hc.2.2 q
theorem unI{f:Value->Sem Value}{g:Int->Int}
   (rule: ∀(i:Int) (t:Tok) (s:Shared) (Q:Value->Shared->Prop) (E:Value->Shared->Prop),Q (.int (g i) s.toks) {s with toks:=s.toks+1}->wpAny (model X.prog X.w) X.A (f (.int i t)) Q E s):
   UnR X f (rU fun i=> .int (g i)):=by
 intro pins s σ H x v Q I rx h
 obtain⟨i,rfl,q⟩:=h
 obtain⟨t,rfl⟩:=rx
 exact rule i t s _ _ ⟨.int (g i),H,I.tok _,⟨_,rfl⟩,q⟩
theorem a9j:UnR X (unaryOp .USub) (rU fun i=> .int (-i)):=unI fun _ _ _ _ _ q=>neg_int q
end
noncomputable def scal:V->V->Bool
 | .non,.non=>true | .non,.int _=>true | .int _,.non=>true | .non,.bl _=>true | .bl _,.non=>true | .non,.str _=>true | .str _,.non=>true
 | .int _,.int _=>true | .bl _,.bl _=>true | .str _,.str _=>true | .byt _,.byt _=>true
 | .int _,.str _=>true | .str _,.int _=>true | .bl _,.str _=>true | .str _,.bl _=>true
 |_,_=>false
def rEq:R2:=fun x y H Q=>scal x y=true/\Q (.bl (decide (x=y))) H
def rNe:R2:=fun x y H Q=>scal x y=true/\Q (.bl (!decide (x=y))) H
theorem b7p{i j:Int}:decide (V.int i=V.int j)=(i==j):=by
 rw[Bool.eq_iff_iff]
 simp
theorem dec_bl{i j:Bool}:decide (V.bl i=V.bl j)=(i==j):=by
 rw[Bool.eq_iff_iff]
 simp
theorem b13{i j:Str}:decide (V.str i=V.str j)=(i==j):=by
 rw[Bool.eq_iff_iff]
 simp
theorem b7q{i j:Array UInt8}:decide (V.byt i=V.byt j)=(i.toList==j.toList):=by
 rw[Bool.eq_iff_iff]
 cases i
 cases j
 simp
section
variable {X:Cx}{a b c:Expr}{ta tb tc:TE}{pos:Pos}
theorem a02{pins:List (Addr×Obj)}{σ:St}{H:Hp}{s:Shared}{Q:VK}{k k':Bool}(I:Inv X pins σ H s)(q:Q (.bl k) H)(e:k=k'):EP X pins σ Q (.bool k') s:=by
 subst e
 exact⟨.bl k,H,I,rfl,q⟩
theorem op_eq:OpR X (compareOp .Eq) rEq:=by
 intro pins s σ H x y v u Q I rx ry h
 obtain⟨hs,q⟩:=h
 cases x with
 |non=>
   cases rx
   cases y with
   |non=>cases ry;exact PySem.EqNone.eq_none_none (a02 I q (by simp))
   |bl j=>cases ry;exact PySem.EqNone.eq_none_bool (a02 I q (by simp))
   |int j=>obtain⟨t',rfl⟩:=ry;exact PySem.EqNone.eq_none_int (a02 I q (by simp))
   |str j=>obtain⟨t',rfl⟩:=ry;exact PySem.EqNone.eq_none_str (a02 I q (by simp))
   |_=>exact absurd (show false=true from hs) Bool.false_ne_true
 |bl i=>
   cases rx
   cases y with
   |non=>cases ry;exact PySem.EqNone.eq_bool_none (a02 I q (by simp))
   |bl j=>cases ry;exact eq_bool (a02 I q dec_bl)
   |str j=>obtain⟨t',rfl⟩:=ry;exact PySem.EqMixed.eq_bool_str (a02 I q (by simp))
   |_=>exact absurd (show false=true from hs) Bool.false_ne_true
 |int i=>
   obtain⟨t,rfl⟩:=rx
   cases y with
   |non=>cases ry;exact PySem.EqNone.eq_int_none (a02 I q (by simp))
   |int j=>obtain⟨t',rfl⟩:=ry;exact eq_int (a02 I q b7p)
   |str j=>obtain⟨t',rfl⟩:=ry;exact PySem.EqMixed.eq_int_str (a02 I q (by simp))
   |_=>exact absurd (show false=true from hs) Bool.false_ne_true
 |str i=>
   obtain⟨t,rfl⟩:=rx
   cases y with
   |non=>cases ry;exact PySem.EqNone.eq_str_none (a02 I q (by simp))
   |bl j=>cases ry;exact PySem.EqMixed.eq_str_bool (a02 I q (by simp))
   |int j=>obtain⟨t',rfl⟩:=ry;exact PySem.EqMixed.eq_str_int (a02 I q (by simp))
   |str j=>obtain⟨t',rfl⟩:=ry;exact eq_str (a02 I q b13)
   |_=>exact absurd (show false=true from hs) Bool.false_ne_true
 |byt i=>
   obtain⟨t,rfl⟩:=rx
   cases y with
   |byt j=>obtain⟨t',rfl⟩:=ry;exact PySem.W.eq_bytes (a02 I q b7q)
   |_=>exact absurd (show false=true from hs) Bool.false_ne_true
 |_=>cases y<;>exact absurd (show false=true from hs) Bool.false_ne_true
theorem op_ne:OpR X (compareOp .NotEq) rNe:=by
 intro pins s σ H x y v u Q I rx ry h
 obtain⟨hs,q⟩:=h
 cases x with
 |non=>
   cases rx
   cases y with
   |non=>cases ry;exact PySem.EqNone.ne_none_none (a02 I q (by simp))
   |bl j=>cases ry;exact PySem.EqNone.ne_none_bool (a02 I q (by simp))
   |int j=>obtain⟨t',rfl⟩:=ry;exact PySem.EqNone.ne_none_int (a02 I q (by simp))
   |str j=>obtain⟨t',rfl⟩:=ry;exact PySem.EqNone.ne_none_str (a02 I q (by simp))
   |_=>exact absurd (show false=true from hs) Bool.false_ne_true
 |bl i=>
   cases rx
   cases y with
   |non=>cases ry;exact PySem.EqNone.ne_bool_none (a02 I q (by simp))
   |bl j=>cases ry;exact ne_bool (a02 I q (congrArg not dec_bl))
   |str j=>obtain⟨t',rfl⟩:=ry;exact PySem.EqMixed.ne_bool_str (a02 I q (by simp))
   |_=>exact absurd (show false=true from hs) Bool.false_ne_true
 |int i=>
   obtain⟨t,rfl⟩:=rx
   cases y with
   |non=>cases ry;exact PySem.EqNone.ne_int_none (a02 I q (by simp))
   |int j=>obtain⟨t',rfl⟩:=ry;exact ne_int (a02 I q (congrArg not b7p))
   |str j=>obtain⟨t',rfl⟩:=ry;exact PySem.EqMixed.ne_int_str (a02 I q (by simp))
   |_=>exact absurd (show false=true from hs) Bool.false_ne_true
 |str i=>
   obtain⟨t,rfl⟩:=rx
   cases y with
   |non=>cases ry;exact PySem.EqNone.ne_str_none (a02 I q (by simp))
   |bl j=>cases ry;exact PySem.EqMixed.ne_str_bool (a02 I q (by simp))
   |int j=>obtain⟨t',rfl⟩:=ry;exact PySem.EqMixed.ne_str_int (a02 I q (by simp))
   |str j=>obtain⟨t',rfl⟩:=ry;exact ne_str (a02 I q (congrArg not b13))
   |_=>exact absurd (show false=true from hs) Bool.false_ne_true
 |byt i=>
   obtain⟨t,rfl⟩:=rx
   cases y with
   |byt j=>obtain⟨t',rfl⟩:=ry;exact PySem.W.ne_bytes (a02 I q (congrArg not b7q))
   |_=>exact absurd (show false=true from hs) Bool.false_ne_true
 |_=>cases y<;>exact absurd (show false=true from hs) Bool.false_ne_true
theorem a7r:OpR X (compareOp .Lt) (rI0 fun i j=> .bl (decide (i<j))):=opB0 fun _ _ _ _ _ _ _ q=>lt_int q
theorem b56:OpR X (compareOp .Gt) (rI0 fun i j=> .bl (decide (j<i))):=opB0 fun _ _ _ _ _ _ _ q=>gt_int q
theorem op_ge:OpR X (compareOp .GtE) (rI0 fun i j=> .bl (decide (j<=i))):=opB0 fun _ _ _ _ _ _ _ q=>ge_int q
theorem b55:OpR X (compareOp .In) (fun x y H Q=> ∃i j,x= .str i/\y= .str j/\Q (.bl (!(Builtin.Str.occurrences j i 0 j.length 1).isEmpty)) H):=by
 intro pins s σ H x y v u Q I rx ry h
 obtain⟨i,j,rfl,rfl,q⟩:=h
 obtain⟨t,rfl⟩:=rx
 obtain⟨t',rfl⟩:=ry
 exact in_str (a02 I q rfl)
theorem a9z:OpR X (compareOp .Is) (fun x y H Q=>y= .non/\Q (.bl (decide (x= .non))) H):=by
 intro pins s σ H x y v u Q I rx ry h
 obtain⟨rfl,q⟩:=h
 cases ry
 refine is_none_gen (a02 I q ?_)
 cases x<;>first
   | (cases rx;rfl)
   | (obtain⟨t,rfl⟩:=rx;rfl)
theorem a8v:OpR X (compareOp .IsNot) (fun x y H Q=>y= .non/\Q (.bl (!decide (x= .non))) H):=by
 intro pins s σ H x y v u Q I rx ry h
 obtain⟨rfl,q⟩:=h
 cases ry
 refine isnot_none_gen (a02 I q ?_)
 cases x<;>first
   | (cases rx;rfl)
   | (obtain⟨t,rfl⟩:=rx;rfl)
theorem a9y:OpR X (compareOp .NotIn) (fun x y H Q=> ∃i j,x= .str i/\y= .str j/\Q (.bl (!(!(Builtin.Str.occurrences j i 0 j.length 1).isEmpty))) H):=by
 intro pins s σ H x y v u Q I rx ry h
 obtain⟨i,j,rfl,rfl,q⟩:=h
 obtain⟨t,rfl⟩:=rx
 obtain⟨t',rfl⟩:=ry
 exact notIn_str (a02 I q rfl)
theorem OpR.or{f:Value->Value->Sem Value}{r r':R2}(h:OpR X f r)(h':OpR X f r'):OpR X f (fun x y H Q=>r x y H Q\/r' x y H Q):=by
 intro pins s σ H x y v u Q I rx ry q
 rcases q with q |q
 . exact h pins s σ H x y v u Q I rx ry q
 . exact h' pins s σ H x y v u Q I rx ry q
theorem a0m(b:Expr){op:CmpOp}(h:op≠ .In:=by decide)(h2:op≠ .NotIn:=by decide):behindInMarks op b=false:=by
 have e1:(op==CmpOp.In)=false:=by cases op<;>first |rfl |exact absurd rfl h
 have e2:(op==CmpOp.NotIn)=false:=by cases op<;>first |rfl |exact absurd rfl h2
 cases b<;>simp[behindInMarks,e1,e2]
theorem pe_cmpR{op:CmpOp}{r:R2}(ho:OpR X (compareOp op) r)(ha:PE X a ta)(hb:PE X b tb)(hm:behindInMarks op b=false):PE X (.Compare a [op] [b] pos) (tOp r ta tb):=by
 intro pins s σ H Q I h
 exact wpAny_Compare1 (binT ha hb I h fun v u s2 x y H2 I2 rx ry q=>ho pins s2 σ H2 x y v u Q I2 rx ry q) hm
noncomputable def tTest(t:TE):TT:=fun σ H Q=>t σ H fun x H'=> ∃k,x= .bl k/\Q k H'
theorem pt_cmpR{op:CmpOp}{r:R2}(ho:OpR X (compareOp op) r)(ha:PE X a ta)(hb:PE X b tb)(hm:behindInMarks op b=false):PT X (.Compare a [op] [b] pos) (tTest (tOp r ta tb)):=by
 intro pins s σ H Q I h
 refine wpAny_isTrue_Compare1 (thn (ha pins s σ H _ I h) fun v s1 ⟨x,H1,I1,r1,q1⟩=>thn (hb pins s1 σ H1 _ I1 q1) fun u s2 ⟨y,H2,I2,r2,q2⟩=>
   thn (ho pins s2 σ H2 x y v u _ I2 r1 r2 q2) fun c s3 ⟨z,H3,I3,r3,k,e,q3⟩=> ?_) hm
 subst e
 cases r3
 exact wpAny_truthy_bool ⟨H3,I3,q3⟩
theorem a79:(sizeLine:Nat)<2^63:=by rw[sizeLine_eq];decide
theorem b4i:OpR X (binaryOp .Add) (fun x y H Q=> ∃i j,x= .str i/\y= .str j/\i.length+j.length<=sizeLine/\Q (.str (i++j)) H):=by
 intro pins s σ H x y v u Q I rx ry h
 obtain⟨i,j,rfl,rfl,hz,q⟩:=h
 obtain⟨t,rfl⟩:=rx
 obtain⟨t',rfl⟩:=ry
 exact add_str (fun t' tk=>⟨.str (i++j),H,I.tok _,⟨_,rfl⟩,q⟩) hz
theorem b0s{x:V}{us:List Value}(r:Vals [x] us): ∃u,us=[u]/\RelV x u:=by
 cases r with
 |cons r1 r2=>cases r2;exact⟨_,rfl,r1⟩
theorem vals2{x y:V}{us:List Value}(r:Vals [x,y] us): ∃u w',us=[u,w']/\RelV x u/\RelV y w':=by
 cases r with
 |cons r1 r2=>
   cases r2 with
   |cons r3 r4=>cases r4;exact⟨_,_,rfl,r1,r3⟩
theorem b3x:CallR X (.builtin "abs") (fun xs H Q=> ∃i,xs=[.int i]/\Q (.int (if i<0 then -i else i)) H):=by
 intro pins s σ H xs us Q I r h
 obtain⟨i,rfl,q⟩:=h
 obtain⟨u,rfl,t,rfl⟩:=b0s r
 exact call_abs_int fun u tk=>⟨.int (if i<0 then -i else i),H,I.tok _,⟨_,rfl⟩,q⟩
theorem b7x(hc:X.calm=true):CallR X (.builtin "max") (fun xs H Q=> ∃i j,xs=[.int i,.int j]/\Q (.int (if j>i then j else i)) H):=by
 intro pins s σ H xs us Q I r h
 obtain⟨i,j,rfl,q⟩:=h
 obtain⟨u,w',rfl,⟨t,rfl⟩,⟨t',rfl⟩⟩:=vals2 r
 refine max_two_ints (I.ok.hd hc) fun h' tk k=>⟨_,H,I.kept k,?_,q⟩
 by_cases hj:j>i
 . rw[if_pos hj,if_pos hj];exact⟨_,rfl⟩
 . rw[if_neg hj,if_neg hj];exact⟨_,rfl⟩
def LenV(K:PySem.W.Frag)(x:V)(H:Hp)(n:Nat):Prop:=
 match x with
 | .str y=>y.length<=sizeLine/\n=y.length
 | .byt y=>y.size<=sizeLine/\n=y.size
 | .ref p=>(∃xs,SqL K H p xs/\n=xs.length)\/ ∃xs,SqT K H p xs/\n=xs.length
 |_=>False
theorem call_len:CallR X (.builtin "len") (fun xs H Q=> ∃x n,xs=[x]/\LenV X.K x H n/\Q (.int n) H):=by
 intro pins s σ H xs us Q I r h
 obtain⟨x,n,rfl,e,q⟩:=h
 obtain⟨u,rfl,rx⟩:=b0s r
 have hl:=a79
 have hs:sizeLine=16777216:=sizeLine_eq
 cases x with
 |str y=>
   obtain⟨t,rfl⟩:=rx
   obtain⟨hy,e'⟩:y.length<=sizeLine/\n=y.length:=e
   subst e'
   exact len_str (by omega) ⟨.int _,H,I.tok _,⟨_,rfl⟩,q⟩
 |byt y=>
   obtain⟨t,rfl⟩:=rx
   obtain⟨hy,e'⟩:y.size<=sizeLine/\n=y.size:=e
   subst e'
   exact PySem.W.len_bytes (by omega) ⟨.int _,H,I.tok _,⟨_,rfl⟩,q⟩
 |ref p=>
   cases rx
   have e':(∃xs,SqL X.K H p xs/\n=xs.length)\/ ∃xs,SqT X.K H p xs/\n=xs.length:=e
   rcases e' with⟨xs,hx,e'⟩ | ⟨xs,hx,e'⟩
   . subst e'
     obtain⟨its,r',pl,hz⟩:=I.list hx
     have hlen:=r'.length
     exact Calls.call_len_list pl.isList (by simp only[List.size_toArray];omega) ⟨.int xs.length,H,I.tok _,⟨_,by simp only[List.size_toArray];rw[hlen]⟩,q⟩
   . subst e'
     obtain⟨its,r',pl,hz⟩:=I.tuple hx
     have hlen:=r'.length
     exact len_tuple pl (by simp only[List.size_toArray];omega) ⟨.int xs.length,H,I.tok _,⟨_,by simp only[List.size_toArray];rw[hlen]⟩,q⟩
 |_=>exact(show False from e).elim
end
structure ObjM(h:Heap)(x dx C:Addr)(mA:Str->Option Value):Prop where
 obj:h.get? x=some (PySem.W.instObj C dx)
 ns:h.Ns1 dx mA
 ne:dx≠x
theorem b6n{h:Heap}{dx:Addr}{mA:Str->Option Value}(n:h.Ns1 dx mA): ∃od,h.get? dx=some od/\ ∀name,PySem.W.lookIn name od=some (mA name):=by
 obtain⟨o,es,ep,ho,hd,hk,_,hm⟩:=n
 refine⟨o,ho,fun name=> ?_⟩
 have e:=hm name
 unfold nsFind findBy at e
 rw[<-Array.find?_toList]at e
 unfold PySem.W.lookIn
 rw[hd]
 dsimp only
 split
 . rename_i y q
   rw[q]at e
   exact congrArg some e
 . rename_i q
   rw[q]at e
   have a:es.toList.any (·.refKey)=false:=by
     rw[List.any_eq_false]
     intro y hy
     obtain⟨z,t,hkey⟩:=hk y (Array.mem_toList_iff.mp hy)
     simp[DictEntry.refKey,hkey]
   have a': ¬ es.toList.any (·.refKey)=true:=by rw[a];exact Bool.false_ne_true
   rw[if_neg a']
   exact congrArg some e
theorem ObjM.look{h:Heap}{x dx C:Addr}{mA:Str->Option Value}(I:ObjM h x dx C mA): ∃od,PySem.W.InstAt h x (PySem.W.instObj C dx) C (some od)/\ ∀name,PySem.W.lookIn name od=some (mA name):=
 let ⟨od,ho,hl⟩:=b6n I.ns
 ⟨od,⟨I.obj,rfl,rfl,ho⟩,hl⟩
section
variable {prog:Program}{w:World}{A:Around}{E:Value->Shared->Prop}{s:Shared}{K:PySem.W.Frag}{x dx C f:Addr}{mA:Str->Option Value}{name:Str}{v:Value}
theorem get_map{expr:Bool}{Q:Value->Shared->Prop}(X:K.In s.heap)(I:ObjM s.heap x dx C mA)(hg:PySem.W.plainGet K C name=true)(hh:PySem.W.hasDictIn K C=true)
   (ha:PySem.W.findIn K (.ref C) name=some none) (hv:mA name=some v) (hv':PySem.W.handedIn v=true) (h:Q v {s with toks:=s.toks+1}):
   wpAny (model prog w) A (getAttr (.ref x) name expr) Q E s:=by
 obtain⟨od,J,hl⟩:=I.look
 exact PySem.W.get_value X J (PySem.W.plainGet_of hg).1 (PySem.W.findObj_own hh ha rfl (by rw[hl,hv])) hv' h
theorem b9d{pl:Sem Bool}{Q:Value×List Value->Shared->Prop}(X:K.In s.heap)(I:ObjM s.heap x dx C mA)(hg:PySem.W.plainGet K C name=true)
   (hf:PySem.W.findIn K (.ref C) name=some (some (.ref f))) (ht:PySem.W.isFn K (.ref f)=true) (hv:mA name=none) (h:Q (.ref f,[.ref x]) s):
   wpAny (model prog w) A (getMethod (.ref x) name pl) Q E s:=by
 obtain⟨od,J,hl⟩:=I.look
 exact PySem.W.method_fn X J (PySem.W.plainGet_of hg).1 (PySem.W.plainGet_of hg).2 hf (beq_iff_eq.mp ht) (by show(PySem.W.lookIn name od).map (·.isSome)=some false;rw[hl,hv];rfl) h
theorem set_map{ns:List Str}{Q:Unit->Shared->Prop}(X:K.In s.heap)(I:ObjM s.heap x dx C mA)
   (hs:PySem.W.findIn K (.ref C) "__setattr__"=some (some (.builtin "object.__setattr__"))) (hp:PySem.W.plainOver K C=true) (ht:PySem.W.takerIn K C name=some none) (hh:PySem.W.hasDictIn K C=true)
   (hw:PySem.Within mA ns) (hsz:ns.length<=sizeLine)
   (h: ∀h',ObjM h' x dx C (fun y=>if y=name then some v else mA y)->Heap.SameBut dx s.heap h'->Q () {s with heap:=h',toks:=s.toks+2}):
   wpAny (model prog w) A (setAttr (.ref x) name v) Q E s:=by
 obtain⟨od,J,hl⟩:=I.look
 refine PySem.W.set_plain X J hs (PySem.W.osa_open (s:={s with toks:=s.toks+1}) (r:=none) X J hp ht fun b=> ?_)
 obtain⟨cd,hc,hd'⟩:=PySem.W.any_some hh
 have hx:s.heap.get? x=some ⟨.ref C,some dx,.plain,#[]⟩:=I.obj
 refine wpAny_bind (wpAny_pure (wpAny_bind (wpAny_bind (wpAny_loadPart hx (wpAny_bind (PySem.W.Looks.here (s:={s with toks:=s.toks+1}) (PySem.W.looks_clsIn X hc) ?_))))))
 rw[hd']
 refine wpAny_pure (a:=some dx) (wpAny_bind (wpAny_pure (wpAny_bind ?_)))
 refine wpAny_nsSet1 (s:={s with toks:=s.toks+1}) I.ns fun h' hn2 hs2=> ?_
 obtain⟨oD,esD,epD,hoD,hdD,hcD⟩:=hn2.count (PySem.Within.cons name v hw)
 refine wpAny_bind (wpAny_lookBehind hoD (by rw[hdD];exact pastItsLine_dict (Nat.le_trans hcD (by rw[List.length_cons];omega))) ?_)
 exact wpAny_pure (h _ ⟨(hs2.2 _ (Ne.symm I.ne)).trans I.obj,hn2,I.ne⟩ hs2)
theorem b87{R:Result->Shared->Prop}{vs:List Value}{kw:List (Str×Value)}(X:K.In s.heap)(hm:PySem.W.makesIn K C=true)
   (hi:PySem.W.findIn K (.ref C) "__init__"=some (some (.ref f))) (hf:PySem.W.typeIn K (.ref f)=some (.type "function"))
   (h:codeAny (model prog w) (A.under (.builtin "type.__call__" ⟨.ref C::vs,kw⟩)) (.call (.ref f) ⟨.ref (s.heap.objs.size+1)::vs,kw⟩) (PySem.W.InitBack (s.heap.objs.size+1) R)
     {s with heap:=(s.heap.push PySem.W.emptyDict).push (PySem.W.instObj C s.heap.objs.size)}):
   codeAny (model prog w) A (.call (.ref C) ⟨vs,kw⟩) R s:=by
 obtain⟨hh,g,d,t,os⟩:=s
 exact PySem.W.make_core (PySem.W.makes_of X hm) (PySem.W.looks_findIn X hi) (fun self=>PySem.W.bind_fn X self hf) (.inl rfl) h
end
noncomputable def putF(f:Str)(v:V):List (Str×V)->List (Str×V)
 | []=>[(f,v)]
 | (g,x)::r=>if g=f then(g,v)::r else(g,x)::putF f v r
theorem a65(f g:Str)(v:V): ∀fs:List (Str×V),(putF f v fs).lookup g=if g=f then some v else fs.lookup g
 | []=>by
   show List.lookup g [(f,v)]=_
   by_cases h:g=f
   . have hb:(g==f)=true:=beq_iff_eq.mpr h
     simp only[List.lookup,hb,if_pos h]
   . have hb:(g==f)=false:=beq_eq_false_iff_ne.mpr h
     simp only[List.lookup,hb,if_neg h]
 | (k,x)::r=>by
   have ih:=a65 f g v r
   rw[show putF f v ((k,x)::r)=(if k=f then(k,v)::r else(k,x)::putF f v r)from rfl]
   by_cases hk:k=f
   . rw[if_pos hk]
     by_cases h:g=k
     . have hb:(g==k)=true:=beq_iff_eq.mpr h
       simp only[List.lookup,hb,if_pos (h.trans hk)]
     . have hb:(g==k)=false:=beq_eq_false_iff_ne.mpr h
       simp only[List.lookup,hb,if_neg (fun e:g=f=>h (e.trans hk.symm))]
   . rw[if_neg hk]
     by_cases h:g=k
     . have hb:(g==k)=true:=beq_iff_eq.mpr h
       simp only[List.lookup,hb,if_neg (fun e:g=f=>hk (h.symm.trans e))]
     . have hb:(g==k)=false:=beq_eq_false_iff_ne.mpr h
       simp only[List.lookup,hb]
       exact ih
theorem a68(f:Str)(v:V): ∀fs:List (Str×V),f∈(putF f v fs).map (·.1)/\ ∀g,g∈fs.map (·.1)->g∈(putF f v fs).map (·.1)
 | []=>⟨by simp[putF],fun g h=>by simp at h⟩
 | (k,x)::r=>by
   obtain⟨i1,i2⟩:=a68 f v r
   rw[show putF f v ((k,x)::r)=(if k=f then(k,v)::r else(k,x)::putF f v r)from rfl]
   by_cases hk:k=f
   . rw[if_pos hk]
     subst hk
     exact⟨by simp,fun g h=>by simpa using h⟩
   . rw[if_neg hk]
     refine⟨?_,fun g h=> ?_⟩
     . rw[List.map_cons]
       exact List.mem_cons_of_mem _ i1
     . rw[List.map_cons]at h |-
       rcases List.mem_cons.mp h with e |e
       . exact List.mem_cons.mpr (.inl e)
       . exact List.mem_cons_of_mem _ (i2 g e)
theorem a67(f:Str)(v:V): ∀fs:List (Str×V),(putF f v fs).length<=fs.length+1
 | []=>by simp[putF]
 | (k,x)::r=>by
   have ih:=a67 f v r
   rw[show putF f v ((k,x)::r)=(if k=f then(k,v)::r else(k,x)::putF f v r)from rfl]
   by_cases hk:k=f
   . rw[if_pos hk,List.length_cons,List.length_cons];omega
   . rw[if_neg hk,List.length_cons,List.length_cons];omega
theorem RelO.some_of{v:V}{o:Option Value}(r:RelO (some v) o): ∃u,o=some u/\RelV v u:=by
 cases o with
 |none=>exact(show False from r).elim
 |some u=>exact⟨u,rfl,r⟩
theorem RelO.none_of{o:Option Value}(r:RelO none o):o=none:=by
 cases o with
 |none=>rfl
 |some u=>exact(show False from r).elim
theorem b7d{v:V}{u:Value}(r:RelV v u):PySem.W.handedIn u=true:=by
 cases v with
 |non=>cases(show u=Value.none from r);rfl
 |bl b=>cases(show u=Value.bool b from r);rfl
 |int i=>obtain⟨t,e⟩:=(show ∃t,u=Value.int i t from r);cases e;rfl
 |str x=>obtain⟨t,e⟩:=(show ∃t,u=Value.str x t from r);cases e;rfl
 |byt b=>obtain⟨t,e⟩:=(show ∃t,u=Value.bytes b t from r);cases e;rfl
 |flt b=>obtain⟨t,e⟩:=(show ∃t,u=Value.float b t from r);cases e;rfl
 |ref a=>cases(show u=Value.ref a from r);rfl
 |ty n=>cases(show u=Value.type n from r);rfl
section
variable {P:Program}{w:World}{H H':Hp}{h h':Heap}{a C dx:Addr}{fs fs':List (Str×V)}
theorem a86(hok:HOk P w H h)(e:H a=some (.ins C dx fs)): ∃mA,ObjM h a dx C mA/\(∀f,RelO (fs.lookup f) (mA f))/\PySem.Within mA (fs.map (·.1))/\fs.length<=1000/\H dx=some (.own a):=by
 obtain⟨d,z,ne,ob,mA,n,r,q⟩:=(show ObjOk P w H h a (.ins C dx fs)from hok a _ e)
 exact⟨mA,⟨ob,n,ne⟩,r,q,z,d⟩
end
structure Cls(K:PySem.W.Frag)(C:Addr):Prop where
 pg:PySem.W.plainGet K C Str.empty=true
 hd:PySem.W.hasDictIn K C=true
 po:PySem.W.plainOver K C=true
 sa:PySem.W.findIn K (.ref C) "__setattr__"=some (some (.builtin "object.__setattr__"))
theorem Cls.get{K:PySem.W.Frag}{C:Addr}(c:Cls K C)(f:Str):PySem.W.plainGet K C f=true:=c.pg
def NoAttr(K:PySem.W.Frag)(C:Addr)(f:Str):Prop:=PySem.W.findIn K (.ref C) f=some none
theorem NoAttr.taker{K:PySem.W.Frag}{C:Addr}{f:Str}(n:NoAttr K C f):PySem.W.takerIn K C f=some none:=by
 unfold PySem.W.takerIn
 rw[show PySem.W.findIn K (.ref C) f=some none from n]
 rfl
structure Meth(K:PySem.W.Frag)(C:Addr)(m:Str)(f:Addr):Prop where
 at_:PySem.W.findIn K (.ref C) m=some (some (.ref f))
 fn:PySem.W.isFn K (.ref f)=true
 kp:PySem.W.keepIn K (.ref f)=true
section
variable {X:Cx}{pins:List (Addr×Obj)}{σ:St}{H:Hp}{s:Shared}{a C dx:Addr}{fs:List (Str×V)}{f:Str}{v:V}{A:Around}{E:Value->Shared->Prop}
theorem b4v{b:Bool}{Q:Value->Shared->Prop}(I:Inv X pins σ H s)(e:H a=some (.ins C dx fs))(c:Cls X.K C)(n:NoAttr X.K C f)(l:fs.lookup f=some v)
   (h: ∀u s',Inv X pins σ H s'->RelV v u->Q u s'):wpAny (model X.prog X.w) A (getAttr (.ref a) f b) Q E s:=by
 obtain⟨mA,O,r,_,_,_⟩:=a86 I.hok e
 obtain⟨u,hu,ru⟩:=RelO.some_of (v:=v) (o:=mA f) (by rw[<-l];exact r f)
 exact get_map I.kIn O (c.get f) c.hd n hu (b7d ru) (h u _ (I.tok _) ru)
theorem a8b{m:Str}{g:Addr}{pl:Sem Bool}{Q:Value×List Value->Shared->Prop}(I:Inv X pins σ H s)(e:H a=some (.ins C dx fs))(c:Cls X.K C)(k:Meth X.K C m g)(l:fs.lookup m=none)
   (h:Q (.ref g,[.ref a]) s):wpAny (model X.prog X.w) A (getMethod (.ref a) m pl) Q E s:=by
 obtain⟨mA,O,r,_,_,_⟩:=a86 I.hok e
 have hn:mA m=none:=RelO.none_of (by rw[<-l];exact r m)
 exact b9d I.kIn O (c.get m) k.at_ k.fn hn h
theorem b4e{y:V}{u:Value}{Q:Unit->Shared->Prop}(I:Inv X pins σ H s)(e:H a=some (.ins C dx fs))(c:Cls X.K C)(n:NoAttr X.K C f)(hl:fs.length<1000)(ry:RelV y u)
   (h: ∀s',Inv X pins σ (upd H a (.ins C dx (putF f y fs))) s'->Q () s'):wpAny (model X.prog X.w) A (setAttr (.ref a) f u) Q E s:=by
 obtain⟨mA,O,r,wi,_,ho⟩:=a86 I.hok e
 have hz:(fs.map (·.1)).length<=sizeLine:=by rw[List.length_map,sizeLine_eq];omega
 refine set_map I.kIn O c.sa c.po n.taker c.hd wi hz fun h' O' sb=>h _ ?_
 have hd: ∃o,h'.get? dx=some o:=let ⟨o,_,_,e',_⟩:=O'.ns;⟨o,e'⟩
 refine I.write (x:=a) (e:=dx) (by rw[e];exact True.intro) (.inr ho) (fun b q hb z=>(sb.2 b hb).trans z) hd ?_
 refine⟨by rw[a0o O.ne];exact ho,?_,O.ne,O'.obj,_,O'.ns,fun g=> ?_,fun g hg=> ?_⟩
 . have:=a67 f y fs;omega
 . show RelO ((putF f y fs).lookup g) (if g=f then some u else mA g)
   rw[a65]
   by_cases q:g=f
   . rw[if_pos q,if_pos q];exact ry
   . rw[if_neg q,if_neg q];exact r g
 . by_cases q:g=f
   . rw[q];exact(a68 f y fs).1
   . refine(a68 f y fs).2 g (wi g fun z=>hg ?_)
     show(if g=f then some u else mA g)=none
     rw[if_neg q];exact z
theorem Inv.made(I:Inv X pins σ H s):Inv X pins σ (upd (upd H s.heap.objs.size (.own (s.heap.objs.size+1))) (s.heap.objs.size+1) (.ins C s.heap.objs.size []))
   {s with heap:=(s.heap.push PySem.W.emptyDict).push (PySem.W.instObj C s.heap.objs.size)}:=by
 have e1:(s.heap.push PySem.W.emptyDict).get? s.heap.objs.size=some PySem.W.emptyDict:=Heap.get?_push_size s.heap rfl
 have e2:((s.heap.push PySem.W.emptyDict).push (PySem.W.instObj C s.heap.objs.size)).get? (s.heap.objs.size+1)=some (PySem.W.instObj C s.heap.objs.size):=by
   have:=Heap.get?_push_size (s.heap.push PySem.W.emptyDict) (o:=PySem.W.instObj C s.heap.objs.size) rfl
   rwa [Heap.size_push]at this
 have e3:(s.heap.push PySem.W.emptyDict).Ns s.heap.objs.size (fun _=>none):=⟨PySem.W.emptyDict,#[],_,e1,rfl,(fun e he=>absurd he (by simp)),fun _=>rfl⟩
 have I1:=I.laid (a:=s.heap.objs.size) (o:= .own (s.heap.objs.size+1)) (h':=s.heap.push PySem.W.emptyDict) (t':=s.toks) (fun b u q=>Heap.get?_push_of_some _ q) (Nat.le_refl _) ⟨_,e1⟩
 refine I1.laid (a:=s.heap.objs.size+1) (o:= .ins C s.heap.objs.size []) (t':=s.toks) (fun b u q=>Heap.get?_push_of_some _ q) (Nat.le_of_eq (Heap.size_push _ _)) ?_
 have ne:s.heap.objs.size≠s.heap.objs.size+1:=Nat.ne_of_lt (Nat.lt_succ_self _)
 refine⟨by rw[a0o ne,a0t],Nat.zero_le _,ne,e2,fun _=>none,(Heap.Ns1.of_empty e3).at fun o q=>Heap.get?_push_of_some _ q,fun _=>True.intro,fun y hy=>absurd rfl hy⟩
theorem attr_of{prog:Program}{w:World}{env:Env}{e:Expr}{f:Str}{pos:Pos}{s:Shared}{Q:Value->Shared->Prop}(hb:attributeBase e f env (eval e env)=eval e env)
   (h:wpAny (model prog w) A (eval e env) (fun o s₁=>wpAny (model prog w) A (getAttr o f true) Q E s₁) E s):wpAny (model prog w) A (eval (.Attribute e f pos) env) Q E s:=
 Attribute_any_ h (by rw[arm_eval_Attribute,hb])
end
def tFld(K:PySem.W.Frag)(ta:TE)(f:Str):TE:=fun σ H Q=>ta σ H fun x H1=> ∃a C dx fs v,x= .ref a/\H1 a=some (.ins C dx fs)/\Cls K C/\NoAttr K C f/\fs.lookup f=some v/\Q v H1
noncomputable def sFld(K:PySem.W.Frag)(ta tv:TE)(f:Str):TS:=fun D σ H=>tv σ H fun y H1=>ta σ H1 fun x H2=> ∃a C dx fs,x= .ref a/\H2 a=some (.ins C dx fs)/\Cls K C/\NoAttr K C f/\fs.length<1000/\
 D.nx σ (upd H2 a (.ins C dx (putF f y fs)))
section
variable {X:Cx}{o e value:Expr}{f:Str}{pos pos' tpos:Pos}{ta tv:TE}
theorem pe_fld(he:PE X e ta)(hb:attributeBase e f X.env (eval e X.env)=eval e X.env):PE X (.Attribute e f pos) (tFld X.K ta f):=by
 intro pins s σ H Q I h
 refine attr_of hb (thn (he pins s σ H _ I h) fun u s1 zz9=> ?_)
 obtain⟨x,H1,I1,rx,a,C,dx,fs,v,ex,ea,c,n,l,q⟩:=zz9
 subst ex
 obtain rfl:u=Value.ref a:=rx
 exact b4v I1 ea c n l fun u' s2 I2 ru=>⟨v,H1,I2,ru,q⟩
theorem ps_fld(ha:PE X o ta)(hv:PE X value tv)(hs:swapsWith value (some (.Attribute o f pos')) pos.line X.env=pure false):PS X (.Assign [.Attribute o f pos'] value pos) (sFld X.K ta tv f):=by
 intro pins s σ H D I h
 refine plainObj_wpAny_Assign_Attribute (thn (hv pins s σ H _ I h) fun u s1 ⟨y,H1,I1,ry,q⟩=>thn (ha pins s1 σ H1 _ I1 q) fun ov s2 ⟨x,H2,I2,rx,a,C,dx,fs,ex,ea,c,n,l,q2⟩=> ?_) hs
 subst ex
 obtain rfl:ov=Value.ref a:=rx
 exact b4e I2 ea c n l ry fun s3 I3=>⟨σ,_,I3,q2⟩
end
section
variable {X:Cx}{pins:List (Addr×Obj)}{σ:St}{H:Hp}{s:Shared}{A:Around}{E:Value->Shared->Prop}{Q:Value->Shared->Prop}{c:Value}{b:Bool}
inductive TyOf(K:PySem.W.Frag)(H:Hp):V->Value->Prop where
 |non:TyOf K H .non (.type "NoneType")
 |bl (x:Bool):TyOf K H (.bl x) (.type "bool")
 |int (i:Int):TyOf K H (.int i) (.type "int")
 |str (x:Str):TyOf K H (.str x) (.type "str")
 |flt (x:UInt64):TyOf K H (.flt x) (.type "float")
 |lst {a:Addr}{xs:List V} (e:H a=some (.lst xs)):TyOf K H (.ref a) (.type "list")
 |frz {a:Addr}{o:Obj}{xs:List V} (e:H a=some (.frz o (.lst xs))):TyOf K H (.ref a) (.type "list")
 |tup {a:Addr}{xs:List V} (e:H a=some (.tup xs)):TyOf K H (.ref a) (.type "tuple")
 |dK {a:Addr}{kvs:List (Key×V)} (e:H a=some (.dK kvs)):TyOf K H (.ref a) (.type "dict")
 |dT {a:Addr}{kvs:List (List Key×V)} (e:H a=some (.dT kvs)):TyOf K H (.ref a) (.type "dict")
 |ins {a C dx:Addr}{fs:List (Str×V)} (e:H a=some (.ins C dx fs)) (cl:Cls K C) (ha:PySem.W.findIn K (.ref C) "__class__"=some (some (.builtin "object.__class__")))
     (hn:PySem.W.specialIn K (.builtin "object.__class__") "__get__"=some (some (.builtin "getset_descriptor.__get__"))) (htk:PySem.W.takesIn K (.builtin "object.__class__")=some true)
     (hm:PySem.W.mroIn K C (.type "object")=some true):TyOf K H (.ref a) (.ref C)
theorem b68{x:V}{u t:Value}(I:Inv X pins σ H s)(rx:RelV x u)(ty:TyOf X.K H x t)(e:PySem.W.kitOne X.K t c=some b)(h: ∀tk,Q (.bool b) {s with toks:=tk}):
   wpAny (model X.prog X.w) A (call (.builtin "isinstance") [u,c]) Q E s:=by
 cases ty with
 |non=>cases(show u=Value.none from rx);exact PySem.W.kia_one PySem.W.kitx_none I.kIn True.intro e (fun z=>nomatch z) h
 |bl y=>cases(show u=Value.bool y from rx);exact PySem.W.kia_one PySem.W.kitx_bool I.kIn True.intro e (fun z=>nomatch z) h
 |int i=>obtain⟨t,q⟩:=(show ∃t,u=Value.int i t from rx);cases q;exact PySem.W.kia_one PySem.W.kitx_int I.kIn True.intro e (fun z=>nomatch z) h
 |str y=>obtain⟨t,q⟩:=(show ∃t,u=Value.str y t from rx);cases q;exact PySem.W.kia_one PySem.W.kitx_str I.kIn True.intro e (fun z=>nomatch z) h
 |flt y=>obtain⟨t,q⟩:=(show ∃t,u=Value.float y t from rx);cases q;exact PySem.W.kia_one PySem.W.kitx_float I.kIn True.intro e (fun z=>nomatch z) h
 | @lst a xs ea=>
   cases(show u=Value.ref a from rx)
   obtain⟨_,_,n,_,h1⟩:=(show ObjOk X.prog X.w H s.heap a (.lst xs)from I.hok a _ ea)
   exact PySem.W.kia_one PySem.W.kitx_list I.kIn ⟨_,h1,rfl⟩ e (fun z=>nomatch z) h
 | @frz a ob xs ea=>
   cases(show u=Value.ref a from rx)
   obtain⟨_,_,_,n,_,h1⟩:=(show ObjOk X.prog X.w H s.heap a (.frz ob (.lst xs))from I.hok a _ ea)
   exact PySem.W.kia_one PySem.W.kitx_list I.kIn ⟨_,h1,rfl⟩ e (fun z=>nomatch z) h
 | @tup a xs ea=>
   cases(show u=Value.ref a from rx)
   obtain⟨_,_,_,p⟩:=(show ObjOk X.prog X.w H s.heap a (.tup xs)from I.hok a _ ea)
   obtain⟨o,h1,h2,_⟩:=p
   exact PySem.W.kia_one PySem.W.kitx_tuple I.kIn ⟨o,h1,h2⟩ e (fun z=>nomatch z) h
 | @dK a kvs ea=>
   cases(show u=Value.ref a from rx)
   obtain⟨_,_,vs,_,p⟩:=(show ObjOk X.prog X.w H s.heap a (.dK kvs)from I.hok a _ ea)
   obtain⟨o,es,ep,h1,h2,_⟩:=p
   exact PySem.W.kia_one PySem.W.kitx_dict I.kIn ⟨o,h1,h2.1⟩ e (fun z=>nomatch z) h
 | @dT a kvs ea=>
   cases(show u=Value.ref a from rx)
   obtain⟨_,_,xs,_,o,es,ep,h1,h2,_⟩:=(show ObjOk X.prog X.w H s.heap a (.dT kvs)from I.hok a _ ea)
   exact PySem.W.kia_one PySem.W.kitx_dict I.kIn ⟨o,h1,h2.1⟩ e (fun z=>nomatch z) h
 | @ins a C dx fs ea cl ha hn htk hm=>
   cases(show u=Value.ref a from rx)
   obtain⟨mA,O,_⟩:=a86 I.hok ea
   obtain⟨od,J,_⟩:=O.look
   exact PySem.W.kia_one (PySem.W.kitx_own (cl.get _) cl.hd ha hn htk hm) I.kIn J e (fun z=>nomatch z) h
end
structure Room(k:Nat)(A:Around):Prop where
 hd:A.handled=none
 dp:A.depth+3 *k+5<recursionLimit
 un:A.units+16 *k+200<cLine
theorem Room.mono{j k:Nat}{A:Around}(r:Room k A)(h:j<=k):Room j A:=⟨r.hd,by have:=r.dp;omega,by have:=r.un;omega⟩
theorem Room.deeper{k:Nat}{A:Around}(r:Room (k+1) A)(env:Env):Room k (A.deeper env):=
 ⟨r.hd,by have:=r.dp;show A.depth+1+3 *k+5<_;omega,by have:=r.un;show A.units+3+16 *k+200<_;omega⟩
theorem Room.in1{k:Nat}{A:Around}(r:Room (k+1) A):Room k A.in1:=
 ⟨r.hd,by have:=r.dp;show A.depth+3 *k+5<_;omega,by have:=r.un;show A.units+1+16 *k+200<_;omega⟩
theorem b4r{A:Around}{C:Addr}{us:List Value}{kw:List (Str×Value)}:(A.under (.builtin "type.__call__" ⟨.ref C::us,kw⟩)).depth=A.depth+1:=by
 first |rfl |simp[Around.under,Code.weight,Code.isCreation,Code.isGuard,Code.isCaller,Code.frames,Code.isFrame,guardIds]
theorem b4q{A:Around}{C:Addr}{us:List Value}{kw:List (Str×Value)}:(A.under (.builtin "type.__call__" ⟨.ref C::us,kw⟩)).units=A.units+1:=by
 first |rfl |simp[Around.under,Code.cUnits,Code.frames,Code.isFrame]
theorem Room.make{k:Nat}{A:Around}(r:Room (k+1) A)(C:Addr)(us:List Value)(kw:List (Str×Value)):Room k (A.under (.builtin "type.__call__" ⟨.ref C::us,kw⟩)):=
 ⟨r.hd,by have:=r.dp;rw[b4r];omega,by have:=r.un;rw[b4q];omega⟩
theorem Room.depth{k:Nat}{A:Around}(r:Room k A):A.depth<recursionLimit:=by have:=r.dp;omega
theorem Room.units{k:Nat}{A:Around}(r:Room k A):A.units+64<cLine:=by have:=r.un;omega
def tNil:TA:=fun _ H Q=>Q [] H
def tCons(ta:TE)(tr:TA):TA:=fun σ H Q=>ta σ H fun x H1=>tr σ H1 fun xs H2=>Q (x::xs) H2
section
variable {X:Cx}{e:Expr}{es:List Expr}{te:TE}{t:TA}{pos:Pos}
theorem pa_nil:PA X [] tNil:=fun _ _ _ _ H Q I h=>Calls.spliced_nil ⟨[],H,I,.nil,h⟩
theorem a6u(ha:PE X e te)(hr:PA X es t)(hs:starEach (e::es) X.env=(false,eval e X.env)::starEach es X.env:=by rfl):PA X (e::es) (tCons te t):=by
 intro pos pins s σ H Q I h
 rw[hs]
 show wpAny _ _ (spliced ((false,eval e X.env)::backTo pos (starEach es X.env))) _ _ s
 refine Calls.spliced_cons (thn (ha pins s σ H _ I h) fun u s1 zz9=> ?_)
 obtain⟨x,H1,I1,r1,q1⟩:=zz9
 exact thn (hr pos pins s1 σ H1 _ I1 q1) fun us s2 ⟨xs,H2,I2,r2,q2⟩=>⟨x::xs,H2,I2,.cons r1 r2,q2⟩
def tTup(t:TA):TE:=fun σ H Q=>t σ H fun xs H1=>xs.length<=sizeLine/\ ∀p,H1 p=none->Q (.ref p) (upd H1 p (.tup xs))
def tLst(t:TA):TE:=fun σ H Q=>t σ H fun xs H1=>xs.length<=sizeLine/\ ∀p,H1 p=none->Q (.ref p) (upd H1 p (.lst xs))
theorem pe_tup{x1}(h:PA X es t):PE X (.Tuple es x1 pos) (tTup t):=by
 intro pins s σ H Q I hq
 refine wpAny_Tuple_spliced (thn (h pos pins s σ H _ I hq) fun us s1 ⟨xs,H1,I1,r,z,q⟩=>⟨by rw[<-r.length];exact z,?_⟩)
 have hf:H1 s1.heap.objs.size=none:=I1.hok.fresh (Nat.le_refl _)
 refine⟨.ref s1.heap.objs.size,upd H1 s1.heap.objs.size (.tup xs),I1.laid (t':=s1.toks) (fun b u e=>Heap.get?_push_of_some _ e) (Nat.le_refl _) ?_,rfl,q _ hf⟩
 exact⟨z,us,r,⟨_,Heap.get?_push_size _ rfl,rfl,_,rfl⟩⟩
theorem pe_lst(h:PA X es t):PE X (.List es pos) (tLst t):=by
 intro pins s σ H Q I hq
 refine wpAny_List_spliced (thn (h pos pins s σ H _ I hq) fun us s1 ⟨xs,H1,I1,r,z,q⟩=>⟨by rw[<-r.length];exact z,?_⟩)
 have hf:H1 s1.heap.objs.size=none:=I1.hok.fresh (Nat.le_refl _)
 refine⟨.ref s1.heap.objs.size,upd H1 s1.heap.objs.size (.lst xs),I1.laid (t':=s1.toks) (fun b u e=>Heap.get?_push_of_some _ e) (Nat.le_refl _) ?_,rfl,q _ hf⟩
 exact⟨z,us,0,r,Heap.get?_push_size _ rfl⟩
end
noncomputable abbrev Sp:=List V->Hp->VK->XK->Prop
noncomputable abbrev CXT:=List Env->Hp->Shared->XK->Value->Shared->Prop
structure Env0(P:Program)(w:World)(K:PySem.W.Frag)(mg:Str->Option Value)(base:Heap)(A:Around)(outer:List Env)(s:Shared)(H:Hp):Prop where
 frames:A.frames=some outer
 mod:Mod K mg base
 bs: ∀b o,base.get? b=some o->s.heap.get? b=some o/\H b=none
 bsz:base.objs.size<=s.heap.objs.size
 funs:s.heap.FunFrames base outer
 frf: ∀b∈frs outer,H b=none
 hok:HOk P w H s.heap
 bare:AllBare s.gens
def CE(outer:List Env)(P:Program)(w:World)(H:Hp)(s:Shared)(Q:VK)(u:Value)(s':Shared):Prop:=
 ∃v H',s'.os=s.os/\AllBare s'.gens/\Un (frs outer) [] H H' s.heap s'.heap/\HOk P w H' s'.heap/\RelV v u/\Q v H'
def CR(CX:CXT)(outer:List Env)(P:Program)(w:World)(H:Hp)(s:Shared)(Q:VK)(E:XK)(r:Result)(s':Shared):Prop:=
 match r with
 | .ok (.ret u)=>CE outer P w H s Q u s'
 | .ok _=>False
 | .error e=>CX outer H s E e s'
structure FnOk(P:Program)(w:World)(K:PySem.W.Frag)(mg:Str->Option Value)(base:Heap)(CX:CXT)(k:Nat)(f:Addr)(fd:FuncData)(ps:List Str)(sp:Sp):Prop where
 len: ∀vs H Q E,sp vs H Q E->vs.length=ps.length
 run: ∀(A:Around) (outer:List Env) (s:Shared) (H:Hp) (args:Args) (us:List Value) (vs:List V) (Q:VK) (E:XK),Room k A->Env0 P w K mg base A outer s H->BindsTo s fd args (ps.zip us)->Vals vs us->sp vs H Q E->
   codeAny (model P w) A (.call (.ref f) args) (CR CX outer P w H s Q E) s
theorem Env0.make{P:Program}{w:World}{K:PySem.W.Frag}{mg:Str->Option Value}{base:Heap}{A:Around}{outer:List Env}{s:Shared}{H:Hp}(e:Env0 P w K mg base A outer s H)(C:Addr)(us:List Value)(kw:List (Str×Value)):
   Env0 P w K mg base (A.under (.builtin "type.__call__" ⟨.ref C::us,kw⟩)) outer s H:=⟨by first |exact e.frames | (simpa[Around.under,Code.envs,Code.isFrame,pushEnvs]using e.frames),e.mod,e.bs,e.bsz,e.funs,e.frf,e.hok,e.bare⟩
section
variable {X:Cx}{pins:List (Addr×Obj)}{σ:St}{H:Hp}{s s':Shared}
theorem Inv.env0(I:Inv X pins σ H s):Env0 X.prog X.w X.K X.mg X.base X.A X.stack s H:=
 ⟨I.ok.frames,I.ok.mod,I.bs,Nat.le_trans I.ok.bsz I.sz,I.stack,I.stkFree,I.hok,I.bare⟩
theorem Inv.after{Q:VK}{u:Value}(I:Inv X pins σ H s)(h:CE X.stack X.prog X.w H s Q u s'):EP X pins σ Q u s':=by
 obtain⟨v,H',os,bare,un,hok,r,q⟩:=h
 obtain⟨hh,g,d,t,os'⟩:=s'
 obtain rfl:os'=s.os:=os
 exact⟨v,H',I.call (h':=hh) (g':=g) (d':=d) (t':=t) (ch:=[]) un hok bare (fun b z=>absurd z (by simp)),r,q⟩
end
def tMake(C:Addr)(sp:Sp)(dvs:List V)(E:XK)(t:TA):TE:=fun σ H Q=>t σ H fun vs H1=> ∀x dx,H1 x=none->H1 dx=none->dx≠x->
 sp (.ref x::(vs++dvs)) (upd (upd H1 dx (.own x)) x (.ins C dx [])) (fun v H2=>v= .non/\Q (.ref x) H2) E
def Binds(K:PySem.W.Frag)(fd:FuncData)(ps:List Str)(ds:List Value):Prop:=
 ∀(s:Shared) (us:List Value),K.In s.heap->(us++ds).length=ps.length->BindsTo s fd ⟨us,[]⟩ (ps.zip (us++ds))
theorem Binds.all{K:PySem.W.Frag}{fd:FuncData}{ps:List Str}(h: ∀us:List Value,us.length=ps.length->bindArgs fd ⟨us,[]⟩=pure (ps.zip us)):Binds K fd ps []:=fun s us _ hl=>by
 rw[List.append_nil]at hl |-
 exact .of_eq (h us hl)
def b73(CX:CXT)(X:Cx)(E:XK):Prop:= ∀(pins:List (Addr×Obj)) (σ:St) (H:Hp) (s:Shared) (e:Value) (s':Shared),Inv X pins σ H s->CX X.stack H s E e s'->X.xe e s'
section
variable {X:Cx}{CX:CXT}{k:Nat}{f C:Addr}{fd:FuncData}{ps:List Str}{sp:Sp}{dvs:List V}{ds:List Value}{E:XK}{x m:Str}{p pos apos:Pos}{e o:Expr}{es:List Expr}{ta:TE}{t:TA}
structure Mk(K:PySem.W.Frag)(C f:Addr):Prop where
 makes:PySem.W.makesIn K C=true
 init:PySem.W.findIn K (.ref C) "__init__"=some (some (.ref f))
 fn:PySem.W.isFn K (.ref f)=true
 kp:PySem.W.keepIn K (.ref C)=true
theorem b8d{pins:List (Addr×Obj)}{σ:St}{H:Hp}{s:Shared}{Q:VK}{us:List Value}{vs:List V}(M:Mk X.K C f)(F:FnOk X.prog X.w X.K X.mg X.base CX k f fd ps sp)(hr:Room (k+1) X.A)(hb:Binds X.K fd ps ds)(hd:Vals dvs ds)
   (hx:b73 CX X E) (I:Inv X pins σ H s) (r:Vals vs us)
   (h: ∀x dx,H x=none->H dx=none->dx≠x->sp (.ref x::(vs++dvs)) (upd (upd H dx (.own x)) x (.ins C dx [])) (fun v H2=>v= .non/\Q (.ref x) H2) E):
   wpAny (model X.prog X.w) X.A (call (.ref C) us) (EP X pins σ Q) X.xe s:=by
 have hq:=h (s.heap.objs.size+1) s.heap.objs.size (I.hok.fresh (Nat.le_succ _)) (I.hok.fresh (Nat.le_refl _)) (Nat.ne_of_lt (Nat.lt_succ_self _))
 have I2:=Inv.made (C:=C) I
 have r2:Vals (V.ref (s.heap.objs.size+1)::(vs++dvs)) (Value.ref (s.heap.objs.size+1)::(us++ds)):= .cons rfl (r.append hd)
 have hl:(Value.ref (s.heap.objs.size+1)::us++ds).length=ps.length:=by
   have e:=r2.length
   rw[F.len _ _ _ _ hq]at e
   exact e.symm
 refine wpAny_call (b87 (f:=f) I.kIn M.makes M.init (beq_iff_eq.mp M.fn) (codeAny_mono (F.run _ X.stack _ _ ⟨Value.ref (s.heap.objs.size+1)::us,[]⟩ (Value.ref (s.heap.objs.size+1)::(us++ds)) _ _ E (hr.make C us [])
   (I2.env0.make C us []) (hb _ (Value.ref (s.heap.objs.size+1)::us) I2.kIn hl) r2 hq) fun r s' hq'=> ?_))
 cases r with
 |error e=>exact hx pins σ _ _ e s' I2 hq'
 |ok fl=>
   cases fl with
   |ret u=>
     obtain⟨v,H',I3,rv,ev,q3⟩:=I2.after hq'
     subst ev
     exact⟨rv,⟨V.ref (s.heap.objs.size+1),H',I3,rfl,q3⟩⟩
   |next=>exact False.elim hq'
   |brk=>exact False.elim hq'
   |cont=>exact False.elim hq'
theorem b8q(M:Mk X.K C f)(F:FnOk X.prog X.w X.K X.mg X.base CX k f fd ps sp)(hr:Room (k+1) X.A)(hg:Gl X x)(hm:X.mg x=some (.ref C))(hb:Binds X.K fd ps ds)(hd:Vals dvs ds)(hx:b73 CX X E)
   (hdb:(x==("__debug__":Str))=false:=by decide):PE X (.Call (.Name x p) [] [] pos) (tMake C sp dvs E tNil):=by
 intro pins s σ H Q I h
 refine wpAny_Call_Name_kw (a5l I hg hm ?_ hdb)
 exact PySem.W.callWith_K0 I.kIn M.kp (b8d (us:=[]) M F hr hb hd hx I .nil h)
end
section
variable {X:Cx}{CX:CXT}{k:Nat}{f C:Addr}{fd:FuncData}{ps ks:List Str}{sp:Sp}{E:XK}{x m:Str}{p pos apos kpos:Pos}{e o:Expr}{es:List Expr}{kws:List Keyword}{te ta:TE}{t tk:TA}{nm:Option Str}
variable {g:List Value->List Value->List Value}{gV:List V->List V->List V}
end
structure FnScope(N P:List Str)(sc:Scope):Prop where
 kind:sc.kind= .function
 co:sc.isCoroutine=false
 gen:sc.isGenerator=false
 nd:N.Nodup
 pre:N.take P.length=P
 par: ∀x∈P,sc.names.lookup x=some .local\/sc.names.lookup x=some .cell
 nofree: ∀y∈sc.names,y.2≠ .free
theorem b0m{kindOf:Str->Option NameKind}{x:Str}: ∀{binds:List (Str×Value)}{m:Str->Option Value},(∀v,(x,v)∉binds)->bindL kindOf binds m x=m x
 | [],_,_=>rfl
 | (n,v)::r,m,h=>by
   unfold bindL
   rw[b0m fun w hw=>h w (List.mem_cons_of_mem _ hw)]
   split
   . have:x≠n:=by rintro rfl;exact h v List.mem_cons_self
     simp[this]
   . rfl
theorem b0o{kindOf:Str->Option NameKind}{x:Str}: ∀{binds:List (Str×Value)}{m:Str->Option Value},(∀v,(x,v)∉binds)->bindC kindOf binds m x=m x
 | [],_,_=>rfl
 | (n,v)::r,m,h=>by
   unfold bindC
   rw[b0o fun w hw=>h w (List.mem_cons_of_mem _ hw)]
   split
   . rfl
   . have:x≠n:=by rintro rfl;exact h v List.mem_cons_self
     simp[this]
theorem b0n{kindOf:Str->Option NameKind}{x:Str}{v:Value}: ∀{P:List Str}{vs:List Value}{i:Nat}{m:Str->Option Value},P.Nodup->P[i]? =some x->vs[i]? =some v->kindOf x=some .local->
   bindL kindOf (P.zip vs) m x=some v
 | [],_,_,_,_,h,_,_=>by simp at h
 |_::_,[],_,_,_,_,h,_=>by simp at h
 |p::P,w::vs,0,m,nd,h1,h2,hk=>by
   simp at h1 h2;subst h1;subst h2
   show bindL kindOf ((p,w)::P.zip vs) m p=_
   unfold bindL
   rw[b0m fun v hv=>(List.nodup_cons.mp nd).1 (List.of_mem_zip hv).1,if_pos hk]
   simp
 |p::P,w::vs,i+1,m,nd,h1,h2,hk=>by
   show bindL kindOf ((p,w)::P.zip vs) m x=_
   unfold bindL
   exact b0n (i:=i) (List.nodup_cons.mp nd).2 (by simpa using h1) (by simpa using h2) hk
theorem b0p{kindOf:Str->Option NameKind}{x:Str}{v:Value}: ∀{P:List Str}{vs:List Value}{i:Nat}{m:Str->Option Value},P.Nodup->P[i]? =some x->vs[i]? =some v->kindOf x≠some .local->
   bindC kindOf (P.zip vs) m x=some v
 | [],_,_,_,_,h,_,_=>by simp at h
 |_::_,[],_,_,_,_,h,_=>by simp at h
 |p::P,w::vs,0,m,nd,h1,h2,hk=>by
   simp at h1 h2;subst h1;subst h2
   show bindC kindOf ((p,w)::P.zip vs) m p=_
   unfold bindC
   rw[b0o fun v hv=>(List.nodup_cons.mp nd).1 (List.of_mem_zip hv).1,if_neg hk]
   simp
 |p::P,w::vs,i+1,m,nd,h1,h2,hk=>by
   show bindC kindOf ((p,w)::P.zip vs) m x=_
   unfold bindC
   exact b0p (i:=i) (List.nodup_cons.mp nd).2 (by simpa using h1) (by simpa using h2) hk
noncomputable def start(N:List Str)(vs:List V):St:=vs.map some++List.replicate (N.length- vs.length) none
noncomputable def cxOf(CX:CXT)(P:Program)(w:World)(K:PySem.W.Frag)(mg:Str->Option Value)(base:Heap)(N:List Str)(qual:Str)(scope:Scope)(f:Addr)(cd:Value)(A:Around)(outer:List Env)(s:Shared)(H:Hp)(E:XK):Cx where
 prog:=P
 w:=w
 K:=K
 mg:=mg
 base:=base
 A:=A.deeper (envOfC qual scope s.heap.objs.size f cd)
 N:=N
 s₀:=s
 H₀:=H
 env:=envOfC qual scope s.heap.objs.size f cd
 outer:=outer
 stack:=envOfC qual scope s.heap.objs.size f cd::outer
 ex:=[]
 calm:=true
 fn:=fun _=>true
 pn:=[]
 xe:=fun e s'=>wpAny (model P w) (A.deeper (envOfC qual scope s.heap.objs.size f cd)) (leaving (envOfC qual scope s.heap.objs.size f cd) e) (fun _ s''=>CX outer H s E e s'') (fun e' s''=>CX outer H s E e' s'') s'
theorem b3w{sc:Scope}{n:Nat}{x:Str}(h:sc.names.lookup x=some .cell): ∃c,(cellsFrom n sc.names []).lookup x=some c:=by
 have q:=PySem.W.cellsFrom_some sc.names n [] (.inl h)
 exact Option.isSome_iff_exists.mp q
theorem b69{CX:CXT}{P:Program}{w:World}{K:PySem.W.Frag}{mg:Str->Option Value}{base:Heap}{N ps:List Str}{qual:Str}{scope:Scope}{f:Addr}{cd:Value}{A:Around}{outer:List Env}{s s1:Shared}{H:Hp}{E:XK}{us:List Value}{vs:List V}
   (S:FnScope N ps scope) (hd:A.handled=none) (e0:Env0 P w K mg base A outer s H) (hl:vs.length=ps.length) (r:Vals vs us)
   (x:InCallC s s.heap.objs.size (bindL (envOfC qual scope s.heap.objs.size f cd).kindOf (ps.zip us) fun _=>none) (cellsFrom (s.heap.objs.size+1) scope.names []) (bindC (envOfC qual scope s.heap.objs.size f cd).kindOf (ps.zip us) fun _=>none) s1):
   Inv (cxOf CX P w K mg base N qual scope f cd A outer s H E) [] (start N vs) H s1:=by
 have hpl:ps.length<=N.length:=by have:=congrArg List.length S.pre;rw[List.length_take]at this;omega
 obtain⟨h1,tk,rfl,hk⟩:=x.done
 have noA: ∀b:Addr,b∉(cxOf CX P w K mg base N qual scope f cd A outer s H E).ex:=fun b z=>absurd (show b∈([]:List Addr)from z) (by simp)
 refine⟨⟨e0.mod,S.kind,rfl,rfl,Nat.le_refl _,fun y z c h1 h2=> ?_,fun y hy=> ?_,fun y c _ h=> ?_,fun _=>hd,Around.frames_deeper e0.frames,.inr ⟨rfl,rfl⟩,fun b z=>absurd z (noA b),e0.bs,e0.bsz,fun b _ _=>noA b,fun b z=>absurd z (noA b),e0.funs,e0.frf⟩,
   rfl,e0.bare,Un.kept hk,⟨_,x.toInCall.ns,fun i y v h1 h2 h3=> ?_⟩,fun y c h=>⟨_,x.cell y c h⟩,e0.hok.fresh (Nat.le_refl _),fun y c h=> ?_,fun p hp=>absurd (show p∈([]:List (Addr×Obj))from hp) (by simp),e0.hok.kept hk,?_⟩
 . exact name_of_addr x.apart (PySem.mem_of_lookup h1) (PySem.mem_of_lookup h2)
 . have hy:scope.names.lookup y=some .cell\/scope.names.lookup y=some .free:=hy
   rcases hy with hy |hy
   . exact b3w hy
   . exact absurd rfl (S.nofree _ (PySem.mem_of_lookup hy))
 . exact Nat.le_of_lt (x.above y c (PySem.mem_of_lookup h))
 . have hi:i<vs.length:=by
     unfold start at h2
     by_cases hi:i<vs.length
     . exact hi
     . rw[List.getElem?_append_right (by simpa using hi)]at h2
       rw[List.getElem?_replicate]at h2
       split at h2<;>cases h2
   have ha:vs[i]? =some v:=by
     unfold start at h2
     rw[List.getElem?_append_left (by simpa using hi),List.getElem?_map]at h2
     cases e:vs[i]? with
     |none=>rw[e]at h2;cases h2
     |some a=>rw[e]at h2;cases h2;rfl
   obtain⟨u,hu,rv⟩:=r.get ha
   have hp:ps[i]? =some y:=by
     rw[<-S.pre,List.getElem?_take_of_lt (by omega)];exact h1
   have ndP:ps.Nodup:=by rw[<-S.pre];exact S.nd.sublist (List.take_sublist _ _)
   refine⟨u,rv,?_⟩
   rcases S.par y (List.mem_of_getElem? hp)with k |k
   . exact .inl ⟨k,b0n ndP hp hu k⟩
   . obtain⟨c,e⟩:=b3w (n:=s.heap.objs.size+1) k
     refine .inr ⟨.inl k,c,e,?_⟩
     have q:=x.cell y c e
     rw[b0p ndP hp hu (by show scope.names.lookup y≠_;rw[k];decide)]at q
     exact q
 . exact e0.hok.fresh (Nat.le_of_lt (x.above y c (PySem.mem_of_lookup h)))
 . unfold start
   show _=N.length
   rw[List.length_append,List.length_map,List.length_replicate]
   omega
theorem fn_of{CX:CXT}{P:Program}{w:World}{K:PySem.W.Frag}{mg:Str->Option Value}{base:Heap}{k:Nat}{f:Addr}{name qual:Str}{params:Arguments}{body:List Stmt}{scope:Scope}{dV kV doc pm cdv ct oc:Value}{an od:Option Addr}
   {osl:Array (Option Value)}{N ps:List Str}{sp:Sp} (lk:K.lookup f=some ⟨oc,od,.func (PySem.W.fnOf name qual params body scope dV kV doc pm an cdv ct),osl⟩) (hcd:PySem.W.codeIn K cdv qual=true) (S:FnScope N ps scope)
   (len: ∀vs H Q E,sp vs H Q E->vs.length=ps.length)
   (hbody: ∀(A:Around) (outer:List Env) (s:Shared) (H:Hp) (vs:List V) (Q:VK) (E:XK),Room k (A.deeper (envOfC qual scope s.heap.objs.size f cdv))->sp vs H Q E->
     ∃t,PSs (cxOf CX P w K mg base N qual scope f cdv A outer s H E) body t/\t {nx:=fun _ H'=>Q .non H',rt:=Q} (start N vs) H):
   FnOk P w K mg base CX (k+1) f (PySem.W.fnOf name qual params body scope dV kV doc pm an cdv ct) ps sp:=by
 refine⟨len,fun A outer s H args us vs Q E hr e0 hb r hsp=> ?_⟩
 have hl:=len _ _ _ _ hsp
 have KX:K.In s.heap:=e0.mod.kin.keeps fun b o e=>(e0.bs b o e).1
 have lim:s.heap.NoLimit:=e0.mod.nolimit.keeps fun b o e=>(e0.bs b o e).1
 have hkind: ∀y∈ps.zip us,scope.names.lookup y.1=some .local\/(scope.names.lookup y.1=some .cell/\((cellsFrom (s.heap.objs.size+1) scope.names []).lookup y.1).isSome=true):=fun ⟨n,v⟩ hy=>by
   rcases S.par n (List.of_mem_zip hy).1 with q |q
   . exact .inl q
   . exact .inr ⟨q,PySem.W.cellsFrom_some _ _ _ (.inl q)⟩
 refine codeAny_call_function hr.depth (KX _ _ lk) rfl S.co S.gen rfl (PySem.W.codeRec_of KX hcd) (hb _ _ _ _ ?_)
 refine wpAny_newFunctionEnv_cells S.kind hkind fun env he s1 x=> ?_
 subst he
 refine⟨lim.keeps x.toInCall.keep,codeAny_func ?_⟩
 obtain⟨t,ht,hq⟩:=hbody A outer s H vs Q E (hr.deeper _) hsp
 have I:Inv (cxOf CX P w K mg base N qual scope f cdv A outer s H E) [] (start N vs) H s1:=b69 S hr.hd e0 hl r x
 refine wpAny_mono (ht [] s1 (start N vs) H _ I hq) (fun fl s' hs=> ?_) fun e s' hs=>hs
 have fin: ∀{σ':St}{H':Hp}{v:V}{u:Value},Inv (cxOf CX P w K mg base N qual scope f cdv A outer s H E) [] σ' H' s'->RelV v u->Q v H'->CE outer P w H s Q u s':=
   fun {σ' H' v u} J rv q=>⟨v,H',J.os,J.bare,J.base,J.hok,rv,q⟩
 cases fl with
 |ret u=>
   obtain⟨v,σ',H',J,rv,q⟩:=hs
   exact fin J rv q
 |next=>
   obtain⟨σ',H',J,q⟩:=hs
   exact fin (v:=V.non) (u:=Value.none) J rfl q
 |brk=>
   obtain⟨_,_,_,q⟩:=hs
   exact False.elim q
 |cont=>
   obtain⟨_,_,_,q⟩:=hs
   exact False.elim q
section
variable {X:Cx}{x:Str}{p pos:Pos}{e:Expr}{es:List Expr}{t:TA}{id T:String}{r:List V->Hp->VK->Prop}
def tCB(r:List V->Hp->VK->Prop)(t:TA):TE:=fun σ H Q=>t σ H fun vs H1=>r vs H1 Q
theorem a8s(hc:CallR X (.builtin id) r)(hg:Gl X x)(hm:X.mg x=none)(hv:bootBuiltins x=some (.builtin id))(ha:PA X (e::es) t)(hn:x≠ "__name__":=by decide)(hdb:(x==("__debug__":Str))=false:=by decide)
   (he:starEach (e::es) X.env=(false,eval e X.env)::starEach es X.env:=by rfl) (hpl:(backTo pos (starEach es X.env)).any (·.1)=false:=by rfl):PE X (.Call (.Name x p) (e::es) [] pos) (tCB r t):=by
 intro pins s σ H Q I h
 refine wpAny_Call_Name_kw (b0e I hg hm hv ?_ hn hdb)
 exact PyProof.Rows.callWith_builtin1 (thn (ha pos pins s σ H _ I h) fun us s1 ⟨vs,H1,I1,r1,q1⟩=>hc pins s1 σ H1 vs us Q I1 r1 q1) he hpl
theorem a6t(hc:CallR X (.type T) r)(hg:Gl X x)(hm:X.mg x=none)(hv:bootBuiltins x=some (.type T))(ha:PA X (e::es) t)(hn:x≠ "__name__":=by decide)(hdb:(x==("__debug__":Str))=false:=by decide)
   (he:starEach (e::es) X.env=(false,eval e X.env)::starEach es X.env:=by rfl) (hpl:(backTo pos (starEach es X.env)).any (·.1)=false:=by rfl):PE X (.Call (.Name x p) (e::es) [] pos) (tCB r t):=by
 intro pins s σ H Q I h
 refine wpAny_Call_Name_kw (b0e I hg hm hv ?_ hn hdb)
 exact PyProof.Rows.callWith_type1 (thn (ha pos pins s σ H _ I h) fun us s1 ⟨vs,H1,I1,r1,q1⟩=>hc pins s1 σ H1 vs us Q I1 r1 q1) he hpl
end
end L2
namespace HT
open PySem PyProof.Rows
section
open PySem.SeqAt
open PySem.AutoSeq1 (wpAny_loadPart')
open PySem.MeetsSeq PySem.MeetsSeq2 PySem.MeetsSeq3
end
section
variable {prog:Program}{w:World}{A:Around}{E:Value->Shared->Prop}{s:Shared}
noncomputable def sIx(n d:Nat):Option Int->Nat
 |none=>d
 |some v=>if v<0 then(v+(n:Int)).toNat else min v.toNat n
theorem sIx_none(n d:Nat):sIx n d none=d:=rfl
theorem sIx_nat(n d k:Nat):sIx n d (some (k:Int))=min k n:=by
 show(if(k:Int)<0 then((k:Int)+(n:Int)).toNat else min (k:Int).toNat n)=min k n
 rw[if_neg (by omega),Int.toNat_natCast]
end
end HT
namespace L2
open PySem PySem.Spec PyProof.Rows
noncomputable abbrev TO:=St->Hp->(Option Int->Hp->Prop)->Prop
def PO(X:Cx)(e:Option Expr)(t:TO):Prop:=
 ∀(pins:List (Addr×Obj)) (s:Shared) (σ:St) (H:Hp) (Q:Option Int->Hp->Prop),Inv X pins σ H s->t σ H Q->
   wpAny (model X.prog X.w) X.A (evalPart e X.env) (fun u s'=> ∃o H',Inv X pins σ H' s'/\IsPart u o/\Q o H') X.xe s
noncomputable def tNoPart:TO:=fun _ H Q=>Q none H
noncomputable def tPart(t:TE):TO:=fun σ H Q=>t σ H fun x H1=> ∃i,x= .int i/\Q (some i) H1
section
variable {X:Cx}{e:Expr}{te:TE}{lo hi:Option Expr}{tl th:TO}{pos p2:Pos}
theorem po_none:PO X none tNoPart:=by
 intro pins s σ H Q I h
 rw[evalPart_none]
 exact wpAny_pure ⟨none,H,I,.none,h⟩
theorem po_some(h:PE X e te):PO X (some e) (tPart te):=by
 intro pins s σ H Q I hw
 rw[evalPart_some]
 refine thn (h pins s σ H _ I hw) fun u s1 zz9=> ?_
 obtain⟨x,H1,I1,r1,q1⟩:=zz9
 obtain⟨i,rfl,q⟩:=q1
 obtain⟨t,rfl⟩:=r1
 exact⟨some i,H1,I1,.int i t,q⟩
def SlR(X:Cx)(r:V->Option Int->Option Int->Hp->VK->Prop):Prop:=
 ∀(pins:List (Addr×Obj)) (s:Shared) (σ:St) (H:Hp) (x:V) (v vl vu:Value) (lo hi:Option Int) (sl:Addr) (Q:VK),Inv X pins σ H s->RelV x v->s.heap.IsSliceOf sl vl vu .none->IsPart vl lo->IsPart vu hi->r x lo hi H Q->
   ∃T id,typeLookup (.type T) "__getitem__"=pure (some (.builtin id))/\s.TypeIs v T/\wpAny (model X.prog X.w) X.A (getItem v (.ref sl)) (EP X pins σ Q) X.xe s
theorem SlR.or{r r':V->Option Int->Option Int->Hp->VK->Prop}(h:SlR X r)(h':SlR X r'):SlR X (fun x lo hi H Q=>r x lo hi H Q\/r' x lo hi H Q):=by
 intro pins s σ H x v vl vu lo hi sl Q I rx hs pl pu q
 rcases q with q |q
 . exact h pins s σ H x v vl vu lo hi sl Q I rx hs pl pu q
 . exact h' pins s σ H x v vl vu lo hi sl Q I rx hs pl pu q
def tSl(r:V->Option Int->Option Int->Hp->VK->Prop)(te:TE)(tl th:TO):TE:=fun σ H Q=>te σ H fun x H1=>tl σ H1 fun l H2=>th σ H2 fun u H3=>r x l u H3 Q
theorem b8o{r:V->Option Int->Option Int->Hp->VK->Prop}(hr:SlR X r)(he:PE X e te)(hl:PO X lo tl)(hu:PO X hi th):PE X (.Subscript e (.Slice lo hi none p2) pos) (tSl r te tl th):=by
 intro pins s σ H Q I h
 refine Subscript_ (thn (he pins s σ H _ I h) fun v s1 zz9=> ?_)
 obtain⟨x,H1,I1,r1,q1⟩:=zz9
 refine wpAny_Slice (thn (hl pins s1 σ H1 _ I1 q1) fun vl s2 ⟨l,H2,I2,pl,q2⟩=>thn (hu pins s2 σ H2 _ I2 q2) fun vu s3 zz9=> ?_)
 obtain⟨u,H3,I3,pu,q3⟩:=zz9
 rw[evalPart_none]
 refine wpAny_pure ?_
 have I4:Inv X pins σ H3 {s3 with heap:=s3.heap.push {cls:= .type "slice",data:= .fields #[vl,vu,.none]}}:=I3.kept (t':=s3.toks) fun b ob q=>Heap.get?_push_of_some _ q
 obtain⟨T,id,hT,ht,hg⟩:=hr pins {s3 with heap:=s3.heap.push {cls:= .type "slice",data:= .fields #[vl,vu,.none]}} σ H3 x v vl vu l u s3.heap.objs.size Q I4 r1 (Heap.IsSliceOf.new ..) pl pu q3
 show wpAny (model X.prog X.w) X.A (subscriptTail e (.Slice lo hi none p2) v (.ref s3.heap.objs.size)) (EP X pins σ Q) X.xe {s3 with heap:=s3.heap.push {cls:= .type "slice",data:= .fields #[vl,vu,.none]}}
 exact tail_any (ops:=[.ref s3.heap.objs.size,v]) ht hT hg (by with_unfolding_all rfl)
noncomputable def cutV(xs:List V)(lo hi:Option Int):List V:=(xs.drop (HT.sIx xs.length 0 lo)).take (HT.sIx xs.length xs.length hi- HT.sIx xs.length 0 lo)
theorem b14(xs:List V)(lo hi:Option Int):(cutV xs lo hi).length<=xs.length:=by
 unfold cutV
 rw[List.length_take,List.length_drop]
 omega
end
noncomputable def ixN(n:Nat)(i:Int):Option Nat:=if 0<=i then(if i<n then some i.toNat else none)else if -(n:Int)<=i then some (i+n).toNat else none
noncomputable def atI{α:Type}(xs:List α)(i:Int):Option α:=(ixN xs.length i).bind fun j=>xs[j]?
theorem b66{n:Nat}{i:Int}{j:Nat}(h:ixN n i=some j):seqIndex? i n=some j/\j<n/\ -(n:Int)<=i/\i<n:=by
 unfold ixN at h
 by_cases h0:0<=i
 . rw[if_pos h0]at h
   by_cases h1:i<n
   . rw[if_pos h1]at h
     have e:i.toNat=j:=Option.some.inj h
     exact⟨by rw[seqIndex_of h0 h1,e],by omega,by omega,h1⟩
   . rw[if_neg h1]at h;cases h
 . rw[if_neg h0]at h
   by_cases h1: -(n:Int)<=i
   . rw[if_pos h1]at h
     have e:(i+n).toNat=j:=Option.some.inj h
     exact⟨by rw[seqIndex_neg (by omega) h1,e],by omega,h1,by omega⟩
   . rw[if_neg h1]at h;cases h
theorem b17{α:Type}{xs:List α}{i:Int}{v:α}(h:atI xs i=some v): ∃j,seqIndex? i xs.length=some j/\xs[j]? =some v/\j<xs.length/\ -(xs.length:Int)<=i/\i<xs.length:=by
 unfold atI at h
 cases e:ixN xs.length i with
 |none=>rw[e]at h;cases h
 |some j=>
   rw[e]at h
   obtain⟨h1,h2,h3,h4⟩:=b66 e
   exact⟨j,h1,h,h2,h3,h4⟩
theorem a29{α:Type}{xs:List α}{j:Nat}{v:α}(h:xs[j]? =some v):atI xs (j:Int)=some v:=by
 have hj:j<xs.length:=(List.getElem?_eq_some_iff.mp h).1
 have e:ixN xs.length (j:Int)=some j:=by
   unfold ixN
   rw[if_pos (by omega),if_pos (by omega)];simp
 unfold atI;rw[e];exact h
def b72(b:Expr):Prop:= ∀o i,subscripted b false o i=operate [o,i] (getItem o i)
def IxR(X:Cx)(r:R2):Prop:=
 ∀(value slice:Expr) (pins:List (Addr×Obj)) (s:Shared) (σ:St) (H:Hp) (x y:V) (v u:Value) (Q:VK),Inv X pins σ H s->RelV x v->RelV y u->r x y H Q->
   subscripted slice false v u=operate [v,u] (getItem v u)->wpAny (model X.prog X.w) X.A (subscriptTail value slice v u) (EP X pins σ Q) X.xe s
def MtR(X:Cx)(id:String)(r:V->List V->Hp->VK->Prop):Prop:=
 ∀(pins:List (Addr×Obj)) (s:Shared) (σ:St) (H:Hp) (x:V) (xs:List V) (v:Value) (us:List Value) (Q:VK),Inv X pins σ H s->RelV x v->Vals xs us->r x xs H Q->
   wpAny (model X.prog X.w) X.A (call (.builtin id) (v::us)) (EP X pins σ Q) X.xe s
section
variable {X:Cx}{a b:Expr}{ta tb:TE}{pos:Pos}
theorem IxR.or{r r':R2}(h:IxR X r)(h':IxR X r'):IxR X (fun x y H Q=>r x y H Q\/r' x y H Q):=by
 intro value slice pins s σ H x y v u Q I rx ry q hs
 rcases q with q |q
 . exact h value slice pins s σ H x y v u Q I rx ry q hs
 . exact h' value slice pins s σ H x y v u Q I rx ry q hs
theorem pe_ix{r:R2}(hr:IxR X r)(ha:PE X a ta)(hb:PE X b tb)(hs:b72 b):PE X (.Subscript a b pos) (tOp r ta tb):=by
 intro pins s σ H Q I h
 exact Subscript_ (binT ha hb I h fun v u s2 x y H2 I2 rx ry q=>hr a b pins s2 σ H2 x y v u Q I2 rx ry q (hs _ _))
def rIxL(K:PySem.W.Frag):R2:=fun x y H Q=> ∃p xs i v,x= .ref p/\y= .int i/\SqL K H p xs/\atI xs i=some v/\Q v H
def rIxT(K:PySem.W.Frag):R2:=fun x y H Q=> ∃p xs i v,x= .ref p/\y= .int i/\SqT K H p xs/\atI xs i=some v/\Q v H
def rIxS:R2:=fun x y H Q=> ∃z i c,x= .str z/\y= .int i/\z.length<=sizeLine/\atI z.cps.toList i=some c/\Q (.str ⟨#[c]⟩) H
theorem ix_list:IxR X (rIxL X.K):=by
 intro value slice pins s σ H x y v u Q I rx ry h hs
 obtain⟨p,xs,i,z,rfl,rfl,hq,he,q⟩:=h
 cases rx
 obtain⟨t,rfl⟩:=ry
 obtain⟨its,r,pl,hz⟩:=I.list hq
 obtain⟨j,h1,h2,h3,h4,h5⟩:=b17 he
 obtain⟨w,ew,rw'⟩:=r.get h2
 have hl:=r.length
 have hn:=a79
 have fin:EP X pins σ Q w s:=⟨z,H,I,rw',q⟩
 by_cases h0:0<=i
 . have hj:i.toNat=j:=by
     rw[seqIndex_of h0 h5]at h1
     exact Option.some.inj h1
   exact item_listR pl.isList h0 (by omega) (by rw[hj];simpa using ew) fin hs
 . have hj:(i+(its.toArray.size:Int)).toNat=j:=by
     rw[seqIndex_neg (by omega) h4]at h1
     rw[List.size_toArray,<-hl]
     exact Option.some.inj h1
   exact subscriptTail_builtinR (x:=w) pl.isList.typeIs slot_list_getitem.lookup
     (wpAny_getItem_list_neg (Q:=fun r s'=>r=w/\EP X pins σ Q r s') pl.isList (by omega) (by rw[List.size_toArray]<;>omega) (by omega) (by rw[hj];simpa using ew) ⟨rfl,fin⟩) hs
theorem ix_tup:IxR X (rIxT X.K):=by
 intro value slice pins s σ H x y v u Q I rx ry h hs
 obtain⟨p,xs,i,z,rfl,rfl,hq,he,q⟩:=h
 cases rx
 obtain⟨t,rfl⟩:=ry
 obtain⟨its,r,pl,hz⟩:=I.tuple hq
 obtain⟨j,h1,h2,h3,h4,h5⟩:=b17 he
 obtain⟨w,ew,rw'⟩:=r.get h2
 have hl:=r.length
 have hn:=a79
 have fin:EP X pins σ Q w s:=⟨z,H,I,rw',q⟩
 exact subscriptTail_builtinR (x:=w) pl.typeIs slot_tuple_getitem.lookup
   (getItem_tuple (j:=j) (Q:=fun r s'=>r=w/\EP X pins σ Q r s') pl (by omega) (by omega) (by rw[List.size_toArray,<-hl];exact h1) (by simpa using ew) ⟨rfl,fin⟩) hs
theorem ix_str:IxR X rIxS:=by
 intro value slice pins s σ H x y v u Q I rx ry h hs
 obtain⟨z,i,c,rfl,rfl,hz,he,q⟩:=h
 obtain⟨t,rfl⟩:=rx
 obtain⟨t',rfl⟩:=ry
 obtain⟨j,h1,h2,h3,h4,h5⟩:=b17 he
 have hl:z.cps.toList.length=z.length:=by simp[Str.length]
 rw[hl]at h1 h4 h5
 have hn:=a79
 exact tail_any (typeIs_str s z t) slot_str_getitem.lookup (getItem_str (c:=c) (by
   have e1:decide (i< -(2^63:Int))=false:=decide_eq_false (by omega)
   have e2:decide (i>=2^63)=false:=decide_eq_false (by omega)
   rw[e1,e2,Bool.or_false]) (by rw[h1];simpa using h2) ⟨.str ⟨#[c]⟩,H,I.tok _,⟨_,rfl⟩,q⟩) hs
def rIx(K:PySem.W.Frag):R2:=fun x y H Q=>rIxL K x y H Q\/rIxT K x y H Q\/rIxS x y H Q
theorem a0i:IxR X (rIx X.K):=ix_list.or (ix_tup.or ix_str)
theorem b4p(its:List Value)(n j:Nat)(u:Value):Obj.mapSeq (·.setIfInBounds j u) {cls:= .type "list",data:= .seq its.toArray n}={cls:= .type "list",data:= .seq (its.set j u).toArray n}:=by
 simp[Obj.mapSeq]
theorem Inv.lst{pins:List (Addr×Obj)}{σ:St}{H:Hp}{s:Shared}{p:Addr}{xs:List V}(I:Inv X pins σ H s)(h:H p=some (.lst xs)):
   ∃(its:List Value) (n:Nat),Vals xs its/\s.heap.get? p=some {cls:= .type "list",data:= .seq its.toArray n}/\xs.length<=sizeLine:=by
 obtain⟨z,its,n,r,e⟩:=I.hok p _ h
 exact⟨its,n,r,e,z⟩
theorem Inv.lstUpd{pins:List (Addr×Obj)}{σ:St}{H:Hp}{s:Shared}{p:Addr}{xs ys:List V}{its its':List Value}{n n':Nat}{f:Obj->Obj}(I:Inv X pins σ H s)(h:H p=some (.lst xs))
   (ho:s.heap.get? p=some {cls:= .type "list",data:= .seq its.toArray n}) (hf:f {cls:= .type "list",data:= .seq its.toArray n}={cls:= .type "list",data:= .seq its'.toArray n'}) (r:Vals ys its') (hz:ys.length<=sizeLine) (t:Nat):
   Inv X pins σ (upd H p (.lst ys)) {s with heap:=s.heap.update p f,toks:=t}:=by
 have e:(s.heap.update p f).get? p=some {cls:= .type "list",data:= .seq its'.toArray n'}:=by
   rw[Heap.get?_update_self f ho (by rw[hf]<;>rfl),hf]
 refine I.write (x:=p) (e:=p) (by rw[h];trivial) (.inl rfl) (fun b u hb q=>(Heap.get?_update_other _ _ (Ne.symm hb)).trans q) ⟨_,e⟩ ?_
 exact⟨hz,its',n',r,e⟩
def rSetL:V->V->V->Hp->(Hp->Prop)->Prop:=fun o i v H Q=> ∃p xs k j,o= .ref p/\i= .int k/\H p=some (.lst xs)/\ixN xs.length k=some j/\Q (upd H p (.lst (xs.set j v)))
theorem b79:PSet X rSetL:=by
 intro pins s σ H o i v ov iv u Q I ro ri rv h
 obtain⟨p,xs,k,j,rfl,rfl,hp,hj,q⟩:=h
 cases ro
 obtain⟨t,rfl⟩:=ri
 obtain⟨its,n,r,ho,hz⟩:=I.lst hp
 obtain⟨h1,h2,h3,h4⟩:=b66 hj
 have hl:=r.length
 have hn:=a79
 have I':Inv X pins σ (upd H p (.lst (xs.set j v))) {s with heap:=s.heap.update p (Obj.mapSeq (·.setIfInBounds j u))}:=
   I.lstUpd hp ho (b4p its n j u) (r.set rv j) (by rw[List.length_set];exact hz) s.toks
 by_cases h0:0<=k
 . have hk:k.toNat=j:=by
     rw[seqIndex_of h0 h4]at h1
     exact Option.some.inj h1
   exact PySem.W.ki_setAt ho h0 (by omega) (by rw[List.size_toArray,<-hl];exact h4) (by rw[hk];exact⟨_,I',q⟩)
 . have hk:(k+(its.toArray.size:Int)).toNat=j:=by
     rw[seqIndex_neg (by omega) h3]at h1
     rw[List.size_toArray,<-hl]
     exact Option.some.inj h1
   exact PySem.W.ki_setBack ho (by omega) (by rw[List.size_toArray,<-hl];exact h3) (by omega) (by rw[hk];exact⟨_,I',q⟩)
theorem a9p(lo hi:Option Int)(n:Nat):(sliceBounds lo hi none n).1=((HT.sIx n 0 lo:Nat):Int)/\(sliceBounds lo hi none n).2.1=((HT.sIx n n hi:Nat):Int)/\(sliceBounds lo hi none n).2.2=1:=by
 refine⟨?_,?_,rfl⟩
 . cases lo with
   |none=>simp[sliceBounds,HT.sIx]
   |some i=>
     simp only[sliceBounds,HT.sIx,Option.getD_none,show(1:Int)>0 by decide,if_true]
     by_cases h:i<0
     . simp only[h,if_true]<;>omega
     . simp only[h,if_false]<;>omega
 . cases hi with
   |none=>simp[sliceBounds,HT.sIx]
   |some i=>
     simp only[sliceBounds,HT.sIx,Option.getD_none,show(1:Int)>0 by decide,if_true]
     by_cases h:i<0
     . simp only[h,if_true]<;>omega
     . simp only[h,if_false]<;>omega
theorem a8k(its:List Value)(lo hi:Option Int):slicePick its.toArray lo hi none=((its.drop (HT.sIx its.length 0 lo)).take (HT.sIx its.length its.length hi- HT.sIx its.length 0 lo)).toArray:=by
 obtain⟨h1,h2,h3⟩:=a9p lo hi its.toArray.size
 unfold slicePick
 rw[h1,h2,h3]
 simp only[sliceRange_one,pick_run,List.size_toArray]<;>rfl
def rSlL(K:PySem.W.Frag):V->Option Int->Option Int->Hp->VK->Prop:=fun x lo hi H Q=> ∃a xs,x= .ref a/\SqL K H a xs/\ ∀p,H p=none->Q (.ref p) (upd H p (.lst (cutV xs lo hi)))
theorem sl_list:SlR X (rSlL X.K):=by
 intro pins s σ H x v vl vu lo hi sl Q I rx hs pl pu h
 obtain⟨a,xs,rfl,hx,q⟩:=h
 cases rx
 obtain⟨its,r,ht,hz⟩:=I.list hx
 have hlen:=r.length
 refine⟨"list",_,slot_list_getitem.lookup,ht.isList.typeIs,?_⟩
 refine wpAny_getItem_list_slice ht.isList hs pl pu .none (by simp) ?_ (by rw[List.size_toArray]<;>omega)
 rw[a8k,<-hlen]
 refine⟨.ref s.heap.objs.size,_,I.laid (t':=s.toks) (o:= .lst (cutV xs lo hi)) (fun b ob q=>Heap.get?_push_of_some _ q) (Nat.le_refl _) ?_,rfl,q _ (I.hok.fresh (Nat.le_refl _))⟩
 exact⟨Nat.le_trans (b14 xs lo hi) hz,_,0,(r.drop (HT.sIx xs.length 0 lo)).take (HT.sIx xs.length xs.length hi- HT.sIx xs.length 0 lo),Heap.get?_push_size _ rfl⟩
noncomputable def a4b:V->Bool
 | .non=>true
 | .bl _=>true
 | .int _=>true
 | .str _=>true
 |_=>false
noncomputable def eqV:V->V->Bool
 | .non,.non=>true
 | .bl a,.bl b=>a==b
 | .bl a,.int b=>(if a then 1 else 0)==b
 | .int a,.bl b=>a==(if b then 1 else 0)
 | .int a,.int b=>a==b
 | .str a,.str b=>a==b
 |_,_=>false
theorem eqAt_V{A:Around}{s:Shared}{y x:V}{u v:Value}(ry:RelV y u)(rx:RelV x v)(fy:a4b y=true)(fx:a4b x=true):SeqAt.EqAt A s u v (eqV y x):=by
 cases y with
 |non=>
   cases ry
   cases x with
   |non=>cases rx;exact SeqAt.EqAt.same _
   |bl b=>cases rx;exact SeqAt.EqAt.none_bool b
   |int b=>obtain⟨t,rfl⟩:=rx;exact SeqAt.EqAt.none_int b t
   |str b=>obtain⟨t,rfl⟩:=rx;exact SeqAt.EqAt.none_str b t
   |_=>exact absurd (show false=true from fx) Bool.false_ne_true
 |bl a=>
   cases ry
   cases x with
   |non=>cases rx;exact SeqAt.EqAt.bool_none a
   |bl b=>cases rx;exact SeqAt.EqAt.bool_bool a b
   |int b=>obtain⟨t,rfl⟩:=rx;exact SeqAt.EqAt.bool_int a b t
   |str b=>obtain⟨t,rfl⟩:=rx;exact SeqAt.EqAt.bool_str a b t
   |_=>exact absurd (show false=true from fx) Bool.false_ne_true
 |int a=>
   obtain⟨t',rfl⟩:=ry
   cases x with
   |non=>cases rx;exact SeqAt.EqAt.int_none a t'
   |bl b=>cases rx;exact SeqAt.EqAt.int_bool a t' b
   |int b=>obtain⟨t,rfl⟩:=rx;exact SeqAt.EqAt.int_int a t' b t
   |str b=>obtain⟨t,rfl⟩:=rx;exact SeqAt.EqAt.int_str a t' b t
   |_=>exact absurd (show false=true from fx) Bool.false_ne_true
 |str a=>
   obtain⟨t',rfl⟩:=ry
   cases x with
   |non=>cases rx;exact SeqAt.EqAt.str_none a t'
   |bl b=>cases rx;exact SeqAt.EqAt.str_bool a t' b
   |int b=>obtain⟨t,rfl⟩:=rx;exact SeqAt.EqAt.str_int a t' b t
   |str b=>obtain⟨t,rfl⟩:=rx;exact SeqAt.EqAt.str_str a t' b t
   |_=>exact absurd (show false=true from fx) Bool.false_ne_true
 |_=>exact absurd (show false=true from fy) Bool.false_ne_true
noncomputable def eqU(x:V)(u:Value):Bool:=match u with
 | .none=>eqV .non x
 | .bool b=>eqV (.bl b) x
 | .int i _=>eqV (.int i) x
 | .str z _=>eqV (.str z) x
 |_=>false
theorem b7l{x y:V}{u:Value}(r:RelV y u)(f:a4b y=true):eqU x u=eqV y x:=by
 cases y with
 |non=>cases r;rfl
 |bl b=>cases r;rfl
 |int i=>obtain⟨t,rfl⟩:=r;rfl
 |str z=>obtain⟨t,rfl⟩:=r;rfl
 |_=>exact absurd (show false=true from f) Bool.false_ne_true
theorem a7k{x:V}: ∀{xs:List V}{us:List Value},Vals xs us->xs.all a4b=true->us.any (eqU x)=xs.any fun y=>eqV y x
 |_,_,.nil,_=>rfl
 |y::xs,u::us,.cons r t,f=>by
   rw[List.all_cons,Bool.and_eq_true]at f
   rw[List.any_cons,List.any_cons,b7l r f.1,a7k t f.2]
theorem a3x{A:Around}{s:Shared}{x:V}{v:Value}(rx:RelV x v)(fx:a4b x=true): ∀{xs:List V}{us:List Value},Vals xs us->xs.all a4b=true-> ∀u∈us,SeqAt.EqAt A s u v (eqU x u)
 |_,_,.nil,_=>fun u hu=>by cases hu
 |y::xs,u::us,.cons r t,f=>fun u' hu=>by
   rw[List.all_cons,Bool.and_eq_true]at f
   rcases List.mem_cons.mp hu with rfl |hu
   . rw[b7l r f.1];exact eqAt_V r rx f.1 fx
   . exact a3x rx fx t f.2 u' hu
noncomputable def inV(x:V)(xs:List V):Bool:=xs.any fun y=>eqV y x
def rIn(K:PySem.W.Frag)(neg:Bool):R2:=fun x y H Q=> ∃p xs,y= .ref p/\(SqL K H p xs\/SqT K H p xs)/\a4b x=true/\xs.all a4b=true/\Q (.bl (if neg then !inV x xs else inV x xs)) H
theorem op_in_seq:OpR X (compareOp .In) (rIn X.K false):=by
 intro pins s σ H x y v u Q I rx ry h
 obtain⟨p,xs,rfl,hq,fx,fs,q⟩:=h
 cases ry
 rcases hq with hq |hq
 . obtain⟨its,r,pl,hz⟩:=I.list hq
   refine SeqAt.in_listAt (eqU x) pl.isList (fun w hw=>a3x rx fx r fs w (by simpa using hw)) ⟨.bl _,H,I,rfl,?_⟩
   rw[show its.toArray.any (eqU x)=its.any (eqU x)by simp,a7k r fs]
   exact q
 . obtain⟨its,r,pl,hz⟩:=I.tuple hq
   refine SeqAt.in_tupleAt (eqU x) pl (fun w hw=>a3x rx fx r fs w (by simpa using hw)) ⟨.bl _,H,I,rfl,?_⟩
   rw[show its.toArray.any (eqU x)=its.any (eqU x)by simp,a7k r fs]
   exact q
theorem op_notIn_seq:OpR X (compareOp .NotIn) (rIn X.K true):=by
 intro pins s σ H x y v u Q I rx ry h
 obtain⟨p,xs,rfl,hq,fx,fs,q⟩:=h
 cases ry
 rcases hq with hq |hq
 . obtain⟨its,r,pl,hz⟩:=I.list hq
   refine SeqAt.notIn_listAt (eqU x) pl.isList (fun w hw=>a3x rx fx r fs w (by simpa using hw)) ⟨.bl _,H,I,rfl,?_⟩
   rw[show its.toArray.any (eqU x)=its.any (eqU x)by simp,a7k r fs]
   exact q
 . obtain⟨its,r,pl,hz⟩:=I.tuple hq
   refine SeqAt.notIn_tupleAt (eqU x) pl (fun w hw=>a3x rx fx r fs w (by simpa using hw)) ⟨.bl _,H,I,rfl,?_⟩
   rw[show its.toArray.any (eqU x)=its.any (eqU x)by simp,a7k r fs]
   exact q
theorem CallR.or{f:Value}{r r':List V->Hp->VK->Prop}(h:CallR X f r)(h':CallR X f r'):CallR X f (fun xs H Q=>r xs H Q\/r' xs H Q):=by
 intro pins s σ H xs us Q I rs q
 rcases q with q |q
 . exact h pins s σ H xs us Q I rs q
 . exact h' pins s σ H xs us Q I rs q
theorem b0k:CallR X (.type "list") (fun xs H Q=> ∃p ys,xs=[.ref p]/\(SqL X.K H p ys\/SqT X.K H p ys)/\ ∀l,H l=none->Q (.ref l) (upd H l (.lst ys))):=by
 intro pins s σ H xs us Q I r h
 obtain⟨p,ys,rfl,hq,q⟩:=h
 obtain⟨u,rfl,rx⟩:=b0s r
 cases rx
 have fin: ∀(its:List Value),Vals ys its->ys.length<=sizeLine-> ∀(h':Heap) (c':Nat),(∀b o',s.heap.get? b=some o'->h'.get? b=some o')->
     h'.get? s.heap.objs.size=some {cls:= .type "list",dict:=none,data:= .seq its.toArray c',slots:= #[]}->EP X pins σ Q (.ref s.heap.objs.size) {s with heap:=h'}:=fun its r' hz h' c' kp e=>
   ⟨.ref s.heap.objs.size,_,I.laid (t':=s.toks) kp (Nat.le_refl _) (show ObjOk X.prog X.w _ h' _ (.lst ys)from⟨hz,its,c',r',e⟩),rfl,q _ (I.hok.fresh (Nat.le_refl _))⟩
 rcases hq with hq |hq
 . obtain⟨its,r',pl,hz⟩:=I.list hq
   have hlen:=r'.length
   obtain⟨o,ho,hc,n,hd⟩:=pl.isList
   exact call_list_seq p (.inl rfl) ho hc hd (fun h' c' kp e=>fin its r' hz h' c' kp e) (by simp only[List.size_toArray]<;>omega)
 . obtain⟨its,r',pl,hz⟩:=I.tuple hq
   have hlen:=r'.length
   obtain⟨o,ho,hc,n,hd⟩:=pl
   exact call_list_seq p (.inr rfl) ho hc hd (fun h' c' kp e=>fin its r' hz h' c' kp e) (by simp only[List.size_toArray]<;>omega)
def tyV(K:PySem.W.Frag)(T:String)(x:V)(H:Hp):Prop:=match x with
 | .str _=>T="str"
 | .int _=>T="int"
 | .ref p=>(T="list"/\ ∃xs,SqL K H p xs)\/(T="tuple"/\ ∃o,K.lookup p=some o/\o.cls= .type "tuple"/\o.dict=none)\/
     (T="dict"/\((∃kvs,H p=some (.dK kvs))\/ ∃kvs,H p=some (.dT kvs)))\/(T="set"/\ ∃S n,H p=some (.set S n))
 |_=>False
theorem tyV_is{pins:List (Addr×Obj)}{σ:St}{H:Hp}{s:Shared}{T:String}{x:V}{v:Value}(I:Inv X pins σ H s)(r:RelV x v)(ty:tyV X.K T x H):
   s.TypeIs v T/\ ∀a,v= .ref a-> ∃ob,s.heap.get? a=some ob/\ob.dict=none:=by
 cases x with
 |str z=>
   obtain⟨t,rfl⟩:=r
   cases(show T="str" from ty)
   exact⟨typeIs_str s z t,fun _ e=>nomatch e⟩
 |int i=>
   obtain⟨t,rfl⟩:=r
   cases(show T="int" from ty)
   exact⟨typeIs_int s i t,fun _ e=>nomatch e⟩
 |ref p=>
   cases r
   rcases ty with⟨rfl,xs,hq⟩ | ⟨rfl,o,hk,hc,hd⟩ | ⟨rfl,hk⟩ | ⟨rfl,S,n,hk⟩
   . obtain⟨its,_,pl,_⟩:=I.list hq
     refine⟨pl.isList.typeIs,fun a e=> ?_⟩
     cases e
     obtain⟨o,n,e,c,hd,_⟩:=pl
     exact⟨o,e,hd⟩
   . refine⟨⟨o,I.kIn p o hk,hc⟩,fun a e=> ?_⟩
     cases e
     exact⟨o,I.kIn _ o hk,hd⟩
   . have z: ∃o,s.heap.get? p=some o/\o.ExactDict:=by
       rcases hk with⟨kvs,hk⟩ | ⟨kvs,hk⟩
       . obtain⟨_,_,_,_,o,_,_,e,ex,_⟩:=I.hok p _ hk
         exact⟨o,e,ex⟩
       . obtain⟨_,_,_,_,o,_,_,e,ex,_⟩:=I.hok p _ hk
         exact⟨o,e,ex⟩
     obtain⟨o,e,ex⟩:=z
     refine⟨⟨o,e,ex.1⟩,fun a e2=> ?_⟩
     cases e2
     exact⟨o,e,ex.2.1⟩
   . obtain⟨o,_,_,_,e,ex,_⟩:=I.hok p _ hk
     refine⟨⟨o,e,ex.1⟩,fun a e2=> ?_⟩
     cases e2
     exact⟨o,e,ex.2.1⟩
 |_=>exact False.elim ty
def tBM0(K:PySem.W.Frag)(T:String)(r:V->List V->Hp->VK->Prop)(to:TE):TE:=fun σ H Q=>to σ H fun x H1=>tyV K T x H1/\r x [] H1 Q
def tBM(K:PySem.W.Frag)(T:String)(r:V->List V->Hp->VK->Prop)(to:TE)(t:TA):TE:=fun σ H Q=>to σ H fun x H1=>tyV K T x H1/\t σ H1 fun xs H2=>r x xs H2 Q
variable {o e:Expr}{es:List Expr}{to:TE}{t:TA}{name:Str}{apos cpos:Pos}{T id:String}{r:V->List V->Hp->VK->Prop}
theorem a9v(pa:PlainAttrs T)(slot:Slot T name id)(hty:typeOf (.builtin id)=pure (.type "method_descriptor"))(hm:MtR X id r)(ho:PE X o to)
   (hbase:attributeBase o name X.env (eval o X.env)=eval o X.env:=by rfl) (hline:(apos.endLine==cpos.line)=true:=by rfl):PE X (.Call (.Attribute o name apos) [] [] cpos) (tBM0 X.K T r to):=by
 intro pins s σ H Q I h
 refine wpAny_Call_method0_late hbase hline (thn (ho pins s σ H _ I h) fun v s1 zz9=> ?_)
 obtain⟨x,H1,I1,r1,ty,q1⟩:=zz9
 obtain⟨h1,h2⟩:=tyV_is I1 r1 ty
 exact⟨T,id,pa,slot,hty,h1,h2,Calls.callWith_builtin rfl (PySem.evalArgs_none (hm pins s1 σ H1 x [] v [] Q I1 r1 .nil q1))⟩
theorem pe_bm(pa:PlainAttrs T)(slot:Slot T name id)(hty:typeOf (.builtin id)=pure (.type "method_descriptor"))(hm:MtR X id r)(ho:PE X o to)(ha:PA X (e::es) t)
   (hbase:attributeBase o name X.env (eval o X.env)=eval o X.env:=by rfl)
   (hfew:((backTo cpos (starEach (e::es) X.env)).all (fun x=> !x.1)&&(backToKw cpos (keywordEach [] X.env)).all (fun x=>x.1.isSome)
     &&decide ((e::es).length+([]:List Keyword).length+(if([]:List Keyword).isEmpty then 0 else 1)<30))=true:=by rfl)
   (hline:(apos.endLine==cpos.line)=true:=by rfl) (hs:starEach (e::es) X.env=(false,eval e X.env)::starEach es X.env:=by rfl) (hplain:(backTo cpos (starEach es X.env)).any (·.1)=false:=by rfl):
   PE X (.Call (.Attribute o name apos) (e::es) [] cpos) (tBM X.K T r to t):=by
 intro pins s σ H Q I h
 refine wpAny_Call_method_late hbase hfew hline rfl (thn (ho pins s σ H _ I h) fun v s1 zz9=> ?_)
 obtain⟨x,H1,I1,r1,ty,q1⟩:=zz9
 obtain⟨h1,h2⟩:=tyV_is I1 r1 ty
 refine⟨T,id,pa,slot,hty,h1,h2,?_⟩
 have hA:=ha cpos pins s1 σ H1 _ I1 q1
 rw[hs]at hA |-
 refine Calls.callWith_builtin (by show(false||(backTo cpos (starEach es X.env)).any (·.1))=false;rw[hplain]<;>rfl) (Calls.evalArgs_plain ?_)
 exact thn hA fun us s2 ⟨vs,H2,I2,r2,q2⟩=>hm pins s2 σ H2 x vs v us Q I2 r1 r2 q2
/- xs.append(e), list.index on a module's tuple .. are MtR facts of 06m -/
end
def MtM(X:Cx)(id:String)(r:V->List V->Hp->VK->Prop):Prop:=
 ∀(pins:List (Addr×Obj)) (s:Shared) (σ:St) (H:Hp) (x:V) (xs:List V) (v:Value) (us:List Value) (Q:VK),Inv X pins σ H s->RelV x v->Vals xs us->r x xs H Q->
   wpAny (model X.prog X.w) X.A (call (.builtin id) (v::us)) (EP X pins σ Q) X.xe s
theorem Vals.one: ∀{x:V}{us:List Value},Vals [x] us-> ∃u,us=[u]/\RelV x u
 |_,_,.cons r .nil=>⟨_,rfl,r⟩
theorem Vals.zero: ∀{us:List Value},Vals [] us->us=[]
 |_,.nil=>rfl
theorem Vals.eraseIdx: ∀{xs:List V}{us:List Value} (i:Nat),Vals xs us->Vals (xs.eraseIdx i) (us.eraseIdx i)
 |_,_,_,.nil=> .nil
 |_,_,0,.cons _ t=>t
 |_,_,i+1,.cons r t=> .cons r (Vals.eraseIdx i t)
theorem Vals.reverse{xs:List V}{us:List Value}(h:Vals xs us):Vals xs.reverse us.reverse:=by
 induction h with
 |nil=>exact .nil
 |cons r t ih=>rw[List.reverse_cons,List.reverse_cons];exact Vals.append ih (.cons r .nil)
theorem b0d{α:Type}: ∀(l:List α) (i:Nat),(l.eraseIdx i).length<=l.length
 | [],_=>Nat.le_refl _
 |_::_,0=>Nat.le_succ _
 |_::r,i+1=>Nat.succ_le_succ (b0d r i)
section
variable {X:Cx}{pins:List (Addr×Obj)}{σ:St}{H:Hp}{s:Shared}{l b:Addr}{xs ys zs:List V}
theorem Inv.lset{its its':List Value}{n:Nat}{f:Array Value->Array Value}{t':Nat}(I:Inv X pins σ H s)(hH:H l=some (.lst xs))
   (e:s.heap.get? l=some {cls:= .type "list",data:= .seq its.toArray n}) (hf:f its.toArray=its'.toArray) (hv:Vals ys its') (hz:ys.length<=sizeLine):
   Inv X pins σ (upd H l (.lst ys)) {s with heap:=s.heap.update l (Obj.mapSeq f),toks:=t'}:=by
 have q:=PySem.IsL.update e f
 rw[hf]at q
 refine I.write (x:=l) (e:=l) (by rw[hH];exact trivial) (.inl rfl) (fun b' u hb hu=>(Heap.get?_update_other s.heap (Obj.mapSeq f) (Ne.symm hb)).trans hu) ⟨_,q⟩ ?_
 exact⟨hz,its',_,hv,q⟩
theorem Inv.fresh(I:Inv X pins σ H s):H s.heap.objs.size=none:=I.hok.fresh (Nat.le_refl _)
theorem Inv.lstM(I:Inv X pins σ H s)(hH:H l=some (.lst xs)):xs.length<=sizeLine/\ ∃(its:List Value) (n:Nat),Vals xs its/\xs.length=its.length/\s.heap.get? l=some {cls:= .type "list",data:= .seq its.toArray n}:=by
 obtain⟨z,its,n,r,e⟩:=I.hok l _ hH
 exact⟨z,its,n,r,r.length,e⟩
end
section
variable {X:Cx}
def rAppend:V->List V->Hp->VK->Prop:=fun x vs H Q=> ∃l xs y,x= .ref l/\vs=[y]/\H l=some (.lst xs)/\xs.length<sizeLine/\Q .non (upd H l (.lst (xs++[y])))
theorem a03:MtM X "list.append" rAppend:=by
 intro pins s σ H x vs v us Q I rx rv h
 obtain⟨l,xs,y,rfl,rfl,hH,hz,q⟩:=h
 cases rx
 obtain⟨u,rfl,ru⟩:=rv.one
 obtain⟨z,its,n,r,hl,e⟩:=I.lstM hH
 refine call_meets F.slot_list_append ⟨_,e,rfl⟩ F.entry_list_append (F.args_list_append_2 _ _) (PySem.list_append l its.toArray n u (by rw[List.size_toArray];omega)) ⟨e,?_⟩
 refine⟨.non,_,I.lset (its':=its++[u]) hH e (by simp) (r.append (.cons ru .nil)) ?_,rfl,q⟩
 rw[List.length_append,List.length_singleton]
 omega
def rPopAt:V->List V->Hp->VK->Prop:=fun x vs H Q=> ∃l xs i k y,x= .ref l/\vs=[.int i]/\H l=some (.lst xs)/\ -(2^63)<=i/\i<2^63/\seqIndex? i xs.length=some k/\xs[k]? =some y/\Q y (upd H l (.lst (xs.eraseIdx k)))
theorem b84:MtM X "list.pop" rPopAt:=by
 intro pins s σ H x vs v us Q I rx rv h
 obtain⟨l,xs,i,k,y,rfl,rfl,hH,h1,h2,hk,hy,q⟩:=h
 cases rx
 obtain⟨u,rfl,ru⟩:=rv.one
 obtain⟨t,rfl⟩:=ru
 obtain⟨z,its,n,r,hl,e⟩:=I.lstM hH
 obtain⟨w,hw,rw'⟩:=r.get hy
 refine call_meets F.slot_list_pop ⟨_,e,rfl⟩ F.entry_list_pop (F.args_list_pop_2 _ _)
   (MeetsSeq.list_pop_at l its.toArray n i t k w (fitsIndex_both h1 h2) (by rw[List.size_toArray,<-hl];exact hk) (by rw[<-Array.getElem?_toList];exact hw) (by rw[List.size_toArray];omega)) ⟨e,?_⟩
 refine⟨y,_,I.lset (its':=its.eraseIdx k) hH e ?_ (r.eraseIdx k) ?_,rw',q⟩
 . show its.toArray.eraseIdxIfInBounds k=(its.eraseIdx k).toArray
   rw[List.eraseIdxIfInBounds_toArray]
 . have:=b0d xs k
   omega
def rReverse:V->List V->Hp->VK->Prop:=fun x vs H Q=> ∃l xs,x= .ref l/\vs=[]/\H l=some (.lst xs)/\Q .non (upd H l (.lst xs.reverse))
theorem b4o:MtM X "list.reverse" rReverse:=by
 intro pins s σ H x vs v us Q I rx rv h
 obtain⟨l,xs,rfl,rfl,hH,q⟩:=h
 cases rx
 have hus:=rv.zero
 subst hus
 obtain⟨z,its,n,r,hl,e⟩:=I.lstM hH
 refine call_meets F.slot_list_reverse ⟨_,e,rfl⟩ F.entry_list_reverse (F.args_list_reverse_1 _) (AutoSeq1.list_reverse_list_0 l its.toArray n (by rw[List.size_toArray];omega)) ⟨e,?_⟩
 refine⟨.non,_,I.lset (its':=its.reverse) hH e (by simp) r.reverse ?_,rfl,q⟩
 rw[List.length_reverse]
 omega
end
section
variable {prog:Program}{w:World}{A:Around}{E:Value->Shared->Prop}{s:Shared}
set_option maxRecDepth 100000 in
end
section
variable {X:Cx}
end
end L2
namespace Att
open PySem PySem.W PySem.Calls PyProof.Rows
theorem a7b{P:Params}{h:Heap}: ∀(ns:List Int) (vs:List Value),WellAll P h vs (ns.map WData.int)->IntsAre vs ns:=by
 intro ns
 induction ns with
 |nil=>
   intro vs w
   rw[List.map_nil]at w
   cases w
   exact .nil
 |cons n ns ih=>
   intro vs w
   rw[List.map_cons]at w
   cases w with
   |cons a b=>
     cases a
     exact .cons _ _ (ih _ b)
theorem script_of{l:OpenLaw}{n:Nat}(hn:l.most=some n){P:Params}{h:Heap}{args:List WData}{vals:List Value}
   (hpre:l.row.toRowW.claim.pre args=true) (hwl:WellAll P h vals args):
   ∃a vs ns,vals=[Value.ref a]/\args=[WData.list (ns.map WData.int)]/\h.get? a=some {cls:= .type "list",data:= .seq vs.toArray}/\IntsAre vs ns/\ns.length<=n:=by
 have hsh:WShape.hasAll [] args [.list .int]=true:=(pre_splitW hpre).1
 have hc:l.pre.holds [] {args:=args}=true:=(pre_splitW hpre).2
 obtain⟨d,r,rfl,h1,h2⟩:=hasAllW_cons hsh
 obtain rfl:=hasAllW_nil h2
 obtain⟨xs,rfl,h3⟩:=hasW_list h1
 obtain⟨ns,rfl⟩:=items_int h3
 have hlen:ns.length<=n:=by
   unfold OpenLaw.pre at hc
   have h4:(WTm.not (.lt (.lit (.int (n:Int))) (.len (.arg 0)))).holds [] {args:=[.list (ns.map .int)]}=true:=by
     have h4:=(holds_andW hc).1
     rw[hn]at h4
     exact h4
   have h5:=condW_of h4 (w_not (w_lt w_lit (w_len_list (w_arg rfl))))
   rw[List.length_map]at h5
   refine Nat.le_of_not_lt fun q=> ?_
   have q':(n:Int)< ((ns.length:Nat):Int):=by omega
   first
     | (rw[decide_eq_true q']at h5;exact absurd h5 (by decide))
     | (simp at h5;omega)
 cases hwl with
 |cons w1 w2=>
   cases w2
   cases w1 with
   |list ho hall=>exact⟨_,_,ns,rfl,rfl,ho,a7b ns _ hall,hlen⟩
theorem post_true(l:OpenLaw)(args:List WData):l.row.toRowW.claim.post args (.bool true) args=true:=
 postW_of (r:=l.row.toRowW) (X:=(true==true))
   (show WShape.has [] (.bool true) .bool=true by first |rfl |decide |simp[WShape.has,WShape.arms,WShape.armsAll])
   (show(WTm.eq .res (.lit (.bool true))).value [] {args:=args,res:=some (.bool true),after:=args}=some (.bool (true==true))from w_eq_bool (w_res rfl) w_lit) rfl
section
variable {prog:Program}{w:World}{A:Around}{E:Value->Shared->Prop}{s:Shared}{K:Frag}
end
end Att
namespace L2
open PySem PySem.Spec PyProof.Rows
theorem a9i: ∀{vs:List Value}{ns:List Int},IntsAre vs ns->Vals (ns.map V.int) vs
 |_,_,.nil=> .nil
 |_,_,.cons n t h=> .cons ⟨t,rfl⟩ (a9i h)
def Only(H:Hp):Prop:= ∀b,H b=none\/ ∃o xs,H b=some (.frz o (.lst xs))
end L2
/- THE LAST THEOREM (shape; LID, My.* are yours):
  My.Adr:a structure of the addresses that your layer names (classes,functions);My.Txt K t:a structure (Prop) of the equations over K;
  My.txt_mk:{K}{implicit addresses ..} (e1:nsIn K mainGlobals "law"=some (some (.ref f))) (e2:K.lookup f=some ⟨oc,od,.func (fnOf "law" "law" params body scope dV kV doc pm an cdv ct),sl⟩) (e3:codeIn K cdv "law"=true) .. : ∃t,My.Txt K t
set_option maxRecDepth 100000 in
(the tactic k_is has no namespace:write k_is)-/
namespace L2
open PySem PySem.Spec PyProof.Rows
noncomputable def a5o(s:Stmt)(j:Nat):Stmt:=match s with
 | .ClassDef _ _ _ body _ _ _ _ _ _ _=>body.getD j (.Pass ⟨0,0,0,0⟩)
 |_=> .Pass ⟨0,0,0,0⟩
noncomputable def a05(s:Stmt):Arguments:=match s with
 | .FunctionDef _ a _ _ _ _ _ _ _ _=>a
 |_=>{posonlyargs:=[],args:=[],vararg:=none,kwonlyargs:=[],kw_defaults:=[],kwarg:=none,defaults:=[]}
noncomputable def a0y(s:Stmt):List Stmt:=match s with
 | .FunctionDef _ _ b _ _ _ _ _ _ _=>b
 |_=>[]
noncomputable def a0d(s:Stmt):Scope:=match s with
 | .FunctionDef _ _ _ _ _ _ sc _ _ _=>sc
 |_=>{kind:= .function,names:=[],isGenerator:=false,isCoroutine:=false}
noncomputable abbrev CX0:CXT:=fun _ _ _ _ _ _=>False
abbrev E0:XK:=fun _ _ _=>False
structure Fun(K:PySem.W.Frag)(x qual:Str)(st:Stmt)(f:Addr)(fd:FuncData):Prop where
 ex: ∃(oc:Value) (od:Option Addr) (kV doc pm:Value) (an:Option Addr) (cdv ct:Value) (osl:Array (Option Value)),
   fd=PySem.W.fnOf x qual (a05 st) (a0y st) (a0d st) .none kV doc pm an cdv ct/\K.lookup f=some ⟨oc,od,.func fd,osl⟩/\PySem.W.codeIn K cdv qual=true
 kp:PySem.W.keepIn K (.ref f)=true
section
variable {P:Program}{w:World}{K:PySem.W.Frag}{mg:Str->Option Value}{base:Heap}
theorem Fun.binds{x qual:Str}{st:Stmt}{f:Addr}{fd:FuncData}{ps:List Str}(F:Fun K x qual st f fd)
   (h: ∀(kV doc pm:Value) (an:Option Addr) (cdv ct:Value) (us:List Value),us.length=ps.length->bindArgs (PySem.W.fnOf x qual (a05 st) (a0y st) (a0d st) .none kV doc pm an cdv ct) ⟨us,[]⟩=pure (ps.zip us)):Binds K fd ps []:=by
 obtain⟨oc,od,kV,doc,pm,an,cdv,ct,osl,rfl,lk,hcd⟩:=F.ex
 exact .all (h kV doc pm an cdv ct)
theorem a5x{x qual:Str}{st:Stmt}{f:Addr}{oc:Value}{od an:Option Addr}{osl:Array (Option Value)}{kV doc pm cdv ct:Value}(l:K.lookup f=some ⟨oc,od,.func (PySem.W.fnOf x qual (a05 st) (a0y st) (a0d st) .none kV doc pm an cdv ct),osl⟩)
   (c:PySem.W.codeIn K cdv qual=true) (k:PySem.W.keepIn K (.ref f)=true):Fun K x qual st f (PySem.W.fnOf x qual (a05 st) (a0y st) (a0d st) .none kV doc pm an cdv ct):=⟨⟨oc,od,kV,doc,pm,an,cdv,ct,osl,rfl,l,c⟩,k⟩
end
theorem hu_of{A:Around}{k:Nat}(hr:Room k A):A.units+1<cLine:=Nat.lt_of_le_of_lt (Nat.add_le_add_left (by decide:1<=64) _) hr.units
theorem a4i{n:Nat}(h:n<=1000):n<sizeLine:=Nat.lt_of_le_of_lt h (by decide)
section
variable {X:Cx}
theorem pv(i:Nat){x:Str}{pos:Pos}(hN:X.N[i]? =some x:=by rfl)(hv:Vis X.env.scope x:=by first |exact Or.inl rfl |exact Or.inr (Or.inl rfl) |exact Or.inr (Or.inr rfl))(hd:(x==("__debug__":Str))=false:=by decide)
   (hcd:(x==("__classdict__":Str))=false:=by decide):PE X (.Name x pos) (tVar i):=pe_var hN hv hd hcd
end
theorem ite2{c A B:Prop}[Decidable c](h1:c->A)(h2: ¬ c->B):if c then A else B:=by
 by_cases h:c
 . rw[if_pos h]
   exact h1 h
 . rw[if_neg h]
   exact h2 h
def Same(H H':Hp):Prop:= ∀b o,H b=some o->H' b=some o
theorem Same.refl(H:Hp):Same H H:=fun _ _ h=>h
theorem Same.trans{H H1 H2:Hp}(a:Same H H1)(b:Same H1 H2):Same H H2:=fun c o h=>b c o (a c o h)
theorem Same.free{H H':Hp}(e:Same H H'){l:Addr}(h:H' l=Option.none):H l=Option.none:=by
 cases q:H l with
 |none=>rfl
 |some o=>
   rw[e l o q]at h
   cases h
theorem Same.seq{K:PySem.W.Frag}{H H':Hp}{a:Addr}{xs:List V}(e:Same H H')(h:SqL K H a xs):SqL K H' a xs:=by
 rcases h with(h | ⟨o,h⟩) |h
 . exact .inl (.inl (e _ _ h))
 . exact .inl (.inr ⟨o,e _ _ h⟩)
 . exact .inr h
section
variable {κ:Type}[DecidableEq κ]
noncomputable def valV(kvs:List (κ×V))(k:κ):Option V:=(kvs.find? fun kv=>decide (kv.1=k)).map (·.2)
noncomputable def putK(kvs:List (κ×V))(k:κ)(v:V):List (κ×V):=
 if(kvs.any fun kv=>decide (kv.1=k))=true then kvs.map (fun kv=>if kv.1=k then(kv.1,v)else kv)else kvs++[(k,v)]
noncomputable def dropK(kvs:List (κ×V))(k:κ):List (κ×V):=kvs.filter fun kv=>decide (kv.1≠k)
theorem a58{p:κ×V}{r:List (κ×V)}{k:κ}(e:p.1=k):valV (p::r) k=some p.2:=by simp[valV,List.find?_cons,e]
theorem a59{p:κ×V}{r:List (κ×V)}{k:κ}(e: ¬ p.1=k):valV (p::r) k=valV r k:=by simp[valV,List.find?_cons,e]
theorem a8f(k:κ): ∀kvs:List (κ×V),(kvs.any fun kv=>decide (kv.1=k))=(valV kvs k).isSome
 | []=>rfl
 |p::r=>by
   rw[List.any_cons]
   by_cases e:p.1=k
   . simp only[a58 e,decide_eq_true e,Bool.true_or,Option.isSome_some]
   . rw[a59 e,decide_eq_false e,Bool.false_or];exact a8f k r
theorem a4a(kvs:List (κ×V))(k:κ)(v:V):(putK kvs k v).length<=kvs.length+1:=by
 unfold putK
 split
 . rw[List.length_map];omega
 . rw[List.length_append,List.length_cons,List.length_nil];omega
theorem RelO.isSome_eq{o:Option V}{u:Option Value}(r:RelO o u):o.isSome=u.isSome:=by
 cases o with
 |none=>cases u with
   |none=>rfl
   |some _=>exact(show False from r).elim
 |some _=>cases u with
   |none=>exact(show False from r).elim
   |some _=>rfl
theorem RelO.getD{o:Option V}{u:Option Value}{d:V}{d':Value}(r:RelO o u)(rd:RelV d d'):RelV (o.getD d) (u.getD d'):=by
 cases o with
 |none=>cases u with
   |none=>exact rd
   |some _=>exact(show False from r).elim
 |some _=>cases u with
   |none=>exact(show False from r).elim
   |some _=>exact r
theorem KV.val{kvs:List (κ×V)}{vs:List (κ×Value)}(r:KV kvs vs)(k:κ):RelO (valV kvs k) (valueAt vs k):=by
 unfold KV at r
 induction r with
 |nil=>exact True.intro
 | @cons p q ps qs h t ih=>
   obtain⟨h1,h2⟩:=h
   by_cases e:p.1=k
   . have e':q.1=k:=h1.symm.trans e
     have b:valueAt (q::qs) k=some q.2:=by simp[valueAt,List.find?_cons,e']
     rw[a58 e,b];exact h2
   . have e': ¬ q.1=k:=fun z=>e (h1.trans z)
     have b:valueAt (q::qs) k=valueAt qs k:=by simp[valueAt,List.find?_cons,e']
     rw[a59 e,b];exact ih
theorem KV.any{kvs:List (κ×V)}{vs:List (κ×Value)}(r:KV kvs vs)(k:κ):(kvs.any fun kv=>decide (kv.1=k))=vs.any fun kv=>decide (kv.1=k):=by
 unfold KV at r
 induction r with
 |nil=>rfl
 |cons h t ih=>rw[List.any_cons,List.any_cons,ih,h.1]
theorem KV.repl{kvs:List (κ×V)}{vs:List (κ×Value)}(r:KV kvs vs)(k:κ){y:V}{u:Value}(ry:RelV y u):
   KV (kvs.map fun kv=>if kv.1=k then(kv.1,y)else kv) (vs.map fun kv=>if kv.1=k then(kv.1,u)else kv):=by
 unfold KV at r |-
 induction r with
 |nil=>exact .nil
 | @cons p q ps qs h t ih=>
   rw[List.map_cons,List.map_cons]
   refine .cons ?_ ih
   obtain⟨h1,h2⟩:=h
   by_cases e:p.1=k
   . rw[if_pos e,if_pos (h1.symm.trans e)];exact⟨h1,ry⟩
   . rw[if_neg e,if_neg (fun z=>e (h1.trans z))];exact⟨h1,h2⟩
theorem KV.put{kvs:List (κ×V)}{vs:List (κ×Value)}(r:KV kvs vs)(k:κ){y:V}{u:Value}(ry:RelV y u):KV (putK kvs k y) (stored vs k u):=by
 unfold putK stored
 rw[r.any k]
 by_cases e:(vs.any fun kv=>decide (kv.1=k))=true
 . rw[if_pos e,if_pos e];exact r.repl k ry
 . rw[if_neg e,if_neg e];exact Paired.snoc r ⟨rfl,ry⟩
theorem KV.drop{kvs:List (κ×V)}{vs:List (κ×Value)}(r:KV kvs vs)(k:κ):KV (dropK kvs k) (without vs k):=by
 unfold KV at r |-
 unfold dropK without
 induction r with
 |nil=>exact .nil
 | @cons p q ps qs h t ih=>
   obtain⟨h1,h2⟩:=h
   rw[List.filter_cons,List.filter_cons]
   by_cases e:p.1=k
   . have a: ¬ decide (p.1≠k)=true:=by simp[e]
     have b: ¬ decide (q.1≠k)=true:=by simp[h1.symm.trans e]
     rw[if_neg a,if_neg b];exact ih
   . have e': ¬ q.1=k:=fun z=>e (h1.trans z)
     have a:decide (p.1≠k)=true:=by simp[e]
     have b:decide (q.1≠k)=true:=by simp[e']
     rw[if_pos a,if_pos b];exact .cons ⟨h1,h2⟩ ih
theorem KV.length{kvs:List (κ×V)}{vs:List (κ×Value)}(r:KV kvs vs):kvs.length=vs.length:=Paired.length r
theorem b9h(kvs:List (κ×V))(k:κ):(dropK kvs k).length<=kvs.length:=List.length_filter_le _ _
end
theorem a84{P:Program}{w:World}{k:Key}{u:Value}(r:RelV (kV k) u):(a00 P w).is k u=true:=by
 cases k with
 |inl i=>obtain⟨t,e⟩:=(show ∃t,u=Value.int i t from r);subst e;exact b1j P w i t
 |inr x=>obtain⟨t,e⟩:=(show ∃t,u=Value.str x t from r);subst e;exact b1i P w x t
theorem b0g{P:Program}{w:World}: ∀{ks:List Key}{us:List Value},Vals (ks.map kV) us->ItemsAre (a00 P w) ks us
 | [],_,r=>by rw[List.map_nil]at r;cases r;exact .nil
 |k::ks,_,r=>by
   rw[List.map_cons]at r
   cases r with
   |cons h t=>exact .cons (a84 h) (b0g t)
abbrev KT(H:Hp):List (List Key×V)->List (List Key×Addr×Value)->Prop:=Paired fun p q=>p.1=q.1/\H q.2.1=some (.tup (p.1.map kV))/\RelV p.2 q.2.2
theorem KT.val{H:Hp}{kvs:List (List Key×V)}{xs:List (List Key×Addr×Value)}(r:KT H kvs xs)(k:List Key):RelO (valV kvs k) ((atKey xs k).map (·.2)):=by
 induction r with
 |nil=>exact True.intro
 | @cons p q ps qs h t ih=>
   obtain⟨h1,_,h2⟩:=h
   by_cases e:p.1=k
   . have e':q.1=k:=h1.symm.trans e
     have b:atKey (q::qs) k=some q.2:=by simp[atKey,List.find?_cons,e']
     rw[a58 e,b];exact h2
   . have e': ¬ q.1=k:=fun z=>e (h1.trans z)
     have b:atKey (q::qs) k=atKey qs k:=by simp[atKey,List.find?_cons,e']
     rw[a59 e,b];exact ih
theorem KT.repl{H:Hp}{kvs:List (List Key×V)}{xs:List (List Key×Addr×Value)}(r:KT H kvs xs)(k:List Key){y:V}{u:Value}(ry:RelV y u):
   KT H (kvs.map fun kv=>if kv.1=k then(kv.1,y)else kv) (xs.map (putAt k u)):=by
 induction r with
 |nil=>exact .nil
 | @cons p q ps qs h t ih=>
   rw[List.map_cons,List.map_cons]
   refine .cons ?_ ih
   obtain⟨h1,h2,h3⟩:=h
   unfold putAt
   by_cases e:p.1=k
   . rw[if_pos e,if_pos (h1.symm.trans e)];exact⟨h1,h2,ry⟩
   . rw[if_neg e,if_neg (fun z=>e (h1.trans z))];exact⟨h1,h2,h3⟩
theorem KT.put{H:Hp}{kvs:List (List Key×V)}{xs:List (List Key×Addr×Value)}(r:KT H kvs xs)(k:List Key){b:Addr}{y:V}{u:Value}(hb:H b=some (.tup (k.map kV)))(ry:RelV y u):
   KT H (putK kvs k y) (storedH xs k b u):=by
 have e:(kvs.any fun kv=>decide (kv.1=k))=(atKey xs k).isSome:=by
   rw[a8f,(r.val k).isSome_eq,Option.isSome_map]
 unfold putK storedH
 rw[e]
 by_cases q:(atKey xs k).isSome=true
 . rw[if_pos q,if_pos q];exact r.repl k ry
 . rw[if_neg q,if_neg q];exact Paired.snoc r ⟨rfl,hb,ry⟩
theorem KT.keeps{H H':Hp}{kvs:List (List Key×V)}{xs:List (List Key×Addr×Value)}(r:KT H kvs xs)(ht: ∀b ys,H b=some (.tup ys)->H' b=some (.tup ys)):KT H' kvs xs:=
 Paired.mapP r fun _ _ z=>⟨z.1,ht _ _ z.2.1,z.2.2⟩
section
variable {P:Program}{w:World}{H:Hp}{h:Heap}{a:Addr}
theorem rd_of{u:HO}(ok:HOk P w H h)(e:Rd H a u):ObjOk P w H h a u:=e.ok ok
theorem a55{kvs:List (Key×V)}(ok:HOk P w H h)(e:Rd H a (.dK kvs)):kvs.length<=sizeLine/\(a==sysModules)=false/\ ∃vs,KV kvs vs/\h.DictOf (a00 P w) a vs:=
 show ObjOk P w H h a (.dK kvs)from rd_of ok e
theorem b7o{kvs:List (Key×V)}(ok:HOk P w H h)(e:H a=some (.dK kvs)):kvs.length<=sizeLine/\(a==sysModules)=false/\ ∃vs,KV kvs vs/\h.DictOf (a00 P w) a vs:=a55 ok (.inl e)
theorem a8a{ks:List Key}(ok:HOk P w H h)(e:H a=some (.tup (ks.map kV))):(tupleKind (a00 P w)).is h ks a:=by
 obtain⟨_,its,r,o,h1,h2,n,h3⟩:=(show ObjOk P w H h a (.tup (ks.map kV))from ok a _ e)
 exact⟨o,its.toArray,n,h1,h2,h3,by simpa using b0g r⟩
theorem b11{kvs:List (List Key×V)}(ok:HOk P w H h)(e:Rd H a (.dT kvs)):kvs.length<=sizeLine/\(a==sysModules)=false/\
   ∃xs,KT H kvs xs/\h.DictOfH (tupleKind (a00 P w)) a xs:=by
 obtain⟨z,y,xs,r,o,es,ep,h1,h2,h3,h4,h5⟩:=(show ObjOk P w H h a (.dT kvs)from rd_of ok e)
 refine⟨z,y,xs,r,o,es,ep,h1,h2,h3,h4,fun x hx=> ?_,h5⟩
 have all: ∀{l:List (List Key×V)}{m:List (List Key×Addr×Value)},KT H l m-> ∀x∈m,(tupleKind (a00 P w)).is h x.1 x.2.1:=by
   intro l m q
   induction q with
   |nil=>intro x hx;exact nomatch hx
   | @cons p q ps qs hq t ih=>
     intro x hx
     rcases List.mem_cons.mp hx with e |hx
     . subst e
       exact a8a ok (by rw[<-hq.1];exact hq.2.1)
     . exact ih x hx
 exact all r x hx
theorem dt_of{kvs:List (List Key×V)}(ok:HOk P w H h)(e:H a=some (.dT kvs)):kvs.length<=sizeLine/\(a==sysModules)=false/\
   ∃xs,KT H kvs xs/\h.DictOfH (tupleKind (a00 P w)) a xs:=b11 ok (.inl e)
end
def DGet(H:Hp)(a:Addr)(y:V)(r:Option V):Prop:=
 (∃kvs k,Rd H a (.dK kvs)/\y=kV k/\r=valV kvs k)\/ ∃kvs k b,Rd H a (.dT kvs)/\y= .ref b/\H b=some (.tup (k.map kV))/\r=valV kvs k
def DPut(H:Hp)(a:Addr)(y v:V)(H':Hp):Prop:=
 (∃kvs k,H a=some (.dK kvs)/\y=kV k/\kvs.length<sizeLine/\H'=upd H a (.dK (putK kvs k v)))\/
 ∃kvs k b,H a=some (.dT kvs)/\y= .ref b/\H b=some (.tup (k.map kV))/\kvs.length<sizeLine/\H'=upd H a (.dT (putK kvs k v))
theorem DGet.k{H:Hp}{a:Addr}{kvs:List (Key×V)}{k:Key}(e:H a=some (.dK kvs)):DGet H a (kV k) (valV kvs k):= .inl ⟨kvs,k,.inl e,rfl,rfl⟩
theorem DPut.k{H:Hp}{a:Addr}{kvs:List (Key×V)}{k:Key}{v:V}(e:H a=some (.dK kvs))(hl:kvs.length<sizeLine):DPut H a (kV k) v (upd H a (.dK (putK kvs k v))):= .inl ⟨kvs,k,e,rfl,hl,rfl⟩
section
variable {X:Cx}{pins:List (Addr×Obj)}{σ:St}{H:Hp}{s:Shared}{a:Addr}{y v:V}{u r:Value}{o:Option V}{A:Around}{E:Value->Shared->Prop}
theorem Inv.big(I:Inv X pins σ H s):sysModules<s.heap.objs.size:=by
 have h:mainGlobals<s.heap.objs.size:=(I.mod.glob.keeps I.bk).lt
 exact Nat.lt_trans (by decide) h
theorem b7s{Q:Value->Shared->Prop}(hu:A.units+1<cLine)(I:Inv X pins σ H s)(g:DGet H a y (some v))(ry:RelV y u)(h: ∀w' s',Inv X pins σ H s'->RelV v w'->Q w' s'):
   wpAny (model X.prog X.w) A (getItem (.ref a) u) Q E s:=by
 rcases g with⟨kvs,k,e,ey,l⟩ | ⟨kvs,k,b,e,ey,eb,l⟩
 . subst ey
   obtain⟨z,hd,vs,rel,dd⟩:=a55 I.hok e
   obtain⟨w',hw,rw'⟩:=RelO.some_of (v:=v) (o:=valueAt vs k) (by rw[l];exact rel.val k)
   exact wpAny_getItem_of (a84 ry) dd.mapOf hw (h w' _ (I.tok _) rw')
 . subst ey
   cases(show u=Value.ref b from ry)
   obtain⟨z,hd,xs,rel,dd⟩:=b11 I.hok e
   obtain⟨w',hw,rw'⟩:=RelO.some_of (v:=v) (o:=(atKey xs k).map (·.2)) (by rw[l];exact rel.val k)
   obtain⟨p,hp,hp2⟩:=Option.map_eq_some_iff.mp hw
   refine wpAny_getItem_heap (tupleKind_room_in1 hu) (a8a I.hok eb) dd hp ?_
   rw[hp2]
   exact h w' _ (I.tok _) rw'
theorem d_in{Q:Value->Shared->Prop}(hu:A.units+1<cLine)(I:Inv X pins σ H s)(g:DGet H a y o)(ry:RelV y u)(h: ∀s',Inv X pins σ H s'->Q (.bool o.isSome) s'):
   wpAny (model X.prog X.w) A (compareOp .In u (.ref a)) Q E s:=by
 rcases g with⟨kvs,k,e,ey,l⟩ | ⟨kvs,k,b,e,ey,eb,l⟩
 . subst ey
   obtain⟨z,hd,vs,rel,dd⟩:=a55 I.hok e
   refine wpAny_in_of (a84 ry) hd dd.mapOf ?_
   rw[<-(rel.val k).isSome_eq,<-l]
   exact h _ (I.tok _)
 . subst ey
   cases(show u=Value.ref b from ry)
   obtain⟨z,hd,xs,rel,dd⟩:=b11 I.hok e
   refine wpAny_in_heap (tupleKind_room_in1 hu) (a8a I.hok eb) hd dd ?_
   have q:=(rel.val k).isSome_eq
   rw[Option.isSome_map]at q
   rw[<-q,<-l]
   exact h _ (I.tok _)
theorem d_notIn{Q:Value->Shared->Prop}(hu:A.units+1<cLine)(I:Inv X pins σ H s)(g:DGet H a y o)(ry:RelV y u)(h: ∀s',Inv X pins σ H s'->Q (.bool (!o.isSome)) s'):
   wpAny (model X.prog X.w) A (compareOp .NotIn u (.ref a)) Q E s:=by
 rcases g with⟨kvs,k,e,ey,l⟩ | ⟨kvs,k,b,e,ey,eb,l⟩
 . subst ey
   obtain⟨z,hd,vs,rel,dd⟩:=a55 I.hok e
   refine wpAny_notIn_of (a84 ry) hd dd.mapOf ?_
   rw[<-(rel.val k).isSome_eq,<-l]
   exact h _ (I.tok _)
 . subst ey
   cases(show u=Value.ref b from ry)
   obtain⟨z,hd,xs,rel,dd⟩:=b11 I.hok e
   refine wpAny_notIn_heap (tupleKind_room_in1 hu) (a8a I.hok eb) hd dd ?_
   have q:=(rel.val k).isSome_eq
   rw[Option.isSome_map]at q
   rw[<-q,<-l]
   exact h _ (I.tok _)
theorem a9d{h':Heap}{t':Nat}{ob:HO}(I:Inv X pins σ H s)(mu:Mut (H a))(hs:Heap.SameBut a s.heap h')(he: ∃q,h'.get? a=some q)(new:ObjOk X.prog X.w (upd H a ob) h' a ob):
   Inv X pins σ (upd H a ob) {s with heap:=h',toks:=t'}:=
 I.write (x:=a) (e:=a) mu (.inl rfl) (fun b q hb z=>(hs.2 b hb).trans z) he new
theorem b3s{P:Program}{w:World}{H':Hp}{h':Heap}{kvs:List (Key×V)}{vs:List (Key×Value)}(z:kvs.length<=sizeLine)(hd:(a==sysModules)=false)(rel:KV kvs vs)(dd:h'.DictOf (a00 P w) a vs):
   ObjOk P w H' h' a (.dK kvs):=⟨z,hd,vs,rel,dd⟩
theorem b7r{H':Hp}{Q:Unit->Shared->Prop}(hu:A.units+1<cLine)(I:Inv X pins σ H s)(g:DPut H a y v H')(ry:RelV y u)(rv:RelV v r)(h: ∀s',Inv X pins σ H' s'->Q () s'):
   wpAny (model X.prog X.w) A (setItem (.ref a) u r) Q E s:=by
 rcases g with⟨kvs,k,e,ey,l,eH⟩ | ⟨kvs,k,b,e,ey,eb,l,eH⟩
 . subst ey eH
   obtain⟨z,hd,vs,rel,dd⟩:=b7o I.hok e
   have hz:vs.length<=sizeLine:=by rw[<-rel.length];exact z
   have hl:(putK kvs k v).length<=sizeLine:=by have:=a4a kvs k v;omega
   refine wpAny_setItem_pairs (hsz:=hz) (a84 ry) dd fun h' dd' hs=>h _ ?_
   have he: ∃q,h'.get? a=some q:=let ⟨q,_,_,hq,_⟩:=dd';⟨q,hq⟩
   exact a9d I (by rw[e];exact True.intro) hs he (b3s hl hd (rel.put k rv) dd')
 . subst ey eH
   cases(show u=Value.ref b from ry)
   obtain⟨z,hd,xs,rel,dd⟩:=dt_of I.hok e
   have hz:xs.length<=sizeLine:=by rw[<-Paired.length rel];exact z
   have hl:(putK kvs k v).length<=sizeLine:=by have:=a4a kvs k v;omega
   refine wpAny_setItem_heap (hsz:=hz) (tupleKind_room_in1 hu) (a8a I.hok eb) dd fun h' dd' hs=>h _ ?_
   obtain⟨q,es,ep,hq,h2,h3,h4,_,h5⟩:=dd'
   refine a9d I (by rw[e];exact True.intro) hs ⟨q,hq⟩ ⟨hl,hd,_,(rel.put k eb rv).keeps fun c ys ec=> ?_,q,es,ep,hq,h2,h3,h4,h5⟩
   rw[a0o (a5j ec e (fun z=>nomatch z))]
   exact ec
end
section
variable {X:Cx}{pins:List (Addr×Obj)}{σ:St}{H:Hp}{s:Shared}{a:Addr}{kvs:List (Key×V)}{k:Key}{u:Value}{A:Around}{E:Value->Shared->Prop}
theorem d_pop{v:V}{more:List Value}{Q:Value->Shared->Prop}(I:Inv X pins σ H s)(e:H a=some (.dK kvs))(ry:RelV (kV k) u)(l:valV kvs k=some v)(hm:more=[]\/ ∃x,more=[x])
   (h: ∀w' s',Inv X pins σ (upd H a (.dK (dropK kvs k))) s'->RelV v w'->Q w' s'):wpAny (model X.prog X.w) A (call (.builtin "dict.pop") (.ref a::u::more)) Q E s:=by
 obtain⟨z,hd,vs,rel,dd⟩:=b7o I.hok e
 obtain⟨w',hw,rw'⟩:=RelO.some_of (v:=v) (o:=valueAt vs k) (by rw[<-l];exact rel.val k)
 have hp:(keyPart u).isSome=true:=by
   cases k with
   |inl i=>obtain⟨t,q⟩:=(show ∃t,u=Value.int i t from ry);subst q;rfl
   |inr x=>obtain⟨t,q⟩:=(show ∃t,u=Value.str x t from ry);subst q;rfl
 have ha:argsOk "dict.pop" ⟨.ref a::u::more,[]⟩:=by
   rcases hm with q | ⟨x,q⟩
   . subst q;exact PySem.F.args_dict_pop_2 _ _
   . subst q;exact PySem.F.args_dict_pop_3 _ _ _
 refine call_meetsIn PySem.F.slot_dict_pop dd.typeIs PySem.F.entry_dict_pop ha (meets_dict_pop_there (a00 X.prog X.w) a (a84 ry) more hm hp)
   ⟨vs,w',dd,by rw[<-rel.length];exact z,hw,fun h' dd' hs=>h w' _ ?_ rw'⟩
 have he: ∃q,h'.get? a=some q:=let ⟨q,_,_,hq,_⟩:=dd';⟨q,hq⟩
 exact a9d I (by rw[e];exact True.intro) hs he (b3s (Nat.le_trans (b9h kvs k) z) hd (rel.drop k) dd')
theorem d_len{Q:Value->Shared->Prop}(I:Inv X pins σ H s)(e:Rd H a (.dK kvs))(h: ∀t s',Inv X pins σ H s'->Q (.int kvs.length t) s'):wpAny (model X.prog X.w) A (call (.builtin "len") [.ref a]) Q E s:=by
 obtain⟨z,hd,vs,rel,dd⟩:=a55 I.hok e
 refine call_len_dict hd dd (by rw[<-rel.length];rw[sizeLine_eq]at z;omega) ?_
 rw[<-rel.length]
 exact h _ _ (I.tok _)
end
def NoSl(i:Expr):Prop:= ∀ov iv,subscripted i false ov iv=operate [ov,iv] (getItem ov iv)
theorem subD_of{prog:Program}{w:World}{A:Around}{E:Value->Shared->Prop}{s:Shared}{env:Env}{value slice:Expr}{pos:Pos}{T id:String}{Q:Value->Shared->Prop}
   (hl:typeLookup (.type T) "__getitem__"=pure (some (.builtin id))) (hs:NoSl slice)
   (h:wpAny (model prog w) A (eval value env) (fun o s₁=>wpAny (model prog w) A (eval slice env) (fun i s₂=>s₂.TypeIs o T/\wpAny (model prog w) A (getItem o i) Q E s₂) E s₁) E s):
   wpAny (model prog w) A (eval (.Subscript value slice pos) env) Q E s:=by
 refine Subscript_ (wpAny_mono h (fun o s₁ h₁=>wpAny_mono h₁ (fun i s₂ h₂=> ?_) fun _ _ x=>x) fun _ _ x=>x)
 obtain⟨hT,h₂⟩:=h₂
 unfold subscriptTail
 refine wpAny_bind ?_
 rw[getitemInPython_of_ne hT.not_modules]
 refine wpAny_bind (wpAny_specialOf hT hl ?_)
 have fin:wpAny (model prog w) A (subscripted slice false o i) (fun r s₃=>wpAny (model prog w) A (letTemporaryGo value o r>>=fun _=>pure r) Q E s₃) E s₂:=by
   rw[hs o i]
   exact wpAny_operating (wpAny_mono h₂ (fun r s₃ h₃=>wpAny_bind (wpAny_letTemporaryGo (wpAny_pure h₃))) fun _ _ x=>x)
 first
   |exact wpAny_pure (wpAny_bind fin)
   |exact wpAny_bind (wpAny_pure (wpAny_bind fin))
   |exact wpAny_bind fin
theorem b12{X:Cx}{pins:List (Addr×Obj)}{σ:St}{H:Hp}{s:Shared}{a:Addr}{y:V}{o:Option V}(I:Inv X pins σ H s)(g:DGet H a y o):s.TypeIs (.ref a) "dict":=by
 rcases g with⟨kvs,k,e,_,_⟩ | ⟨kvs,k,b,e,_,_,_⟩
 . obtain⟨_,_,vs,_,dd⟩:=a55 I.hok e
   exact dd.typeIs
 . obtain⟨_,_,xs,_,dd⟩:=b11 I.hok e
   exact dd.typeIs
def tDGet(td ty:TE):TE:=fun σ H Q=>td σ H fun x H1=>ty σ H1 fun y H2=> ∃a v,x= .ref a/\DGet H2 a y (some v)/\Q v H2
def tDIn(ty td:TE):TE:=fun σ H Q=>ty σ H fun y H1=>td σ H1 fun x H2=> ∃a o,x= .ref a/\DGet H2 a y o/\Q (.bl o.isSome) H2
def tDNotIn(ty td:TE):TE:=fun σ H Q=>ty σ H fun y H1=>td σ H1 fun x H2=> ∃a o,x= .ref a/\DGet H2 a y o/\Q (.bl (!o.isSome)) H2
noncomputable def sDPut(td ty tv:TE):TS:=fun D σ H=>tv σ H fun v H1=>td σ H1 fun x H2=>ty σ H2 fun y H3=> ∃a H4,x= .ref a/\DPut H3 a y v H4/\D.nx σ H4
section
variable {X:Cx}{o i e value:Expr}{pos pos' tpos:Pos}{td ty tv:TE}
theorem pe_dget(hu:X.A.units+1<cLine)(ho:PE X o td)(hi:PE X i ty)(hs:NoSl i):PE X (.Subscript o i pos) (tDGet td ty):=by
 intro pins s σ H Q I h
 refine subD_of PySem.F.slot_dict_getitem.lookup hs (thn (ho pins s σ H _ I h) fun u s1 ⟨x,H1,I1,rx,q1⟩=>thn (hi pins s1 σ H1 _ I1 q1) fun iv s2 zz9=> ?_)
 obtain⟨y,H2,I2,ry,a,v,ex,g,q2⟩:=zz9
 subst ex
 obtain rfl:u=Value.ref a:=rx
 exact⟨b12 I2 g,b7s hu I2 g ry fun w' s3 I3 rw'=>⟨v,H2,I3,rw',q2⟩⟩
theorem pc_din(hu:X.A.units+1<cLine)(hi:PE X i ty)(ho:PE X o td):PC X .In i o (tDIn ty td):=by
 intro pins s σ H Q I h
 refine thn (hi pins s σ H _ I h) fun iv s1 ⟨y,H1,I1,ry,q1⟩=>thn (ho pins s1 σ H1 _ I1 q1) fun u s2 zz9=> ?_
 obtain⟨x,H2,I2,rx,a,ov,ex,g,q2⟩:=zz9
 subst ex
 obtain rfl:u=Value.ref a:=rx
 exact d_in hu I2 g ry fun s3 I3=>⟨.bl ov.isSome,H2,I3,rfl,q2⟩
theorem b52(hu:X.A.units+1<cLine)(hi:PE X i ty)(ho:PE X o td):PC X .NotIn i o (tDNotIn ty td):=by
 intro pins s σ H Q I h
 refine thn (hi pins s σ H _ I h) fun iv s1 ⟨y,H1,I1,ry,q1⟩=>thn (ho pins s1 σ H1 _ I1 q1) fun u s2 zz9=> ?_
 obtain⟨x,H2,I2,rx,a,ov,ex,g,q2⟩:=zz9
 subst ex
 obtain rfl:u=Value.ref a:=rx
 exact d_notIn hu I2 g ry fun s3 I3=>⟨.bl (!ov.isSome),H2,I3,rfl,q2⟩
theorem ps_dput(hu:X.A.units+1<cLine)(ho:PE X o td)(hi:PE X i ty)(hv:PE X value tv)(hs:swapsWith value (some (.Subscript o i pos')) pos.line X.env=pure false):
   PS X (.Assign [.Subscript o i pos'] value pos) (sDPut td ty tv):=by
 intro pins s σ H D I h
 refine wpAny_Assign_Subscript (thn (hv pins s σ H _ I h) fun r s1 ⟨v,H1,I1,rv,q1⟩=>thn (ho pins s1 σ H1 _ I1 q1) fun u s2 ⟨x,H2,I2,rx,q2⟩=>thn (hi pins s2 σ H2 _ I2 q2) fun iv s3 ⟨y,H3,I3,ry,a,H4,ex,g,q3⟩=> ?_) hs
 subst ex
 obtain rfl:u=Value.ref a:=rx
 exact b7r hu I3 g ry rv fun s4 I4=>⟨σ,H4,I4,q3⟩
end
theorem b3t{P:Program}{w:World}{H:Hp}(h:Heap)(hb:sysModules<h.objs.size):ObjOk P w H (h.push {cls:= .type "dict",data:= .dict #[]}) h.objs.size (.dK []):=
 ⟨Nat.zero_le _,beq_eq_false_iff_ne.mpr (Ne.symm (Nat.ne_of_lt hb)),[],.nil,Heap.DictOf.new h⟩
def tDNewK:TE:=fun _ H Q=> ∀p,H p=none->Q (.ref p) (upd H p (.dK []))
section
variable {X:Cx}{pos:Pos}
theorem pe_dnewK:PE X (.Dict [] [] pos) tDNewK:=fun pins s σ H Q I h=>
 wpAny_Dict_empty ⟨.ref s.heap.objs.size,_,I.laid (a:=s.heap.objs.size) (o:= .dK []) (t':=s.toks) (fun _ _ q=>Heap.get?_push_of_some _ q) (Nat.le_refl _) (b3t s.heap I.big),rfl,h _ (I.hok.fresh (Nat.le_refl _))⟩
end
def b49:List (TE×TE)->St->Hp->(List (V×V)->Hp->Prop)->Prop
 | [],_,H,Q=>Q [] H
 | (tk,tv)::r,σ,H,Q=>tk σ H fun x H1=>tv σ H1 fun y H2=>b49 r σ H2 fun ps H3=>Q ((x,y)::ps) H3
abbrev VV:List (V×V)->List (Value×Value)->Prop:=Paired fun p q=>RelV p.1 q.1/\RelV p.2 q.2
def PPs(X:Cx)(pos:Pos)(keys:List (Option Expr))(values:List Expr)(trs:List (TE×TE)):Prop:=
 ∀(pins:List (Addr×Obj)) (s:Shared) (σ:St) (H:Hp) (Q:List (V×V)->Hp->Prop),Inv X pins σ H s->b49 trs σ H Q->
   wpAny (model X.prog X.w) X.A (evalPairs (pairTrees keys values X.env pos)) (fun vs s'=> ∃ps H',Inv X pins σ H' s'/\VV ps vs/\Q ps H') X.xe s
theorem pps_nil{X:Cx}{pos:Pos}:PPs X pos [] [] []:=fun pins s σ H Q I h=>pairTrees_nil_walk ⟨[],H,I,.nil,h⟩
theorem b8m{X:Cx}{pos:Pos}{k v:Expr}{ks:List (Option Expr)}{vs:List Expr}{tk tv:TE}{trs:List (TE×TE)}(hk:PE X k tk)(hv:PE X v tv)(hr:PPs X pos ks vs trs):
   PPs X pos (some k::ks) (v::vs) ((tk,tv)::trs):=fun pins s σ H Q I h=>
 pairTrees_cons_walk (thn (hk pins s σ H _ I h) fun u s1 ⟨x,H1,I1,rx,q1⟩=>thn (hv pins s1 σ H1 _ I1 q1) fun w2 s2 ⟨y,H2,I2,ry,q2⟩=>
   thn (hr pins s2 σ H2 _ I2 q2) fun ws s3 ⟨ps,H3,I3,rel,q3⟩=>⟨(x,y)::ps,H3,I3,.cons ⟨rx,ry⟩ rel,q3⟩)
noncomputable def a78(kvs more:List (Key×V)):List (Key×V):=more.foldl (fun acc kv=>putK acc kv.1 kv.2) kvs
theorem KV.merge: ∀{more:List (Key×V)}{rs:List (Key×Value)}{kvs:List (Key×V)}{vs:List (Key×Value)},KV more rs->KV kvs vs->KV (a78 kvs more) (merged vs rs):=by
 intro more rs kvs vs r
 unfold KV at r
 induction r generalizing kvs vs with
 |nil=>intro q;exact q
 | @cons p q ps qs h t ih=>
   intro r0
   have e:KV (putK kvs p.1 p.2) (stored vs q.1 q.2):=by
     have:=r0.put p.1 h.2
     rw[<-h.1];exact this
   exact ih e
theorem a4u: ∀(more kvs:List (Key×V)),(a78 kvs more).length<=kvs.length+more.length
 | [],kvs=>by show kvs.length<=kvs.length+0;omega
 |p::r,kvs=>by
   have h1:=a4u r (putK kvs p.1 p.2)
   have h2:=a4a kvs p.1 p.2
   show(a78 (putK kvs p.1 p.2) r).length<=_
   rw[List.length_cons];omega
theorem a8d{P:Program}{w:World}: ∀{kvs:List (Key×V)}{ws:List (Value×Value)},VV (kvs.map fun kv=>(kV kv.1,kv.2)) ws-> ∃rs,Carries (a00 P w) ws rs/\KV kvs rs
 | [],_,r=>by rw[List.map_nil]at r;cases r;exact⟨[],True.intro,.nil⟩
 |p::kvs,_,r=>by
   rw[List.map_cons]at r
   cases r with
   | @cons a b as bs h t=>
     obtain⟨rs,c,q⟩:=a8d (P:=P) (w:=w) t
     obtain⟨b1,b2⟩:=b
     exact⟨(p.1,b2)::rs,⟨a84 h.1,rfl,c⟩,.cons ⟨rfl,h.2⟩ q⟩
def tDisp(trs:List (TE×TE)):TE:=fun σ H Q=> ∀p,H p=none->b49 trs σ (upd H p (.dK [])) fun ps H2=>H2 p=some (.dK [])/\ ∃kvs:List (Key×V),ps=kvs.map (fun kv=>(kV kv.1,kv.2))/\kvs.length<=15/\Q (.ref p) (upd H2 p (.dK (a78 [] kvs)))
theorem pe_disp{X:Cx}{pos:Pos}{keys:List (Option Expr)}{values:List Expr}{trs:List (TE×TE)}(h:PPs X pos keys values trs)(hall:keys.all (·.isSome)=true)(hl:keys.length=values.length)(h0:keys≠[])
   (h15:keys.length<=15):PE X (.Dict keys values pos) (tDisp trs):=by
 intro pins s σ H Q I q
 have hn:=I.hok.fresh (Nat.le_refl s.heap.objs.size)
 have I1:=I.laid (a:=s.heap.objs.size) (o:= .dK []) (h':=s.heap.push {cls:= .type "dict",data:= .dict #[]}) (t':=s.toks) (fun _ _ q=>Heap.get?_push_of_some _ q) (Nat.le_refl _) (b3t s.heap I.big)
 refine wpAny_Dict_walk (knd:=a00 X.prog X.w) hall hl h0 h15 (thn (h pins _ σ _ _ I1 (q _ hn)) fun ws s2 zz9=> ?_)
 obtain⟨ps,H2,I2,rel,e,kvs,ep,lk,q2⟩:=zz9
 subst ep
 obtain⟨rs,c,rk⟩:=a8d (P:=X.prog) (w:=X.w) rel
 obtain⟨z,hd,vs0,r0,dd⟩:=b7o I2.hok e
 cases r0
 refine⟨rs,c,dd,fun h' dd' hs=>⟨.ref s.heap.objs.size,_,?_,rfl,q2⟩⟩
 have hz:(a78 [] kvs).length<=sizeLine:=by
   have h1:=a4u kvs []
   rw[List.length_nil]at h1
   rw[sizeLine_eq];omega
 have he: ∃q,h'.get? s.heap.objs.size=some q:=let ⟨q,_,_,hq,_⟩:=dd';⟨q,hq⟩
 exact a9d I2 (by rw[e];exact True.intro) hs he (b3s hz hd (rk.merge .nil) dd')
structure M1(X:Cx)(o:Expr)(m:Str)(apos:Pos)(e:Expr)(cpos:Pos):Prop where
 base:attributeBase o m X.env (eval o X.env)=eval o X.env
 few:((backTo cpos (starEach [e] X.env)).all (fun x=> !x.1)&&(backToKw cpos (keywordEach [] X.env)).all (fun x=>x.1.isSome)
   &&decide (([e]:List Expr).length+([]:List Keyword).length+(if([]:List Keyword).isEmpty then 0 else 1)<30))=true
 line:(apos.endLine==cpos.line)=true
 trees:backTo cpos (starEach [e] X.env)=[(false,eval e X.env)]
def IsD(H:Hp)(a:Addr):Prop:=(∃kvs,Rd H a (.dK kvs))\/ ∃kvs,Rd H a (.dT kvs)
theorem isD_at{X:Cx}{pins:List (Addr×Obj)}{σ:St}{H:Hp}{s:Shared}{a:Addr}(I:Inv X pins σ H s)(d:IsD H a):
   s.TypeIs (.ref a) "dict"/\(∀b,Value.ref a= .ref b-> ∃ob,s.heap.get? b=some ob/\ob.dict=none)/\(a==sysModules)=false:=by
 rcases d with⟨kvs,e⟩ | ⟨kvs,e⟩
 . obtain⟨_,hd,vs,_,dd⟩:=a55 I.hok e
   refine⟨dd.typeIs,fun b q=> ?_,hd⟩
   cases q
   obtain⟨ob,_,_,h1,h2,_⟩:=dd
   exact⟨ob,h1,h2.2.1⟩
 . obtain⟨_,hd,xs,_,dd⟩:=b11 I.hok e
   refine⟨dd.typeIs,fun b q=> ?_,hd⟩
   cases q
   obtain⟨ob,_,_,h1,h2,_⟩:=dd
   exact⟨ob,h1,h2.2.1⟩
section
variable {X:Cx}{pins:List (Addr×Obj)}{σ:St}{H:Hp}{s:Shared}{a:Addr}{y d:V}{u r:Value}{o:Option V}{A:Around}{E:Value->Shared->Prop}
theorem d_get1{Q:Value->Shared->Prop}(hu:A.units+1<cLine)(I:Inv X pins σ H s)(g:DGet H a y o)(ry:RelV y u)(h: ∀w' s',Inv X pins σ H s'->RelV (o.getD .non) w'->Q w' s'):
   wpAny (model X.prog X.w) A (call (.builtin "dict.get") [.ref a,u]) Q E s:=by
 rcases g with⟨kvs,k,e,ey,l⟩ | ⟨kvs,k,b,e,ey,eb,l⟩
 . subst ey
   obtain⟨z,hd,vs,rel,dd⟩:=a55 I.hok e
   refine call_meetsIn PySem.F.slot_dict_get dd.typeIs PySem.F.entry_dict_get (PySem.F.args_dict_get_2 _ _) (meets_dict_get (a00 X.prog X.w) a (a84 ry) hd) ⟨_,dd.mapOf,h _ _ (I.tok _) ?_⟩
   rw[l]
   exact(rel.val k).getD rfl
 . subst ey
   cases(show u=Value.ref b from ry)
   obtain⟨z,hd,xs,rel,dd⟩:=b11 I.hok e
   refine call_meetsIn PySem.F.slot_dict_get dd.typeIs PySem.F.entry_dict_get (PySem.F.args_dict_get_2 _ _) (meetsH_dict_get (tupleKind (a00 X.prog X.w)) a b hd) ⟨tupleKind_room_in1 hu,k,xs,a8a I.hok eb,dd,h _ _ (I.tok _) ?_⟩
   rw[l]
   exact(rel.val k).getD rfl
end
def tDGet1(td ty:TE):TE:=fun σ H Q=>td σ H fun x H1=> ∃a,x= .ref a/\IsD H1 a/\ty σ H1 fun y H2=> ∃o,DGet H2 a y o/\Q (o.getD .non) H2
def tDPop1(td ty:TE):TE:=fun σ H Q=>td σ H fun x H1=> ∃a,x= .ref a/\IsD H1 a/\ty σ H1 fun y H2=> ∃kvs k v,H2 a=some (.dK kvs)/\y=kV k/\valV kvs k=some v/\Q v (upd H2 a (.dK (dropK kvs k)))
section
variable {X:Cx}{o e f:Expr}{apos cpos:Pos}{td ty tx:TE}
theorem b8s(hu:X.A.units+1<cLine)(ho:PE X o td)(he:PE X e ty)(m:M1 X o "get" apos e cpos):PE X (.Call (.Attribute o "get" apos) [e] [] cpos) (tDGet1 td ty):=by
 intro pins s σ H Q I h
 refine wpAny_Call_method m.base m.few m.line PySem.F.plainAttrs_dict PySem.F.slot_dict_get PySem.F.type_dict_get (thn (ho pins s σ H _ I h) fun u s1 zz9=> ?_)
 obtain⟨x,H1,I1,rx,a,ex,d,q1⟩:=zz9
 subst ex
 obtain rfl:u=Value.ref a:=rx
 obtain⟨t1,t2,_⟩:=isD_at I1 d
 refine⟨t1,t2,?_⟩
 rw[m.trees]
 refine Calls.callWith_builtin rfl (Calls.evalArgs_plain (Calls.spliced_cons (thn (he pins s1 σ H1 _ I1 q1) fun iv s2 ⟨y,H2,I2,ry,ov,g,q2⟩=>Calls.spliced_nil ?_)))
 exact d_get1 hu I2 g ry fun w' s3 I3 rw'=>⟨_,H2,I3,rw',q2⟩
theorem b8r(ho:PE X o td)(he:PE X e ty)(m:M1 X o "pop" apos e cpos):PE X (.Call (.Attribute o "pop" apos) [e] [] cpos) (tDPop1 td ty):=by
 intro pins s σ H Q I h
 refine wpAny_Call_method m.base m.few m.line PySem.F.plainAttrs_dict PySem.F.slot_dict_pop PySem.F.type_dict_pop (thn (ho pins s σ H _ I h) fun u s1 zz9=> ?_)
 obtain⟨x,H1,I1,rx,a,ex,d,q1⟩:=zz9
 subst ex
 obtain rfl:u=Value.ref a:=rx
 obtain⟨t1,t2,_⟩:=isD_at I1 d
 refine⟨t1,t2,?_⟩
 rw[m.trees]
 refine Calls.callWith_builtin rfl (Calls.evalArgs_plain (Calls.spliced_cons (thn (he pins s1 σ H1 _ I1 q1) fun iv s2 ⟨y,H2,I2,ry,kvs,k,v,ea,ey,l,q2⟩=>Calls.spliced_nil ?_)))
 subst ey
 exact d_pop I2 ea ry l (.inl rfl) fun w' s3 I3 rw'=>⟨v,_,I3,rw',q2⟩
end
section
variable {X:Cx}{pins:List (Addr×Obj)}{σ:St}{H:Hp}{s:Shared}{a:Addr}{kvs:List (Key×V)}{A:Around}{E:Value->Shared->Prop}
end
section
variable {X:Cx}{pins:List (Addr×Obj)}{σ:St}{H:Hp}{s:Shared}{a:Addr}{y:V}{u:Value}{A:Around}{E:Value->Shared->Prop}
end
section
variable {X:Cx}
theorem b7y:CallR X (.builtin "len") (fun xs H Q=> ∃a kvs,xs=[V.ref a]/\H a=some (.dK kvs)/\Q (.int kvs.length) H):=by
 intro pins s σ H xs us Q I r h
 obtain⟨a,kvs,rfl,ha,q⟩:=h
 obtain⟨u,rfl,ru⟩:=b0s r
 cases ru
 exact d_len I (.inl ha) fun t s' I'=>⟨.int kvs.length,H,I',⟨t,rfl⟩,q⟩
end
section
variable {κ:Type}[DecidableEq κ]
end
structure Has(P:Program)(w:World)(K:PySem.W.Frag)(mg:Str->Option Value)(base:Heap)(CX:CXT)(k:Nat)(x:Str)(ps:List Str)(sp:Sp):Prop where
 ex: ∃f fd,FnOk P w K mg base CX k f fd ps sp/\mg x=some (.ref f)/\PySem.W.keepIn K (.ref f)=true/\Binds K fd ps []
section
variable {X:Cx}{CX:CXT}{k:Nat}{ps:List Str}{sp:Sp}{E:XK}{x:Str}{p pos:Pos}{e:Expr}{es:List Expr}{t:TA}
end
section
variable {X:Cx}
theorem a2g:OpR X (binaryOp .Mult) (rI IntMulOk fun i j=> .int (i *j)):=opI fun _ _ _ _ _ _ _ hc q=>mul_int q hc
structure BigDiv(X:Cx):Prop where
 seer:X.base.NoSeer
 tree:X.prog.given.tree=none
 stk:X.stack=X.env::X.outer
 gen:X.env.scope.isGenerator=false
 co:X.env.scope.isCoroutine=false
 dp:X.A.depth+100<recursionLimit
theorem BigDiv.room{pins:List (Addr×Obj)}{σ:St}{H:Hp}{s:Shared}(B:BigDiv X)(I:Inv X pins σ H s):PylongRoom (model X.prog X.w) X.A s:=
 PylongRoom.of I.nolimit B.dp (SeerAt.of (B.seer.keeps I.bk) B.tree (by rw[I.ok.frames,B.stk]) B.gen B.co I.ok.blt I.ok.glob)
theorem b20(B:BigDiv X):OpR X (binaryOp .FloorDiv) (rI (fun _ j=>j≠0) fun i j=> .int (i.fdiv j)):=by
 intro pins s σ H x y v u Q I rx ry h
 obtain⟨i,j,rfl,rfl,hc,q⟩:=h
 obtain⟨t,rfl⟩:=rx
 obtain⟨t',rfl⟩:=ry
 exact floordiv_int hc ⟨.int (i.fdiv j),H,I.tok _,⟨_,rfl⟩,q⟩ (.inr (B.room I))
end
section
variable {X:Cx}
end
section
variable {X:Cx}{st:Stmt}{rest:List Stmt}{t u:TS}
end
theorem NoSeer.hid{h:Heap}{a:Addr}{o:Obj}{H:Hp}(hN:h.NoSeer)(ha:h.get? a=some o)(hc:o.cls= .type "list")(hA: ∀b,H b≠none->b=a)
   (nsK: ∀{b:Addr}{m:Str->Option Value},h.Ns b m->(hidT h H).Ns b m):(hidT h H).NoSeer where
 statics:=let ⟨mc,x,y⟩:=hN.statics;⟨mc,nsK x,y⟩
 mods:=let ⟨mc,x,y⟩:=hN.mods;⟨mc,nsK x,y⟩
 imp:=let ⟨mc,x,y⟩:=hN.imp;⟨mc,nsK x,y⟩
 main:=by
   obtain⟨mg,bm,ob,x,y,z,c,d⟩:=hN.main
   refine⟨mg,bm,ob,nsK x,y,b3l z ?_,c,d⟩
   cases q:H bm with
   |none=>rfl
   |some u=>
     have e:bm=a:=hA bm (by rw[q];simp)
     subst e
     rw[ha]at z
     cases z
     rw[hc]at c
     exact absurd c (by decide)
theorem b6v{P:Program}{w:World}{K:PySem.W.Frag}{mg mb:Str->Option Value}{CX:CXT}{k:Nat}{fa a:Addr}{fd:FuncData}{x:Str}{sp:Sp}{s₁:Shared}{vs:List Value}{ns:List Int}
   (KX:K.In s₁.heap) (hns:s₁.heap.Ns mainGlobals mg) (hb:s₁.heap.Ns builtinsNs mb) (hbb: ∀x:Str,x≠ "__name__"->mb x=bootBuiltins x) (hlim:s₁.heap.NoLimit) (hsee:s₁.heap.NoSeer) (hg:s₁.gens= #[])
   (ha:s₁.heap.get? a=some {cls:= .type "list",data:= .seq vs.toArray}) (hi:IntsAre vs ns) (hl:ns.length<=sizeLine) (hr:Room k callerA)
   (F: ∀base:Heap,K.In base->base.Ns mainGlobals mg->base.NoSeer->FnOk P w K mg base CX k fa fd [x] sp) (hbind: ∀(s:Shared) (u:Value),BindsTo s fd ⟨[u],[]⟩ [(x,u)])
   (hsp: ∀H:Hp,Only H->SqL K H a (ns.map V.int)->sp [.ref a] H (fun v _=>v= .bl true) fun _ _ _=>False)
   (hCX: ∀H e s',CX [] H s₁ (fun _ _ _=>False) e s'->False):
   codeAny (model P w) callerA (.call (.ref fa) ⟨[.ref a],[]⟩) (fun r s'=>r= .ok (.ret (.bool true))/\OldK s₁.heap s'.heap/\s'.os=s₁.os/\AllBare s'.gens) s₁:=by
 have rv:=a9i hi
 have lenV:=hi.length
 have core: ∀H:Hp,Only H->SqL K H a (ns.map V.int)->HOk P w H s₁.heap->(∀b,H b≠none->b=a)->(H a≠none->K.lookup a=none)->
     codeAny (model P w) callerA (.call (.ref fa) ⟨[.ref a],[]⟩) (fun r s'=>r= .ok (.ret (.bool true))/\OldK s₁.heap s'.heap/\s'.os=s₁.os/\AllBare s'.gens) s₁:=by
   intro H hO hS hok hA hK
   have base_of: ∀{b:Addr}{o:Obj},s₁.heap.get? b=some o->H b=none->(hidT s₁.heap H).get? b=some o:=fun e n=>b3l e n
   have noA: ∀{b:Addr}{o:Obj}{es:Array DictEntry}{ep:Nat},s₁.heap.get? b=some o->o.data= .dict es ep->H b=none:=fun {b o es ep} e d=>by
     cases q:H b with
     |none=>rfl
     |some u=>
       have e':b=a:=hA b (by rw[q];simp)
       subst e'
       rw[ha]at e;cases e
       have d':Data.seq vs.toArray _=Data.dict es ep:=d
       cases d'
   have nsK: ∀{b:Addr}{m:Str->Option Value},s₁.heap.Ns b m->(hidT s₁.heap H).Ns b m:=fun {b m} ⟨o,es,ep,e,d,r⟩=>⟨o,es,ep,base_of e (noA e d),d,r⟩
   have hKb:K.In (hidT s₁.heap H):=fun b o e=>base_of (KX b o e) (by
     cases q:H b with
     |none=>rfl
     |some u=>
       have e':b=a:=hA b (by rw[q];simp)
       subst e'
       rw[hK (by rw[q];simp)]at e;cases e)
   have hM:Mod K mg (hidT s₁.heap H):=⟨hKb,nsK hns,⟨mb,nsK hb,hbb⟩,let ⟨mc,h1,h2⟩:=hlim;⟨mc,nsK h1,h2⟩⟩
   have hSe:(hidT s₁.heap H).NoSeer:=NoSeer.hid hsee ha rfl hA nsK
   have e0:Env0 P w K mg (hidT s₁.heap H) callerA [] s₁ H:=⟨rfl,hM,fun b o e=>of_hidT e,Nat.le_of_eq (b7b _ _),trivial,fun b hb=>absurd (show b∈([]:List Addr)from hb) (by simp),hok,.of_eq hg⟩
   refine codeAny_mono ((F _ hKb (nsK hns) hSe).run callerA [] s₁ H ⟨[.ref a],[]⟩ [.ref a] [.ref a] _ _ hr e0 (hbind s₁ (.ref a)) (.cons rfl .nil) (hsp H hO hS)) fun r s' h=> ?_
   cases r with
   |error e=>exact(hCX H e s' h).elim
   |ok fl=>
     cases fl with
     |next=>exact False.elim h
     |brk=>exact False.elim h
     |cont=>exact False.elim h
     |ret u=>
       obtain⟨v,H',os,bare,un,hok',r',q⟩:=h
       have q':v= .bl true:=q
       subst q'
       obtain rfl:u=Value.bool true:=r'
       refine⟨rfl,OldK.of_keep fun b o e=> ?_,os,bare⟩
       cases q:H b with
       |none=>exact un.keep b o e q (by intro z;exact absurd (show b∈([]:List Addr)from z) (by simp)) (by simp)
       |some u=>
         rcases hO b with z | ⟨ob,xs,z⟩
         . rw[q]at z;cases z
         . have z2:=un.frzs b ob _ z
           obtain⟨e1,_⟩:=hok b _ z
           obtain⟨e2,_⟩:=hok' b _ z2
           rw[e]at e1;cases e1
           exact e2
 cases hk:K.lookup a with
 |some o=>
   have e:=KX a o hk
   rw[ha]at e
   cases e
   refine core (fun _=>none) (fun _=> .inl rfl) (.inr ⟨_,vs.toArray,_,hk,rfl,rfl,rfl,by rw[List.size_toArray,lenV];exact hl,by simpa using rv⟩) (fun b u z=>by have z':(none:Option HO)=some u:=z;cases z') (fun b z=>absurd rfl z) fun z=>absurd rfl z
 |none=>
   refine core (fun b=>if b=a then some (.frz {cls:= .type "list",data:= .seq vs.toArray} (.lst (ns.map V.int)))else none) (fun b=> ?_) (.inl (.inr ⟨{cls:= .type "list",data:= .seq vs.toArray},if_pos rfl⟩)) (fun b u z=> ?_) (fun b z=> ?_) fun _=>hk
   . by_cases hb:b=a
     . exact .inr ⟨_,_,if_pos hb⟩
     . exact .inl (if_neg hb)
   . by_cases hb:b=a
     . have z':=(if_pos hb).symm.trans z
       cases z'
       subst hb
       exact⟨ha,by rw[List.length_map];exact hl,vs,_,rv,ha⟩
     . have z':=(if_neg hb).symm.trans z
       cases z'
   . by_cases hb:b=a
     . exact hb
     . exact absurd (if_neg hb) z
structure Script(n:Nat)(ns:List Int):Prop where
 len:ns.length<=n
 bits: ∀i∈ns,Builtin.Int.intBits i<=2^20
theorem b16{ns:List Int}(h:PySem.W.WData.layableAll [PySem.W.WData.list (ns.map PySem.W.WData.int)]=true): ∀i∈ns,Builtin.Int.intBits i<=2^20:=fun i hi=>by
 have h1:=(PySem.W.layW_cons h).1
 have h2:=PySem.W.layableW_item h1 (.int i) (List.mem_map.mpr ⟨i,hi,rfl⟩)
 have h3:=(PySem.W.layableW_iff.mp h2).2.2
 simpa only[PySem.W.WData.weight,Builtin.Int.intBits]using h3
section
open PySem.W PySem.Calls
theorem b0q{l:PySem.W.OpenLaw}{n:Nat}{q:Program}{a2t:List Str}{XP:(Str->Option Value)->Heap->Prop}{YP:World->Heap->Prop}{d:DefRec}
   (hn:l.most=some n) (hdf:d.params.defaults=[])
   (call: ∀(w:World) (s₀ s₁:Shared) (mg mb:Str->Option Value) (fa:Addr) (o:Obj) (pm cd doc:Value) (a:Addr) (vs:List Value) (ns:List Int),
     PySem.W.Ground q a2t [] XP w s₀ mg mb s₁.heap->YP w s₁.heap->
     s₁.heap.get? fa=some o->o.data= .func (docDef d.name d.params d.body d.scope pm cd doc)->s₁.heap.CodeRec cd d.name->mg d.name=some (.ref fa)->
     s₁.heap.get? a=some {cls:= .type "list",data:= .seq vs.toArray}->IntsAre vs ns->Script n ns->s₁.gens= #[]->
     codeAny (model l.prog w) callerA (.call (.ref fa) ⟨[.ref a],[]⟩) (fun r s'=>r= .ok (.ret (.bool true))/\OldK s₁.heap s'.heap/\s'.os=s₁.os/\AllBare s'.gens) s₁):
   PySem.W.WalkO q a2t XP YP l.row.toRowW d [] (fun f vs=>PySem.call f vs):=by
 intro w s₀ s₁ mg mb G Y fa o pm cd doc dV kV ho hd hcd hD hmg hg args vals as hpre hlay hrd hwl hlo
 obtain rfl:dV= .none:=Dflts.none hD hdf
 obtain rfl:kV= .none:=Dflts.noKw hD
 obtain⟨a,vs,ns,rfl,rfl,hobj,hints,hlen⟩:=Att.script_of hn hpre hwl
 refine enter_call (codeAny_mono (call w s₀ s₁ mg mb fa o pm cd doc a vs ns G Y ho (fd_plain hd) hcd hmg hobj hints ⟨hlen,b16 hlay⟩ hg) fun r s' hq=> ?_)
 obtain⟨rfl,h2,h3,h4⟩:=hq
 exact⟨.inl ⟨.bool true,.bool true,[],rfl,fun _=>rfl,.bool true,Att.post_true l _,fun _=>⟨List.Pairwise.nil,fun _ hm=>(nomatch hm)⟩⟩,h2,h3,h4⟩
end
theorem walk_ofB{l:PySem.W.OpenLaw}{n k:Nat}{q:Program}{a2t:List Str}{XP:(Str->Option Value)->Heap->Prop}{YP:World->Heap->Prop}{d:DefRec}{K:Params->PySem.W.Frag}{CX:CXT}{sp:PySem.W.Frag->Sp}{x:Str}
   (hn:l.most=some n) (hn2:n<=sizeLine) (hdf:d.params.defaults=[]) (hr:Room k callerA) (him:importsNone q=true)
   (hY: ∀(w:World) (h:Heap),YP w h->(K w.params).In h)
   (F: ∀(w:World) (mg:Str->Option Value) (fa:Addr) (h:Heap),(K w.params).In h->h.Ns mainGlobals mg->mg d.name=some (.ref fa)->
     ∃fd:FuncData,(∀(s:Shared) (u:Value),BindsTo s fd ⟨[u],[]⟩ [(x,u)])/\
       ∀base:Heap,(K w.params).In base->base.Ns mainGlobals mg->base.NoSeer->FnOk l.prog w (K w.params) mg base CX k fa fd [x] (sp (K w.params)))
   (hsp: ∀(K:PySem.W.Frag) (H:Hp) (a:Addr) (ns:List Int),Script n ns->Only H->SqL K H a (ns.map V.int)->sp K [.ref a] H (fun v _=>v= .bl true) fun _ _ _=>False)
   (hCX: ∀(H:Hp) (s:Shared) (e:Value) (s':Shared),CX [] H s (fun _ _ _=>False) e s'->False):
   PySem.W.WalkO q a2t XP YP l.row.toRowW d [] (fun f vs=>PySem.call f vs):=by
 refine b0q hn hdf fun w s₀ s₁ mg mb fa o pm cd doc a vs ns G Y ho hd hcd hmg hobj hints hsc hg=> ?_
 have KX:=hY w _ Y
 obtain⟨fd,hb,hF⟩:=F w mg fa _ KX G.T.g hmg
 exact b6v KX G.T.g G.T.b G.T.builtins G.T.nolimit (G.T.seer him) hg hobj hints (Nat.le_trans hsc.len hn2) hr hF hb (fun H hO hS=>hsp (K w.params) H a ns hsc hO hS) fun H e s'=>hCX H s₁ e s'
open PySem PySem.Spec PySem.Calls PyProof.Rows
structure Air(B:Heap)(l:List Env)(a:Addr)(h:Heap):Prop where
 stay:B.StaysIn h
 new:B.get? a=none
 frm:h.FunFrames B l
def Trc(B:Heap)(a:Addr)(cls a0:Value)(m:Option Value)(h:Heap):Prop:=match m with
 |none=> ∃oe vs,h.get? a=some oe/\oe.cls=cls/\oe.data= .fields vs/\vs[0]? =some a0/\vs[1]? =some .none
 |some fl=>h.TracedAtW B a cls a0 fl
def NoD(a:Addr)(h:Heap):Prop:= ∃oe vs,h.get? a=some oe/\oe.dict=none/\oe.data= .fields vs/\vs[2]? =some .none
theorem a7y(o:Obj)(f:Array Value->Array Value):(Obj.mapFields f o).dict=o.dict:=by
 obtain⟨c,d,dt,sl⟩:=o
 cases dt<;>rfl
section
variable {M:Model}{A:Around}{E:Value->Shared->Prop}{s:Shared}{B:Heap}{env:Env}{outer l:List Env}{L a:Addr}{cls a0:Value}{m:Option Value}
theorem entryD{base:Heap}{e:Addr}{oe:Obj}{vs:Array Value}{head:Value}{hadNext:Bool}{Q:Unit->Shared->Prop}
   (hfr:A.frames=some (env::outer)) (hl:s.heap.FunFrames base (env::outer)) (hf:env.frame=some L)
   (he:s.heap.get? e=some oe) (hkb:base.StaysIn s.heap) (hen:base.get? e=none) (hd:oe.data= .fields vs) (hsz:1<vs.size) (h0:vs[0]? =some a0) (hnd:oe.dict=none) (h2:vs[2]? =some .none)
   (h: ∀h',Heap.NotedW base (env::outer) e oe.cls a0 (rawInt L) s.heap h'->NoD e h'->Q () {s with heap:=h'}):
   wpAny M A (do let a <-frameOf env;let pl <-entryPlaceOf L hadNext;let b <-EntryCells.newEntry head a .none (rawInt L) .none pl;setField (.ref e) 1 b) Q E s:=by
 have hene:e∉(env::outer).filterMap (·.frame):=fun hm=>by
   obtain⟨_,o,ho,hnf⟩:=hl.mem hm
   rw[he]at ho;injection ho with ho;subst ho;exact hnf vs hd
 refine wpAny_bind (wpAny_frameOf_fun hfr hl hf fun h₁ hs₁=> ?_)
 refine wpAny_bind (wpAny_entryPlaceOf fun pl hpl=> ?_)
 unfold EntryCells.newEntry newFields
 refine wpAny_bind (wpAny_newObj_type ?_ (hpl.sizeOk5 _ _ _ _ _))
 have he₁:h₁.get? e=some oe:=(hs₁.2.1 e hene).trans he
 have kb₁:base.StaysIn h₁:=fun b o hbo=>(hs₁.2.1 b fun hm=>by rw[(hl.mem hm).1]at hbo;cases hbo).trans (hkb b o hbo)
 have he₂:=Heap.get?_push_of_some (h:=h₁) {cls:= .type "traceback",dict:=none,data:= .fields ([head,.ref L,.none,rawInt L,.none]++(if pl.isEmpty then List.replicate 6 Value.none else pl)).toArray} he₁
 have hTe:h₁.objs.size≠e:=Nat.ne_of_gt (Heap.lt_size he₁)
 have hd₃:=Obj.data_mapFields hd (·.setIfInBounds 1 (Value.ref h₁.objs.size))
 have he₃:=Heap.get?_update_self (Obj.mapFields (·.setIfInBounds 1 (Value.ref h₁.objs.size))) he₂ (Obj.isFreed_of_fields hd₃)
 refine wpAny_setField he₂ hd hsz (h _ ?_ ⟨_,_,he₃,(a7y _ _).trans hnd,hd₃,by rw[Array.getElem?_setIfInBounds_ne (by decide)];exact h2⟩)
 have hT₃:=(Heap.get?_update_other (h₁.push {cls:= .type "traceback",dict:=none,data:= .fields ([head,.ref L,.none,rawInt L,.none]++(if pl.isEmpty then List.replicate 6 Value.none else pl)).toArray})
   (Obj.mapFields (·.setIfInBounds 1 (Value.ref h₁.objs.size))) (Ne.symm hTe)).trans (Heap.get?_push_size h₁ rfl)
 have keep: ∀b o,b≠e->h₁.get? b=some o->
     ((h₁.push {cls:= .type "traceback",dict:=none,data:= .fields ([head,.ref L,.none,rawInt L,.none]++(if pl.isEmpty then List.replicate 6 Value.none else pl)).toArray}).update e (Obj.mapFields (·.setIfInBounds 1 (Value.ref h₁.objs.size)))).get? b=some o:=
   fun b o hbe hb=>by
     rw[Heap.get?_update_other _ _ (Ne.symm hbe)]
     exact Heap.get?_push_of_some _ hb
 have noRecord: ∀b o,s.heap.get? b=some o->(∀vs,o.data≠ .fields vs)->b≠e:=fun b o hb hnf q=>by
   rw[q,he]at hb;injection hb with hb;subst hb;exact hnf vs hd
 refine⟨fun b o hbo=>keep b o (fun q=>by rw[q,hen]at hbo;cases hbo) (kb₁ b o hbo),hl.of_keeps fun b o hb hnf=> ?_,?_,fun b o hb hnf=> ?_⟩
 . obtain⟨sl,hs⟩:=hs₁.2.2 b o hb
   exact⟨_,keep b _ (noRecord b o hb hnf) hs,rfl⟩
 . exact⟨_,_,h₁.objs.size,_,_,he₃,⟨Obj.cls_mapFields _ _,by rw[Array.getElem?_setIfInBounds_ne (by decide)];exact h0⟩,hd₃,by simp[hsz],kb₁.fresh,hTe,hT₃,rfl,by first | (simp;done) | (rcases hpl with rfl | ⟨_,_,_,_,_,_,_,rfl⟩<;>simp)⟩
 . obtain⟨sl,hs⟩:=hs₁.2.2 b o hb
   exact⟨sl,keep b _ (noRecord b o hb hnf) hs⟩
theorem b1h{Q:Unit->Shared->Prop}(hfr:A.frames=some (env::outer))(hf:env.frame=some L)(air:Air B (env::outer) a s.heap)(tr:Trc B a cls a0 m s.heap)(nd:NoD a s.heap)
   (hm:m=none\/m=some .none\/m=some (rawInt L))
   (hQ: ∀h',Air B (env::outer) a h'->h'.TracedAtW B a cls a0 (rawInt L)->NoD a h'->s.heap.UpToSlots h'->Q () {s with heap:=h'}):wpAny M A (noteFrame (.ref a) env) Q E s:=by
 obtain⟨ox,vx,hox,hdx,hvx,hv2⟩:=nd
 rcases hm with rfl |rfl |rfl
 . obtain⟨oe,vs,he,rfl,hd,h0,h1⟩:=tr
   rw[hox]at he;cases he
   have e2:=hd.symm.trans hvx
   injection e2 with e2
   subst e2
   unfold noteFrame
   simp only[hf]
   refine wpAny_bind (wpAny_field hox hd h1 ?_)
   rw[if_neg (by decide)]
   refine entryD hfr air.frm hf hox air.stay air.new hd (Array.getElem?_eq_some_iff.mp h1).1 h0 hdx hv2 fun h' hN hn=> ?_
   obtain⟨k1,k2,k3,k4⟩:=hN
   exact hQ h' ⟨k1,air.new,k2⟩ k3 hn k4
 . obtain⟨oe,vs,T,oT,ts,he,⟨hcls,h0⟩,hd,h1,hnT,hTe,hT,hdT,h3⟩:=tr
   rw[hox]at he;cases he
   have e2:=hd.symm.trans hvx
   injection e2 with e2
   subst e2
   subst hcls
   unfold noteFrame
   simp only[hf]
   refine wpAny_bind (wpAny_field hox hd h1 ?_)
   rw[if_pos (show(Value.ref T !=Value.none)=true from by simp)]
   refine wpAny_bind (wpAny_field hT hdT h3 ?_)
   rw[if_neg (show ¬ ((Value.none==rawInt L)=true)from by simp[rawInt])]
   refine wpAny_bind (wpAny_setField hT hdT (Array.getElem?_eq_some_iff.mp h3).1 ?_)
   have other: ∀b,b≠T->(s.heap.update T (Obj.mapFields (·.setIfInBounds 3 Value.none))).get? b=s.heap.get? b:=fun b hb=>Heap.get?_update_other _ _ (Ne.symm hb)
   have noRecord: ∀b o,s.heap.get? b=some o->(∀vs,o.data≠ .fields vs)->b≠T:=fun b o hb hnf q=>by
     rw[q,hT]at hb;injection hb with hb;subst hb;exact hnf ts hdT
   refine entryD hfr (air.frm.of_keeps fun b o hb hnf=>⟨o,(other b (noRecord b o hb hnf)).trans hb,rfl⟩) hf ((other a (Ne.symm hTe)).trans hox)
     (fun b o hbo=>(other b fun q=>by rw[q,hnT]at hbo;cases hbo).trans (air.stay b o hbo)) air.new hd (Array.getElem?_eq_some_iff.mp h1).1 h0 hdx hv2
     fun h' ⟨x1,x2,x3,x4⟩ hn=>hQ h' ⟨x1,air.new,x2⟩ x3 hn fun b o hb hnf=>x4 b o ((other b (noRecord b o hb hnf)).trans hb) hnf
 . refine wpAny_noteFrame_againW hf tr ?_
   exact hQ s.heap air tr ⟨ox,vx,hox,hdx,hvx,hv2⟩ (.refl _)
theorem a3r{f:Option Addr}{fl:Value}{Q:Unit->Shared->Prop}(air:Air B l a s.heap)(tr:s.heap.TracedAtW B a cls a0 fl)(nd:NoD a s.heap)
   (hQ: ∀h',Air B l a h'->h'.TracedAtW B a cls a0 (f.elim Value.none fun x=>rawInt x)->NoD a h'->s.heap.UpToSlots h'->Q () {s with heap:=h'}):wpAny M A (setFlight (.ref a) f) Q E s:=by
 obtain⟨oe,vs,T,oT,ts,he,hcls,hd,h1,hnT,hTe,hT,hdT,h3⟩:=tr
 obtain⟨ox,vx,hox,hdx,hvx,hv2⟩:=nd
 have hsz3:3<ts.size:=(Array.getElem?_eq_some_iff.mp h3).1
 have other: ∀b,b≠T->(s.heap.update T (Obj.mapFields (·.setIfInBounds 3 (f.elim Value.none fun x=>rawInt x)))).get? b=s.heap.get? b:=
   fun b hb=>Heap.get?_update_other _ _ (Ne.symm hb)
 have noRecord: ∀b o,s.heap.get? b=some o->(∀vs,o.data≠ .fields vs)->b≠T:=fun b o hb hnf q=>by
   rw[q,hT]at hb;injection hb with hb;subst hb;exact hnf ts hdT
 unfold setFlight
 refine wpAny_bind (wpAny_field he hd h1 ?_)
 rw[if_pos (show(Value.ref T !=Value.none)=true from by simp)]
 refine wpAny_setField hT hdT hsz3 (hQ _ ⟨fun b o hbo=>(other b fun q=>by rw[q,hnT]at hbo;cases hbo).trans (air.stay b o hbo),air.new,
   air.frm.of_keeps fun b o hb hnf=>⟨o,(other b (noRecord b o hb hnf)).trans hb,rfl⟩⟩ ?_ ⟨ox,vx,(other a (Ne.symm hTe)).trans hox,hdx,hvx,hv2⟩ fun b o hb hnf=>⟨o.slots,(other b (noRecord b o hb hnf)).trans hb⟩)
 exact⟨oe,vs,T,_,_,(other a (Ne.symm hTe)).trans he,hcls,hd,h1,hnT,hTe,Heap.get?_update_self _ hT (Obj.isFreed_of_fields (Obj.data_mapFields hdT _)),Obj.data_mapFields hdT _,by simp[hsz3]⟩
end
def Old(X:Cx)(H:Hp)(b:Addr):Prop:=
 H b≠none\/(∃o,X.s₀.heap.get? b=some o)\/(∃x,X.env.cells.lookup x=some b)\/(∃p∈X.pn,p.1=b)\/b=X.env.locals
def Cov(X:Cx)(H:Hp)(B h:Heap):Prop:= ∀b o,h.get? b=some o->Old X H b->b∉frs X.stack->B.get? b=some o
structure Exn(X:Cx)(H:Hp)(B:Heap)(a:Addr)(cls a0:Value)(m:Option Value)(h:Heap):Prop where
 air:Air B X.stack a h
 tr:Trc B a cls a0 m h
 md:m=none\/m=some .none\/m=some (rawInt X.env.locals)
 cov:Cov X H B h
 nd:NoD a h
structure Plain(X:Cx):Prop where
 stk:X.stack=X.env::X.outer
 frm:X.env.frame=some X.env.locals
 ex:X.ex=[]
noncomputable abbrev RX:=St->Hp->Value->Addr->Prop
def XS(X:Cx)(R:RX):Value->Shared->Prop:=fun e s'=>
 ∃a σ H B cls a0 m,e= .ref a/\Inv X [] σ H s'/\Exn X H B a cls a0 m s'.heap/\R σ H cls a
theorem ObjOk.get{P:Program}{w:World}{H:Hp}{h:Heap}{a:Addr}{o:HO}(x:ObjOk P w H h a o): ∃ob,h.get? a=some ob:=by
 cases o with
 |lst xs=>obtain⟨_,_,_,_,e⟩:=x;exact⟨_,e⟩
 |tup xs=>obtain⟨_,_,_,o,e,_⟩:=x;exact⟨_,e⟩
 |dK kvs=>obtain⟨_,_,_,_,o,_,_,e,_⟩:=x;exact⟨_,e⟩
 |dT kvs=>obtain⟨_,_,_,_,o,_,_,e,_⟩:=x;exact⟨_,e⟩
 |set S n=>obtain⟨o,_,_,_,e,_⟩:=x;exact⟨_,e⟩
 |ins C dx fs=>obtain⟨_,_,_,e,_⟩:=x;exact⟨_,e⟩
 |own y=>exact x
 |xd fs=>obtain⟨_,⟨_,_,_,e,_⟩,_⟩:=x;exact⟨_,e⟩
 |rng lo hi=>obtain⟨_,_,_,e⟩:=x;exact⟨_,e⟩
 |frz ob u=>obtain⟨e,_⟩:=x;exact⟨_,e⟩
 |tbl ps=>exact⟨_,(show h.get? a=some _ from x)⟩
 |met f y=>exact⟨_,(show h.get? a=some _ from x)⟩
 |ext φ=>exact x.2.1
section
variable {X:Cx}{σ:St}{H:Hp}{s:Shared}{B h':Heap}
theorem Inv.old(P:Plain X){pins:List (Addr×Obj)}(I:Inv X pins σ H s){b:Addr}(o:Old X H b): ∃ob,s.heap.get? b=some ob:=by
 rcases o with o | ⟨ob,e⟩ | ⟨x,e⟩ | ⟨p,hp,rfl⟩ |rfl
 . cases q:H b with
   |none=>exact absurd q o
   |some u=>exact(I.hok b u q).get
 . exact I.base.there b ob e (by rw[P.ex];simp)
 . obtain⟨v,ob,e,_⟩:=I.cell x b e
   exact⟨ob,e⟩
 . exact⟨_,(I.pin p (List.mem_append_left _ hp)).1⟩
 . obtain⟨m,⟨o,_,_,e,_⟩,_⟩:=I.loc
   exact⟨o,e⟩
theorem Inv.redo(I:Inv X [] σ H s)(cov:Cov X H B s.heap)(frm:s.heap.FunFrames B X.stack)(st:B.StaysIn h')(up:s.heap.UpToSlots h'):Inv X [] σ H {s with heap:=h'}:=by
 have kp: ∀b o,s.heap.get? b=some o->Old X H b->b∉frs X.stack->h'.get? b=some o:=fun b o e q n=>st _ _ (cov b o e q n)
 have sl: ∀b o,s.heap.get? b=some o->b∈frs X.stack-> ∃sl,h'.get? b=some {o with slots:=sl}:=fun b o e n=>by
   obtain⟨_,o',e',hd⟩:=frm.mem n
   rw[e]at e';cases e'
   exact up b o e hd
 have any: ∀b o,s.heap.get? b=some o->Old X H b-> ∃sl,h'.get? b=some {o with slots:=sl}:=fun b o e q=>by
   by_cases n:b∈frs X.stack
   . exact sl b o e n
   . exact⟨o.slots,kp b o e q n⟩
 have cellK: ∀x c,X.env.cells.lookup x=some c-> ∀v,s.heap.IsCell c v->h'.IsCell c v:=fun x c e v ⟨o,ho,hd⟩=>by
   obtain⟨sl,q⟩:=any c o ho (.inr (.inr (.inl ⟨x,e⟩)))
   exact⟨_,q,hd⟩
 refine⟨I.ok,I.os,I.bare,⟨fun b o e n hb hx=> ?_,fun b o e n hb hx=> ?_,I.base.free,fun b o e hx=> ?_,I.base.tups,I.base.frzs,I.base.tbls⟩,?_,fun x c e=> ?_,I.free,I.freeC,fun p hp=> ?_,fun b u q=> ?_,I.len⟩
 . refine kp b o (I.base.keep b o e n hb hx) (.inr (.inl ⟨o,e⟩)) fun z=> ?_
   rcases List.mem_cons.mp (I.stkSub b z)with q |q
   . exact absurd q (Nat.ne_of_lt (Nat.lt_of_lt_of_le (Heap.lt_size e) I.ok.above))
   . exact hb q
 . obtain⟨s1,e1⟩:=I.base.slot b o e n hb hx
   obtain⟨s2,e2⟩:=any b _ e1 (.inr (.inl ⟨o,e⟩))
   exact⟨s2,e2⟩
 . obtain⟨o',e1⟩:=I.base.there b o e hx
   obtain⟨s2,e2⟩:=any b _ e1 (.inr (.inl ⟨o,e⟩))
   exact⟨_,e2⟩
 . obtain⟨m,hn,hl⟩:=I.loc
   refine⟨m,up.ns hn,fun i x v e1 e2 e3=> ?_⟩
   obtain⟨u,r,l⟩:=hl i x v e1 e2 e3
   refine⟨u,r,?_⟩
   rcases l with l | ⟨k,c,e,z⟩
   . exact .inl l
   . exact .inr ⟨k,c,e,cellK x c e _ z⟩
 . obtain⟨v,z⟩:=I.cell x c e
   exact⟨v,cellK x c e v z⟩
 . have hp':p∈X.pn:=by simpa using hp
   obtain⟨e,n,ne,nf,d⟩:=I.pin p hp
   refine⟨kp p.1 p.2 e (.inr (.inr (.inr (.inl ⟨p,hp',rfl⟩)))) fun z=> ?_,n,ne,nf,d⟩
   rcases List.mem_cons.mp (I.stkSub _ z)with q |q
   . exact ne q
   . exact nf q
 . have hnn: ∀c u,H c=some u->c∉frs X.stack:=fun c u e z=>by
     rw[I.stkFree c z]at e;cases e
   refine(I.hok b u q).stay (fun c v hc r=> ?_) (fun _ r=>r) fun _ _ r=>r
   rcases hc with rfl |hc
   . exact kp c v r (.inl (by rw[q];simp)) (hnn c _ q)
   . exact kp c v r (.inl (by rw[hc];simp)) (hnn c _ hc)
theorem Cov.redo(P:Plain X)(I:Inv X [] σ H s)(cov:Cov X H B s.heap)(st:B.StaysIn h'):Cov X H B h':=fun b o e q n=>by
 obtain⟨ob,e0⟩:=I.old P q
 have e1:=cov b ob e0 q n
 have e2:=st _ _ e1
 rw[e]at e2
 cases e2
 exact e1
end
section
variable {X:Cx}{R:RX}
def Thr(X:Cx)(R:RX):Prop:= ∀e s',XS X R e s'->X.xe e s'
theorem Plain.wish(P:Plain X)(E:Value->Shared->Prop):Plain (X.wish E):=⟨P.stk,P.frm,P.ex⟩
theorem XS.unwish{E:Value->Shared->Prop}{e:Value}{s':Shared}(h:XS (X.wish E) R e s'):XS X R e s':=by
 obtain⟨a,σ,H,B,cls,a0,m,rfl,I,ex,r⟩:=h
 exact⟨a,σ,H,B,cls,a0,m,rfl,I.unwish,⟨ex.air,ex.tr,ex.md,ex.cov,ex.nd⟩,r⟩
theorem b2c:Thr (X.wish (XS X R)) R:=fun e s' h=>h.unwish
theorem a9w(P:Plain X)(ok:X.A.frames=some X.stack):PassesOwn (model X.prog X.w) X.A X.env (XS X R):=by
 rintro e s' ⟨a,σ,H,B,cls,a0,m,rfl,I,ex,r⟩
 have hfr:X.A.frames=some (X.env::X.outer):=by rw[ok,P.stk]
 have air:Air B (X.env::X.outer) a s'.heap:=by have:=ex.air;rw[P.stk]at this;exact this
 unfold notedBy
 refine b1h hfr P.frm air ex.tr ex.nd ex.md fun h1 air1 tr1 nd1 up1=> ?_
 have air1':Air B X.stack a h1:=by rw[P.stk];exact air1
 have I1:Inv X [] σ H {s' with heap:=h1}:=I.redo ex.cov ex.air.frm air1.stay up1
 have cov1:Cov X H B h1:=Cov.redo P I ex.cov air1.stay
 unfold cameBackBy
 obtain⟨oe,vs,T,oT,ts,he,hcls,hd,hv1,_⟩:=id tr1
 refine wpAny_bind (wpAny_field (s:={s' with heap:=h1}) he hd hv1 ?_)
 rw[if_neg (show ¬ ((Value.ref T==Value.none)=true)from by simp)]
 rw[P.frm]
 have key:wpAny (model X.prog X.w) X.A (setFlight (.ref a) (some X.env.locals)) (fun _ s''=>XS X R (.ref a) s'') (XS X R) {s' with heap:=h1}:=
   a3r (s:={s' with heap:=h1}) (f:=some X.env.locals) air1' tr1 nd1 fun h2 air2 tr2 nd2 up2=>
     ⟨a,σ,H,B,cls,a0,some (rawInt X.env.locals),rfl,I1.redo cov1 air1'.frm air2.stay up2,⟨air2,tr2,.inr (.inr rfl),Cov.redo P I1 cov1 air2.stay,nd2⟩,r⟩
 first
   |exact wpAny_bind (wpAny_pure key)
   |exact key
end
noncomputable def CXE(P:Program)(w:World):CXT:=fun outer H s E e s'=> ∃a H' B cls a0,e= .ref a/\s'.os=s.os/\AllBare s'.gens/\Un (frs outer) [] H H' s.heap s'.heap/\HOk P w H' s'.heap/\
 Air B outer a s'.heap/\s'.heap.TracedAtW B a cls a0 .none/\NoD a s'.heap/\(∀b o,s'.heap.get? b=some o->(H' b≠none\/ ∃o0,s.heap.get? b=some o0)->b∉frs outer->B.get? b=some o)/\E cls none H'
section
variable {X:Cx}{R:RX}{pins:List (Addr×Obj)}{σ:St}{H:Hp}{s s':Shared}{e:Value}{E:XK}
theorem XS.of_call(P:Plain X)(I:Inv X pins σ H s)(h:CXE X.prog X.w X.stack H s E e s')(hE: ∀cls H' a,E cls none H'->R σ H' cls a):XS X R e s':=by
 obtain⟨a,H',B,cls,a0,rfl,os,bare,un,hok,air,tr,nd,cov,q⟩:=h
 have I2:Inv X pins σ H' s':=I.call' os un hok bare fun b z=>absurd z (by simp)
 refine⟨a,σ,H',B,cls,a0,some .none,rfl,I2.pins_of (fun p hp=>absurd hp (by simp)),⟨air,tr,.inr (.inl rfl),fun b o e0 q0 n=>cov b o e0 ?_ n,nd⟩,hE _ _ _ q⟩
 rcases q0 with q0 |q0
 . exact .inl q0
 . right
   rcases q0 with⟨ob,e⟩ | ⟨x,e⟩ | ⟨p,hp,rfl⟩ |rfl
   . exact I.base.there b ob e (by rw[P.ex];simp)
   . obtain⟨v,ob,e,_⟩:=I.cell x b e
     exact⟨ob,e⟩
   . exact⟨_,(I.pin p (List.mem_append_left _ hp)).1⟩
   . obtain⟨m,⟨o,_,_,e,_⟩,_⟩:=I.loc
     exact⟨o,e⟩
theorem Thr.call(T:Thr X R)(P:Plain X)(I:Inv X pins σ H s)(h:CXE X.prog X.w X.stack H s (fun cls _ H'=> ∀a,R σ H' cls a) e s'):X.xe e s':=
 T e s' (XS.of_call P I h fun cls H' a q=>q a)
end
theorem plain_cx{CX:CXT}{P:Program}{w:World}{K:PySem.W.Frag}{mg:Str->Option Value}{base:Heap}{N:List Str}{qual:Str}{scope:Scope}{f:Addr}{cd:Value}{A:Around}{outer:List Env}{s:Shared}{H:Hp}{E:XK}:
   Plain (cxOf CX P w K mg base N qual scope f cd A outer s H E):=⟨rfl,rfl,rfl⟩
theorem b3b{P:Program}{w:World}{K:PySem.W.Frag}{mg:Str->Option Value}{base:Heap}{N:List Str}{qual:Str}{scope:Scope}{f:Addr}{cd:Value}{A:Around}{outer:List Env}{s:Shared}{H:Hp}{E:XK}:
   Thr (cxOf (CXE P w) P w K mg base N qual scope f cd A outer s H E) (fun _ H' cls _=>E cls none H'):=by
 rintro e s' ⟨a,σ,H',B,cls,a0,m,rfl,I,ex,r⟩
 have hfr:(A.deeper (envOfC qual scope s.heap.objs.size f cd)).frames=some (envOfC qual scope s.heap.objs.size f cd::outer):=I.ok.frames
 show wpAny (model P w) (A.deeper (envOfC qual scope s.heap.objs.size f cd)) (leaving (envOfC qual scope s.heap.objs.size f cd) (.ref a)) (fun _ s''=>CXE P w outer H s E (.ref a) s'') (fun e' s''=>CXE P w outer H s E e' s'') s'
 unfold leaving
 refine wpAny_bind (b1h (L:=s.heap.objs.size) hfr rfl ex.air ex.tr ex.nd ex.md fun h1 air1 tr1 nd1 up1=> ?_)
 have I1:Inv (cxOf (CXE P w) P w K mg base N qual scope f cd A outer s H E) [] σ H' {s' with heap:=h1}:=I.redo ex.cov ex.air.frm air1.stay up1
 have cov1:=Cov.redo plain_cx I ex.cov air1.stay
 refine a3r (s:={s' with heap:=h1}) (f:=none) air1 tr1 nd1 fun h2 air2 tr2 nd2 up2=> ?_
 have I2:Inv (cxOf (CXE P w) P w K mg base N qual scope f cd A outer s H E) [] σ H' {s' with heap:=h2}:=I1.redo cov1 air1.frm air2.stay up2
 have cov2:=Cov.redo plain_cx I1 cov1 air2.stay
 refine⟨a,H',B,cls,a0,rfl,I2.os,I2.bare,I2.base,I2.hok,⟨air2.stay,air2.new,?_⟩,tr2,nd2,fun b o e0 q0 n=> ?_,r⟩
 . obtain⟨_,_,k⟩:=air2.frm
   exact k
 . refine cov2 b o e0 ?_ fun z=> ?_
   . rcases q0 with q0 |q0
     . exact .inl q0
     . exact .inr (.inl q0)
   . rcases List.mem_cons.mp (I2.stkSub b z)with q |q
     . subst q
       rcases q0 with q0 | ⟨o0,q0⟩
       . exact q0 I2.free
       . exact absurd (Nat.lt_of_lt_of_le (Heap.lt_size q0) I2.ok.above) (Nat.lt_irrefl _)
     . exact n q
noncomputable abbrev Cx.by(X:Cx)(R:RX):Cx:=X.wish (XS X R)
theorem PSs.unthr{X:Cx}{R:RX}{st:List Stmt}{t:TS}(T:Thr X R)(h:PSs (X.by R) st t):PSs X st t:=fun pins s σ H D I hw=>
 wpAny_mono (h pins s σ H D (I.wish _) hw) (fun _ _ q=>q.unwish) fun e s' q=>T e s' q
abbrev rE(E:XK):RX:=fun _ H' cls _=>E cls none H'
theorem Fun.okX{P:Program}{w:World}{K:PySem.W.Frag}{mg:Str->Option Value}{base:Heap}{x qual:Str}{st:Stmt}{f:Addr}{fd:FuncData}{N ps:List Str}{k:Nat}{sp:Sp}(F:Fun K x qual st f fd)(S:FnScope N ps (a0d st))(len: ∀vs H Q E,sp vs H Q E->vs.length=ps.length)
   (hbody: ∀(cdv:Value) (A:Around) (outer:List Env) (s:Shared) (H:Hp) (vs:List V) (Q:VK) (E:XK),Room k (A.deeper (envOfC qual (a0d st) s.heap.objs.size f cdv))->sp vs H Q E->
     ∃t,PSs ((cxOf (CXE P w) P w K mg base N qual (a0d st) f cdv A outer s H E).by (rE E)) (a0y st) t/\t {nx:=fun _ H'=>Q .non H',rt:=Q} (start N vs) H):FnOk P w K mg base (CXE P w) (k+1) f fd ps sp:=by
 obtain⟨oc,od,kV,doc,pm,an,cdv,ct,osl,rfl,lk,hcd⟩:=F.ex
 refine fn_of lk hcd S len fun A outer s H vs Q E hr hsp=> ?_
 obtain⟨t,h,q⟩:=hbody cdv A outer s H vs Q E hr hsp
 exact⟨t,h.unthr b3b,q⟩
section
variable {X:Cx}{k:Nat}{f C:Addr}{fd:FuncData}{ps:List Str}{sp:Sp}{R:RX}{x m:Str}{p pos apos:Pos}{e o:Expr}{es:List Expr}{ta:TE}{t:TA}
theorem b07{pins:List (Addr×Obj)}{σ:St}{H:Hp}{s:Shared}{Q:VK}{us:List Value}{vs:List V}(F:FnOk X.prog X.w X.K X.mg X.base (CXE X.prog X.w) k f fd ps sp)(hr:Room k X.A)(hb:Binds X.K fd ps [])(T:Thr X R)(Pl:Plain X)
   (I:Inv X pins σ H s) (r:Vals vs us) (h:sp vs H Q (fun cls _ H'=> ∀a,R σ H' cls a)):wpAny (model X.prog X.w) X.A (call (.ref f) us) (EP X pins σ Q) X.xe s:=by
 have hl:us.length=ps.length:=by rw[<-r.length];exact F.len _ _ _ _ h
 have hb':=hb s us I.kIn (by rw[List.append_nil];exact hl)
 rw[List.append_nil]at hb'
 refine wpAny_call (codeAny_mono (F.run X.A X.stack s H ⟨us,[]⟩ us vs Q _ hr I.env0 hb' r h) fun r s' hq=> ?_)
 cases r with
 |error e=>exact T.call Pl I hq
 |ok fl=>
   cases fl with
   |ret u=>exact I.after hq
   |next=>exact False.elim hq
   |brk=>exact False.elim hq
   |cont=>exact False.elim hq
def tCallX(sp:Sp)(R:RX)(t:TA):TE:=fun σ H Q=>t σ H fun vs H1=>sp vs H1 Q (fun cls _ H'=> ∀a,R σ H' cls a)
def tMethX(C:Addr)(m:Str)(sp:Sp)(R:RX)(ta:TE)(t:TA):TE:=fun σ H Q=>ta σ H fun x H1=> ∃a dx fs,x= .ref a/\H1 a=some (.ins C dx fs)/\fs.lookup m=none/\
 t σ H1 fun vs H2=>sp (x::vs) H2 Q (fun cls _ H'=> ∀a,R σ H' cls a)
theorem b8t(h:Has X.prog X.w X.K X.mg X.base (CXE X.prog X.w) k x ps sp)(hr:Room k X.A)(hg:Gl X x)(T:Thr X R)(Pl:Plain X)(ha:PA X (e::es) t)
   (hdb:(x==("__debug__":Str))=false:=by decide) (he:starEach (e::es) X.env=(false,eval e X.env)::starEach es X.env:=by rfl) (hpl:(backTo pos (starEach es X.env)).any (·.1)=false:=by rfl):
   PE X (.Call (.Name x p) (e::es) [] pos) (tCallX sp R t):=by
 intro pins s σ H Q I hw
 obtain⟨f,fd,F,hm,hk,hb⟩:=h.ex
 refine wpAny_Call_Name_kw (a5l I hg hm ?_ hdb)
 refine PySem.W.callWith_K (h₀:=X.base) I.ok.mod.kin hk (thn (ha pos pins s σ H _ I hw) fun us s1 ⟨vs,H1,I1,r,q⟩=>⟨I1.kIn,?_⟩) he hpl
 exact b07 F hr hb T Pl I1 r q
structure HasM(P:Program)(w:World)(K:PySem.W.Frag)(mg:Str->Option Value)(base:Heap)(CX:CXT)(k:Nat)(C:Addr)(m:Str)(ps:List Str)(sp:Sp):Prop where
 cl:Cls K C
 ex: ∃f fd,FnOk P w K mg base CX k f fd ps sp/\Meth K C m f/\Binds K fd ps []
theorem b8p{pl:Sem Bool}(h:HasM X.prog X.w X.K X.mg X.base (CXE X.prog X.w) k C m ps sp)(hr:Room k X.A)(T:Thr X R)(Pl:Plain X)(ho:PE X o ta)(ha:PA X (e::es) t)
   (hst:starEach (e::es) X.env=(false,eval e X.env)::starEach es X.env:=by rfl) (hpl:(backTo pos (starEach es X.env)).any (·.1)=false:=by rfl)
   (ht:eval (.Call (.Attribute o m apos) (e::es) [] pos) X.env=(do
     let ov <-eval o X.env
     standAt apos.atName
     let (f,first) <-holding [ov] (getMethod ov m pl)
     callWith pos f first (backTo pos (starEach (e::es) X.env)) (backToKw pos (keywordEach [] X.env))):=by rfl):
   PE X (.Call (.Attribute o m apos) (e::es) [] pos) (tMethX C m sp R ta t):=by
 intro pins s σ H Q I hw
 obtain⟨f,fd,F,hm,hb⟩:=h.ex
 refine PySem.W.methodCall_KW (pl:=pl) (thn (ho pins s σ H _ I hw) fun u s1 ⟨x,H1,I1,rx,a,dx,fs,ex,ea,l,q⟩=> ?_) ht
 subst ex
 obtain rfl:u=Value.ref a:=rx
 refine a8b I1 ea h.cl hm l ?_
 refine PySem.W.callWith_K (first:=[.ref a]) (h₀:=X.base) I.ok.mod.kin hm.kp (thn (ha pos pins s1 σ H1 _ I1 q) fun us s2 ⟨vs,H2,I2,r,q2⟩=>⟨I2.kIn,?_⟩) hst hpl
 exact b07 (us:= .ref a::us) (vs:= .ref a::vs) F hr hb T Pl I2 (.cons rfl r) q2
end
abbrev bmV:List Value:=[.type "ValueError",.type "Exception",.type "BaseException",.type "object"]
structure ExCls(K:PySem.W.Frag)(mg:Str->Option Value)(x:Str)(C:Addr):Prop where
 bound:mg x=some (.ref C)
 exc:PySem.W.excIn K C bmV "ValueError.__new__"=true
theorem ExCls.obj{K:PySem.W.Frag}{mg:Str->Option Value}{x:Str}{C:Addr}(O:ExCls K mg x C){h:Heap}(X:K.In h):
   ∃bm N nm q bs hdct sn sub ab col dd k0 k1 k2 k3 k5 mN,h.get? C=some (excClassObj nm q C N bs bm hdct sn sub ab col dd k0 k1 k2 k3 k5 "ValueError.__new__")/\h.Ns N mN/\mN "__init__"=none/\OwnTail h bmV bm:=by
 have q:=O.exc
 unfold PySem.W.excIn at q
 split at q
 . rename_i dd cd sl ho
   split at q
   . rename_i C' bm k0 k1 k2 k3 n k5 hm hs
     simp only[Bool.and_eq_true,beq_iff_eq,Bool.not_eq_true']at q
     obtain⟨⟨⟨⟨⟨rfl,rfl⟩,hdel⟩,ht⟩,hok⟩,hni⟩:=q
     obtain⟨nm,bs,mro,ns,qn,hd,sn,sub,ab,col,del⟩:=cd
     dsimp only at hm hdel hok hni
     subst hm hdel
     have hsl:sl= #[k0,k1,k2,k3,some (.builtin "ValueError.__new__"),k5]:=by
       obtain⟨l⟩:=sl
       simp only at hs
       rw[hs]
     subst hsl
     exact⟨bm,ns,nm,qn,bs,hd,sn,sub,ab,col,dd,k0,k1,k2,k3,k5,_,X _ _ ho,.of_isNs (PySem.W.isNs_of_in X hok),PySem.W.nsMap_none_of_in X hok hni,PySem.W.tail_of_in X ht⟩
   . cases q
 . cases q
section
variable {X:Cx}{R:RX}{x:Str}{C:Addr}{np cpos pos:Pos}{e:Expr}{es:List Expr}{t:TA}
theorem XS.made(Pl:Plain X){pins:List (Addr×Obj)}{σ:St}{H:Hp}{s:Shared}{h':Heap}{a:Addr}{us:List Value}(I:Inv X pins σ H s)(hx:Heap.MadeExcOf s.heap h' a (.ref C) us)(r:R σ H (.ref C) a):XS X R (.ref a) {s with heap:=h'}:=by
 obtain⟨tt,he,htn,htt⟩:=hx.there
 have I1:Inv X [] σ H {s with heap:=h'}:=(I.kept (t':=s.toks) hx.keeps).pins_of fun p hp=>absurd hp (by simp)
 refine⟨a,σ,H,PySem.W.hideAll s.heap (frs X.stack),.ref C,.ref tt,none,rfl,I1,⟨⟨fun b o q=>hx.keeps _ _ (PySem.W.of_hideAll _ q),?_,?_⟩,⟨_,_,he,rfl,rfl,rfl,rfl⟩,.inl rfl,fun b o q old n=> ?_,⟨_,_,he,rfl,rfl,rfl⟩⟩,r⟩
 . cases q:(PySem.W.hideAll s.heap (frs X.stack)).get? a with
   |none=>rfl
   |some o=>
     have:=PySem.W.of_hideAll _ q
     rw[hx.new]at this;cases this
 . refine Heap.FunFrames.of_keeps (fun b o q _=>⟨o,hx.keeps b o q,rfl⟩) (PySem.W.funFrames_hide I.stack fun env he a ha=> ?_)
   exact List.mem_filterMap.mpr ⟨env,he,ha⟩
 . obtain⟨ob,e0⟩:=I.old Pl old
   have e1:=hx.keeps _ _ e0
   rw[q]at e1;cases e1
   exact PySem.W.hideAll_get _ e0 n
noncomputable def tRaise(R:RX)(C:Addr)(t:TA):TS:=fun _ σ H=>t σ H fun vs H1=>vs.length<=sizeLine/\ ∀a,R σ H1 (.ref C) a
theorem b8l(T:Thr X R)(Pl:Plain X)(O:ExCls X.K X.mg x C)(hc:X.calm=true)(hg:Gl X x)(ha:PA X (e::es) t)
   (hd:(x==("__debug__":Str))=false:=by decide) (he:starEach (e::es) X.env=(false,eval e X.env)::starEach es X.env:=by rfl) (hpl:(backTo cpos (starEach es X.env)).any (·.1)=false:=by rfl):
   PS X (.Raise (some (.Call (.Name x np) (e::es) [] cpos)) none pos) (tRaise R C t):=by
 intro pins s σ H D I hw
 obtain⟨tl,N,nm,q,bs,hdct,sn,sub,ab,col,dd,k0,k1,k2,k3,k5,mN,hC,hN,hni,Tl⟩:=O.obj I.ok.mod.kin
 refine wpAny_Raise_call_subT (C:=C) (nm:=nm) (q:=q) (N:=N) (bs:=bs) (bm:=tl) (hdct:=hdct) (sn:=sn) (sub:=sub) (ab:=ab) (col:=col) (dd:=dd) (k0:=k0) (k1:=k1) (k2:=k2) (k3:=k3) (k5:=k5)
   PySem.F.excBase_ValueError (mN:=mN) (Tl.hasType PySem.F.excBase_ValueError.hasBase) (I.ok.hd hc) (by rw[he];show(false||(backTo cpos (starEach es X.env)).any (·.1))=false;rw[hpl];rfl) hni (a5l I hg O.bound ⟨rfl,?_⟩ hd)
 rw[he]
 have h2:=ha cpos pins s σ H _ I hw
 rw[he]at h2
 refine Calls.evalArgs_plain (wpAny_mono h2 (fun us s2 ⟨vs,H2,I2,r2,z2,q2⟩=>⟨rfl,by rw[<-r2.length];exact z2,I2.bk _ _ hC,hN.keeps I2.bk,Tl.keeps I2.bk,fun h' a hx=> ?_⟩) fun _ _ y=>y)
 exact T _ _ (XS.made Pl I2 hx (q2 a))
end
noncomputable abbrev Cx.pin(X:Cx)(pn:List (Addr×Obj)):Cx:={X with pn:=pn}
section
variable {X:Cx}{pins:List (Addr×Obj)}{σ:St}{H:Hp}{s:Shared}
theorem Cx.Ok.pin(ok:X.Ok)(pn:List (Addr×Obj)):(X.pin pn).Ok:=
 ⟨ok.mod,ok.kind,ok.glob,ok.blt,ok.above,ok.inj,ok.has,ok.cab,ok.hd,ok.frames,ok.stk,ok.exf,ok.bs,ok.bsz,ok.noex,ok.exfs,ok.funs,ok.frf⟩
theorem Cx.Ok.unpin{pn:List (Addr×Obj)}(ok:(X.pin pn).Ok):X.Ok:=
 ⟨ok.mod,ok.kind,ok.glob,ok.blt,ok.above,ok.inj,ok.has,ok.cab,ok.hd,ok.frames,ok.stk,ok.exf,ok.bs,ok.bsz,ok.noex,ok.exfs,ok.funs,ok.frf⟩
theorem Inv.topin(I:Inv X pins σ H s):Inv (X.pin (X.pn++pins)) [] σ H s:=
 ⟨I.ok.pin _,I.os,I.bare,I.base,I.loc,I.cell,I.free,I.freeC,fun p hp=>I.pin p (by simpa using hp),I.hok,I.len⟩
theorem Inv.ofpin(I:Inv (X.pin (X.pn++pins)) [] σ H s):Inv X pins σ H s:=
 ⟨I.ok.unpin,I.os,I.bare,I.base,I.loc,I.cell,I.free,I.freeC,fun p hp=>I.pin p (by simpa using hp),I.hok,I.len⟩
theorem SP.ofpin{D:Ends}{f:Flow}{s':Shared}(h:SP (X.pin (X.pn++pins)) [] D f s'):SP X pins D f s':=by
 cases f with
 |next=>obtain⟨σ',H',I,q⟩:=h;exact⟨σ',H',I.ofpin,q⟩
 |brk=>obtain⟨σ',H',I,q⟩:=h;exact⟨σ',H',I.ofpin,q⟩
 |cont=>obtain⟨σ',H',I,q⟩:=h;exact⟨σ',H',I.ofpin,q⟩
 |ret u=>obtain⟨v,σ',H',I,r,q⟩:=h;exact⟨v,σ',H',I.ofpin,r,q⟩
theorem Plain.pin(P:Plain X)(pn:List (Addr×Obj)):Plain (X.pin pn):=⟨P.stk,P.frm,P.ex⟩
end
noncomputable abbrev TH:=Ends->Value->Addr->St->Hp->Prop
def PH(X:Cx)(hs:List ExceptHandler)(t:TH):Prop:=
 ∀(s:Shared) (σ:St) (H:Hp) (D:Ends) (B:Heap) (a:Addr) (cls a0:Value),Inv X [] σ H s->Exn X H B a cls a0 (some .none) s.heap->t D cls a σ H->
   wpAny (model X.prog X.w) X.A (handleBy (.ref a) X.env hs) (SP X [] D) X.xe s
noncomputable def tTry(tb:RX->TS)(th:TH)(to:TS):TS:=fun D σ H=>tb (fun σ' H' cls a=>th D cls a σ' H') {D with nx:=to D} σ H
theorem ps_try{X:Cx}{body orelse:List Stmt}{h₀:ExceptHandler}{hs:List ExceptHandler}{pos:Pos}{tb:RX->TS}{th:TH}{to:TS}(Pl:Plain X)
   (hb: ∀pn R,PSs ((X.pin pn).by R) body (tb R)) (hh: ∀pn,PH (X.pin pn) (h₀::hs) th) (ho:PSs X orelse to):PS X (.Try body (h₀::hs) orelse [] pos) (tTry tb th to):=by
 intro pins s σ H D I hw
 refine wpAny_Try_except (wpAny_mono (hb (X.pn++pins) _ [] s σ H _ (I.topin.wish _) hw) (fun f s1 q=> ?_) (fun e s1 hx=> ?_))
 . have q':SP X pins {D with nx:=to D} f s1:=SP.ofpin (SP.unwish q)
   cases f with
   |next=>
     obtain⟨σ',H',I1,q1⟩:=q'
     exact ho pins s1 σ' H' D I1 q1
   |brk=>exact q'
   |cont=>exact q'
   |ret u=>exact q'
 . obtain⟨a,σ1,H1,B,cls,a0,m,rfl,I1,ex,r⟩:=hx
   have hfr:X.A.frames=some (X.env::X.outer):=by rw[I.ok.frames,Pl.stk]
   have air:Air B (X.env::X.outer) a s1.heap:=by have:=ex.air;rw[show(X.pin (X.pn++pins)).stack=X.env::X.outer from Pl.stk]at this;exact this
   refine b1h hfr Pl.frm air ex.tr ex.nd ex.md fun h1 air1 tr1 nd1 up1=> ?_
   have I2:Inv (X.pin (X.pn++pins)) [] σ1 H1 {s1 with heap:=h1}:=I1.redo ex.cov ex.air.frm air1.stay up1
   have cov2:=Cov.redo (Pl.pin _) I1 ex.cov air1.stay
   have air1':Air B (X.pin (X.pn++pins)).stack a h1:=by rw[show(X.pin (X.pn++pins)).stack=X.env::X.outer from Pl.stk];exact air1
   refine a3r (s:={s1 with heap:=h1}) (f:=none) air1' tr1 nd1 fun h2 air2 tr2 nd2 up2=> ?_
   have I3:Inv (X.pin (X.pn++pins)) [] σ1 H1 {s1 with heap:=h2}:=I2.redo cov2 air1'.frm air2.stay up2
   have cov3:=Cov.redo (Pl.pin _) I2 cov2 air2.stay
   exact wpAny_mono (hh (X.pn++pins) {s1 with heap:=h2} σ1 H1 D B a cls a0 I3 ⟨air2,tr2,.inr (.inl rfl),cov3,nd2⟩ r) (fun f s4 q=>q.ofpin) fun _ _ q=>q
section
variable {X:Cx}{R:RX}
theorem ph_nil(T:Thr X R)(Pl:Plain X):PH X [] (fun _ cls a σ H=>R σ H cls a):=by
 intro s σ H D B a cls a0 I ex r
 obtain⟨oe,vs,Tb,oT,ts,he,hcls,hd,hv1,_⟩:=id ex.tr
 refine wpAny_handleBy_nil ?_
 unfold PySem.passOn
 refine wpAny_bind (wpAny_field he hd hv1 ?_)
 rw[if_neg (show ¬ ((Value.ref Tb==Value.none)=true)from by simp)]
 rw[Pl.frm]
 have key:wpAny (model X.prog X.w) X.A (do setFlight (.ref a) (some X.env.locals);throw (.ref a)) (SP X [] D) X.xe s:=
   wpAny_bind (a3r (f:=some X.env.locals) ex.air ex.tr ex.nd fun h2 air2 tr2 nd2 up2=>wpAny_throw (T _ _ ⟨a,σ,H,B,cls,a0,some (rawInt X.env.locals),rfl,I.redo ex.cov ex.air.frm air2.stay up2,⟨air2,tr2,.inr (.inr rfl),Cov.redo Pl I ex.cov air2.stay,nd2⟩,r⟩))
 first
   |exact wpAny_bind (wpAny_pure key)
   |exact key
def excφ(a:Addr)(cls:Value):Heap->Prop:=fun h=> ∃o vs,h.get? a=some o/\o.cls=cls/\o.dict=none/\o.data= .fields vs/\vs[2]? =some .none
end
noncomputable abbrev Cx.hand(X:Cx)(a:Addr):Cx:={X with A:=X.A.mark (some (.ref a)),calm:=false,xe:=fun _ _=>False}
section
variable {X:Cx}{pins:List (Addr×Obj)}{σ:St}{H:Hp}{s:Shared}
theorem Cx.Ok.hand(ok:X.Ok)(a:Addr):(X.hand a).Ok:=
 ⟨ok.mod,ok.kind,ok.glob,ok.blt,ok.above,ok.inj,ok.has,ok.cab,fun z=>absurd z (by simp),ok.frames,ok.stk,ok.exf,ok.bs,ok.bsz,ok.noex,ok.exfs,ok.funs,ok.frf⟩
theorem Inv.hand(I:Inv X pins σ H s)(a:Addr):Inv (X.hand a) pins σ H s:=
 ⟨I.ok.hand a,I.os,I.bare,I.base,I.loc,I.cell,I.free,I.freeC,I.pin,I.hok,I.len⟩
theorem Inv.unhand{a:Addr}(ok:X.Ok)(I:Inv (X.hand a) pins σ H s):Inv X pins σ H s:=
 ⟨ok,I.os,I.bare,I.base,I.loc,I.cell,I.free,I.freeC,I.pin,I.hok,I.len⟩
theorem SP.unhand{a:Addr}{D:Ends}{f:Flow}{s':Shared}(ok:X.Ok)(h:SP (X.hand a) pins D f s'):SP X pins D f s':=by
 cases f with
 |next=>obtain⟨σ',H',I,q⟩:=h;exact⟨σ',H',I.unhand ok,q⟩
 |brk=>obtain⟨σ',H',I,q⟩:=h;exact⟨σ',H',I.unhand ok,q⟩
 |cont=>obtain⟨σ',H',I,q⟩:=h;exact⟨σ',H',I.unhand ok,q⟩
 |ret u=>obtain⟨v,σ',H',I,r,q⟩:=h;exact⟨v,σ',H',I.unhand ok,r,q⟩
end
section
variable {X:Cx}{x n:Str}{C:Addr}{np hp:Pos}{b₀:Stmt}{suite:List Stmt}{rest:List ExceptHandler}{ts:Addr->TS}{tr:TH}
theorem b10{s:Shared}{σ:St}{H:Hp}{B:Heap}{a:Addr}{cls a0 c:Value}{b:Bool}{A:Around}{E:Value->Shared->Prop}{Q:Bool->Shared->Prop}(I:Inv X [] σ H s)(ex:Exn X H B a cls a0 (some .none) s.heap)
   (hx:PySem.W.exmOne X.K cls c=some b) (q:Q b s):wpAny (model X.prog X.w) A (excMatches (.ref a) c) Q E s:=by
 obtain⟨oe,vs,Tb,oT,tt,he,hcls,hd,hv1,_⟩:=id ex.tr
 obtain⟨rfl,_⟩:=hcls
 exact(PySem.W.exm_one I.kIn ((PySem.W.Looks.ld he).andThen .now) hx).here q
theorem ph_cons(Pl:Plain X)(hm:X.mg x=some (.ref C))(hg:Gl X x)(hs: ∀a,PSs (X.hand a) (b₀::suite) (ts a))(hr:PH X rest tr)(hd:(x==("__debug__":Str))=false:=by decide):
   PH X (.ExceptHandler (some (.Name x np)) none (b₀::suite) hp::rest)
     (fun D cls a σ H=> ∃b,PySem.W.exmOne X.K cls (.ref C)=some b/\if b=true then ts a D σ H else tr D cls a σ H):=by
 intro s σ H D B a cls a0 I ex hw
 obtain⟨b,hx,hw⟩:=hw
 refine wpAny_handleBy_cons (codeAny_handlers_test ?_) (by intro q;cases q)
 refine a5l (X:=X.hand a) (I.hand a) hg hm (b10 I ex hx ?_) hd
 cases b with
 |false=>exact hr s σ H D B a cls a0 I ex hw
 |true=>
   refine codeAny_handlers_suite ?_
   refine a3r (f:=none) ex.air ex.tr ex.nd fun h2 air2 tr2 nd2 up2=> ?_
   have I2:=I.redo ex.cov ex.air.frm air2.stay up2
   exact wpAny_mono (hs a [] _ σ H D (I2.hand a) hw) (fun f s' q=>q.unhand I.ok) fun _ _ z=>z.elim
end
structure CompOk(X:Cx)(scope:Scope)(cl:List (Str×Addr))(Nc:List Str)(js:List (Option Nat)):Prop where
 clos:closureFor scope X.env=pure cl
 sub: ∀n c,cl.lookup n=some c->X.env.cells.lookup n=some c
 cell: ∀y∈scope.names,y.2≠ .cell
 kind:scope.kind= .function
 names: ∀x∈scope.names,x.2= .local->scope.names.lookup x.1=some .local
 has : ∀ x, ((relabel scope X.env).names.lookup x = some .cell \/ (relabel scope X.env).names.lookup x = some .free) -> ∃ c, cl.lookup x = some c
 len:js.length=Nc.length
 free : ∀ (k j : Nat), js[k]? = some (some j) -> ∃ x c, Nc[k]? = some x /\ X.N[j]? = some x /\ X.env.scope.names.lookup x = some .cell /\ cl.lookup x = some c /\ (relabel scope X.env).names.lookup x = some .cell
noncomputable abbrev a0p(X:Cx)(pins:List (Addr×Obj))(Nc:List Str)(scope:Scope)(cl:List (Str×Addr))(C:Addr)(fp:List Addr)(s:Shared)(H:Hp):Cx:=
 {X with N:=Nc,s₀:=s,H₀:=H,env:=compEnvC scope cl C X.env,outer:=X.stack,stack:=X.stack,ex:=fp,fn:=fun _=>false,pn:=X.pn++pins,xe:=fun _ _=>False}
noncomputable def sigC(js:List (Option Nat))(σ:St):St:=js.map fun o=>o.bind fun j=>(σ[j]?).join
section
variable {X:Cx}{pins:List (Addr×Obj)}{σ:St}{H:Hp}{s:Shared}{Nc:List Str}{scope:Scope}{cl:List (Str×Addr)}{js:List (Option Nat)}{fp:List Addr}
theorem a8c(O:CompOk X scope cl Nc js)(I:Inv X pins σ H s)(hfp: ∀b∈fp,FpOk X pins H b/\b<s.heap.objs.size){h₁:Heap}{t:Nat}(hns:h₁.Ns s.heap.objs.size (fun _=>none))
   (hk: ∀b o,s.heap.get? b=some o->h₁.get? b=some o):
   Inv (a0p X pins Nc scope cl s.heap.objs.size fp s H) [] (sigC js σ) H {s with heap:=h₁,toks:=t}:=by
 have cb: ∀x c,cl.lookup x=some c->c<s.heap.objs.size:=fun x c e=>by
   obtain⟨v,o,e,_⟩:=I.cell x c (O.sub x c e)
   exact Heap.lt_size e
 refine⟨⟨I.ok.mod,O.kind,I.ok.glob,I.ok.blt,Nat.le_refl _,fun x y c e1 e2=>I.ok.inj x y c (O.sub _ _ e1) (O.sub _ _ e2),O.has,fun _ _ z=>absurd z (by simp),I.ok.hd,I.ok.frames,.inl rfl,fun b hb=> ?_,
   I.bs,Nat.le_trans I.ok.bsz I.sz,fun b o e hb=> ?_,fun b hb z=> ?_,I.stack,I.stkFree⟩,rfl,I.bare,Un.kept hk,⟨_,hns,fun k x v e1 e2 e3=> ?_⟩,fun x c e=> ?_,I.hok.fresh (Nat.le_refl _),fun x c e=>I.freeC x c (O.sub x c e),fun p hp=> ?_,I.hok.kept hk,?_⟩
 . exact⟨Nat.ne_of_lt (hfp b hb).2,fun x c e=>(hfp b hb).1.2.2.2.2.1 x c (O.sub x c e)⟩
 . -- a thing of the base is no iterator of ours
   obtain⟨⟨_,_,_,h4,_⟩,_⟩:=hfp b hb
   rcases h4 with z |z
   . exact I.ok.noex b o e z
   . exact absurd (Nat.lt_of_lt_of_le (Heap.lt_size (I.ok.bs b o e).1) z) (Nat.lt_irrefl _)
 . rcases List.mem_cons.mp (I.stkSub b z)with q |q
   . exact(hfp b hb).1.2.1 q
   . exact(hfp b hb).1.2.2.1 q
 . unfold sigC at e2
   rw[List.getElem?_map]at e2
   cases ej:js[k]? with
   |none=>rw[ej]at e2;cases e2
   |some oj=>
     rw[ej]at e2
     cases oj with
     |none=>cases e2
     |some j=>
       have e2:(σ[j]?).join=some v:=Option.some.inj e2
       obtain⟨x',c,f1,f2,f3,f4,f5⟩:=O.free k j ej
       rw[show Nc[k]? =some x from e1]at f1
       cases f1
       have e2':σ[j]? =some (some v):=by
         cases q:σ[j]? with
         |none=>rw[q]at e2;cases e2
         |some q'=>rw[q]at e2;cases q' with
           |none=>cases e2
           |some z=>cases e2;rfl
       obtain⟨m,hn,hl⟩:=I.loc
       obtain⟨u,r,l⟩:=hl j x v f2 e2' (.inr (.inl f3))
       refine⟨u,r,.inr ⟨.inl f5,c,f4,?_⟩⟩
       rcases l with⟨k1,_⟩ | ⟨_,c',g1,g2⟩
       . have:X.env.scope.names.lookup x=some .local:=k1
         rw[f3]at this;cases this
       . rw[O.sub x c f4]at g1
         cases g1
         obtain⟨o,ho,hd⟩:=g2
         exact⟨o,hk _ _ ho,hd⟩
 . obtain⟨v,o,ho,hd⟩:=I.cell x c (O.sub x c e)
   exact⟨v,o,hk _ _ ho,hd⟩
 . have hp:p∈X.pn++pins:=by simpa using hp
   obtain⟨e,n,n1,n2,d⟩:=I.pin p hp
   refine⟨hk _ _ e,n,Nat.ne_of_lt (Heap.lt_size e),fun z=> ?_,d⟩
   rcases List.mem_cons.mp (I.stkSub _ z)with q |q
   . exact n1 q
   . exact n2 q
 . show(js.map _).length=Nc.length
   rw[List.length_map,O.len]
theorem b3v{C:Addr}{σ':St}{H':Hp}{s':Shared}{qs:List (Addr×Obj)}(I:Inv X pins σ H s)(hfp: ∀b∈fp,FpOk X pins H b)(J:Inv (a0p X pins Nc scope cl C fp s H) qs σ' H' s'):Inv X pins σ H' s':=
 I.call' (ch:=fp) J.os J.base J.hok J.bare fun b hb=>by
   obtain⟨_,h2,_,h4,h5,h6⟩:=hfp b hb
   exact⟨h4,h2,h5,h6⟩
end
noncomputable def a3p(env:Env)(ifs:List Expr):Sem Bool:=forIn ifs true fun c r=>if r=true then do let ok <-isTrue c env (eval c env);pure (ForInStep.yield ok)else pure (ForInStep.yield r)
theorem ifs_nil{M:Model}{A:Around}{E:Value->Shared->Prop}{s:Shared}{env:Env}{Q:Bool->Shared->Prop}(h:Q true s):wpAny M A (a3p env []) Q E s:=wpAny_pure h
theorem ifs_one{M:Model}{A:Around}{E:Value->Shared->Prop}{s:Shared}{env:Env}{c:Expr}{Q:Bool->Shared->Prop}(h:wpAny M A (isTrue c env (eval c env)) Q E s):wpAny M A (a3p env [c]) Q E s:=by
 unfold a3p
 simp only[List.forIn_cons,List.forIn_nil,if_true]
 refine wpAny_bind (wpAny_bind (wpAny_mono h (fun b s' q=>wpAny_pure ?_) fun _ _ x=>x))
 exact wpAny_pure q
theorem b15{prog:Program}{w:World}{A:Around}{R:Result->Shared->Prop}{s:Shared}{elt target iter:Expr}{ifs:List Expr}{scope:Scope}{pos:Pos}{it acc:Value}{env:Env}(I:Nat->Shared->Prop)
   (turn: ∀n s,I n s->wpAny (model prog w) A (pyNext it) (fun r s₁=>match r with
     |none=>R (.ok .next) s₁
     |some v=>wpAny (model prog w) A (letOwnedTupleGo target it v) (fun _ s₂=>wpAny (model prog w) A (assign target env v) (fun _ s₃=>wpAny (model prog w) A (a3p env ifs) (fun b s₄=>
         if b=true then wpAny (model prog w) A (eval elt env) (fun x s₅=>wpAny (model prog w) A (call (.builtin "list.append") [acc,x]) (fun _ s₆=> ∃m,m<n/\I m s₆) (fun _ _=>False) s₅) (fun _ _=>False) s₄
         else ∃m,m<n/\I m s₄) (fun _ _=>False) s₃) (fun _ _=>False) s₂) (fun _ _=>False) s₁) (fun _ _=>False) s)
   (n:Nat) (h:I n s):
   codeAny (model prog w) A (.compLoop (.ListComp elt [⟨target,iter,ifs,0⟩] scope pos) 0 it acc env) R s:=by
 refine codeAny_loop rfl I (fun n s hI=> ?_) n h
 show wpAny _ _ ((compTurn (.ListComp elt [⟨target,iter,ifs,0⟩] scope pos) 0 it acc env).onRaise (fun x=>do noteFrame x env;theTreesLotGoes x)) _ _ s
 refine wpAny_noted ?_
 have no: ∀{E:Value->Shared->Prop} (e:Value) (s':Shared),False->E e s':=fun _ _ f=>f.elim
 rw[compTurn_list]
 refine wpAny_bind (wpAny_standAt (wpAny_bind (wpAny_mono (turn n s hI) (fun r s₁ h₁=> ?_) no)))
 cases r with
 |none=>exact wpAny_pure h₁
 |some v=>
   refine wpAny_bind (wpAny_mono h₁ (fun _ s₂ h₂=>wpAny_bind (wpAny_mono h₂ (fun _ s₃ h₃=> ?_) no)) no)
   show wpAny (model prog w) A (a3p env ifs>>=_) _ _ s₃
   refine wpAny_bind (wpAny_mono h₃ (fun b s₄ h₄=> ?_) no)
   cases b with
   |true=>
     rw[if_pos rfl]at h₄
     exact wpAny_bind (wpAny_bind (wpAny_mono h₄ (fun x s₅ h5=>wpAny_bind (wpAny_mono h5 (fun _ s₆ h6=>wpAny_pure (wpAny_pure ⟨rfl,h6⟩)) no)) no))
   |false=>
     rw[if_neg Bool.false_ne_true]at h₄
     exact wpAny_bind (wpAny_pure (wpAny_pure ⟨rfl,h₄⟩))
def PIfs(X:Cx)(ifs:List Expr)(t:TT):Prop:=
 ∀(pins:List (Addr×Obj)) (s:Shared) (σ:St) (H:Hp) (Q:Bool->Hp->Prop),Inv X pins σ H s->t σ H Q->wpAny (model X.prog X.w) X.A (a3p X.env ifs) (TP X pins σ Q) X.xe s
theorem pif_nil{X:Cx}:PIfs X [] (fun _ H Q=>Q true H):=fun _ _ _ H _ I h=>ifs_nil ⟨H,I,h⟩
theorem pif_one{X:Cx}{c:Expr}{t:TT}(h:PT X c t):PIfs X [c] t:=fun pins s σ H Q I hw=>ifs_one (h pins s σ H Q I hw)
def tCompW(J:It)(l:Addr)(g:TG)(ti:TT)(te:TE)(Qk:Hp->Prop)(W:Nat->Nat->List V->St->Hp->Prop):Prop:=
 ∀i m ys σ H,W i m ys σ H->H l=some (.lst ys)/\((J.stop i H/\Qk H)\/(J.go i H/\ys.length<sizeLine/\ ∀x H',J.yld i H x H'->g x σ H' fun σ2 H2=>ti σ2 H2 fun b H3=>
   if b=true then te σ2 H3 fun y H4=>H4 l=some (.lst ys)/\ ∃m',m'<m/\W (i+1) m' (ys++[y]) σ2 (upd H4 l (.lst (ys++[y])))else ∃m',m'<m/\W (i+1) m' ys σ2 H3))
def tComp(js:List (Option Nat))(wi:TI)(g:TG)(ti:TT)(te:TE):TE:=fun σ H Q=>wi σ H fun J H1=> ∀l,H1 l=none-> ∃W:Nat->Nat->List V->St->Hp->Prop,(∃m,W 0 m [] (sigC js σ) (upd H1 l (.lst [])))/\tCompW J l g ti te (Q (.ref l)) W
section
variable {X:Cx}{Nc:List Str}{scope:Scope}{cl:List (Str×Addr)}{js:List (Option Nat)}{tg iter elt:Expr}{ifs:List Expr}{g:TG}{ti:TT}{te:TE}{wi:TI}{pos:Pos}
theorem b3u{pins:List (Addr×Obj)}{H₀:Hp}{s₀ s:Shared}{C l it:Addr}{fp:List Addr}{J:It}{tn:Nat->Heap->Prop}{Qk:Hp->Prop}{W:Nat->Nat->List V->St->Hp->Prop}{RR:Result->Shared->Prop}{σc:St}{H:Hp}(hc:X.calm=true)
   (hg: ∀pins C fp s H,PG (a0p X pins Nc scope cl C fp s H) tg g) (hti: ∀pins C fp s H,PIfs (a0p X pins Nc scope cl C fp s H) ifs ti) (he: ∀pins C fp s H,PE (a0p X pins Nc scope cl C fp s H) elt te)
   (T:Turn X.prog X.w X.K tg J fp it tn) (w:tCompW J l g ti te Qk W) {m0:Nat} (w0:W 0 m0 [] σc H)
   (I:Inv (a0p X pins Nc scope cl C fp s₀ H₀) [] σc H s) (st:tn 0 s.heap) (hfp: ∀b∈fp,FpOk (a0p X pins Nc scope cl C fp s₀ H₀) [] H b)
   (hRR: ∀qs σ' H' s',Inv (a0p X pins Nc scope cl C fp s₀ H₀) qs σ' H' s'->(∀b∈fp,H' b=none)->Qk H'->RR (.ok .next) s'):
   codeAny (model X.prog X.w) X.A (.compLoop (.ListComp elt [⟨tg,iter,ifs,0⟩] scope pos) 0 (.ref it) (.ref l) (compEnvC scope cl C X.env)) RR s:=by
 have stat: ∀{H':Hp},(∀b∈fp,H' b=none)-> ∀b∈fp,FpOk (a0p X pins Nc scope cl C fp s₀ H₀) [] H' b:=fun hn b hb=>⟨hn b hb,(hfp b hb).2⟩
 refine b15 (fun n s'=> ∃i ys σ' H',Inv (a0p X pins Nc scope cl C fp s₀ H₀) [] σ' H' s'/\tn i s'.heap/\(∀b∈fp,H' b=none)/\W i n ys σ' H') ?_ m0 ⟨0,[],σc,H,I,st,fun b hb=>(hfp b hb).1,w0⟩
 rintro n s3 ⟨i,ys,σ3,H3,I3,st3,fr3,w3⟩
 obtain⟨hl,w4⟩:=w i n ys σ3 H3 w3
 rcases w4 with⟨stop,qn⟩ | ⟨go,hz,step⟩
 . refine thn (T.done (a0p X pins Nc scope cl C fp s₀ H₀) rfl rfl rfl hc i [] s3 σ3 H3 _ I3 (stat fr3) st3 stop) fun r s4 zz9=> ?_
   obtain⟨hr,I4⟩:=zz9
   subst hr
   exact hRR [] σ3 H3 s4 I4 fr3 qn
 . refine thn (T.item (a0p X pins Nc scope cl C fp s₀ H₀) rfl rfl rfl hc i [] s3 σ3 H3 _ I3 (stat fr3) st3 go) fun r s4 zz9=> ?_
   obtain⟨u,hr,h4⟩:=zz9
   subst hr
   refine thn h4 fun _ s5 zz9=> ?_
   obtain⟨x,H5,I5,r5,y5,st5,fr5⟩:=zz9
   have I5':=I5.pinned (stat fr5) (T.obj _ _ st5)
   refine thn (hg pins C fp s₀ H₀ _ s5 σ3 H5 x u _ I5' r5 (step x H5 y5)) fun _ s6 zz9=> ?_
   obtain⟨σ6,H6,I6,q6⟩:=zz9
   refine thn (hti pins C fp s₀ H₀ _ s6 σ6 H6 _ I6 q6) fun b s7 zz9=> ?_
   obtain⟨H7,I7,q7⟩:=zz9
   have again: ∀{σ7:St}{H8:Hp}{s8:Shared}{ys':List V},Inv (a0p X pins Nc scope cl C fp s₀ H₀) ([]++a9u fp s5.heap) σ7 H8 s8->(∃m',m'<n/\W (i+1) m' ys' σ7 H8)->
       ∃m,m<n/\ ∃i ys σ' H',Inv (a0p X pins Nc scope cl C fp s₀ H₀) [] σ' H' s8/\tn i s8.heap/\(∀b∈fp,H' b=none)/\W i m ys σ' H':=fun {σ7 H8 s8 ys'} I8 w8=>by
     obtain⟨m',hm,w8⟩:=w8
     refine⟨m',hm,i+1,ys',σ7,H8,I8.unpinned,T.keep _ _ _ st5 fun b hb o e=>(I8.pin (b,o) (List.mem_append_right _ (List.mem_append_right _ (a3w hb e)))).1,fun b hb=> ?_,w8⟩
     obtain⟨o,e,d⟩:=T.obj _ _ st5 b hb
     exact(I8.pin (b,o) (List.mem_append_right _ (List.mem_append_right _ (a3w hb e)))).2.1
   cases b with
   |true=>
     rw[if_pos rfl]at q7 |-
     refine thn (he pins C fp s₀ H₀ _ s7 σ6 H7 _ I7 q7) fun y s8 zz9=> ?_
     obtain⟨vy,H8,I8,r8,hl8,q8⟩:=zz9
     refine thn (a03 (X:=a0p X pins Nc scope cl C fp s₀ H₀) _ s8 σ6 H8 (.ref l) [vy] (.ref l) [y] (fun _ H9=>H9=upd H8 l (.lst (ys++[vy]))) I8 rfl (.cons r8 .nil) ⟨l,ys,vy,rfl,rfl,hl8,hz,rfl⟩) fun _ s9 zz9=> ?_
     obtain⟨_,H9,I9,_,e9⟩:=zz9
     subst e9
     exact again I9 q8
   |false=>
     rw[if_neg Bool.false_ne_true]at q7 |-
     exact again I7 q7
theorem pe_comp(O:CompOk X scope cl Nc js)(hc:X.calm=true)(hi:PI X tg iter wi)(hg: ∀pins C fp s H,PG (a0p X pins Nc scope cl C fp s H) tg g)(hti: ∀pins C fp s H,PIfs (a0p X pins Nc scope cl C fp s H) ifs ti)
   (he: ∀pins C fp s H,PE (a0p X pins Nc scope cl C fp s H) elt te) (hs: ∀x,foldedSetIterable iter X.env x=pure x:=by intro _;rfl):
   PE X (.ListComp elt [⟨tg,iter,ifs,0⟩] scope pos) (tComp js wi g ti te):=by
 intro pins s σ H Q I hw
 rw[eval_ListComp]
 refine wpAny_comprehension_free (use:=none) rfl hs O.clos O.kind O.names (thn (hi pins s σ H _ I hw) fun v s1 h1=>thn h1 fun itv s2 h2=> ?_)
 obtain⟨it,fp,tn,J,H2,e,I2,T,st2,f2,r2⟩:=h2
 subst e
 refine wpAny_newObj_type ?_
 have hl0:H2 s2.heap.objs.size=none:=I2.hok.fresh (Nat.le_refl _)
 obtain⟨W,⟨m0,w0⟩,w⟩:=r2 s2.heap.objs.size hl0
 have k3: ∀b o,s2.heap.get? b=some o->(s2.heap.push {cls:= .type "list",data:= .seq ([]:List Value).toArray}).get? b=some o:=fun b o e=>Heap.get?_push_of_some _ e
 have I3:Inv X pins σ (upd H2 s2.heap.objs.size (.lst [])) {s2 with heap:=s2.heap.push {cls:= .type "list",data:= .seq ([]:List Value).toArray}}:=
   I2.laid (t':=s2.toks) k3 (Nat.le_refl _) ⟨Nat.zero_le _,[],0,.nil,Heap.get?_push_size _ rfl⟩
 have fpl: ∀b∈fp,b<s2.heap.objs.size:=fun b hb=>by
   obtain⟨o,e,_⟩:=T.obj _ _ st2 b hb
   exact Heap.lt_size e
 have f3: ∀b∈fp,FpOk X pins (upd H2 s2.heap.objs.size (.lst [])) b:=fun b hb=>⟨by rw[a0o (Nat.ne_of_lt (fpl b hb))];exact(f2 b hb).1,(f2 b hb).2⟩
 have sz3:(s2.heap.push {cls:= .type "list",data:= .seq ([]:List Value).toArray}).objs.size=s2.heap.objs.size+1:=Heap.size_push _ _
 refine wpAny_newFunctionEnv O.cell (by intro y hy;simp at hy) (fun h₁ hns₁ hsb₁=> ?_) O.kind
 have k4: ∀b o,(s2.heap.push {cls:= .type "list",data:= .seq ([]:List Value).toArray}).get? b=some o->h₁.get? b=some o:=fun b o e=>
   (hsb₁.2 b (Nat.ne_of_lt (Heap.lt_size e))).trans (Heap.get?_push_of_some _ e)
 have Ic:=a8c (Nc:=Nc) (js:=js) (fp:=fp) (t:=s2.toks) O I3 (fun b hb=>⟨f3 b hb,by show b< (s2.heap.push _).objs.size;rw[sz3];exact Nat.lt_succ_of_lt (fpl b hb)⟩) (h₁:=h₁) hns₁ k4
 have st4:tn 0 h₁:=T.keep _ _ _ st2 fun b hb o e=>k4 b o (k3 b o e)
 have fC:FpOk X pins (upd H2 s2.heap.objs.size (.lst [])) (s2.heap.push {cls:= .type "list",data:= .seq ([]:List Value).toArray}).objs.size:=I3.fpOk (Nat.le_refl _) (I3.hok.fresh (Nat.le_refl _))
 have loop: ∀s4:Shared,s4={s2 with heap:=h₁,toks:=s2.toks}->codeAny (model X.prog X.w) X.A (.compLoop (.ListComp elt [⟨tg,iter,ifs,0⟩] scope pos) 0 (.ref it) (.ref s2.heap.objs.size) (compEnvC scope cl (s2.heap.push {cls:= .type "list",data:= .seq ([]:List Value).toArray}).objs.size X.env))
     (compPost (model X.prog X.w) X.A X.xe none (EP X pins σ Q) (.ref s2.heap.objs.size) (s2.heap.push {cls:= .type "list",data:= .seq ([]:List Value).toArray}).objs.size) s4:=by
   rintro s4 rfl
   refine b3u (s₀:={s2 with heap:=s2.heap.push {cls:= .type "list",data:= .seq ([]:List Value).toArray}}) hc hg hti he T w w0 Ic st4 (fun b hb=> ?_) fun qs σ' H' s' J' fr' q'=> ?_
   . obtain⟨g1,g2,g3,g4,g5,g6⟩:=f3 b hb
     refine⟨g1,Nat.ne_of_lt (by show b< (s2.heap.push _).objs.size;rw[sz3];exact Nat.lt_succ_of_lt (fpl b hb)),fun z=> ?_,.inl hb,fun x c e=>g5 x c (O.sub x c e),fun p hp=>g6 p (by simpa using hp)⟩
     rcases List.mem_cons.mp (I3.stkSub b z)with q |q
     . exact g2 q
     . exact g3 q
   . obtain⟨mC,hnC,_⟩:=J'.loc
     have I5:Inv X pins σ H' s':=b3v I3 f3 J'
     refine⟨mC,hnC,fun h' sb=>⟨.ref s2.heap.objs.size,H',?_,rfl,q'⟩⟩
     exact I5.turned (t':=s'.toks) (fun b o hb e=>(sb.2 b hb).trans e) J'.free fC.2.1 fC.2.2.2.1 fC.2.2.2.2.1 fC.2.2.2.2.2
 exact codeAny_compStart_list (loop _ rfl) (T.self X.A 0 _ _ _ st4 (loop _ rfl))
theorem b5w{i:Nat}{y:Str}{py spos:Pos}(hN:X.N.Nodup)(hiN:X.N[i]? =some y)(hyl:X.env.scope.names.lookup y=some .local)(O:CompOk X scope cl Nc js)(hc:X.calm=true)(hi:PI X tg iter wi)(hg: ∀pins C fp s H,PG (a0p X pins Nc scope cl C fp s H) tg g)(hti: ∀pins C fp s H,PIfs (a0p X pins Nc scope cl C fp s H) ifs ti)
   (he: ∀pins C fp s H,PE (a0p X pins Nc scope cl C fp s H) elt te) (hsw:swapsWith (.ListComp elt [⟨tg,iter,ifs,0⟩] scope pos) (some (.Name y py)) spos.line X.env=pure true) (hs: ∀x,foldedSetIterable iter X.env x=pure x:=by intro _;rfl):
   PS X (.Assign [.Name y py] (.ListComp elt [⟨tg,iter,ifs,0⟩] scope pos) spos) (tAsg (tComp js wi g ti te) (gName i)):=by
 intro pins s σ H D I hw
 rw[exec_Assign_Name_used _ _ _ _ hsw]
 refine wpAny_bind (wpAny_standAt (wpAny_bind ?_))
 show wpAny _ X.A (do let _ <-comprehension (.ListComp elt [⟨tg,iter,ifs,0⟩] scope pos) scope X.env _ (newList []) false (eval iter X.env) (some (assign (.Name y py) X.env))) _ _ s
 refine wpAny_bind (wpAny_mono (wpAny_comprehension_free (use:=some (assign (.Name y py) X.env)) (Q:=fun _ s'=>SP X pins D .next s') rfl hs O.clos O.kind O.names ?_) (fun _ s' hq=>wpAny_pure (wpAny_pure hq)) fun _ _ e=>e)
 refine(thn (hi pins s σ H _ I hw) fun v s1 h1=>thn h1 fun itv s2 h2=> ?_)
 obtain⟨it,fp,tn,J,H2,e,I2,T,st2,f2,r2⟩:=h2
 subst e
 refine wpAny_newObj_type ?_
 have hl0:H2 s2.heap.objs.size=none:=I2.hok.fresh (Nat.le_refl _)
 obtain⟨W,⟨m0,w0⟩,w⟩:=r2 s2.heap.objs.size hl0
 have k3: ∀b o,s2.heap.get? b=some o->(s2.heap.push {cls:= .type "list",data:= .seq ([]:List Value).toArray}).get? b=some o:=fun b o e=>Heap.get?_push_of_some _ e
 have I3:Inv X pins σ (upd H2 s2.heap.objs.size (.lst [])) {s2 with heap:=s2.heap.push {cls:= .type "list",data:= .seq ([]:List Value).toArray}}:=
   I2.laid (t':=s2.toks) k3 (Nat.le_refl _) ⟨Nat.zero_le _,[],0,.nil,Heap.get?_push_size _ rfl⟩
 have fpl: ∀b∈fp,b<s2.heap.objs.size:=fun b hb=>by
   obtain⟨o,e,_⟩:=T.obj _ _ st2 b hb
   exact Heap.lt_size e
 have f3: ∀b∈fp,FpOk X pins (upd H2 s2.heap.objs.size (.lst [])) b:=fun b hb=>⟨by rw[a0o (Nat.ne_of_lt (fpl b hb))];exact(f2 b hb).1,(f2 b hb).2⟩
 have sz3:(s2.heap.push {cls:= .type "list",data:= .seq ([]:List Value).toArray}).objs.size=s2.heap.objs.size+1:=Heap.size_push _ _
 refine wpAny_newFunctionEnv O.cell (by intro y hy;simp at hy) (fun h₁ hns₁ hsb₁=> ?_) O.kind
 have k4: ∀b o,(s2.heap.push {cls:= .type "list",data:= .seq ([]:List Value).toArray}).get? b=some o->h₁.get? b=some o:=fun b o e=>
   (hsb₁.2 b (Nat.ne_of_lt (Heap.lt_size e))).trans (Heap.get?_push_of_some _ e)
 have Ic:=a8c (Nc:=Nc) (js:=js) (fp:=fp) (t:=s2.toks) O I3 (fun b hb=>⟨f3 b hb,by show b< (s2.heap.push _).objs.size;rw[sz3];exact Nat.lt_succ_of_lt (fpl b hb)⟩) (h₁:=h₁) hns₁ k4
 have st4:tn 0 h₁:=T.keep _ _ _ st2 fun b hb o e=>k4 b o (k3 b o e)
 have fC:FpOk X pins (upd H2 s2.heap.objs.size (.lst [])) (s2.heap.push {cls:= .type "list",data:= .seq ([]:List Value).toArray}).objs.size:=I3.fpOk (Nat.le_refl _) (I3.hok.fresh (Nat.le_refl _))
 have loop: ∀s4:Shared,s4={s2 with heap:=h₁,toks:=s2.toks}->codeAny (model X.prog X.w) X.A (.compLoop (.ListComp elt [⟨tg,iter,ifs,0⟩] scope pos) 0 (.ref it) (.ref s2.heap.objs.size) (compEnvC scope cl (s2.heap.push {cls:= .type "list",data:= .seq ([]:List Value).toArray}).objs.size X.env))
     (compPost (model X.prog X.w) X.A X.xe (some (assign (.Name y py) X.env)) (fun _ s'=>SP X pins D .next s') (.ref s2.heap.objs.size) (s2.heap.push {cls:= .type "list",data:= .seq ([]:List Value).toArray}).objs.size) s4:=by
   rintro s4 rfl
   refine b3u (s₀:={s2 with heap:=s2.heap.push {cls:= .type "list",data:= .seq ([]:List Value).toArray}}) hc hg hti he T w w0 Ic st4 (fun b hb=> ?_) fun qs σ' H' s' J' fr' q'=> ?_
   . obtain⟨g1,g2,g3,g4,g5,g6⟩:=f3 b hb
     refine⟨g1,Nat.ne_of_lt (by show b< (s2.heap.push _).objs.size;rw[sz3];exact Nat.lt_succ_of_lt (fpl b hb)),fun z=> ?_,.inl hb,fun x c e=>g5 x c (O.sub x c e),fun p hp=>g6 p (by simpa using hp)⟩
     rcases List.mem_cons.mp (I3.stkSub b z)with q |q
     . exact g2 q
     . exact g3 q
   . obtain⟨mC,hnC,_⟩:=J'.loc
     have I5:Inv X pins σ H' s':=b3v I3 f3 J'
     have neC:(s2.heap.push {cls:= .type "list",data:= .seq ([]:List Value).toArray}).objs.size≠X.env.locals:=fC.2.1
     show wpAny _ X.A (assign (.Name y py) X.env (.ref s2.heap.objs.size)) _ _ s'
     refine wpAny_assign_Name (a9n I5 hN hiN (.inl hyl) (v:= .ref s2.heap.objs.size) rfl (fun s6 I6 ⟨a6,sb6,ha6⟩=> ?_) (.inr hyl))
     have nea:a6≠(s2.heap.push {cls:= .type "list",data:= .seq ([]:List Value).toArray}).objs.size:=by
       rcases ha6 with z |z
       . rw[z];exact fun z=>neC z.symm
       . exact fC.2.2.2.2.1 y a6 z
     refine⟨mC,hnC.sameBut sb6 nea.symm,fun h' sb=>⟨_,H',?_,q'⟩⟩
     exact I6.turned (t':=s6.toks) (fun b o hb e=>(sb.2 b hb).trans e) J'.free fC.2.1 fC.2.2.2.1 fC.2.2.2.2.1 fC.2.2.2.2.2
 exact codeAny_compStart_list (loop _ rfl) (T.self X.A 0 _ _ _ st4 (loop _ rfl))
end
mutual
inductive Rep(K:PySem.W.Frag)(H:Hp):V->PyData->Prop where
 |non:Rep K H .non .none
 |bl (b:Bool):Rep K H (.bl b) (.bool b)
 |int (i:Int):Rep K H (.int i) (.int i)
 |str (x:Str):Rep K H (.str x) (.str x)
 |lst {a:Addr}{xs:List V}{ds:List PyData} (e:SqL K H a xs) (r:Reps K H xs ds):Rep K H (.ref a) (.list ds)
 |tup {a:Addr}{xs:List V}{ds:List PyData} (e:SqT K H a xs) (r:Reps K H xs ds):Rep K H (.ref a) (.tuple ds)
inductive Reps(K:PySem.W.Frag)(H:Hp):List V->List PyData->Prop where
 |nil:Reps K H [] []
 |cons {x:V}{d:PyData}{xs:List V}{ds:List PyData} (h:Rep K H x d) (t:Reps K H xs ds):Reps K H (x::xs) (d::ds)
end
section
variable {X:Cx}{pins:List (Addr×Obj)}{σ:St}{H:Hp}{s:Shared}
mutual
theorem Rep.reads(I:Inv X pins σ H s): ∀{x:V}{d:PyData}{v:Value},Rep X.K H x d->RelV x v-> ∃as,Reads s.heap v d as
 |_,_,_,.non,r=>by cases(show _=Value.none from r);exact⟨_,.none⟩
 |_,_,_,.bl b,r=>by cases(show _=Value.bool b from r);exact⟨_,.bool b⟩
 |_,_,_,.int i,r=>by obtain⟨t,rfl⟩:=r;exact⟨_,.int i t⟩
 |_,_,_,.str x,r=>by obtain⟨t,rfl⟩:=r;exact⟨_,.str x t⟩
 |_,_,_,@Rep.lst _ _ a xs ds e rs,r=>by
   cases(show _=Value.ref a from r)
   obtain⟨its,rv,pl,_⟩:=I.list e
   obtain⟨as,q⟩:=Reps.reads I rs rv
   obtain⟨o,ho,hc,n,hd⟩:=pl.isList
   exact⟨_,.list ho hc hd (by simpa using q)⟩
 |_,_,_,@Rep.tup _ _ a xs ds e rs,r=>by
   cases(show _=Value.ref a from r)
   obtain⟨its,rv,⟨o,ho,hc,n,hd⟩,_⟩:=I.tuple e
   obtain⟨as,q⟩:=Reps.reads I rs rv
   exact⟨_,.tuple ho hc hd (by simpa using q)⟩
theorem Reps.reads(I:Inv X pins σ H s): ∀{xs:List V}{ds:List PyData}{us:List Value},Reps X.K H xs ds->Vals xs us-> ∃as,ReadsAll s.heap us ds as
 |_,_,_,.nil,r=>by cases r;exact⟨_,.nil⟩
 |_,_,_,.cons h t,r=>by
   cases r with
   |cons r1 r2=>
     obtain⟨as,q1⟩:=Rep.reads I h r1
     obtain⟨bs,q2⟩:=Reps.reads I t r2
     exact⟨_,.cons q1 q2⟩
end
end
def rEqD(K:PySem.W.Frag)(neg:Bool):R2:=fun x y H Q=> ∃dx dy,Rep K H x dx/\Rep K H y dy/\SeqAt.shaped dx=true/\SeqAt.shaped dy=true/\Q (.bl (if neg then !PyData.eqv dx dy else PyData.eqv dx dy)) H
section
variable {X:Cx}
theorem op_eqD(hu:X.A.units+64<cLine):OpR X (compareOp .Eq) (rEqD X.K false):=by
 intro pins s σ H x y v u Q I rx ry h
 obtain⟨dx,dy,h1,h2,s1,s2,q⟩:=h
 obtain⟨as,r1⟩:=h1.reads I rx
 obtain⟨bs,r2⟩:=h2.reads I ry
 exact SeqAt.compareEq_shaped r1 r2 s1 s2 hu ⟨.bl _,H,I,rfl,q⟩
theorem op_neD(hu:X.A.units+64<cLine):OpR X (compareOp .NotEq) (rEqD X.K true):=by
 intro pins s σ H x y v u Q I rx ry h
 obtain⟨dx,dy,h1,h2,s1,s2,q⟩:=h
 obtain⟨as,r1⟩:=h1.reads I rx
 obtain⟨bs,r2⟩:=h2.reads I ry
 exact SeqAt.compareNe_shaped r1 r2 s1 s2 hu ⟨.bl _,H,I,rfl,q⟩
end
mutual
theorem b3p: ∀d:PyData,d.canLay0=true->PyData.eqv d d=true
 | .none,_=>by simp[PyData.eqv]
 | .bool b,_=>by simp[PyData.eqv]
 | .int i,_=>by simp[PyData.eqv]
 | .str x,_=>by simp[PyData.eqv]
 | .list xs,h=>by rw[PyData.eqv];exact a4c xs (by simpa only[PyData.canLay0]using h)
 | .tuple xs,h=>by rw[PyData.eqv];exact a4c xs (by simpa only[PyData.canLay0]using h)
 | .dict _,h=>by simp[PyData.canLay0]at h
theorem a4c: ∀ds:List PyData,PyData.canLayAll0 ds=true->PyData.eqvAll ds ds=true
 | [],_=>by simp[PyData.eqvAll]
 |d::ds,h=>by
   have h:d.canLay0=true/\PyData.canLayAll0 ds=true:=by simpa only[PyData.canLayAll0,Bool.and_eq_true]using h
   rw[PyData.eqvAll,b3p d h.1,a4c ds h.2]
   rfl
end
noncomputable def Itw(n:Nat)(f:Nat->V):It:=⟨fun i _=>i<n,fun i H x H'=>H'=H/\x=f i,fun i _=>i=n⟩
theorem a71{P:Program}{w:World}{K:PySem.W.Frag}{tg:Expr}{it:Addr}{n:Nat}{f:Nat->V}{Pv:Nat->Value->Prop}{tn:Nat->Heap->Prop}
   (W: ∀A:Around,A.handled=none->Walks P w A it [it] [it] n Pv tn) (hv: ∀i v,i<n->Pv i v->RelV (f i) v)
   (ho: ∀i h,tn i h-> ∃o nm vs,h.get? it=some o/\o.cls= .type nm/\o.data= .fields vs/\["enumerate","zip","dict_itemiterator","dict_reverseitemiterator","odict_iterator","itertools.zip_longest","itertools.pairwise"].contains nm=false)
   (self: ∀(A:Around) (i:Nat) (s:Shared) (Q:Value->Shared->Prop) (E:Value->Shared->Prop),tn i s.heap->Q (.ref it) s->wpAny (model P w) A (pyIter (.ref it)) Q E s):
   Turn P w K tg (Itw n f) [it] it tn where
 mem:=by simp
 obj:=fun i h st b hb=>by
   have e:b=it:=by simpa using hb
   subst e
   obtain⟨o,nm,vs,e,_,d,_⟩:=ho i h st
   exact⟨o,e,fun v z=>by rw[d]at z;cases z⟩
 keep:=fun i h h' st k=>(W {depth:=0,handled:=none} rfl).frame i h h' st k
 item:=by
   intro X hP hw hK hc i pins s σ H E I hf st hg
   subst hP hw hK
   obtain⟨f0,f1,f2,f3,f4,f5⟩:=hf it (by simp)
   refine(W X.A (I.ok.hd hc)).item i s _ _ hg st fun v h' tk hpv st' kk=> ?_
   have I1:Inv X pins σ H {s with heap:=h',toks:=tk}:=I.turned (fun b o hb e=>kk b o (by simpa using hb) e) f0 f1 f3 f4 f5
   obtain⟨o,nm,vs,e,c,d,nn⟩:=ho _ _ st'
   exact⟨v,rfl,b9c (s:={s with heap:=h',toks:=tk}) e c d nn ⟨f i,H,I1,hv i v hg hpv,⟨rfl,rfl⟩,st',fun b hb=>(hf b hb).1⟩⟩
 done:=by
   intro X hP hw hK hc i pins s σ H E I hf st hg
   subst hP hw hK
   obtain⟨f0,f1,f2,f3,f4,f5⟩:=hf it (by simp)
   have hg:i=n:=hg
   subst hg
   exact(W X.A (I.ok.hd hc)).done s _ _ st fun h' tk kk=>⟨rfl,I.turned (fun b o hb e=>kk b o (by simpa using hb) e) f0 f1 f3 f4 f5⟩
 self:=self
section
variable {X:Cx}{tg:Expr}
noncomputable def signV(x:Str)(i:Nat):V:= .str ⟨#[x.cps.getD i 0]⟩
def iStr(tl:TE):TI:=fun σ H R=>tl σ H fun v H1=> ∃x,v= .str x/\R (Itw x.cps.size (signV x)) H1
theorem b2o{x:Str}{i:Nat}{v:Value}(hi:i<x.cps.size)(h:SignAt x i v):RelV (signV x i) v:=by
 obtain⟨c,u,e,rfl⟩:=h
 refine⟨u,?_⟩
 have e2:x.cps.getD i 0=c:=by simp[e]
 rw[e2]
theorem pi_str{l:Expr}{tl:TE}(hl:PE X l tl):PI X tg l (iStr tl):=by
 intro pins s σ H R I h
 refine thn (hl pins s σ H _ I h) fun v s1 zz9=> ?_
 obtain⟨y,H1,I1,r1,x,e1,q1⟩:=zz9
 subst e1
 obtain⟨t,rfl⟩:=r1
 cases ha:x.cps.all (· <128)
 . refine wpAny_pyIter_wide ha ?_
   exact⟨s1.heap.objs.size,[s1.heap.objs.size],_,_,H1,rfl,I1.kept (t':=s1.toks) fun b o e=>Heap.get?_push_of_some _ e,a71 (fun A hA=>Walks.strWide hA _ x t) (fun i v hi hp=>b2o hi hp)
     (fun i h ⟨o,e,c,d⟩=>⟨o,_,_,e,c,d,by decide⟩) (fun _ _ _ _ _ st q=>wpAny_pyIter_striter_wide st q),⟨_,Heap.get?_push_size _ rfl,rfl,rfl⟩,
     fun b hb=>by
       have e:b=s1.heap.objs.size:=by simpa using hb
       subst e
       exact I1.fpOk (Nat.le_refl _) (I1.hok.fresh (Nat.le_refl _)),q1⟩
 . refine wpAny_pyIter_ascii ha ?_
   exact⟨s1.heap.objs.size,[s1.heap.objs.size],_,_,H1,rfl,I1.kept (t':=s1.toks) fun b o e=>Heap.get?_push_of_some _ e,a71 (fun A hA=>Walks.strAscii hA _ x t) (fun i v hi hp=>b2o hi hp)
     (fun i h ⟨o,e,c,d⟩=>⟨o,_,_,e,c,d,by decide⟩) (fun _ _ _ _ _ st q=>wpAny_pyIter_striter_ascii st q),⟨_,Heap.get?_push_size _ rfl,rfl,rfl⟩,
     fun b hb=>by
       have e:b=s1.heap.objs.size:=by simpa using hb
       subst e
       exact I1.fpOk (Nat.le_refl _) (I1.hok.fresh (Nat.le_refl _)),q1⟩
def rSlS:V->Option Int->Option Int->Hp->VK->Prop:=fun x lo hi H Q=> ∃z,x= .str z/\z.length<=sizeLine/\Q (.str (Txt.slice z lo hi)) H
theorem sl_str:SlR X rSlS:=by
 intro pins s σ H x v vl vu lo hi sl Q I rx hs pl pu h
 obtain⟨z,rfl,hz,q⟩:=h
 obtain⟨t,rfl⟩:=rx
 have fin: ∀t' k,EP X pins σ Q (.str (Txt.slice z lo hi) t') {s with toks:=k}:=fun t' k=>⟨.str _,H,I.tok _,⟨t',rfl⟩,q⟩
 have hle:(Txt.slice z lo hi).length<=sizeLine:=Nat.le_trans (Txt.slice_le z _ _) hz
 refine⟨"str",_,F.slot_str_getitem.lookup,typeIs_str _ _ _,?_⟩
 cases pl with
 |none=>
   cases pu with
   |none=>exact wpAny_getItem_str_slice (l:=none) (u:=none) (st:=none) hs rfl (post_val_or_str ⟨hle,fun t' k=>fin t' k⟩)
   |int j uj=>exact wpAny_getItem_str_slice (l:=none) (u:=some (j,uj)) (st:=none) hs rfl (post_val_or_str ⟨hle,fun t' k=>fin t' k⟩)
 |int i ui=>
   cases pu with
   |none=>exact wpAny_getItem_str_slice (l:=some (i,ui)) (u:=none) (st:=none) hs rfl (post_val_or_str ⟨hle,fun t' k=>fin t' k⟩)
   |int j uj=>exact wpAny_getItem_str_slice (l:=some (i,ui)) (u:=some (j,uj)) (st:=none) hs rfl (post_val_or_str ⟨hle,fun t' k=>fin t' k⟩)
def gLst(K:PySem.W.Frag)(n:Nat)(t:TGs):TG:=fun v σ H Q=> ∃a xs,v= .ref a/\SqL K H a xs/\xs.length=n/\t xs σ H Q
theorem pg_lst{es:List Expr}{k:Nat}{t:TGs}{n:Nat}{pos:Pos}(hc:X.calm=true)(h:PGs X es t)
   (hn:(assignEach es X.env).length=n:=by rfl) (hst:(assignEach es X.env).findIdx? (·.1)=none:=by rfl):PG X (.Tuple es k pos) (gLst X.K n t):=by
 intro pins s σ H v u Q I r hw
 obtain⟨a,xs,e1,hq,hl,hw⟩:=hw
 subst e1
 cases r
 obtain⟨its,rv,pl,hz⟩:=I.list hq
 rw[assign_Tuple]
 refine wpAny_bind (wpAny_standAt ?_)
 unfold unpack
 have hsz:(assignEach es X.env).length=its.toArray.size:=by simp[hn,<-hl,rv.length]
 rw[hsz,hst]
 refine wpAny_bind (wpAny_holding (PySem.W.kun_itemsOf (I.ok.hd hc) pl.isList fun h' hx=> ?_))
 have I1:Inv X pins σ H {s with heap:=h'}:=I.kept (t':=s.toks) fun b o e=>hx b o (Nat.ne_of_lt (Heap.lt_size e)) e
 exact h pins _ σ H xs _ Q I1 (by simpa using rv) hw
def rIndex(K:PySem.W.Frag):V->List V->Hp->VK->Prop:=fun x vs H Q=> ∃a xs y j,x= .ref a/\vs=[y]/\SqL K H a xs/\xs.all a4b=true/\a4b y=true/\j<xs.length/\(∀z,xs[j]? =some z->eqV z y=true)/\(∀m z,m<j->xs[m]? =some z->eqV z y=false)/\Q (.int j) H
theorem b85:MtR X "list.index" (rIndex X.K):=by
 intro pins s σ H x vs v us Q I rx rv h
 obtain⟨a,xs,y,j,rfl,rfl,hq,ha,hy,hj,h1,h2,q⟩:=h
 cases rx
 obtain⟨u,rfl,ru⟩:=rv.one
 obtain⟨its,r,pl,hz⟩:=I.list hq
 obtain⟨⟨oc,od,dt,sl⟩,n,e,hoc,hod,hdt⟩:=pl
 dsimp only at hoc hod hdt
 subst hoc hod hdt
 have hlen:=r.length
 have hit: ∀(m:Nat) (hm:m<its.toArray.size),∃z,xs[m]? =some z/\RelV z its.toArray[m]:=fun m hm=>by
   have hm':m<xs.length:=by simpa[hlen]using hm
   obtain⟨w',e1,e2⟩:=r.get (i:=m) (x:=xs[m]) (by simp)
   refine⟨xs[m],by simp,?_⟩
   have:its.toArray[m]=w':=by
     have:its[m]? =some w':=e1
     rw[List.getElem?_eq_some_iff]at this
     obtain⟨_,e3⟩:=this
     simpa using e3
   rw[this];exact e2
 have fl: ∀z,z∈xs->a4b z=true:=fun z hz=>List.all_eq_true.mp ha z hz
 have hval: ∀(m:Nat) (hm:m<its.toArray.size) z,xs[m]? =some z->eqU y its.toArray[m]=eqV z y:=fun m hm z hz=>by
   obtain⟨z',e1,e2⟩:=hit m hm
   rw[hz]at e1;cases e1
   exact b7l e2 (fl z (List.mem_of_getElem? hz))
 refine call_meets F.slot_list_index ⟨_,e,rfl⟩ F.entry_list_index (F.args_list_index_2 _ _) (SeqAt.list_indexAt a its.toArray n none sl u (eqU y) j (by simp;omega) ?_ ?_ ?_) ⟨e,?_,?_⟩
 . have:=a79;omega
 . obtain⟨z,e1,_⟩:=hit j (by simp;omega)
   rw[hval j (by simp;omega) z e1]
   exact h1 z e1
 . intro m hm hmj
   obtain⟨z,e1,_⟩:=hit m hm
   rw[hval m hm z e1]
   exact h2 m z hmj e1
 . intro w' hw
   exact a3x ru hy r ha w' (by simpa using hw)
 . exact⟨.int j,H,I.tok _,⟨_,rfl⟩,q⟩
end
open PySem PySem.W PySem.Spec PySem.Calls PyProof.Rows
structure ExLook(K:Frag)(D:Addr):Prop where
 cl:(clsIn K D).isSome=true
 ga:findIn K (.ref D) "__getattribute__"=some (some (.builtin "BaseException.__getattribute__"))
 gn:findIn K (.ref D) "__getattr__"=some none
 ha:findIn K (.ref D) "__class__"=some (some (.builtin "object.__class__"))
 hn:specialIn K (.builtin "object.__class__") "__get__"=some (some (.builtin "getset_descriptor.__get__"))
 tk:takesIn K (.builtin "object.__class__")=some true
 hm:mroIn K D (.type "object")=some true
 hb:mroIn K D (.type "BaseException")=some true
section
variable {prog:Program}{w:World}{A:Around}{E:Value->Shared->Prop}{s:Shared}{K:Frag}{x D:Addr}{ox:Obj}
end
noncomputable def clsV:V->Option Value
 | .ref a=>some (.ref a)
 | .ty n=>some (.type n)
 |_=>none
theorem b9k{y:V}{cv u:Value}(e:clsV y=some cv)(r:RelV y u):u=cv:=by
 cases y<;>first | (cases e;done) | (cases e;exact r)
theorem b0l{X:Cx}:CallR X (.builtin "isinstance") (fun xs H Q=> ∃x y t cv b,xs=[x,y]/\TyOf X.K H x t/\clsV y=some cv/\kitOne X.K t cv=some b/\Q (.bl b) H):=by
 intro pins s σ H xs us Q I r h
 obtain⟨x,y,t,cv,b,rfl,ty,hy,e,q⟩:=h
 obtain⟨u,u',rfl,rx,ru⟩:=vals2 r
 cases b9k hy ru
 exact b68 I rx ty e fun tk=>⟨.bl b,H,I.tok tk,rfl,q⟩
section
variable {X:Cx}{tg l:Expr}{body:List Stmt}{tl:TE}{g:TG}{tb:TS}{pos:Pos}{a:Addr}
end
structure RoomH(k:Nat)(A:Around):Prop where
 dp:A.depth+3 *k+5<recursionLimit
 un:A.units+16 *k+200<cLine
theorem Room.hand{k:Nat}{A:Around}(r:Room k A)(a:Addr):RoomH k (A.mark (some (.ref a))):=⟨r.dp,r.un⟩
theorem RoomH.deeper{k:Nat}{A:Around}(r:RoomH (k+1) A)(env:Env):RoomH k (A.deeper env):=
 ⟨by have:=r.dp;show A.depth+1+3 *k+5<_;omega,by have:=r.un;show A.units+3+16 *k+200<_;omega⟩
structure FnOkH(P:Program)(w:World)(K:PySem.W.Frag)(mg:Str->Option Value)(base:Heap)(k:Nat)(f:Addr)(fd:FuncData)(ps:List Str)(sp:Addr->Sp):Prop where
 len: ∀a vs H Q E,sp a vs H Q E->vs.length=ps.length
 run: ∀(A:Around) (a:Addr) (outer:List Env) (s:Shared) (H:Hp) (args:Args) (us:List Value) (vs:List V) (Q:VK) (E:XK),RoomH k A->A.handled=some (.ref a)->Env0 P w K mg base A outer s H->BindsTo s fd args (ps.zip us)->Vals vs us->sp a vs H Q E->
   codeAny (model P w) A (.call (.ref f) args) (CR CX0 outer P w H s Q E) s
structure HasH(P:Program)(w:World)(K:PySem.W.Frag)(mg:Str->Option Value)(base:Heap)(k:Nat)(x:Str)(ps:List Str)(sp:Addr->Sp):Prop where
 ex: ∃f fd,FnOkH P w K mg base k f fd ps sp/\mg x=some (.ref f)/\PySem.W.keepIn K (.ref f)=true/\Binds K fd ps []
section
variable {X:Cx}{k:Nat}{ps:List Str}{sp:Addr->Sp}{x:Str}{p pos:Pos}{e:Expr}{es:List Expr}{t:TA}{a:Addr}
end
section
variable {X:Cx}{pins:List (Addr×Obj)}{σ:St}{H:Hp}{s:Shared}
theorem Inv.adopt{b:Addr}{o:HO}(I:Inv X pins σ H s)(f:FpOk X pins H b)(hs:X.s₀.heap.objs.size<=b)(ok:ObjOk X.prog X.w (upd H b o) s.heap b o):Inv X pins σ (upd H b o) s:=by
 obtain⟨hn,hL,hfs,_,hc,hp⟩:=f
 have ne: ∀c u,H c=some u->c≠b:=fun c u q z=>by subst z;rw[hn]at q;cases q
 refine⟨I.ok,I.os,I.bare,⟨I.base.keep,I.base.slot,fun c oc e n hx=> ?_,I.base.there,fun c xs e=> ?_,fun c oc u e=> ?_,fun c ps e=> ?_⟩,I.loc,I.cell,?_,fun x c e=> ?_,fun p hp'=> ?_,fun c u q=> ?_,I.len⟩
 . rw[a0o (show c≠b from fun z=>absurd (Nat.lt_of_lt_of_le (Heap.lt_size e) (by rw[z];exact hs)) (Nat.lt_irrefl _))]
   exact I.base.free c oc e n hx
 . have e':=I.base.tups c xs e
   rw[a0o (ne c _ e')];exact e'
 . have e':=I.base.frzs c oc u e
   rw[a0o (ne c _ e')];exact e'
 . obtain⟨m1,e'⟩:=I.base.tbls c ps e
   exact⟨m1,by rw[a0o (ne c _ e')];exact e'⟩
 . rw[a0o (Ne.symm hL)];exact I.free
 . rw[a0o (hc x c e)];exact I.freeC x c e
 . obtain⟨e,n,n1,n2,d⟩:=I.pin p hp'
   exact⟨e,by rw[a0o (hp p hp')];exact n,n1,n2,d⟩
 . by_cases hb:c=b
   . subst hb
     rw[a0t]at q
     cases q
     exact ok
   . rw[a0o hb]at q
     exact(I.hok c u q).stay (fun _ _ _ r=>r) (fun c' r=>by rw[a0o (ne c' _ r)];exact r) fun c' xs r=>by rw[a0o (ne c' _ r)];exact r
def viewφ(T:String)(p a:Addr):Heap->Prop:=fun h=>h.get? p=some {cls:= .type T,data:= .fields #[.ref a]}
def b8g(T:String):V->List V->Hp->VK->Prop:=fun x vs H Q=> ∃a kvs,x= .ref a/\vs=[]/\Rd H a (.dK kvs)/\ ∀p,H p=none->Q (.ref p) (upd H p (.ext (viewφ T p a)))
theorem b45{T:String}{a:Addr}{Q:VK}(I:Inv X pins σ H s)(h: ∀p,H p=none->Q (.ref p) (upd H p (.ext (viewφ T p a)))):
   EP X pins σ Q (.ref s.heap.objs.size) {s with heap:=s.heap.push {cls:= .type T,data:= .fields #[.ref a]}}:=by
 refine⟨.ref s.heap.objs.size,_,I.laid (t':=s.toks) (fun b ob q=>Heap.get?_push_of_some _ q) (Nat.le_refl _) ?_,rfl,h _ (I.hok.fresh (Nat.le_refl _))⟩
 exact⟨Heap.get?_push_size _ rfl,⟨_,Heap.get?_push_size _ rfl⟩,fun h1 h2 e k=>k _ e⟩
theorem a99:MtR X "dict.values" (b8g "dict_values"):=by
 intro pins s σ H x vs v us Q I rx rv h
 obtain⟨a,kvs,rfl,rfl,hd,q⟩:=h
 cases rx;cases rv
 obtain⟨_,lo,ws,_,hD⟩:=a55 I.hok hd
 exact call_meetsIn PySem.F.slot_dict_values hD.typeIs PySem.F.entry_dict_values (PySem.F.args_dict_values_1 _) (meets_dict_values (a00 X.prog X.w) a lo) ⟨⟨ws,hD⟩,b45 I q⟩
theorem b24:MtR X "dict.items" (b8g "dict_items"):=by
 intro pins s σ H x vs v us Q I rx rv h
 obtain⟨a,kvs,rfl,rfl,hd,q⟩:=h
 cases rx;cases rv
 obtain⟨_,lo,ws,_,hD⟩:=a55 I.hok hd
 exact call_meetsIn PySem.F.slot_dict_items hD.typeIs PySem.F.entry_dict_items (PySem.F.args_dict_items_1 _) (meets_dict_items (a00 X.prog X.w) a lo) ⟨⟨ws,hD⟩,b45 I q⟩
theorem b75{kvs:List (Key×V)}{ws:List (Key×Value)}(r:KV kvs ws):Vals (kvs.map (·.2)) (ws.map (·.2)):=by
 induction r with
 |nil=>exact .nil
 |cons h _ ih=>exact .cons h.2 ih
theorem KV.at{kvs:List (Key×V)}{ws:List (Key×Value)}(r:KV kvs ws){j:Nat}{k:Key}{u:Value}(h:ws[j]? =some (k,u)): ∃v,kvs[j]? =some (k,v)/\RelV v u:=by
 induction r generalizing j with
 |nil=>simp at h
 |cons h1 _ ih=>
   cases j with
   |zero=>
     simp only[List.getElem?_cons_zero,Option.some.injEq]at h
     rename_i p q _ _ _
     subst h
     refine⟨p.2,?_,h1.2⟩
     simp only[List.getElem?_cons_zero,Option.some.injEq]
     exact Prod.ext h1.1 rfl
   |succ j=>exact ih (by simpa using h)
theorem a57(hc:X.calm=true):CallR X (.type "list") (fun xs H Q=> ∃p a kvs,xs=[.ref p]/\H p=some (.ext (viewφ "dict_values" p a))/\Rd H a (.dK kvs)/\ ∀l,H l=none->Q (.ref l) (upd H l (.lst (kvs.map (·.2))))):=by
 intro pins s σ H xs us Q I r h
 obtain⟨p,a,kvs,rfl,hp,hd,q⟩:=h
 obtain⟨u,rfl,ru⟩:=r.one
 cases ru
 obtain⟨hz,lo,ws,rel,hD⟩:=a55 I.hok hd
 obtain⟨ep,hat⟩:=hD.dictAt
 have hv:s.heap.get? p=some {cls:= .type "dict_values",data:= .fields #[.ref a]}:=(I.hok p _ hp).1
 refine PySem.W.kdl_call (PySem.W.kdl_values (knd:=a00 X.prog X.w) (kvs:=ws) (ep:=ep)) (I.ok.hd hc) ⟨⟨_,hv,rfl,rfl⟩,hat⟩ (by rw[<-rel.length];exact hz) fun h' tk acc c hk hl hi=> ?_
 have e:acc.toList=ws.map (·.2):=PySem.W.kdl_vals_eq acc.toList (by rw[Array.length_toList];exact hi.1) fun j v e=>hi.2 j v (by rw[<-Array.getElem?_toList];exact e)
 refine⟨.ref s.heap.objs.size,_,I.laid (t':=tk) (o:= .lst (kvs.map (·.2))) hk (Nat.le_refl _) ⟨by rw[List.length_map];exact hz,ws.map (·.2),c,b75 rel,?_⟩,rfl,q _ (I.hok.fresh (Nat.le_refl _))⟩
 rw[hl,<-e]
def Prs(H:Hp):List Addr->List (Key×V)->Prop:=Paired fun a kv=>H a=some (.tup [kV kv.1,kv.2])
theorem b2x{kvs:List (Key×V)}{ws:List (Key×Value)}{lo:Addr}(rel:KV kvs ws)(hs:X.s₀.heap.objs.size<=lo):
   ∀{as:List Addr}{j:Nat}{H:Hp},Inv X pins σ H s->(∀a∈as,lo<a/\FpOk X pins H a)->as.Pairwise (· < ·)->as.length+j=ws.length->
     (∀(i:Nat) (a:Addr),as[i]? =some a-> ∃key k x,ws[j+i]? =some (k,x)/\(a00 X.prog X.w).is k key=true/\s.heap.get? a=some {cls:= .type "tuple",data:= .seq #[key,x]})->
     ∃H',Inv X pins σ H' s/\(∀b,(∀a∈as,b≠a)->H' b=H b)/\Prs H' as (kvs.drop j)
 | [],j,H,I,_,_,hl,_=>⟨H,I,fun _ _=>rfl,by
     rw[List.drop_of_length_le (by rw[rel.length];simp at hl;omega)]
     exact .nil⟩
 |a::as,j,H,I,hf,hp,hl,hv=>by
   obtain⟨key,k,x,e1,hk,e2⟩:=hv 0 a rfl
   obtain⟨v,e3,rv⟩:=rel.at e1
   have rk:RelV (kV k) key:=by
     rcases a1a hk with⟨i,t,rfl,rfl⟩ | ⟨x,t,rfl,rfl⟩
     . exact⟨t,rfl⟩
     . exact⟨t,rfl⟩
   obtain⟨hlo,fa⟩:=hf a List.mem_cons_self
   have hpa:=List.pairwise_cons.mp hp
   have I1:Inv X pins σ (upd H a (.tup [kV k,v])) s:=I.adopt fa (Nat.le_trans hs (Nat.le_of_lt hlo)) ⟨by show 2<=sizeLine;decide,[key,x],.cons rk (.cons rv .nil),_,e2,rfl,_,rfl⟩
   have hne: ∀b∈as,b≠a:=fun b hb z=>absurd (hpa.1 b hb) (by rw[z];exact Nat.lt_irrefl _)
   obtain⟨H',I',k1,k2⟩:=b2x rel hs (as:=as) (j:=j+1) I1 (fun b hb=>⟨(hf b (List.mem_cons_of_mem _ hb)).1,by
     have f:=(hf b (List.mem_cons_of_mem _ hb)).2
     exact⟨by rw[a0o (hne b hb)];exact f.1,f.2⟩⟩) hpa.2 (by simp at hl |-;omega) (fun i b hb=>by
     obtain⟨key',k',x',g1,g2,g3⟩:=hv (i+1) b (by simpa using hb)
     exact⟨key',k',x',by rw[<-g1];congr 1;omega,g2,g3⟩)
   refine⟨H',I',fun b hb=> ?_,?_⟩
   . rw[k1 b fun c hc=>hb c (List.mem_cons_of_mem _ hc),a0o (hb a List.mem_cons_self)]
   . have e3':kvs[j]? =some (k,v):=by simpa using e3
     have hlt:j<kvs.length:=(List.getElem?_eq_some_iff.mp e3').1
     have hd:kvs.drop j=(k,v)::kvs.drop (j+1):=by
       rw[List.drop_eq_getElem_cons hlt]
       congr 1
       exact(List.getElem?_eq_some_iff.mp e3').2
     rw[hd]
     refine .cons ?_ k2
     rw[k1 a fun b hb z=>hne b hb z.symm,a0t]
theorem a7i(hc:X.calm=true):CallR X (.type "list") (fun xs H Q=> ∃p a kvs,xs=[.ref p]/\H p=some (.ext (viewφ "dict_items" p a))/\Rd H a (.dK kvs)/\
   ∀l as H1,H l=none->(∀a∈as,H a=none/\a≠l)->(∀b,(∀a∈as,b≠a)->H1 b=upd H l (.lst (as.map V.ref)) b)->Prs H1 as kvs->Q (.ref l) H1):=by
 intro pins s σ H xs us Q I r h
 obtain⟨p,a,kvs,rfl,hp,hd,q⟩:=h
 obtain⟨u,rfl,ru⟩:=r.one
 cases ru
 obtain⟨hz,lo,ws,rel,hD⟩:=a55 I.hok hd
 obtain⟨ep,hat⟩:=hD.dictAt
 have hv:s.heap.get? p=some {cls:= .type "dict_items",data:= .fields #[.ref a]}:=(I.hok p _ hp).1
 refine PySem.W.kdx_call (knd:=a00 X.prog X.w) (kvs:=ws) (ep:=ep) (I.ok.hd hc) ⟨_,hv,rfl,rfl⟩ hat (by rw[<-rel.length];exact hz) fun h' tk acc c as hk hl hlen hG hacc=> ?_
 have hl0:=I.hok.fresh (Nat.le_refl s.heap.objs.size)
 have vr:Vals (as.map V.ref) (as.map Value.ref):=by
   clear hlen hG hacc
   induction as with
   |nil=>exact .nil
   |cons _ _ ih=>exact .cons rfl ih
 have I1:Inv X pins σ (upd H s.heap.objs.size (.lst (as.map V.ref))) {s with heap:=h',toks:=tk}:=I.laid hk (Nat.le_refl _) ⟨by rw[List.length_map,hlen,<-rel.length];exact hz,as.map Value.ref,c,vr,by rw[hl,<-hacc]⟩
 have fa: ∀b∈as,s.heap.objs.size<b/\FpOk X pins (upd H s.heap.objs.size (.lst (as.map V.ref))) b:=fun b hb=>by
   have hlt:=hG.above b hb
   refine⟨hlt,I.fpOk (Nat.le_of_lt hlt) ?_⟩
   rw[a0o (Nat.ne_of_gt hlt)]
   exact I.hok.fresh (Nat.le_of_lt hlt)
 obtain⟨H',I',k1,k2⟩:=b2x (j:=0) rel I.sz I1 fa hG.rise (by omega) (fun i b hb=>by
   obtain⟨key,k,x,g1,g2,g3⟩:=hG.pairs i b hb
   exact⟨key,k,x,by simpa using g1,g2,g3⟩)
 exact⟨.ref s.heap.objs.size,H',I',rfl,q _ as H' hl0 (fun b hb=>⟨I.hok.fresh (Nat.le_of_lt (fa b hb).1),Nat.ne_of_gt (fa b hb).1⟩) k1 (by simpa using k2)⟩
end
inductive D where
 |non |bl (b:Bool) |int (i:Int) |str (x:Str) |lst (ds:List D) |tup (ds:List D) |scr (ds:List D) |ctp (ds:List D) |obj (p:Addr)
mutual
inductive RD(K:PySem.W.Frag)(F:Hp):V->D->Prop where
 |non:RD K F .non .non
 |bl (b:Bool):RD K F (.bl b) (.bl b)
 |int (i:Int):RD K F (.int i) (.int i)
 |str (x:Str):RD K F (.str x) (.str x)
 |lst {a:Addr}{xs:List V}{ds:List D} (e:F a=some (.lst xs)) (r:RDs K F xs ds):RD K F (.ref a) (.lst ds)
 |scr {a:Addr}{xs:List V}{ds:List D} (e:SqL K F a xs) (r:RDs K F xs ds):RD K F (.ref a) (.scr ds)
 |tup {a:Addr}{xs:List V}{ds:List D} (e:F a=some (.tup xs)) (r:RDs K F xs ds):RD K F (.ref a) (.tup ds)
 |ctp {a:Addr}{xs:List V}{ds:List D} (e:SqT K F a xs) (r:RDs K F xs ds):RD K F (.ref a) (.ctp ds)
 |obj (p:Addr):RD K F (.ref p) (.obj p)
inductive RDs(K:PySem.W.Frag)(F:Hp):List V->List D->Prop where
 |nil:RDs K F [] []
 |cons {x:V}{d:D}{xs:List V}{ds:List D} (h:RD K F x d) (t:RDs K F xs ds):RDs K F (x::xs) (d::ds)
end
theorem Same.seqT{K:PySem.W.Frag}{H H':Hp}{a:Addr}{xs:List V}(e:Same H H')(h:SqT K H a xs):SqT K H' a xs:=by
 rcases h with(h | ⟨o,h⟩) |h
 . exact .inl (.inl (e _ _ h))
 . exact .inl (.inr ⟨o,e _ _ h⟩)
 . exact .inr h
mutual
theorem RD.up{K:PySem.W.Frag}{F F':Hp}(e:Same F F'): ∀{x:V}{d:D},RD K F x d->RD K F' x d
 |_,_,.non=> .non
 |_,_,.bl b=> .bl b
 |_,_,.int i=> .int i
 |_,_,.str x=> .str x
 |_,_,.lst q rs=> .lst (e _ _ q) (RDs.up e rs)
 |_,_,.scr q rs=> .scr (e.seq q) (RDs.up e rs)
 |_,_,.tup q rs=> .tup (e _ _ q) (RDs.up e rs)
 |_,_,.ctp q rs=> .ctp (e.seqT q) (RDs.up e rs)
 |_,_,.obj p=> .obj p
theorem RDs.up{K:PySem.W.Frag}{F F':Hp}(e:Same F F'): ∀{xs:List V}{ds:List D},RDs K F xs ds->RDs K F' xs ds
 |_,_,.nil=> .nil
 |_,_,.cons h t=> .cons (RD.up e h) (RDs.up e t)
end
section
variable {K:PySem.W.Frag}{F:Hp}
theorem RDs.length: ∀{xs:List V}{ds:List D},RDs K F xs ds->xs.length=ds.length
 |_,_,.nil=>rfl
 |_,_,.cons _ t=>by simp[RDs.length t]
theorem RDs.get: ∀{xs:List V}{ds:List D}{i:Nat}{d:D},RDs K F xs ds->ds[i]? =some d-> ∃x,xs[i]? =some x/\RD K F x d
 |_,_,_,_,.nil,e=>by simp at e
 |_,_,0,_,.cons h _,e=>by simp at e;subst e;exact⟨_,rfl,h⟩
 |_,_,i+1,d,.cons _ t,e=>by
   obtain⟨x,h1,h2⟩:=RDs.get (i:=i) (d:=d) t (by simpa using e)
   exact⟨x,by simpa using h1,h2⟩
theorem RDs.get': ∀{xs:List V}{ds:List D}{i:Nat}{x:V},RDs K F xs ds->xs[i]? =some x-> ∃d,ds[i]? =some d/\RD K F x d
 |_,_,_,_,.nil,e=>by simp at e
 |_,_,0,_,.cons h _,e=>by simp at e;subst e;exact⟨_,rfl,h⟩
 |_,_,i+1,d,.cons _ t,e=>by
   obtain⟨x,h1,h2⟩:=RDs.get' (i:=i) t (by simpa using e)
   exact⟨x,by simpa using h1,h2⟩
theorem RDs.append: ∀{xs ys:List V}{ds es:List D},RDs K F xs ds->RDs K F ys es->RDs K F (xs++ys) (ds++es)
 |_,_,_,_,.nil,s=>s
 |_,_,_,_,.cons h t,s=> .cons h (RDs.append t s)
theorem RDs.set{x:V}{d:D}(r:RD K F x d): ∀{xs:List V}{ds:List D} (i:Nat),RDs K F xs ds->RDs K F (xs.set i x) (ds.set i d)
 |_,_,_,.nil=> .nil
 |_,_,0,.cons _ t=> .cons r t
 |_,_,i+1,.cons q t=> .cons q (RDs.set r i t)
theorem RDs.take: ∀{xs:List V}{ds:List D} (n:Nat),RDs K F xs ds->RDs K F (xs.take n) (ds.take n)
 |_,_,0,_=> .nil
 |_,_,_+1,.nil=> .nil
 |_,_,n+1,.cons r t=> .cons r (RDs.take n t)
theorem RDs.drop: ∀{xs:List V}{ds:List D} (n:Nat),RDs K F xs ds->RDs K F (xs.drop n) (ds.drop n)
 |_,_,0,r=>r
 |_,_,_+1,.nil=> .nil
 |_,_,n+1,.cons _ t=>RDs.drop n t
theorem RDs.reverse: ∀{xs:List V}{ds:List D},RDs K F xs ds->RDs K F xs.reverse ds.reverse
 |_,_,.nil=> .nil
 |_,_,.cons r t=>by
   rw[List.reverse_cons,List.reverse_cons]
   exact(RDs.reverse t).append (.cons r .nil)
theorem RDs.one'{xs:List V}{d:D}(r:RDs K F xs [d]): ∃x,xs=[x]/\RD K F x d:=by
 cases r with |cons h t=>cases t;exact⟨_,rfl,h⟩
theorem RDs.nil'{xs:List V}(r:RDs K F xs []):xs=[]:=by cases r;rfl
theorem RDs.two'{xs:List V}{d e:D}(r:RDs K F xs [d,e]): ∃x y,xs=[x,y]/\RD K F x d/\RD K F y e:=by
 cases r with |cons h t=>obtain⟨y,rfl,hy⟩:=t.one';exact⟨_,_,rfl,h,hy⟩
end
inductive MO where
 |lst (ds:List D) |dic (kvs:List (Key×D)) |ins (C:Addr) (fs:List (Str×D)) |exc (cls:Value) |raw (u:HO)
noncomputable abbrev Mem:=Addr->Option MO
noncomputable def put(M:Mem)(p:Addr)(o:MO):Mem:=fun b=>if b=p then some o else M b
noncomputable def del(M:Mem)(p:Addr):Mem:=fun b=>if b=p then none else M b
theorem a0c{M:Mem}{p:Addr}{o:MO}:put M p o p=some o:=by unfold put;rw[if_pos rfl]
theorem a0g{M:Mem}{p q:Addr}{o:MO}(h:q≠p):put M p o q=M q:=by unfold put;rw[if_neg h]
theorem a1b{M:Mem}{p:Addr}{o u:MO}:put (put M p o) p u=put M p u:=by funext b;unfold put;split<;>rfl
theorem a3z{M:Mem}{p:Addr}:del M p p=none:=by unfold del;rw[if_pos rfl]
theorem a33{M:Mem}{p q:Addr}(h:q≠p):del M p q=M q:=by unfold del;rw[if_neg h]
theorem a1w{M:Mem}{p:Addr}{o:MO}(h:M p=none):del (put M p o) p=M:=by
 funext b;unfold del put
 by_cases hb:b=p
 . rw[if_pos hb,hb,h]
 . rw[if_neg hb,if_neg hb]
theorem a25{M:Mem}{p q:Addr}{o u:MO}(h:p≠q):put (put M p o) q u=put (put M q u) p o:=by
 funext b;unfold put
 by_cases h1:b=p
 . subst h1;rw[if_neg h,if_pos rfl,if_pos rfl]
 . by_cases h2:b=q
   . rw[if_pos h2,if_neg h1,if_pos h2]
   . rw[if_neg h2,if_neg h1,if_neg h1,if_neg h2]
def Sub(M M':Mem):Prop:= ∀p o,M p=some o->M' p=some o
theorem Sub.refl(M:Mem):Sub M M:=fun _ _ h=>h
theorem Sub.put{M:Mem}{p:Addr}{o:MO}(h:M p=none):Sub M (put M p o):=fun q u e=>by
 rw[a0g (by rintro rfl;rw[h]at e;cases e)];exact e
theorem Sub.trans{M M1 M2:Mem}(a:Sub M M1)(b:Sub M1 M2):Sub M M2:=fun p o h=>b p o (a p o h)
def PF{κ:Type}(K:PySem.W.Frag)(F:Hp):List (κ×V)->List (κ×D)->Prop:=Paired fun p q=>p.1=q.1/\RD K F p.2 q.2
theorem PF.up{κ:Type}{K:PySem.W.Frag}{F F':Hp}(e:Same F F'){a:List (κ×V)}{b:List (κ×D)}(h:PF K F a b):PF K F' a b:=Paired.mapP h fun _ _ q=>⟨q.1,q.2.up e⟩
def RO(K:PySem.W.Frag)(F:Hp)(a:Addr):MO->HO->Prop
 | .lst ds,.lst vs=>RDs K F vs ds
 | .dic kvs,.dK ws=>PF K F ws kvs
 | .ins C fs,.ins C' _ ws=>C'=C/\PF K F ws fs
 | .exc c,.ext φ=>φ=excφ a c
 | .raw u,u'=>u'=u
 |_,_=>False
theorem RO.up{K:PySem.W.Frag}{F F':Hp}(e:Same F F'){a:Addr}: ∀{o:MO}{u:HO},RO K F a o u->RO K F' a o u:=by
 intro o u h
 cases o<;>cases u<;>first
   |exact(False.elim h)
   |exact RDs.up e h
   |exact PF.up e h
   |exact⟨h.1,PF.up e h.2⟩
   |exact h
section
variable {K:PySem.W.Frag}{F:Hp}{a:Addr}{u:HO}
theorem RO.isL{ds:List D}(h:RO K F a (.lst ds) u): ∃vs,u= .lst vs/\RDs K F vs ds:=by
 cases u<;>first |exact(False.elim h) |exact⟨_,rfl,h⟩
theorem RO.isD{kvs:List (Key×D)}(h:RO K F a (.dic kvs) u): ∃ws,u= .dK ws/\PF K F ws kvs:=by
 cases u<;>first |exact(False.elim h) |exact⟨_,rfl,h⟩
theorem RO.isI{C:Addr}{fs:List (Str×D)}(h:RO K F a (.ins C fs) u): ∃dx ws,u= .ins C dx ws/\PF K F ws fs:=by
 cases u<;>first |exact(False.elim h) | (obtain⟨rfl,h⟩:=h;exact⟨_,_,rfl,h⟩)
end
structure AM(K:PySem.W.Frag)(F:Hp)(M:Mem)(H:Hp):Prop where
 sub:Same F H
 dj: ∀p o,M p=some o->F p=none
 mem: ∀p o,M p=some o-> ∃u,H p=some u/\RO K F p o u
theorem a1h{F:Hp}{p:Addr}{u:HO}(h:F p=none):Same F (upd F p u):=fun b o e=>by
 rw[a0o (by rintro rfl;rw[h]at e;cases e)];exact e
section
variable {K:PySem.W.Frag}{F:Hp}{M:Mem}{H:Hp}{p:Addr}{o:MO}{u:HO}
theorem AM.fF(m:AM K F M H)(h:H p=none):F p=none:=m.sub.free h
theorem AM.fM(m:AM K F M H)(h:H p=none):M p=none:=by
 cases q:M p with
 |none=>rfl
 |some o=>obtain⟨u,e,_⟩:=m.mem p o q;rw[h]at e;cases e
theorem AM.new(m:AM K F M H)(h:H p=none)(r:RO K F p o u):AM K F (put M p o) (upd H p u):=by
 refine⟨fun b x e=> ?_,fun b x e=> ?_,fun b x e=> ?_⟩
 . exact a1h h b x (m.sub b x e)
 . by_cases hb:b=p
   . subst hb;exact m.fF h
   . rw[a0g hb]at e;exact m.dj b x e
 . by_cases hb:b=p
   . subst hb;rw[a0c]at e;cases e;exact⟨u,a0t,r⟩
   . rw[a0g hb]at e
     obtain⟨y,e1,r1⟩:=m.mem b x e
     exact⟨y,by rw[a0o hb];exact e1,r1⟩
theorem AM.frz(m:AM K F M H)(h:H p=none):AM K (upd F p u) M (upd H p u):=by
 have hs:=a1h (u:=u) (m.fF h)
 refine⟨fun b x e=> ?_,fun b x e=> ?_,fun b x e=> ?_⟩
 . by_cases hb:b=p
   . subst hb;rw[a0t]at e |-;exact e
   . rw[a0o hb]at e |-;exact m.sub b x e
 . have hb:b≠p:=by rintro rfl;rw[m.fM h]at e;cases e
   rw[a0o hb];exact m.dj b x e
 . have hb:b≠p:=by rintro rfl;rw[m.fM h]at e;cases e
   obtain⟨y,e1,r1⟩:=m.mem b x e
   exact⟨y,by rw[a0o hb];exact e1,r1.up hs⟩
theorem AM.more(m:AM K F M H)(h:H p=none):AM K F M (upd H p u):=by
 refine⟨fun b x e=>a1h h b x (m.sub b x e),m.dj,fun b x e=> ?_⟩
 have hb:b≠p:=by rintro rfl;rw[m.fM h]at e;cases e
 obtain⟨y,e1,r1⟩:=m.mem b x e
 exact⟨y,by rw[a0o hb];exact e1,r1⟩
theorem AM.set{o':MO}(m:AM K F M H)(h:M p=some o)(r:RO K F p o' u):AM K F (put M p o') (upd H p u):=by
 refine⟨fun b x e=> ?_,fun b x e=> ?_,fun b x e=> ?_⟩
 . have hb:b≠p:=by rintro rfl;rw[m.dj _ _ h]at e;cases e
   rw[a0o hb];exact m.sub b x e
 . by_cases hb:b=p
   . subst hb;exact m.dj _ _ h
   . rw[a0g hb]at e;exact m.dj b x e
 . by_cases hb:b=p
   . subst hb;rw[a0c]at e;cases e;exact⟨u,a0t,r⟩
   . rw[a0g hb]at e
     obtain⟨y,e1,r1⟩:=m.mem b x e
     exact⟨y,by rw[a0o hb];exact e1,r1⟩
theorem AM.freeze{ds:List D}(m:AM K F M H)(h:M p=some (.lst ds)): ∃F',Same F F'/\AM K F' (del M p) H/\RD K F' (.ref p) (.lst ds):=by
 obtain⟨y,e,r⟩:=m.mem p _ h
 obtain⟨vs,rfl,r⟩:=r.isL
 have hs:=a1h (u:= .lst vs) (m.dj _ _ h)
 refine⟨upd F p (.lst vs),hs,⟨fun b x q=> ?_,fun b x q=> ?_,fun b x q=> ?_⟩,.lst a0t (r.up hs)⟩
 . by_cases hb:b=p
   . subst hb;rw[a0t]at q;cases q;exact e
   . rw[a0o hb]at q;exact m.sub b x q
 . have hb:b≠p:=by rintro rfl;rw[a3z]at q;cases q
   rw[a33 hb]at q
   rw[a0o hb];exact m.dj b x q
 . have hb:b≠p:=by rintro rfl;rw[a3z]at q;cases q
   rw[a33 hb]at q
   obtain⟨y,e1,r1⟩:=m.mem b x q
   exact⟨y,e1,r1.up hs⟩
theorem AM.less{M':Mem}(m:AM K F M H)(h:Sub M' M):AM K F M' H:=⟨m.sub,fun p o e=>m.dj p o (h p o e),fun p o e=>m.mem p o (h p o e)⟩
end
noncomputable abbrev G:=List (Option D)
structure AG(K:PySem.W.Frag)(F:Hp)(Γ:G)(σ:St):Prop where
 len:Γ.length=σ.length
 at': ∀(i:Nat) (d:D),Γ[i]? =some (some d)-> ∃v,σ[i]? =some (some v)/\RD K F v d
theorem AG.up{K:PySem.W.Frag}{F F':Hp}{Γ:G}{σ:St}(a:AG K F Γ σ)(e:Same F F'):AG K F' Γ σ:=⟨a.len,fun i d h=>let ⟨v,h1,h2⟩:=a.at' i d h;⟨v,h1,h2.up e⟩⟩
theorem AG.set{K:PySem.W.Frag}{F:Hp}{Γ:G}{σ:St}{v:V}{d:D}(a:AG K F Γ σ)(r:RD K F v d)(i:Nat):AG K F (Γ.set i (some d)) (σ.set i (some v)):=by
 refine⟨by simp[a.len],fun j e h=> ?_⟩
 by_cases hj:i=j
 . subst hj
   rw[List.getElem?_set]at h
   simp only[if_true]at h
   split at h
   . rename_i hl
     cases h
     refine⟨v,?_,r⟩
     rw[List.getElem?_set,if_pos rfl,if_pos (by rw[<-a.len];exact hl)]
   . cases h
 . rw[List.getElem?_set_ne hj]at h |-
   exact a.at' j e h
noncomputable abbrev AK:=D->Mem->Prop
noncomputable abbrev AE:=G->Mem->AK->Prop
noncomputable abbrev AT:=G->Mem->(Bool->Mem->Prop)->Prop
noncomputable abbrev AA:=G->Mem->(List D->Mem->Prop)->Prop
structure AEnds where
 nx:G->Mem->Prop
 rt:AK
 bk:G->Mem->Prop:=fun _ _=>False
 ct:G->Mem->Prop:=fun _ _=>False
noncomputable abbrev AS:=AEnds->G->Mem->Prop
def selfE(X:Cx)(e:Expr):TE:=fun σ H Q=> ∀pins s,Inv X pins σ H s->wpAny (model X.prog X.w) X.A (eval e X.env) (EP X pins σ Q) X.xe s
noncomputable def selfT(X:Cx)(e:Expr):TT:=fun σ H Q=> ∀pins s,Inv X pins σ H s->wpAny (model X.prog X.w) X.A (isTrue e X.env (eval e X.env)) (TP X pins σ Q) X.xe s
noncomputable def selfW(X:Cx)(e:Expr):TT:=fun σ H Q=> ∀whole pins s,Inv X pins σ H s->wpAny (model X.prog X.w) X.A (isTrue e X.env whole) (TP X pins σ Q) X.xe s
def selfA(X:Cx)(es:List Expr):TA:=fun σ H Q=> ∀pos pins s,Inv X pins σ H s->wpAny (model X.prog X.w) X.A (spliced (backTo pos (starEach es X.env))) (AP X pins σ Q) X.xe s
noncomputable def selfS(X:Cx)(st:Stmt):TS:=fun D σ H=> ∀pins s,Inv X pins σ H s->wpAny (model X.prog X.w) X.A (exec st X.env) (SP X pins D) X.xe s
noncomputable def selfSs(X:Cx)(st:List Stmt):TS:=fun D σ H=> ∀pins s,Inv X pins σ H s->wpAny (model X.prog X.w) X.A (execs st X.env) (SP X pins D) X.xe s
def selfG(X:Cx)(tg:Expr):TG:=fun v σ H Q=> ∀pins s u,Inv X pins σ H s->RelV v u->wpAny (model X.prog X.w) X.A (assign tg X.env u) (fun _ s'=> ∃σ' H',Inv X pins σ' H' s'/\Q σ' H') X.xe s
def selfGs(X:Cx)(ts:List Expr):TGs:=fun vs σ H Q=> ∀pins s us,Inv X pins σ H s->Vals vs us->wpAny (model X.prog X.w) X.A (assignInOrder ((assignEach ts X.env).map (·.2)) us) (fun _ s'=> ∃σ' H',Inv X pins σ' H' s'/\Q σ' H') X.xe s
section
variable {X:Cx}{e:Expr}{es:List Expr}{st:Stmt}{sts:List Stmt}{σ:St}{H:Hp}
theorem a0l:PE X e (selfE X e):=fun pins s _ _ _ I h=>h pins s I
theorem a3k:PT X e (selfT X e):=fun pins s _ _ _ I h=>h pins s I
theorem b5s:PW X e (selfW X e):=fun w pins s _ _ _ I h=>h w pins s I
theorem a1q:PA X es (selfA X es):=fun pos pins s _ _ _ I h=>h pos pins s I
theorem b5v:PS X st (selfS X st):=fun pins s _ _ _ I h=>h pins s I
theorem a2a:PSs X sts (selfSs X sts):=fun pins s _ _ _ I h=>h pins s I
theorem a8r:PG X e (selfG X e):=fun pins s _ _ _ u _ I r h=>h pins s u I r
theorem a8q:PGs X es (selfGs X es):=fun pins s _ _ _ us _ I r h=>h pins s us I r
theorem PE.to{t:TE}{Q:VK}(h:PE X e t)(hw:t σ H Q):selfE X e σ H Q:=fun pins s I=>h pins s σ H Q I hw
theorem PT.to{t:TT}{Q:Bool->Hp->Prop}(h:PT X e t)(hw:t σ H Q):selfT X e σ H Q:=fun pins s I=>h pins s σ H Q I hw
theorem PW.to{t:TT}{Q:Bool->Hp->Prop}(h:PW X e t)(hw:t σ H Q):selfW X e σ H Q:=fun w pins s I=>h w pins s σ H Q I hw
theorem PA.to{t:TA}{Q:List V->Hp->Prop}(h:PA X es t)(hw:t σ H Q):selfA X es σ H Q:=fun pos pins s I=>h pos pins s σ H Q I hw
theorem PS.to{t:TS}{D:Ends}(h:PS X st t)(hw:t D σ H):selfS X st D σ H:=fun pins s I=>h pins s σ H D I hw
theorem PSs.to{t:TS}{D:Ends}(h:PSs X sts t)(hw:t D σ H):selfSs X sts D σ H:=fun pins s I=>h pins s σ H D I hw
theorem PG.to{t:TG}{v:V}{Q:St->Hp->Prop}(h:PG X e t)(hw:t v σ H Q):selfG X e v σ H Q:=fun pins s u I r=>h pins s σ H v u Q I r hw
theorem PGs.to{t:TGs}{vs:List V}{Q:St->Hp->Prop}(h:PGs X es t)(hw:t vs σ H Q):selfGs X es vs σ H Q:=fun pins s us I r=>h pins s σ H vs us Q I r hw
theorem selfE.mono{Q Q':VK}(h:selfE X e σ H Q)(k: ∀v H',Q v H'->Q' v H'):selfE X e σ H Q':=fun pins s I=>thn (h pins s I) fun _ _ ⟨v,H',J,r,q⟩=>⟨v,H',J,r,k v H' q⟩
theorem selfT.mono{Q Q':Bool->Hp->Prop}(h:selfT X e σ H Q)(k: ∀v H',Q v H'->Q' v H'):selfT X e σ H Q':=fun pins s I=>thn (h pins s I) fun b _ ⟨H',J,q⟩=>⟨H',J,k b H' q⟩
theorem selfW.mono{Q Q':Bool->Hp->Prop}(h:selfW X e σ H Q)(k: ∀v H',Q v H'->Q' v H'):selfW X e σ H Q':=fun w pins s I=>thn (h w pins s I) fun b _ ⟨H',J,q⟩=>⟨H',J,k b H' q⟩
theorem selfA.mono{Q Q':List V->Hp->Prop}(h:selfA X es σ H Q)(k: ∀v H',Q v H'->Q' v H'):selfA X es σ H Q':=fun pos pins s I=>thn (h pos pins s I) fun _ _ ⟨v,H',J,r,q⟩=>⟨v,H',J,r,k v H' q⟩
theorem selfG.mono{v:V}{Q Q':St->Hp->Prop}(h:selfG X e v σ H Q)(k: ∀σ' H',Q σ' H'->Q' σ' H'):selfG X e v σ H Q':=fun pins s u I r=>thn (h pins s u I r) fun _ _ ⟨σ',H',J,q⟩=>⟨σ',H',J,k σ' H' q⟩
theorem selfGs.mono{vs:List V}{Q Q':St->Hp->Prop}(h:selfGs X es vs σ H Q)(k: ∀σ' H',Q σ' H'->Q' σ' H'):selfGs X es vs σ H Q':=fun pins s u I r=>thn (h pins s u I r) fun _ _ ⟨σ',H',J,q⟩=>⟨σ',H',J,k σ' H' q⟩
structure EndsTo(D D':Ends):Prop where
 nx: ∀σ H,D.nx σ H->D'.nx σ H
 rt: ∀v H,D.rt v H->D'.rt v H
 bk: ∀σ H,D.bk σ H->D'.bk σ H
 ct: ∀σ H,D.ct σ H->D'.ct σ H
theorem SP.to{pins:List (Addr×Obj)}{D D':Ends}(k:EndsTo D D'){f:Flow}{s:Shared}(h:SP X pins D f s):SP X pins D' f s:=by
 cases f with
 |next=>obtain⟨σ',H',I,q⟩:=h;exact⟨σ',H',I,k.nx _ _ q⟩
 |brk=>obtain⟨σ',H',I,q⟩:=h;exact⟨σ',H',I,k.bk _ _ q⟩
 |cont=>obtain⟨σ',H',I,q⟩:=h;exact⟨σ',H',I,k.ct _ _ q⟩
 |ret u=>obtain⟨v,σ',H',I,r,q⟩:=h;exact⟨v,σ',H',I,r,k.rt _ _ q⟩
theorem selfS.mono{D D':Ends}(h:selfS X st D σ H)(k:EndsTo D D'):selfS X st D' σ H:=fun pins s I=>thn (h pins s I) fun _ _ q=>q.to k
theorem selfSs.mono{D D':Ends}(h:selfSs X sts D σ H)(k:EndsTo D D'):selfSs X sts D' σ H:=fun pins s I=>thn (h pins s I) fun _ _ q=>q.to k
end
def PQ(K:PySem.W.Frag)(F:Hp)(Q:AK):VK:=fun v H'=> ∃d F' M',Same F F'/\AM K F' M' H'/\RD K F' v d/\Q d M'
def PQb(K:PySem.W.Frag)(F:Hp)(Q:Bool->Mem->Prop):Bool->Hp->Prop:=fun b H'=> ∃F' M',Same F F'/\AM K F' M' H'/\Q b M'
def PQs(K:PySem.W.Frag)(F:Hp)(Q:List D->Mem->Prop):List V->Hp->Prop:=fun vs H'=> ∃ds F' M',Same F F'/\AM K F' M' H'/\RDs K F' vs ds/\Q ds M'
def PQg(K:PySem.W.Frag)(F:Hp)(Q:G->Mem->Prop):St->Hp->Prop:=fun σ' H'=> ∃F' Γ' M',Same F F'/\AG K F' Γ' σ'/\AM K F' M' H'/\Q Γ' M'
noncomputable def PQD(K:PySem.W.Frag)(F:Hp)(E:AEnds):Ends:=⟨PQg K F E.nx,PQ K F E.rt,PQg K F E.bk,PQg K F E.ct⟩
section
variable {K:PySem.W.Frag}{F F1:Hp}
theorem PQ.dn{Q:AK}(e:Same F F1){v:V}{H:Hp}(h:PQ K F1 Q v H):PQ K F Q v H:=let ⟨d,F',M',a,b,c,q⟩:=h;⟨d,F',M',e.trans a,b,c,q⟩
theorem PQb.dn{Q:Bool->Mem->Prop}(e:Same F F1){v:Bool}{H:Hp}(h:PQb K F1 Q v H):PQb K F Q v H:=let ⟨F',M',a,b,q⟩:=h;⟨F',M',e.trans a,b,q⟩
theorem PQg.dn{Q:G->Mem->Prop}(e:Same F F1){v:St}{H:Hp}(h:PQg K F1 Q v H):PQg K F Q v H:=let ⟨d,F',M',a,b,c,q⟩:=h;⟨d,F',M',e.trans a,b,c,q⟩
theorem PQD.dn{E:AEnds}(e:Same F F1):EndsTo (PQD K F1 E) (PQD K F E):=⟨fun _ _ h=>PQg.dn e h,fun _ _ h=>PQ.dn e h,fun _ _ h=>PQg.dn e h,fun _ _ h=>PQg.dn e h⟩
end
structure PEA(X:Cx)(F0:Hp)(e:Expr)(t:AE):Prop where
 run: ∀F Γ M σ H Q,Same F0 F->AG X.K F Γ σ->AM X.K F M H->t Γ M Q->selfE X e σ H (PQ X.K F Q)
structure PTA(X:Cx)(F0:Hp)(e:Expr)(t:AT):Prop where
 run: ∀F Γ M σ H Q,Same F0 F->AG X.K F Γ σ->AM X.K F M H->t Γ M Q->selfT X e σ H (PQb X.K F Q)
structure PWA(X:Cx)(F0:Hp)(e:Expr)(t:AT):Prop where
 run: ∀F Γ M σ H Q,Same F0 F->AG X.K F Γ σ->AM X.K F M H->t Γ M Q->selfW X e σ H (PQb X.K F Q)
structure PAA(X:Cx)(F0:Hp)(es:List Expr)(t:AA):Prop where
 run: ∀F Γ M σ H Q,Same F0 F->AG X.K F Γ σ->AM X.K F M H->t Γ M Q->selfA X es σ H (PQs X.K F Q)
structure PSA(X:Cx)(F0:Hp)(st:Stmt)(t:AS):Prop where
 run: ∀F Γ M σ H E,Same F0 F->AG X.K F Γ σ->AM X.K F M H->t E Γ M->selfS X st (PQD X.K F E) σ H
structure PSsA(X:Cx)(F0:Hp)(sts:List Stmt)(t:AS):Prop where
 run: ∀F Γ M σ H E,Same F0 F->AG X.K F Γ σ->AM X.K F M H->t E Γ M->selfSs X sts (PQD X.K F E) σ H
noncomputable abbrev AGt:=D->G->Mem->(G->Mem->Prop)->Prop
noncomputable abbrev AGts:=List D->G->Mem->(G->Mem->Prop)->Prop
structure PGA(X:Cx)(F0:Hp)(tg:Expr)(t:AGt):Prop where
 run: ∀F Γ M σ H v d Q,Same F0 F->AG X.K F Γ σ->AM X.K F M H->RD X.K F v d->t d Γ M Q->selfG X tg v σ H (PQg X.K F Q)
structure PGsA(X:Cx)(F0:Hp)(ts:List Expr)(t:AGts):Prop where
 run: ∀F Γ M σ H vs ds Q,Same F0 F->AG X.K F Γ σ->AM X.K F M H->RDs X.K F vs ds->t ds Γ M Q->selfGs X ts vs σ H (PQg X.K F Q)
def aV(i:Nat):AE:=fun Γ M Q=>match Γ[i]? with |some (some d)=>Q d M |_=>False
def aC(d:D):AE:=fun _ M Q=>Q d M
theorem PQ.here{K:PySem.W.Frag}{F:Hp}{M:Mem}{H:Hp}{Q:AK}{v:V}{d:D}(m:AM K F M H)(r:RD K F v d)(q:Q d M):PQ K F Q v H:=⟨d,F,M,.refl F,m,r,q⟩
theorem PQb.here{K:PySem.W.Frag}{F:Hp}{M:Mem}{H:Hp}{Q:Bool->Mem->Prop}{v:Bool}(m:AM K F M H)(q:Q v M):PQb K F Q v H:=⟨F,M,.refl F,m,q⟩
theorem PQg.here{K:PySem.W.Frag}{F:Hp}{M:Mem}{H:Hp}{Q:G->Mem->Prop}{Γ:G}{σ:St}(m:AM K F M H)(g:AG K F Γ σ)(q:Q Γ M):PQg K F Q σ H:=⟨F,Γ,M,.refl F,g,m,q⟩
section
variable {X:Cx}{F0:Hp}{a b e:Expr}{es:List Expr}{pos:Pos}{ta tb te:AE}{i:Nat}{x:Str}
theorem paV(h:PE X e (tVar i)):PEA X F0 e (aV i):=by
 refine⟨?_⟩
 intro F Γ M σ H Q f0 g m hw
 unfold aV at hw
 split at hw
 . rename_i d hd
   obtain⟨v,e1,r⟩:=g.at' i d hd
   exact h.to ⟨v,e1,.here m r hw⟩
 . exact hw.elim
theorem paC{v:V}{d:D}(h:PE X e (tC v))(r: ∀F,RD X.K F v d):PEA X F0 e (aC d):=⟨fun F Γ M σ H Q _ _ m hw=>h.to (PQ.here m (r F) hw)⟩
theorem paI{n:Int}{j}:PEA X F0 (.Constant (.int n) j pos) (aC (.int n)):=paC pe_int fun _=> .int _
theorem paB{n:Bool}{j}:PEA X F0 (.Constant (.bool n) j pos) (aC (.bl n)):=paC pe_bl fun _=> .bl _
theorem paN{j}:PEA X F0 (.Constant .none j pos) (aC .non):=paC pe_non fun _=> .non
theorem paS{n:Str}{j}:PEA X F0 (.Constant (.str n) j pos) (aC (.str n)):=paC pe_str fun _=> .str _
theorem two(ha:PEA X F0 a ta)(hb:PEA X F0 b tb){F:Hp}{Γ:G}{M:Mem}{σ:St}{H:Hp}{R:D->D->Mem->Prop}(f0:Same F0 F)(g:AG X.K F Γ σ)(m:AM X.K F M H)(h:ta Γ M fun x M1=>tb Γ M1 fun y M2=>R x y M2)
   {Q:V->V->Hp->Prop} (k: ∀F2 M2 H2 v u x y,Same F F2->AM X.K F2 M2 H2->RD X.K F2 v x->RD X.K F2 u y->R x y M2->Q v u H2):selfE X a σ H fun v H1=>selfE X b σ H1 fun u H2=>Q v u H2:=by
 refine(ha.run F Γ M σ H _ f0 g m h).mono fun v H1 zz9=> ?_
 obtain⟨x,F1,M1,s1,m1,r1,q1⟩:=zz9
 refine(hb.run F1 Γ M1 σ H1 _ (f0.trans s1) (g.up s1) m1 q1).mono fun u H2 zz9=> ?_
 obtain⟨y,F2,M2,s2,m2,r2,q2⟩:=zz9
 exact k F2 M2 H2 v u x y (s1.trans s2) m2 (r1.up s2) r2 q2
noncomputable abbrev A2:=D->D->Mem->AK->Prop
def aOp(r:A2)(ta tb:AE):AE:=fun Γ M Q=>ta Γ M fun x M1=>tb Γ M1 fun y M2=>r x y M2 Q
def LO(K:PySem.W.Frag)(r:R2)(a:A2):Prop:= ∀(F:Hp) (M:Mem) (H:Hp) (x y:V) (dx dy:D) (Q:AK) (R:VK),AM K F M H->RD K F x dx->RD K F y dy->a dx dy M Q->(∀v H',PQ K F Q v H'->R v H')->r x y H R
theorem paOp{op:Operator}{r:R2}{o:A2}(ho:OpR X (binaryOp op) r)(l:LO X.K r o)(ha:PEA X F0 a ta)(hb:PEA X F0 b tb):PEA X F0 (.BinOp a op b pos) (aOp o ta tb):=by
 refine⟨?_⟩
 intro F Γ M σ H Q f0 g m h
 exact(pe_op ho a0l a0l).to (two ha hb f0 g m h fun F2 M2 H2 v u x y s m2 r1 r2 q=>l F2 M2 H2 v u x y Q _ m2 r1 r2 q fun _ _ z=>z.dn s)
theorem a8u{op:CmpOp}{r:R2}{o:A2}(ho:OpR X (compareOp op) r)(l:LO X.K r o)(ha:PEA X F0 a ta)(hb:PEA X F0 b tb)(hm:behindInMarks op b=false):PEA X F0 (.Compare a [op] [b] pos) (aOp o ta tb):=by
 refine⟨?_⟩
 intro F Γ M σ H Q f0 g m h
 exact(pe_cmpR ho a0l a0l hm).to (two ha hb f0 g m h fun F2 M2 H2 v u x y s m2 r1 r2 q=>l F2 M2 H2 v u x y Q _ m2 r1 r2 q fun _ _ z=>z.dn s)
def aT(t:AE):AT:=fun Γ M Q=>t Γ M fun d M'=>match d with | .bl b=>Q b M' |_=>False
theorem PQ.bool{K:PySem.W.Frag}{F:Hp}{Q:Bool->Mem->Prop}{v:V}{H:Hp}(h:PQ K F (fun d M'=>match d with | .bl b=>Q b M' |_=>False) v H): ∃k,v= .bl k/\PQb K F Q k H:=by
 obtain⟨d,F',M',s,m,r,q⟩:=h
 cases r<;>first
   |exact⟨_,rfl,F',M',s,m,q⟩
   |exact q.elim
theorem a0v{op:CmpOp}{r:R2}{o:A2}(ho:OpR X (compareOp op) r)(l:LO X.K r o)(ha:PEA X F0 a ta)(hb:PEA X F0 b tb)(hm:behindInMarks op b=false):PTA X F0 (.Compare a [op] [b] pos) (aT (aOp o ta tb)):=by
 refine⟨?_⟩
 intro F Γ M σ H Q f0 g m h
 refine(pt_cmpR ho a0l a0l hm).to (two ha hb f0 g m h fun F2 M2 H2 v u x y s m2 r1 r2 q=>l F2 M2 H2 v u x y _ _ m2 r1 r2 q fun _ _ z=> ?_)
 exact PQ.bool (z.dn s)
theorem ptV(h:PEA X F0 e te)(he: ∀whole,isTrue e X.env whole=(do let v <-whole;standAt e.pos;holding [v] (truthy v)):=by intro _;rfl):PTA X F0 e (aT te):=by
 refine⟨?_⟩
 intro F Γ M σ H Q f0 g m hw
 refine(pt_val a0l he).to ((h.run F Γ M σ H _ f0 g m hw).mono fun v H1 z=>PQ.bool z)
def aAnd(t u:AT):AT:=fun Γ M Q=>t Γ M fun c M1=>if c=true then u Γ M1 Q else Q false M1
def aOr(t u:AT):AT:=fun Γ M Q=>t Γ M fun c M1=>if c=true then Q true M1 else u Γ M1 Q
def aNot(t:AT):AT:=fun Γ M Q=>t Γ M fun c M1=>Q (!c) M1
variable {tA tB:AT}{rest:List Expr}
theorem a5f(ha:PTA X F0 a tA):PTA X F0 (.UnaryOp .Not a pos) (aNot tA):=by
 refine⟨?_⟩
 intro F Γ M σ H Q f0 g m h
 exact(pt_not a3k).to ((ha.run F Γ M σ H _ f0 g m h).mono fun c H1 z=>z)
theorem b2u(ha:PTA X F0 a tA):PWA X F0 (.BoolOp .And [a] pos) tA:=⟨fun F Γ M σ H Q f0 g m h=>(pw_and1 a3k).to (ha.run F Γ M σ H Q f0 g m h)⟩
theorem a52(ha:PTA X F0 a tA):PWA X F0 (.BoolOp .Or [a] pos) tA:=⟨fun F Γ M σ H Q f0 g m h=>(pw_or1 a3k).to (ha.run F Γ M σ H Q f0 g m h)⟩
theorem b8h(ha:PTA X F0 a tA)(hb:PWA X F0 (.BoolOp .And (b::rest) pos) tB):PWA X F0 (.BoolOp .And (a::b::rest) pos) (aAnd tA tB):=by
 refine⟨?_⟩
 intro F Γ M σ H Q f0 g m h
 refine(pw_and a3k b5s).to ((ha.run F Γ M σ H _ f0 g m h).mono fun c H1 zz9=> ?_)
 obtain⟨F1,M1,s1,m1,q1⟩:=zz9
 cases c with
 |true=>
   rw[if_pos rfl]at q1 |-
   exact(hb.run F1 Γ M1 σ H1 Q (f0.trans s1) (g.up s1) m1 q1).mono fun _ _ z=>z.dn s1
 |false=>
   rw[if_neg Bool.false_ne_true]at q1 |-
   exact⟨F1,M1,s1,m1,q1⟩
theorem pwOr(ha:PTA X F0 a tA)(hb:PWA X F0 (.BoolOp .Or (b::rest) pos) tB):PWA X F0 (.BoolOp .Or (a::b::rest) pos) (aOr tA tB):=by
 refine⟨?_⟩
 intro F Γ M σ H Q f0 g m h
 refine(pw_or a3k b5s).to ((ha.run F Γ M σ H _ f0 g m h).mono fun c H1 zz9=> ?_)
 obtain⟨F1,M1,s1,m1,q1⟩:=zz9
 cases c with
 |true=>
   rw[if_pos rfl]at q1 |-
   exact⟨F1,M1,s1,m1,q1⟩
 |false=>
   rw[if_neg Bool.false_ne_true]at q1 |-
   exact(hb.run F1 Γ M1 σ H1 Q (f0.trans s1) (g.up s1) m1 q1).mono fun _ _ z=>z.dn s1
theorem PWA.pt{t:AT}(h:PWA X F0 e t):PTA X F0 e t:=⟨fun F Γ M σ H Q f0 g m hw pins s I=>h.run F Γ M σ H Q f0 g m hw _ pins s I⟩
def aAndV(ta tb:AE):AE:=fun Γ M Q=>aT ta Γ M fun c M1=>if c=true then tb Γ M1 Q else Q (.bl false) M1
def aOrV(ta tb:AE):AE:=fun Γ M Q=>aT ta Γ M fun c M1=>if c=true then Q (.bl true) M1 else tb Γ M1 Q
def aNotV(ta:AE):AE:=fun Γ M Q=>aT ta Γ M fun c M1=>Q (.bl (!c)) M1
theorem paOne{op}(h:PEA X F0 a ta):PEA X F0 (.BoolOp op [a] pos) ta:=⟨fun F Γ M σ H Q f0 g m hw=>(pe_one a0l).to (h.run F Γ M σ H Q f0 g m hw)⟩
theorem b8x(ha:PEA X F0 a ta)(hb:PEA X F0 (.BoolOp .And (b::rest) pos) tb):PEA X F0 (.BoolOp .And (a::b::rest) pos) (aAndV ta tb):=by
 refine⟨?_⟩
 intro F Γ M σ H Q f0 g m h
 refine(pe_and a0l a0l).to ((ha.run F Γ M σ H _ f0 g m h).mono fun v H1 z=> ?_)
 obtain⟨c,rfl,F1,M1,s1,m1,q1⟩:=PQ.bool z
 refine⟨c,rfl,?_⟩
 cases c with
 |true=>
   rw[if_pos rfl]at q1 |-
   exact(hb.run F1 Γ M1 σ H1 Q (f0.trans s1) (g.up s1) m1 q1).mono fun _ _ z=>z.dn s1
 |false=>
   rw[if_neg Bool.false_ne_true]at q1 |-
   exact⟨_,F1,M1,s1,m1,.bl _,q1⟩
theorem paNot(ha:PEA X F0 a ta):PEA X F0 (.UnaryOp .Not a pos) (aNotV ta):=by
 refine⟨?_⟩
 intro F Γ M σ H Q f0 g m h
 refine(pe_not a0l).to ((ha.run F Γ M σ H _ f0 g m h).mono fun v H1 z=> ?_)
 obtain⟨c,rfl,F1,M1,s1,m1,q1⟩:=PQ.bool z
 exact⟨c,rfl,_,F1,M1,s1,m1,.bl _,q1⟩
def aUn(r:D->Mem->AK->Prop)(ta:AE):AE:=fun Γ M Q=>ta Γ M fun x M1=>r x M1 Q
def LU(K:PySem.W.Frag)(r:V->Hp->VK->Prop)(a:D->Mem->AK->Prop):Prop:= ∀(F:Hp) (M:Mem) (H:Hp) (x:V) (dx:D) (Q:AK) (R:VK),AM K F M H->RD K F x dx->a dx M Q->(∀v H',PQ K F Q v H'->R v H')->r x H R
theorem paUn{op:UnaryOp}{r:V->Hp->VK->Prop}{o:D->Mem->AK->Prop}(ho:UnR X (unaryOp op) r)(l:LU X.K r o)(ha:PEA X F0 a ta):PEA X F0 (.UnaryOp op a pos) (aUn o ta):=by
 refine⟨?_⟩
 intro F Γ M σ H Q f0 g m h
 exact(pe_un ho a0l).to ((ha.run F Γ M σ H _ f0 g m h).mono fun v H1 ⟨x,F1,M1,s1,m1,r1,q1⟩=>l F1 M1 H1 v x Q _ m1 r1 q1 fun _ _ z=>z.dn s1)
theorem paIx{r:R2}{o:A2}(ho:IxR X r)(l:LO X.K r o)(ha:PEA X F0 a ta)(hb:PEA X F0 b tb)(hs:b72 b):PEA X F0 (.Subscript a b pos) (aOp o ta tb):=by
 refine⟨?_⟩
 intro F Γ M σ H Q f0 g m h
 exact(pe_ix ho a0l a0l hs).to (two ha hb f0 g m h fun F2 M2 H2 v u x y s m2 r1 r2 q=>l F2 M2 H2 v u x y Q _ m2 r1 r2 q fun _ _ z=>z.dn s)
def aNil:AA:=fun _ M Q=>Q [] M
def b0r(ta:AE)(tr:AA):AA:=fun Γ M Q=>ta Γ M fun x M1=>tr Γ M1 fun xs M2=>Q (x::xs) M2
variable {tt:AA}
theorem a0f:PAA X F0 [] aNil:=⟨fun F Γ M σ H Q _ _ m h=>pa_nil.to ⟨[],F,M,.refl F,m,.nil,h⟩⟩
theorem a0a(ha:PEA X F0 e te)(hr:PAA X F0 es tt)(hs:starEach (e::es) X.env=(false,eval e X.env)::starEach es X.env:=by rfl):PAA X F0 (e::es) (b0r te tt):=by
 refine⟨?_⟩
 intro F Γ M σ H Q f0 g m h
 refine(a6u a0l a1q hs).to ((ha.run F Γ M σ H _ f0 g m h).mono fun v H1 zz9=> ?_)
 obtain⟨x,F1,M1,s1,m1,r1,q1⟩:=zz9
 exact(hr.run F1 Γ M1 σ H1 _ (f0.trans s1) (g.up s1) m1 q1).mono fun vs H2 ⟨xs,F2,M2,s2,m2,r2,q2⟩=>⟨x::xs,F2,M2,s1.trans s2,m2,.cons (r1.up s2) r2,q2⟩
def aTup(t:AA):AE:=fun Γ M Q=>t Γ M fun ds M1=>ds.length<=1000/\Q (.tup ds) M1
def aLst(t:AA):AE:=fun Γ M Q=>t Γ M fun ds M1=>ds.length<=1000/\Q (.lst ds) M1
def aLstM(t:AA):AE:=fun Γ M Q=>t Γ M fun ds M1=>ds.length<=1000/\ ∀p,M1 p=none->Q (.obj p) (put M1 p (.lst ds))
theorem a5n{n:Nat}(h:n<=1000):n<=sizeLine:=Nat.le_of_lt (a4i h)
theorem a2b{x1}(h:PAA X F0 es tt):PEA X F0 (.Tuple es x1 pos) (aTup tt):=by
 refine⟨?_⟩
 intro F Γ M σ H Q f0 g m hw
 refine(pe_tup a1q).to ((h.run F Γ M σ H _ f0 g m hw).mono fun vs H1 zz9=> ?_)
 obtain⟨ds,F1,M1,s1,m1,r1,hl,q1⟩:=zz9
 refine⟨by rw[r1.length];exact a5n hl,fun p hp=>⟨.tup ds,upd F1 p (.tup vs),M1,s1.trans (a1h (m1.fF hp)),m1.frz hp,.tup a0t (r1.up (a1h (m1.fF hp))),q1⟩⟩
theorem a6x(h:PAA X F0 es tt):PEA X F0 (.List es pos) (aLst tt):=by
 refine⟨?_⟩
 intro F Γ M σ H Q f0 g m hw
 refine(pe_lst a1q).to ((h.run F Γ M σ H _ f0 g m hw).mono fun vs H1 zz9=> ?_)
 obtain⟨ds,F1,M1,s1,m1,r1,hl,q1⟩:=zz9
 refine⟨by rw[r1.length];exact a5n hl,fun p hp=>⟨.lst ds,upd F1 p (.lst vs),M1,s1.trans (a1h (m1.fF hp)),m1.frz hp,.lst a0t (r1.up (a1h (m1.fF hp))),q1⟩⟩
theorem a31(h:PAA X F0 es tt):PEA X F0 (.List es pos) (aLstM tt):=by
 refine⟨?_⟩
 intro F Γ M σ H Q f0 g m hw
 refine(pe_lst a1q).to ((h.run F Γ M σ H _ f0 g m hw).mono fun vs H1 zz9=> ?_)
 obtain⟨ds,F1,M1,s1,m1,r1,hl,q1⟩:=zz9
 exact⟨by rw[r1.length];exact a5n hl,fun p hp=>⟨.obj p,F1,_,s1,m1.new (o:= .lst ds) hp r1,.obj p,q1 p (m1.fM hp)⟩⟩
def aFz(t:AE):AE:=fun Γ M Q=>t Γ M fun d M'=>match d with | .obj p=>(match M' p with |some (.lst ds)=>Q (.lst ds) (del M' p) |_=>False) |_=>False
theorem paFz(h:PEA X F0 e te):PEA X F0 e (aFz te):=by
 refine⟨?_⟩
 intro F Γ M σ H Q f0 g m hw
 refine(h.run F Γ M σ H _ f0 g m hw).mono fun v H1 zz9=> ?_
 obtain⟨d,F1,M1,s1,m1,r1,q1⟩:=zz9
 cases r1 with
 |obj p=>
   try dsimp only at q1
   split at q1
   . rename_i ds hd
     obtain⟨F2,s2,m2,r2⟩:=m1.freeze hd
     exact⟨_,F2,_,s1.trans s2,m2,r2,q1⟩
   . exact q1.elim
 |_=>exact q1.elim
noncomputable abbrev A1s:=List D->Mem->AK->Prop
def b71(r:A1s)(t:AA):AE:=fun Γ M Q=>t Γ M fun ds M1=>r ds M1 Q
def LC(K:PySem.W.Frag)(r:List V->Hp->VK->Prop)(a:A1s):Prop:= ∀(F:Hp) (M:Mem) (H:Hp) (xs:List V) (ds:List D) (Q:AK) (R:VK),AM K F M H->RDs K F xs ds->a ds M Q->(∀v H',PQ K F Q v H'->R v H')->r xs H R
variable {p:Pos}{id T:String}{r:List V->Hp->VK->Prop}{o:A1s}
theorem a0z(hc:CallR X (.builtin id) r)(l:LC X.K r o)(hg:Gl X x)(hm:X.mg x=none)(hv:bootBuiltins x=some (.builtin id))(ha:PAA X F0 (e::es) tt)(hn:x≠ "__name__":=by decide)(hdb:(x==("__debug__":Str))=false:=by decide)
   (he:starEach (e::es) X.env=(false,eval e X.env)::starEach es X.env:=by rfl) (hpl:(backTo pos (starEach es X.env)).any (·.1)=false:=by rfl):PEA X F0 (.Call (.Name x p) (e::es) [] pos) (b71 o tt):=by
 refine⟨?_⟩
 intro F Γ M σ H Q f0 g m hw
 exact(a8s hc hg hm hv a1q hn hdb he hpl).to ((ha.run F Γ M σ H _ f0 g m hw).mono fun vs H1 ⟨ds,F1,M1,s1,m1,r1,q1⟩=>l F1 M1 H1 vs ds Q _ m1 r1 q1 fun _ _ z=>z.dn s1)
theorem a4o(hc:CallR X (.type T) r)(l:LC X.K r o)(hg:Gl X x)(hm:X.mg x=none)(hv:bootBuiltins x=some (.type T))(ha:PAA X F0 (e::es) tt)(hn:x≠ "__name__":=by decide)(hdb:(x==("__debug__":Str))=false:=by decide)
   (he:starEach (e::es) X.env=(false,eval e X.env)::starEach es X.env:=by rfl) (hpl:(backTo pos (starEach es X.env)).any (·.1)=false:=by rfl):PEA X F0 (.Call (.Name x p) (e::es) [] pos) (b71 o tt):=by
 refine⟨?_⟩
 intro F Γ M σ H Q f0 g m hw
 exact(a6t hc hg hm hv a1q hn hdb he hpl).to ((ha.run F Γ M σ H _ f0 g m hw).mono fun vs H1 ⟨ds,F1,M1,s1,m1,r1,q1⟩=>l F1 M1 H1 vs ds Q _ m1 r1 q1 fun _ _ z=>z.dn s1)
noncomputable abbrev A1m:=D->List D->Mem->AK->Prop
def LM(K:PySem.W.Frag)(r:V->List V->Hp->VK->Prop)(a:A1m):Prop:= ∀(F:Hp) (M:Mem) (H:Hp) (x:V) (d:D) (xs:List V) (ds:List D) (Q:AK) (R:VK),AM K F M H->RD K F x d->RDs K F xs ds->a d ds M Q->(∀v H',PQ K F Q v H'->R v H')->r x xs H R
noncomputable def a2c(M:Mem):D->String
 | .lst _=>"list" | .scr _=>"list" | .str _=>"str" | .tup _=>"tuple"
 | .obj p=>(match M p with |some (.lst _)=>"list" |some (.dic _)=>"dict" |_=>"")
 |_=>""
def aBM0(T:String)(r:A1m)(to:AE):AE:=fun Γ M Q=>to Γ M fun x M1=>a2c M1 x=T/\r x [] M1 Q
def aBM(T:String)(r:A1m)(to:AE)(t:AA):AE:=fun Γ M Q=>to Γ M fun x M1=>a2c M1 x=T/\t Γ M1 fun xs M2=>r x xs M2 Q
end
def both{α β:Type}(a:Option α)(b:Option β)(R:α->β->Prop):Prop:=match a,b with |some x,some y=>R x y |_,_=>False
def opt{α:Type}(a:Option α)(R:α->Prop):Prop:=match a with |some x=>R x |none=>False
theorem a3s{α β:Type}{x:α}{y:β}{R:α->β->Prop}:both (some x) (some y) R=R x y:=rfl
theorem a1e{α:Type}{x:α}{R:α->Prop}:opt (some x) R=R x:=rfl
theorem a70{α β:Type}{a:Option α}{b:Option β}{R:α->β->Prop}(h:both a b R): ∃x y,a=some x/\b=some y/\R x y:=by
 unfold both at h
 split at h
 . exact⟨_,_,rfl,rfl,h⟩
 . exact h.elim
theorem a1v{α:Type}{a:Option α}{R:α->Prop}(h:opt a R): ∃x,a=some x/\R x:=by
 unfold opt at h
 split at h
 . exact⟨_,rfl,h⟩
 . exact h.elim
noncomputable def dl(M:Mem):D->Option (List D)
 | .lst ds=>some ds
 | .obj p=>(match M p with |some (.lst ds)=>some ds |_=>none)
 |_=>none
noncomputable def dr(M:Mem):D->Option (List D)
 | .lst ds=>some ds
 | .scr ds=>some ds
 | .obj p=>(match M p with |some (.lst ds)=>some ds |_=>none)
 |_=>none
noncomputable def dq(M:Mem):D->Option (List D)
 | .lst ds=>some ds
 | .scr ds=>some ds
 | .tup ds=>some ds
 | .ctp ds=>some ds
 | .obj p=>(match M p with |some (.lst ds)=>some ds |_=>none)
 |_=>none
noncomputable def dd(M:Mem):D->Option (List (Key×D))
 | .obj p=>(match M p with |some (.dic kvs)=>some kvs |_=>none)
 |_=>none
section
variable {K:PySem.W.Frag}{F:Hp}{M:Mem}{H:Hp}{x:V}{d:D}{ds:List D}
theorem dl_rep(m:AM K F M H)(r:RD K F x d)(h:dl M d=some ds): ∃p vs,x= .ref p/\H p=some (.lst vs)/\RDs K F vs ds:=by
 cases r<;>first
   | (unfold dl at h;cases h;done)
   |skip
 . rename_i a xs es e r
   cases h
   exact⟨a,xs,rfl,m.sub _ _ e,r⟩
 . rename_i p
   unfold dl at h
   dsimp only at h
   split at h
   . rename_i ds' hd
     cases h
     obtain⟨u,e,r⟩:=m.mem _ _ hd
     obtain⟨vs,rfl,r⟩:=r.isL
     exact⟨p,vs,rfl,e,r⟩
   . cases h
theorem a4y(m:AM K F M H)(r:RD K F x d)(h:dr M d=some ds): ∃p vs,x= .ref p/\SqL K H p vs/\RDs K F vs ds:=by
 cases r<;>first
   | (unfold dr at h;cases h;done)
   |skip
 . rename_i a xs es e r
   cases h
   exact⟨a,xs,rfl,.of (m.sub _ _ e),r⟩
 . rename_i a xs es e r
   cases h
   exact⟨a,xs,rfl,m.sub.seq e,r⟩
 . rename_i p
   unfold dr at h
   dsimp only at h
   split at h
   . rename_i ds' hd
     cases h
     obtain⟨u,e,r⟩:=m.mem _ _ hd
     obtain⟨vs,rfl,r⟩:=r.isL
     exact⟨p,vs,rfl,.of e,r⟩
   . cases h
theorem b3r(m:AM K F M H)(r:RD K F x d)(h:dq M d=some ds): ∃p vs,x= .ref p/\(SqL K H p vs\/SqT K H p vs)/\RDs K F vs ds:=by
 cases r<;>first
   | (unfold dq at h;cases h;done)
   |skip
 . rename_i a xs es e r
   cases h
   exact⟨a,xs,rfl,.inl (.of (m.sub _ _ e)),r⟩
 . rename_i a xs es e r
   cases h
   exact⟨a,xs,rfl,.inl (m.sub.seq e),r⟩
 . rename_i a xs es e r
   cases h
   exact⟨a,xs,rfl,.inr (.of (m.sub _ _ e)),r⟩
 . rename_i a xs es e r
   cases h
   exact⟨a,xs,rfl,.inr (m.sub.seqT e),r⟩
 . rename_i p
   unfold dq at h
   dsimp only at h
   split at h
   . rename_i ds' hd
     cases h
     obtain⟨u,e,r⟩:=m.mem _ _ hd
     obtain⟨vs,rfl,r⟩:=r.isL
     exact⟨p,vs,rfl,.inl (.of e),r⟩
   . cases h
theorem a4z{kvs:List (Key×D)}(m:AM K F M H)(r:RD K F x d)(h:dd M d=some kvs): ∃p ws,x= .ref p/\d= .obj p/\M p=some (.dic kvs)/\H p=some (.dK ws)/\PF K F ws kvs:=by
 cases r<;>first
   | (unfold dd at h;cases h;done)
   |skip
 rename_i p
 unfold dd at h
 dsimp only at h
 split at h
 . rename_i ds' hd
   cases h
   obtain⟨u,e,r⟩:=m.mem _ _ hd
   obtain⟨vs,rfl,r⟩:=r.isD
   exact⟨p,vs,rfl,rfl,hd,e,r⟩
 . cases h
end
noncomputable def addF:D->D->Option D
 | .int i,.int j=>some (.int (i+j))
 | .str s,.str t=>some (.str (s++t))
 |_,_=>none
def addC:D->D->Prop
 | .str s,.str t=>s.length+t.length<=sizeLine
 |_,_=>True
def oAdd:A2:=fun x y M Q=>addC x y/\opt (addF x y) fun d=>Q d M
def rAdds:R2:=fun x y H Q=>rI0 (fun i j=> .int (i+j)) x y H Q\/(∃i j,x= .str i/\y= .str j/\i.length+j.length<=sizeLine/\Q (.str (i++j)) H)
def oCatM:A2:=fun x y M Q=>both (dl M x) (dl M y) fun xs ys=>xs.length+ys.length<=1000/\ ∀p,M p=none->Q (.obj p) (put M p (.lst (xs++ys)))
def oCat:A2:=fun x y M Q=>both (dl M x) (dl M y) fun xs ys=>xs.length+ys.length<=1000/\Q (.lst (xs++ys)) M
def oI(g:Int->Int->D):A2:=fun x y M Q=>match x,y with | .int i,.int j=>Q (g i j) M |_,_=>False
def oIc(C:Int->Int->Prop)(g:Int->Int->D):A2:=fun x y M Q=>match x,y with | .int i,.int j=>C i j/\Q (g i j) M |_,_=>False
section
variable {X:Cx}{K:PySem.W.Frag}
theorem a01:OpR X (binaryOp .Add) rAdds:=op_add.or b4i
theorem lAdd:LO K rAdds oAdd:=by
 intro F M H x y dx dy Q R m rx ry h k
 obtain⟨hc,h⟩:=h
 cases rx<;>cases ry<;>first
   |exact h.elim
   |exact .inl ⟨_,_,rfl,rfl,k _ _ (.here m (.int _) h)⟩
   |exact .inr ⟨_,_,rfl,rfl,hc,k _ _ (.here m (.str _) h)⟩
theorem lI{g:Int->Int->V}{g':Int->Int->D}(e: ∀i j F,RD K F (g i j) (g' i j)):LO K (rI0 g) (oI g'):=by
 intro F M H x y dx dy Q R m rx ry h k
 cases rx<;>cases ry<;>first
   |exact h.elim
   |exact⟨_,_,rfl,rfl,k _ _ (.here m (e _ _ F) h)⟩
theorem lIc{C:Int->Int->Prop}{g:Int->Int->V}{g':Int->Int->D}(e: ∀i j F,RD K F (g i j) (g' i j)):LO K (rI C g) (oIc C g'):=by
 intro F M H x y dx dy Q R m rx ry h k
 cases rx<;>cases ry<;>first
   |exact h.elim
   |exact⟨_,_,rfl,rfl,h.1,k _ _ (.here m (e _ _ F) h.2)⟩
abbrev oSub:A2:=oI fun i j=> .int (i- j)
abbrev oMul:A2:=oIc IntMulOk fun i j=> .int (i *j)
abbrev oMod:A2:=oIc (fun _ j=>0<j) fun i j=> .int (i % j)
abbrev oPow:A2:=oIc CPow fun i j=> .int (i^j.toNat)
abbrev oLt:A2:=oI fun i j=> .bl (decide (i<j))
abbrev oGt:A2:=oI fun i j=> .bl (decide (j<i))
abbrev oGe:A2:=oI fun i j=> .bl (decide (j<=i))
abbrev oDivB:A2:=oIc (fun _ j=>j≠0) fun i j=> .int (i.fdiv j)
abbrev oDiv:A2:=oIc CDiv fun i j=> .int (i/j)
theorem lSub:LO K (rI0 fun i j=> .int (i- j)) oSub:=lI fun _ _ _=> .int _
theorem lMul:LO K (rI IntMulOk fun i j=> .int (i *j)) oMul:=lIc fun _ _ _=> .int _
theorem lMod:LO K (rI (fun _ j=>0<j) fun i j=> .int (i % j)) oMod:=lIc fun _ _ _=> .int _
theorem lPow:LO K (rI CPow fun i j=> .int (i^j.toNat)) oPow:=lIc fun _ _ _=> .int _
theorem lLt:LO K (rI0 fun i j=> .bl (decide (i<j))) oLt:=lI fun _ _ _=> .bl _
theorem lGt:LO K (rI0 fun i j=> .bl (decide (j<i))) oGt:=lI fun _ _ _=> .bl _
theorem lGe:LO K (rI0 fun i j=> .bl (decide (j<=i))) oGe:=lI fun _ _ _=> .bl _
theorem lDivB:LO K (rI (fun _ j=>j≠0) fun i j=> .int (i.fdiv j)) oDivB:=lIc fun _ _ _=> .int _
theorem lDiv:LO K (rI CDiv fun i j=> .int (i/j)) oDiv:=lIc fun _ _ _=> .int _
def oNeg:D->Mem->AK->Prop:=fun x M Q=>match x with | .int i=>Q (.int (-i)) M |_=>False
theorem lNeg:LU K (rU fun i=> .int (-i)) oNeg:=by
 intro F M H x dx Q R m rx h k
 cases rx<;>first
   |exact h.elim
   |exact⟨_,rfl,k _ _ (.here m (.int _) h)⟩
mutual
noncomputable def D.py:D->PyData
 | .non=> .none | .bl b=> .bool b | .int i=> .int i | .str x=> .str x
 | .lst ds=> .list (D.pys ds) | .scr ds=> .list (D.pys ds) | .tup ds=> .tuple (D.pys ds) | .ctp ds=> .tuple (D.pys ds) | .obj _=> .none
noncomputable def D.pys:List D->List PyData
 | []=>[]
 |d::ds=>D.py d::D.pys ds
end
mutual
/-- no thing of the store in it -/
noncomputable def D.flat:D->Bool
 | .lst ds=>D.flats ds | .scr ds=>D.flats ds | .tup ds=>D.flats ds | .ctp ds=>D.flats ds | .obj _=>false
 |_=>true
noncomputable def D.flats:List D->Bool
 | []=>true
 |d::ds=>D.flat d&&D.flats ds
end
mutual
theorem RD.rep{F H:Hp}(s:Same F H): ∀{x:V}{d:D},RD K F x d->d.flat=true->Rep K H x d.py
 |_,_,.non,_=>by simp only[D.py];exact .non
 |_,_,.bl b,_=>by simp only[D.py];exact .bl b
 |_,_,.int i,_=>by simp only[D.py];exact .int i
 |_,_,.str x,_=>by simp only[D.py];exact .str x
 |_,_,.lst q rs,h=>by simp only[D.py];exact .lst (.of (s _ _ q)) (RDs.rep s rs (by simpa only[D.flat]using h))
 |_,_,.scr q rs,h=>by simp only[D.py];exact .lst (s.seq q) (RDs.rep s rs (by simpa only[D.flat]using h))
 |_,_,.tup q rs,h=>by simp only[D.py];exact .tup (.of (s _ _ q)) (RDs.rep s rs (by simpa only[D.flat]using h))
 |_,_,.ctp q rs,h=>by simp only[D.py];exact .tup (s.seqT q) (RDs.rep s rs (by simpa only[D.flat]using h))
 |_,_,.obj p,h=>by simp[D.flat]at h
theorem RDs.rep{F H:Hp}(s:Same F H): ∀{xs:List V}{ds:List D},RDs K F xs ds->D.flats ds=true->Reps K H xs (D.pys ds)
 |_,_,.nil,_=>by simp only[D.pys];exact .nil
 |_,_,.cons h t,e=>by
   simp only[D.flats,Bool.and_eq_true]at e
   simp only[D.pys]
   exact .cons (RD.rep s h e.1) (RDs.rep s t e.2)
end
noncomputable def drf(M:Mem):D->D
 | .obj p=>(match M p with |some (.lst ds)=> .lst ds |_=> .obj p)
 |d=>d
theorem a9c{F:Hp}{M:Mem}{H:Hp}{x:V}{d:D}(m:AM K F M H)(r:RD K F x d)(h:(drf M d).flat=true):Rep K H x (drf M d).py:=by
 cases d with
 |obj p=>
   unfold drf at h |-
   dsimp only at h |-
   cases r
   split at h
   . rename_i ds hd
     obtain⟨u,e,r⟩:=m.mem _ _ hd
     obtain⟨vs,rfl,r⟩:=r.isL
     simp only[D.py]
     exact .lst (.of e) (r.rep m.sub (by simpa only[D.flat]using h))
   . simp[D.flat]at h
 |_=>exact r.rep m.sub h
noncomputable def a45:D->D->Bool
 | .non,.non=>true | .non,.int _=>true | .int _,.non=>true | .non,.bl _=>true | .bl _,.non=>true | .non,.str _=>true | .str _,.non=>true
 | .int _,.int _=>true | .bl _,.bl _=>true | .str _,.str _=>true
 | .int _,.str _=>true | .str _,.int _=>true | .bl _,.str _=>true | .str _,.bl _=>true
 |_,_=>false
noncomputable def eqS:D->D->Bool
 | .non,.non=>true
 | .int a,.int b=>decide (a=b)
 | .bl a,.bl b=>decide (a=b)
 | .str a,.str b=>decide (a=b)
 |_,_=>false
noncomputable def eqD(x y:D):Bool:=PyData.eqv x.py y.py
noncomputable def shD(d:D):Bool:=d.flat&&SeqAt.shaped d.py
noncomputable def eqB(M:Mem)(x y:D):Bool:=if a45 x y=true then eqS x y else eqD (drf M x) (drf M y)
def eqC(M:Mem)(x y:D):Prop:=a45 x y=true\/(shD (drf M x)=true/\shD (drf M y)=true)
def oEq(neg:Bool):A2:=fun x y M Q=>eqC M x y/\Q (.bl (if neg then !eqB M x y else eqB M x y)) M
def rEqs(K:PySem.W.Frag):R2:=fun x y H Q=>rEq x y H Q\/rEqD K false x y H Q
def rNes(K:PySem.W.Frag):R2:=fun x y H Q=>rNe x y H Q\/rEqD K true x y H Q
theorem a1g(hu:X.A.units+64<cLine):OpR X (compareOp .Eq) (rEqs X.K):=op_eq.or (op_eqD hu)
theorem a2r(hu:X.A.units+64<cLine):OpR X (compareOp .NotEq) (rNes X.K):=op_ne.or (op_neD hu)
theorem b5l{F:Hp}{x y:V}{dx dy:D}(rx:RD K F x dx)(ry:RD K F y dy)(h:a45 dx dy=true):scal x y=true/\decide (x=y)=eqS dx dy:=by
 cases rx<;>cases ry<;>first
   | (simp[a45]at h;done)
   |exact⟨rfl,by simp[eqS]⟩
theorem lEq:LO K (rEqs K) (oEq false):=by
 intro F M H x y dx dy Q R m rx ry h k
 obtain⟨hc,h⟩:=h
 by_cases hs:a45 dx dy=true
 . obtain⟨h1,h2⟩:=b5l rx ry hs
   refine .inl ⟨h1,k _ _ (.here m (.bl _) ?_)⟩
   rw[h2]
   simpa[eqB,hs]using h
 . rcases hc with hc | ⟨h1,h2⟩
   . exact absurd hc hs
   unfold shD at h1 h2
   simp only[Bool.and_eq_true]at h1 h2
   exact .inr ⟨_,_,a9c m rx h1.1,a9c m ry h2.1,h1.2,h2.2,k _ _ (.here m (.bl _) (by simpa[eqB,hs,eqD]using h))⟩
theorem lNe:LO K (rNes K) (oEq true):=by
 intro F M H x y dx dy Q R m rx ry h k
 obtain⟨hc,h⟩:=h
 by_cases hs:a45 dx dy=true
 . obtain⟨h1,h2⟩:=b5l rx ry hs
   refine .inl ⟨h1,k _ _ (.here m (.bl _) ?_)⟩
   rw[h2]
   simpa[eqB,hs]using h
 . rcases hc with hc | ⟨h1,h2⟩
   . exact absurd hc hs
   unfold shD at h1 h2
   simp only[Bool.and_eq_true]at h1 h2
   exact .inr ⟨_,_,a9c m rx h1.1,a9c m ry h2.1,h1.2,h2.2,k _ _ (.here m (.bl _) (by simpa[eqB,hs,eqD]using h))⟩
noncomputable def b1q:D->Bool | .non=>true |_=>false
def oIsN(neg:Bool):A2:=fun x y M Q=>match y with | .non=>Q (.bl (if neg then !b1q x else b1q x)) M |_=>False
theorem non_of{F:Hp}{x:V}{d:D}(r:RD K F x d):decide (x= .non)=b1q d:=by cases r<;>simp[b1q]
theorem lIs:LO K (fun x y H Q=>y= .non/\Q (.bl (decide (x= .non))) H) (oIsN false):=by
 intro F M H x y dx dy Q R m rx ry h k
 cases ry<;>first
   |exact h.elim
   |exact⟨rfl,k _ _ (.here m (.bl _) (by rw[non_of rx];simpa[oIsN]using h))⟩
theorem b3e:LO K (fun x y H Q=>y= .non/\Q (.bl (!decide (x= .non))) H) (oIsN true):=by
 intro F M H x y dx dy Q R m rx ry h k
 cases ry<;>first
   |exact h.elim
   |exact⟨rfl,k _ _ (.here m (.bl _) (by rw[non_of rx];simpa[oIsN]using h))⟩
noncomputable def flD:D->Bool | .non=>true | .bl _=>true | .int _=>true | .str _=>true |_=>false
noncomputable def eqF:D->D->Bool
 | .non,.non=>true
 | .bl a,.bl b=>a==b
 | .bl a,.int b=>(if a then 1 else 0)==b
 | .int a,.bl b=>a==(if b then 1 else 0)
 | .int a,.int b=>a==b
 | .str a,.str b=>a==b
 |_,_=>false
noncomputable def inD(x:D)(ds:List D):Bool:=ds.any fun y=>eqF y x
theorem b1x{F:Hp}{x:V}{d:D}(r:RD K F x d):a4b x=flD d:=by cases r<;>rfl
theorem a9a{F:Hp}: ∀{xs:List V}{ds:List D},RDs K F xs ds->xs.all a4b=ds.all flD
 |_,_,.nil=>rfl
 |_,_,.cons h t=>by simp only[List.all_cons,b1x h,a9a t]
theorem b7m{F:Hp}{x y:V}{d e:D}(r:RD K F x d)(q:RD K F y e)(h:flD d=true)(h':flD e=true):eqV x y=eqF d e:=by
 cases r<;>cases q<;>first |rfl | (simp[flD]at h;done) | (simp[flD]at h';done)
theorem inD_of{F:Hp}{x:V}{d:D}(r:RD K F x d)(h:flD d=true): ∀{xs:List V}{ds:List D},RDs K F xs ds->ds.all flD=true->inV x xs=inD d ds
 |_,_,.nil,_=>rfl
 |_,_,.cons q t,e=>by
   simp only[List.all_cons,Bool.and_eq_true]at e
   have ih:=inD_of r h t e.2
   unfold inV inD at ih |-
   rw[List.any_cons,List.any_cons,b7m q r e.1 h,ih]
noncomputable def hasS(j i:Str):Bool:= !(Builtin.Str.occurrences j i 0 j.length 1).isEmpty
noncomputable def inB(M:Mem):D->D->Option Bool
 | .str i,.str j=>some (hasS j i)
 |x,y=>(dq M y).bind fun ds=>if(flD x&&ds.all flD)=true then some (inD x ds)else none
def oIn(neg:Bool):A2:=fun x y M Q=>opt (inB M x y) fun b=>Q (.bl (if neg then !b else b)) M
def rIns(K:PySem.W.Frag):R2:=fun x y H Q=>rIn K false x y H Q\/(∃i j,x= .str i/\y= .str j/\Q (.bl (hasS j i)) H)
def b5r(K:PySem.W.Frag):R2:=fun x y H Q=>rIn K true x y H Q\/(∃i j,x= .str i/\y= .str j/\Q (.bl (!hasS j i)) H)
theorem a90:OpR X (compareOp .In) (rIns X.K):=op_in_seq.or b55
theorem a4q:OpR X (compareOp .NotIn) (b5r X.K):=op_notIn_seq.or a9y
theorem lInG{neg:Bool}{r:R2}(hs: ∀i j H R,R (.bl (if neg then !hasS j i else hasS j i)) H->r (.str i) (.str j) H R)(hq: ∀x p vs H R,(SqL K H p vs\/SqT K H p vs)->a4b x=true->vs.all a4b=true->R (.bl (if neg then !inV x vs else inV x vs)) H->r x (.ref p) H R):LO K r (oIn neg):=by
 intro F M H x y dx dy Q R m rx ry h k
 obtain⟨b,hb,h⟩:=a1v h
 unfold inB at hb
 split at hb
 . cases rx;cases ry;cases hb
   exact hs _ _ _ _ (k _ _ (.here m (.bl _) h))
 . cases hd:dq M dy with
   |none=>rw[hd]at hb;cases hb
   |some ds=>
     rw[hd]at hb
     simp only[Option.bind_some]at hb
     split at hb
     . rename_i hf
       cases hb
       simp only[Bool.and_eq_true]at hf
       obtain⟨p,vs,rfl,e,r'⟩:=b3r m ry hd
       refine hq _ _ _ _ _ e (by rw[b1x rx];exact hf.1) (by rw[a9a r'];exact hf.2) ?_
       rw[inD_of rx hf.1 r' hf.2]
       exact k _ _ (.here m (.bl _) h)
     . cases hb
theorem lIn:LO K (rIns K) (oIn false):=lInG (fun i j H R h=> .inr ⟨i,j,rfl,rfl,by simpa using h⟩) fun x p vs H R e h1 h2 h=> .inl ⟨p,vs,rfl,e,h1,h2,by simpa using h⟩
theorem b3d:LO K (b5r K) (oIn true):=lInG (fun i j H R h=> .inr ⟨i,j,rfl,rfl,by simpa using h⟩) fun x p vs H R e h1 h2 h=> .inl ⟨p,vs,rfl,e,h1,h2,by simpa using h⟩
theorem RDs.atI{F:Hp}{xs:List V}{ds:List D}{i:Int}{d:D}(r:RDs K F xs ds)(h:L2.atI ds i=some d): ∃x,L2.atI xs i=some x/\RD K F x d:=by
 unfold L2.atI at h |-
 rw[r.length]
 cases q:ixN ds.length i with
 |none=>rw[q]at h;cases h
 |some j=>
   rw[q]at h
   exact r.get h
noncomputable def ixF(M:Mem):D->D->Option D
 | .str z,.int i=>(atI z.cps.toList i).map fun c=> .str ⟨#[c]⟩
 |x,.int i=>(dq M x).bind fun ds=>atI ds i
 |_,_=>none
def ixC:D->D->Prop
 | .str z,.int _=>z.length<=sizeLine
 |_,_=>True
def oIx:A2:=fun x y M Q=>ixC x y/\opt (ixF M x y) fun d=>Q d M
theorem lIx:LO K (rIx K) oIx:=by
 intro F M H x y dx dy Q R m rx ry h k
 obtain⟨hc,h⟩:=h
 obtain⟨d,hd,hz⟩:=a1v h
 unfold ixF at hd
 split at hd
 . rename_i z i
   cases rx;cases ry
   cases ha:atI z.cps.toList i with
   |none=>rw[ha]at hd;cases hd
   |some c=>
     rw[ha]at hd
     cases hd
     exact .inr (.inr ⟨_,_,c,rfl,rfl,hc,ha,k _ _ (.here m (.str _) hz)⟩)
 . rename_i i _
   cases hq:dq M dx with
   |none=>rw[hq]at hd;cases hd
   |some ds=>
     rw[hq]at hd
     have hd:atI ds i=some d:=hd
     obtain⟨p,vs,rfl,e,r⟩:=b3r m rx hq
     obtain⟨v,hv,rv⟩:=r.atI hd
     cases ry
     rcases e with e |e
     . exact .inl ⟨p,vs,_,v,rfl,rfl,e,hv,k _ _ (.here m rv hz)⟩
     . exact .inr (.inl ⟨p,vs,_,v,rfl,rfl,e,hv,k _ _ (.here m rv hz)⟩)
 . cases hd
end
noncomputable abbrev AO:=G->Mem->(Option Int->Mem->Prop)->Prop
noncomputable def selfO(X:Cx)(e:Option Expr):TO:=fun σ H Q=> ∀pins s,Inv X pins σ H s->wpAny (model X.prog X.w) X.A (evalPart e X.env) (fun u s'=> ∃o H',Inv X pins σ H' s'/\IsPart u o/\Q o H') X.xe s
theorem b5x{X:Cx}{e:Option Expr}:PO X e (selfO X e):=fun pins s _ _ _ I h=>h pins s I
theorem PO.to{X:Cx}{e:Option Expr}{σ:St}{H:Hp}{t:TO}{Q:Option Int->Hp->Prop}(h:PO X e t)(hw:t σ H Q):selfO X e σ H Q:=fun pins s I=>h pins s σ H Q I hw
theorem selfO.mono{X:Cx}{e:Option Expr}{σ:St}{H:Hp}{Q Q':Option Int->Hp->Prop}(h:selfO X e σ H Q)(k: ∀v H',Q v H'->Q' v H'):selfO X e σ H Q':=fun pins s I=>thn (h pins s I) fun _ _ ⟨o,H',J,r,q⟩=>⟨o,H',J,r,k o H' q⟩
def PQo(K:PySem.W.Frag)(F:Hp)(Q:Option Int->Mem->Prop):Option Int->Hp->Prop:=fun o H'=> ∃F' M',Same F F'/\AM K F' M' H'/\Q o M'
structure POA(X:Cx)(F0:Hp)(e:Option Expr)(t:AO):Prop where
 run: ∀F Γ M σ H Q,Same F0 F->AG X.K F Γ σ->AM X.K F M H->t Γ M Q->selfO X e σ H (PQo X.K F Q)
noncomputable def aNoPart:AO:=fun _ M Q=>Q none M
noncomputable def aPart(t:AE):AO:=fun Γ M Q=>t Γ M fun d M1=>match d with | .int i=>Q (some i) M1 |_=>False
def aSl(r:D->Option Int->Option Int->Mem->AK->Prop)(te:AE)(tl th:AO):AE:=fun Γ M Q=>te Γ M fun x M1=>tl Γ M1 fun l M2=>th Γ M2 fun u M3=>r x l u M3 Q
def LS(K:PySem.W.Frag)(r:V->Option Int->Option Int->Hp->VK->Prop)(a:D->Option Int->Option Int->Mem->AK->Prop):Prop:=
 ∀(F:Hp) (M:Mem) (H:Hp) (x:V) (d:D) (lo hi:Option Int) (Q:AK) (R:VK),AM K F M H->RD K F x d->a d lo hi M Q->(∀v H',PQ K F Q v H'->R v H')->r x lo hi H R
noncomputable def cut(ds:List D)(lo hi:Option Int):List D:=(ds.drop (HT.sIx ds.length 0 lo)).take (HT.sIx ds.length ds.length hi- HT.sIx ds.length 0 lo)
noncomputable def slF(M:Mem)(lo hi:Option Int):D->Option D
 | .str z=>some (.str (Txt.slice z lo hi))
 |x=>(dr M x).map fun ds=> .lst (cut ds lo hi)
def slC:D->Prop
 | .str z=>z.length<=sizeLine
 |_=>True
def oSl:D->Option Int->Option Int->Mem->AK->Prop:=fun x lo hi M Q=>slC x/\opt (slF M lo hi x) fun d=>Q d M
def oSlM:D->Option Int->Option Int->Mem->AK->Prop:=fun x lo hi M Q=>(match dr M x with |some ds=> ∀p,M p=none->Q (.obj p) (put M p (.lst (cut ds lo hi))) |none=>False)
def rSls(K:PySem.W.Frag):V->Option Int->Option Int->Hp->VK->Prop:=fun x lo hi H Q=>rSlS x lo hi H Q\/rSlL K x lo hi H Q
section
variable {X:Cx}{F0:Hp}{e:Expr}{pos p2:Pos}{te:AE}{lo hi:Option Expr}{tl th:AO}{K:PySem.W.Frag}
theorem poN:POA X F0 none aNoPart:=⟨fun F Γ M σ H Q _ _ m h=>po_none.to ⟨F,M,.refl F,m,h⟩⟩
theorem poS(h:PEA X F0 e te):POA X F0 (some e) (aPart te):=by
 refine⟨?_⟩
 intro F Γ M σ H Q f0 g m hw
 refine(po_some a0l).to ((h.run F Γ M σ H _ f0 g m hw).mono fun v H1 zz9=> ?_)
 obtain⟨d,F1,M1,s1,m1,r1,q1⟩:=zz9
 cases r1<;>first
   |exact q1.elim
   |exact⟨_,rfl,F1,M1,s1,m1,q1⟩
theorem paSl{r:V->Option Int->Option Int->Hp->VK->Prop}{o:D->Option Int->Option Int->Mem->AK->Prop}(hr:SlR X r)(l:LS X.K r o)(he:PEA X F0 e te)(hl:POA X F0 lo tl)(hh:POA X F0 hi th):
   PEA X F0 (.Subscript e (.Slice lo hi none p2) pos) (aSl o te tl th):=by
 refine⟨?_⟩
 intro F Γ M σ H Q f0 g m hw
 refine(b8o hr a0l b5x b5x).to ((he.run F Γ M σ H _ f0 g m hw).mono fun v H1 zz9=> ?_)
 obtain⟨d,F1,M1,s1,m1,r1,q1⟩:=zz9
 refine(hl.run F1 Γ M1 σ H1 _ (f0.trans s1) (g.up s1) m1 q1).mono fun l1 H2 zz9=> ?_
 obtain⟨F2,M2,s2,m2,q2⟩:=zz9
 refine(hh.run F2 Γ M2 σ H2 _ (f0.trans (s1.trans s2)) (g.up (s1.trans s2)) m2 q2).mono fun u1 H3 zz9=> ?_
 obtain⟨F3,M3,s3,m3,q3⟩:=zz9
 exact l F3 M3 H3 v d l1 u1 Q _ m3 (r1.up (s2.trans s3)) q3 fun _ _ z=>z.dn (s1.trans (s2.trans s3))
theorem cut_rep{F:Hp}{vs:List V}{ds:List D}(r:RDs K F vs ds)(lo hi:Option Int):RDs K F (cutV vs lo hi) (cut ds lo hi):=by
 unfold cutV cut
 rw[r.length]
 exact(r.drop _).take _
theorem a9q:SlR X (rSls X.K):=sl_str.or sl_list
theorem lSl:LS K (rSls K) oSl:=by
 intro F M H x d lo hi Q R m rx h k
 obtain⟨hc,h⟩:=h
 obtain⟨d',hd,hz⟩:=a1v h
 unfold slF at hd
 split at hd
 . cases rx;cases hd
   exact .inl ⟨_,rfl,hc,k _ _ (.here m (.str _) hz)⟩
 . cases hq:dr M d with
   |none=>rw[hq]at hd;cases hd
   |some ds=>
     rw[hq]at hd
     cases hd
     obtain⟨p,vs,rfl,e,r⟩:=a4y m rx hq
     exact .inr ⟨p,vs,rfl,e,fun l hn=>k _ _ ⟨_,_,M,a1h (m.fF hn),m.frz hn,.lst a0t ((cut_rep r lo hi).up (a1h (m.fF hn))),hz⟩⟩
end
section
variable {X:Cx}{K:PySem.W.Frag}
noncomputable def lenF(M:Mem):D->Option Nat
 | .str z=>some z.length
 |d=>(match dd M d with |some kvs=>some kvs.length |none=>(dq M d).map List.length)
def lenC:D->Prop
 | .str z=>z.length<=sizeLine
 |_=>True
noncomputable def oLen:A1s:=fun ds M Q=>match ds with
 | [d]=>lenC d/\opt (lenF M d) fun n=>Q (.int n) M
 |_=>False
def rLens(K:PySem.W.Frag):List V->Hp->VK->Prop:=fun xs H Q=>(∃x n,xs=[x]/\LenV K x H n/\Q (.int n) H)\/(∃a kvs,xs=[V.ref a]/\H a=some (.dK kvs)/\Q (.int kvs.length) H)
theorem a0s:CallR X (.builtin "len") (rLens X.K):=call_len.or b7y
theorem PF.length{κ:Type}{F:Hp}{a:List (κ×V)}{b:List (κ×D)}(h:PF K F a b):a.length=b.length:=Paired.length h
theorem lLen:LC K (rLens K) oLen:=by
 intro F M H xs ds Q R m r h k
 unfold oLen at h
 split at h
 . rename_i d
   obtain⟨x,rfl,rx⟩:=r.one'
   obtain⟨hc,h⟩:=h
   obtain⟨n,hn,hz⟩:=a1v h
   unfold lenF at hn
   split at hn
   . cases rx;cases hn
     exact .inl ⟨_,_,rfl,⟨hc,rfl⟩,k _ _ (.here m (.int _) hz)⟩
   . split at hn
     . rename_i kvs hd
       cases hn
       obtain⟨p,ws,rfl,rfl,_,e,pf⟩:=a4z m rx hd
       exact .inr ⟨p,ws,rfl,e,k _ _ (.here m (.int _) (by rw[pf.length];exact hz))⟩
     . cases hq:dq M d with
       |none=>rw[hq]at hn;cases hn
       |some ds=>
         rw[hq]at hn
         cases hn
         obtain⟨p,vs,rfl,e,r⟩:=b3r m rx hq
         refine .inl ⟨_,vs.length,rfl,?_,k _ _ (.here m (.int _) (by rw[r.length];exact hz))⟩
         rcases e with e |e
         . exact .inl ⟨vs,e,rfl⟩
         . exact .inr ⟨vs,e,rfl⟩
 . exact h.elim
noncomputable def oAbs:A1s:=fun ds M Q=>match ds with | [.int i]=>Q (.int (if i<0 then -i else i)) M |_=>False
theorem lAbs:LC K (fun xs H Q=> ∃i,xs=[.int i]/\Q (.int (if i<0 then -i else i)) H) oAbs:=by
 intro F M H xs ds Q R m r h k
 unfold oAbs at h
 split at h
 . obtain⟨x,rfl,rx⟩:=r.one'
   cases rx
   exact⟨_,rfl,k _ _ (.here m (.int _) h)⟩
 . exact h.elim
noncomputable def oMax:A1s:=fun ds M Q=>match ds with | [.int i,.int j]=>Q (.int (if j>i then j else i)) M |_=>False
theorem lMax:LC K (fun xs H Q=> ∃i j,xs=[.int i,.int j]/\Q (.int (if j>i then j else i)) H) oMax:=by
 intro F M H xs ds Q R m r h k
 unfold oMax at h
 split at h
 . obtain⟨x,y,rfl,rx,ry⟩:=r.two'
   cases rx;cases ry
   exact⟨_,_,rfl,k _ _ (.here m (.int _) h)⟩
 . exact h.elim
noncomputable def oList:A1s:=fun ds M Q=>match ds with | [d]=>(match dq M d with |some xs=>Q (.lst xs) M |none=>False) |_=>False
theorem lList:LC K (fun xs H Q=> ∃p ys,xs=[.ref p]/\(SqL K H p ys\/SqT K H p ys)/\ ∀l,H l=none->Q (.ref l) (upd H l (.lst ys))) oList:=by
 intro F M H xs ds Q R m r h k
 unfold oList at h
 split at h
 . obtain⟨x,rfl,rx⟩:=r.one'
   split at h
   . rename_i ds hd
     obtain⟨p,vs,rfl,e,r⟩:=b3r m rx hd
     exact⟨p,vs,rfl,e,fun l hn=>k _ _ ⟨_,_,M,a1h (m.fF hn),m.frz hn,.lst a0t (r.up (a1h (m.fF hn))),h⟩⟩
   . exact h.elim
 . exact h.elim
end
section
variable {X:Cx}{F0:Hp}{e o:Expr}{es:List Expr}{apos cpos:Pos}{to:AE}{tt:AA}{K:PySem.W.Frag}{T id:String}{name:Str}{r:V->List V->Hp->VK->Prop}{q:A1m}
theorem b3h{F:Hp}{M:Mem}{H:Hp}{x:V}{d:D}(m:AM K F M H)(rx:RD K F x d)(h:a2c M d=T)(hT:T="list"\/T="dict"\/T="str"):tyV K T x H:=by
 cases rx<;>(unfold a2c at h;dsimp only at h)<;>first
   | (subst h;exact absurd hT (by decide))
   | (subst h;rfl)
   |skip
 . rename_i a xs ds e r
   subst h;exact .inl ⟨rfl,xs,.of (m.sub _ _ e)⟩
 . rename_i a xs ds e r
   subst h;exact .inl ⟨rfl,xs,m.sub.seq e⟩
 . rename_i p
   split at h
   . rename_i ds hd
     subst h
     obtain⟨u,e,r⟩:=m.mem _ _ hd
     obtain⟨vs,rfl,r⟩:=r.isL
     exact .inl ⟨rfl,vs,.of e⟩
   . rename_i ds hd
     subst h
     obtain⟨u,e,r⟩:=m.mem _ _ hd
     obtain⟨vs,rfl,r⟩:=r.isD
     exact .inr (.inr (.inl ⟨rfl,.inl ⟨vs,e⟩⟩))
   . subst h;exact absurd hT (by decide)
theorem paBM0(pa:PlainAttrs T)(slot:Slot T name id)(hty:typeOf (.builtin id)=pure (.type "method_descriptor"))(hm:MtR X id r)(l:LM X.K r q)(ho:PEA X F0 o to)(hT:T="list"\/T="dict"\/T="str":=by decide)
   (hbase:attributeBase o name X.env (eval o X.env)=eval o X.env:=by rfl) (hline:(apos.endLine==cpos.line)=true:=by rfl):PEA X F0 (.Call (.Attribute o name apos) [] [] cpos) (aBM0 T q to):=by
 refine⟨?_⟩
 intro F Γ M σ H Q f0 g m hw
 refine(a9v pa slot hty hm a0l hbase hline).to ((ho.run F Γ M σ H _ f0 g m hw).mono fun v H1 zz9=> ?_)
 obtain⟨d,F1,M1,s1,m1,r1,hk,q1⟩:=zz9
 exact⟨b3h m1 r1 hk hT,l F1 M1 H1 v d [] [] Q _ m1 r1 .nil q1 fun _ _ z=>z.dn s1⟩
theorem paBM(pa:PlainAttrs T)(slot:Slot T name id)(hty:typeOf (.builtin id)=pure (.type "method_descriptor"))(hm:MtR X id r)(l:LM X.K r q)(ho:PEA X F0 o to)(ha:PAA X F0 (e::es) tt)(hT:T="list"\/T="dict"\/T="str":=by decide)
   (hbase:attributeBase o name X.env (eval o X.env)=eval o X.env:=by rfl)
   (hfew:((backTo cpos (starEach (e::es) X.env)).all (fun x=> !x.1)&&(backToKw cpos (keywordEach [] X.env)).all (fun x=>x.1.isSome)
     &&decide ((e::es).length+([]:List Keyword).length+(if([]:List Keyword).isEmpty then 0 else 1)<30))=true:=by rfl)
   (hline:(apos.endLine==cpos.line)=true:=by rfl) (hs:starEach (e::es) X.env=(false,eval e X.env)::starEach es X.env:=by rfl) (hplain:(backTo cpos (starEach es X.env)).any (·.1)=false:=by rfl):
   PEA X F0 (.Call (.Attribute o name apos) (e::es) [] cpos) (aBM T q to tt):=by
 refine⟨?_⟩
 intro F Γ M σ H Q f0 g m hw
 refine(pe_bm pa slot hty hm a0l a1q hbase hfew hline hs hplain).to ((ho.run F Γ M σ H _ f0 g m hw).mono fun v H1 ⟨d,F1,M1,s1,m1,r1,hk,q1⟩=>⟨b3h m1 r1 hk hT,?_⟩)
 refine(ha.run F1 Γ M1 σ H1 _ (f0.trans s1) (g.up s1) m1 q1).mono fun vs H2 zz9=> ?_
 obtain⟨ds,F2,M2,s2,m2,r2,q2⟩:=zz9
 exact l F2 M2 H2 v d vs ds Q _ m2 (r1.up s2) r2 q2 fun _ _ z=>z.dn (s1.trans s2)
theorem a80{F:Hp}{M:Mem}{H:Hp}{p:Addr}{ds:List D}(m:AM K F M H)(h:M p=some (.lst ds)): ∃vs,H p=some (.lst vs)/\RDs K F vs ds:=by
 obtain⟨u,e,r⟩:=m.mem _ _ h
 obtain⟨vs,rfl,r⟩:=r.isL
 exact⟨vs,e,r⟩
def oAppend:A1m:=fun x vs M Q=>match x,vs with
 | .obj p,[y]=>(match M p with |some (.lst ds)=>ds.length<1000/\Q .non (put M p (.lst (ds++[y]))) |_=>False)
 |_,_=>False
theorem a1n:LM K rAppend oAppend:=by
 intro F M H x d xs ds Q R m rx r h k
 unfold oAppend at h
 split at h
 . cases rx
   rename_i p y
   split at h
   . rename_i es hd
     obtain⟨vs,e,rr⟩:=a80 m hd
     obtain⟨w,rfl,rw'⟩:=r.one'
     exact⟨p,vs,w,rfl,rfl,e,by rw[rr.length];exact a4i (Nat.le_of_lt h.1),k _ _ (.here (m.set hd (u:= .lst (vs++[w])) (o':= .lst (es++[y])) (rr.append (.cons rw' .nil))) .non h.2)⟩
   . exact h.elim
 . exact h.elim
def oClear:A1m:=fun x vs M Q=>match x,vs with
 | .obj p,[]=>(match M p with |some (.lst _)=>Q .non (put M p (.lst [])) |_=>False)
 |_,_=>False
def oReverse:A1m:=fun x vs M Q=>match x,vs with
 | .obj p,[]=>(match M p with |some (.lst ds)=>Q .non (put M p (.lst ds.reverse)) |_=>False)
 |_,_=>False
theorem b89:LM K rReverse oReverse:=by
 intro F M H x d xs ds Q R m rx r h k
 unfold oReverse at h
 split at h
 . cases rx
   rename_i p
   split at h
   . rename_i es hd
     obtain⟨vs,e,rr⟩:=a80 m hd
     cases r.nil'
     exact⟨p,vs,rfl,rfl,e,k _ _ (.here (m.set hd (u:= .lst vs.reverse) (o':= .lst es.reverse) rr.reverse) .non h)⟩
   . exact h.elim
 . exact h.elim
def oPop0:A1m:=fun x vs M Q=>match x,vs with
 | .obj p,[.int 0]=>(match M p with |some (.lst (d::ds))=>Q d (put M p (.lst ds)) |_=>False)
 |_,_=>False
theorem lPop0:LM K rPopAt oPop0:=by
 intro F M H x d xs ds Q R m rx r h k
 unfold oPop0 at h
 split at h
 . cases rx
   rename_i p
   split at h
   . rename_i d1 es hd
     obtain⟨vs,e,rr⟩:=a80 m hd
     obtain⟨w,rfl,rw'⟩:=r.one'
     cases rw'
     cases rr with
     |cons r1 r2=>
       rename_i v1 vs1
       refine⟨p,v1::vs1,0,0,v1,rfl,rfl,e,by decide,by decide,?_,rfl,?_⟩
       . unfold seqIndex?;simp
       . exact k _ _ (.here (m.set hd (u:= .lst vs1) (o':= .lst es) r2) r1 h)
   . exact h.elim
 . exact h.elim
noncomputable def idxD(y:D):List D->Option Nat
 | []=>none
 |d::ds=>if eqF d y=true then some 0 else(idxD y ds).map (· +1)
theorem b0h{y:D}: ∀{ds:List D}{j:Nat},idxD y ds=some j->j<ds.length/\(∀z,ds[j]? =some z->eqF z y=true)/\ ∀m z,m<j->ds[m]? =some z->eqF z y=false
 | [],_,h=>by cases h
 |d::ds,j,h=>by
   unfold idxD at h
   split at h
   . rename_i he
     cases h
     exact⟨by simp,fun z hz=>by simp at hz;subst hz;exact he,fun m z hm=>absurd hm (Nat.not_lt_zero _)⟩
   . rename_i he
     cases q:idxD y ds with
     |none=>rw[q]at h;cases h
     |some i=>
       rw[q]at h
       cases h
       obtain⟨h1,h2,h3⟩:=b0h q
       refine⟨by simp;omega,fun z hz=>h2 z (by simpa using hz),fun m z hm hz=> ?_⟩
       cases m with
       |zero=>simp at hz;subst hz;simpa using he
       |succ m=>exact h3 m z (by have hm:m+1<i+1:=hm;omega) (by simpa using hz)
def oIndex:A1m:=fun x vs M Q=>match vs with
 | [y]=>(match dr M x with |some ds=>ds.all flD=true/\flD y=true/\(match idxD y ds with |some j=>Q (.int j) M |none=>False) |none=>False)
 |_=>False
theorem lIndex:LM K (rIndex K) oIndex:=by
 intro F M H x d xs ds Q R m rx r h k
 unfold oIndex at h
 split at h
 . split at h
   . rename_i es hd
     obtain⟨p,vs,rfl,e,rr⟩:=a4y m rx hd
     obtain⟨w,rfl,rw'⟩:=r.one'
     obtain⟨h1,h2,h⟩:=h
     split at h
     . rename_i j hj
       obtain⟨g1,g2,g3⟩:=b0h hj
       refine⟨p,vs,w,j,rfl,rfl,e,by rw[a9a rr];exact h1,by rw[b1x rw'];exact h2,by rw[rr.length];exact g1,fun z hz=> ?_,fun m' z hm hz=> ?_,k _ _ (.here m (.int _) h)⟩
       . obtain⟨dz,e1,e2⟩:=rr.get' hz
         rw[b7m e2 rw' (List.all_eq_true.mp h1 _ (List.mem_of_getElem? e1)) h2]
         exact g2 _ e1
       . obtain⟨dz,e1,e2⟩:=rr.get' hz
         rw[b7m e2 rw' (List.all_eq_true.mp h1 _ (List.mem_of_getElem? e1)) h2]
         exact g3 _ _ hm e1
     . exact h.elim
   . exact h.elim
 . exact h.elim
end
noncomputable abbrev AX:=G->Mem->Value->Prop
def b6p(K:PySem.W.Frag)(F0:Hp)(R:AX):RX:=fun σ H cls _=> ∃F Γ M,Same F0 F/\AG K F Γ σ/\AM K F M H/\R Γ M cls
theorem XS.imp{X:Cx}{R R':RX}(h: ∀σ H cls a,R σ H cls a->R' σ H cls a){e:Value}{s':Shared}(x:XS X R e s'):XS X R' e s':=by
 obtain⟨a,σ,H,B,cls,a0,m,e1,I,ex,r⟩:=x
 exact⟨a,σ,H,B,cls,a0,m,e1,I,ex,h _ _ _ _ r⟩
theorem Thr.imp{X:Cx}{R R':RX}(T:Thr X R')(h: ∀σ H cls a,R σ H cls a->R' σ H cls a):Thr X R:=fun e s' x=>T e s' (x.imp h)
structure Cat(X:Cx)(F0:Hp)(R:AX):Prop where
 thr:Thr X (b6p X.K F0 R)
 pl:Plain X
 calm:X.calm=true
 pass:X.A.frames=some X.stack->PassesOwn (model X.prog X.w) X.A X.env X.xe
 un:X.A.units+64<cLine
theorem un64{X:Cx}{F0:Hp}{R:AX}(c:Cat X F0 R):X.A.units+64<cLine:=c.un
theorem un1{X:Cx}{F0:Hp}{R:AX}(c:Cat X F0 R):X.A.units+1<cLine:=Nat.lt_of_le_of_lt (Nat.add_le_add_left (by decide:1<=64) _) c.un
noncomputable abbrev SpA:=List D->Mem->AK->(Value->Mem->Prop)->Prop
noncomputable def a0k(K:PySem.W.Frag)(sa:SpA):Sp:=fun vs H Q E=> ∃F ds M Qa Ea,AM K F M H/\RDs K F vs ds/\sa ds M Qa Ea/\(∀v H',PQ K F Qa v H'->Q v H')/\ ∀cls H',(∃F' M',Same F F'/\AM K F' M' H'/\Ea cls M')->E cls none H'
def Rt(Q:AK):AK:=fun d M=>(∃M',Sub M' M/\Q d M')\/ ∃p ds M',d= .obj p/\M p=some (.lst ds)/\Sub M' (del M p)/\Q (.lst ds) M'
theorem Rt.now{Q:AK}{d:D}{M:Mem}(h:Q d M):Rt Q d M:= .inl ⟨M,.refl M,h⟩
theorem Rt.sub{Q:AK}{d:D}{M M':Mem}(s:Sub M' M)(h:Q d M'):Rt Q d M:= .inl ⟨M',s,h⟩
theorem Sub.del{M:Mem}{p:Addr}{o:MO}(h:M p=none):Sub M (del (L2.put M p o) p):=by rw[a1w h];exact .refl M
theorem Rt.fz{Q:AK}{p:Addr}{M:Mem}{ds:List D}(hp:M p=none)(h:Q (.lst ds) M):Rt Q (.obj p) (put M p (.lst ds)):= .inr ⟨p,ds,M,rfl,a0c,.del hp,h⟩
theorem PQ.rt{K:PySem.W.Frag}{F:Hp}{Q:AK}{v:V}{H:Hp}(h:PQ K F (Rt Q) v H):PQ K F Q v H:=by
 obtain⟨d,F',M',s,m,r,q⟩:=h
 rcases q with⟨M2,hs,q⟩ | ⟨p,ds,M2,rfl,hp,hs,q⟩
 . exact⟨d,F',M2,s,m.less hs,r,q⟩
 . obtain⟨F2,s2,m2,r2⟩:=m.freeze hp
   cases r
   exact⟨_,F2,M2,s.trans s2,m2.less hs,r2,q⟩
section
variable {X:Cx}{F0:Hp}{R:AX}{k:Nat}{x:Str}{ps:List Str}{sa:SpA}{p pos apos:Pos}{e o:Expr}{es:List Expr}{tt:AA}{to:AE}{C:Addr}{m:Str}
def aFun(sa:SpA)(R:AX)(t:AA):AE:=fun Γ M Q=>t Γ M fun ds M1=>sa ds M1 Q fun cls M'=>R Γ M' cls
theorem a04(h:Has X.prog X.w X.K X.mg X.base (CXE X.prog X.w) k x ps (a0k X.K sa))(hr:Room k X.A)(hg:Gl X x)(c:Cat X F0 R)(ha:PAA X F0 (e::es) tt)
   (hdb:(x==("__debug__":Str))=false:=by decide) (he:starEach (e::es) X.env=(false,eval e X.env)::starEach es X.env:=by rfl) (hpl:(backTo pos (starEach es X.env)).any (·.1)=false:=by rfl):
   PEA X F0 (.Call (.Name x p) (e::es) [] pos) (aFun sa R tt):=by
 refine⟨?_⟩
 intro F Γ M σ H Q f0 g mm hw
 refine(b8t h hr hg c.thr c.pl a1q hdb he hpl).to ((ha.run F Γ M σ H _ f0 g mm hw).mono fun vs H1 zz9=> ?_)
 obtain⟨ds,F1,M1,s1,m1,r1,q1⟩:=zz9
 exact⟨F1,ds,M1,_,_,m1,r1,q1,fun v H' z=>z.dn s1,fun cls H' ⟨F',M',s',m',q'⟩ a=>⟨F',Γ,M',f0.trans (s1.trans s'),g.up (s1.trans s'),m',q'⟩⟩
def b1r(o:Option MO)(C:Addr)(R:List (Str×D)->Prop):Prop:=match o with |some (.ins C' fs)=>C'=C/\R fs |_=>False
theorem a2v{C:Addr}{fs:List (Str×D)}{R:List (Str×D)->Prop}:b1r (some (.ins C fs)) C R=R fs:=by
 unfold b1r;simp
theorem b3j{o:Option MO}{C:Addr}{R:List (Str×D)->Prop}(h:b1r o C R): ∃fs,o=some (.ins C fs)/\R fs:=by
 unfold b1r at h
 split at h
 . obtain⟨rfl,h⟩:=h;exact⟨_,rfl,h⟩
 . exact h.elim
def b70(C:Addr)(m:Str)(sa:SpA)(R:AX)(to:AE)(t:AA):AE:=fun Γ M Q=>to Γ M fun x M1=>match x with
 | .obj p=>b1r (M1 p) C fun fs=>fs.lookup m=none/\t Γ M1 fun ds M2=>sa (.obj p::ds) M2 Q fun cls M'=>R Γ M' cls
 |_=>False
theorem PF.lookup{K:PySem.W.Frag}{F:Hp}{f:Str}: ∀{a:List (Str×V)}{b:List (Str×D)},PF K F a b->(b.lookup f=none->a.lookup f=none)/\ ∀d,b.lookup f=some d-> ∃v,a.lookup f=some v/\RD K F v d
 |_,_,.nil=>⟨fun _=>rfl,fun d h=>by cases h⟩
 | (n,v)::a,(n',d)::b,.cons ⟨h1,h2⟩ t=>by
   dsimp only at h1 h2
   subst h1
   simp only[List.lookup_cons]
   split
   . refine⟨fun h=> ?_,fun d' h=> ?_⟩
     . cases h
     . cases h;exact⟨_,rfl,h2⟩
   . exact PF.lookup t
theorem b50{pl:Sem Bool}{sp:Sp}{R:RX}{ta:TE}(h:HasM X.prog X.w X.K X.mg X.base (CXE X.prog X.w) k C m ps sp)(hr:Room k X.A)(T:Thr X R)(Pl:Plain X)(ho:PE X o ta)
   (ht:eval (.Call (.Attribute o m apos) [] [] pos) X.env=(do
     let ov <-eval o X.env
     standAt apos.atName
     let (f,first) <-holding [ov] (getMethod ov m pl)
     callWith pos f first (backTo pos (starEach [] X.env)) (backToKw pos (keywordEach [] X.env))):=by rfl):
   PE X (.Call (.Attribute o m apos) [] [] pos) (tMethX C m sp R ta tNil):=by
 intro pins s σ H Q I hw
 obtain⟨f,fd,F,hm,hb⟩:=h.ex
 refine PySem.W.methodCall_KW (pl:=pl) (thn (ho pins s σ H _ I hw) fun u s1 ⟨x,H1,I1,rx,a,dx,fs,ex,ea,l,q⟩=> ?_) ht
 subst ex
 obtain rfl:u=Value.ref a:=rx
 refine a8b I1 ea h.cl hm l ?_
 exact PySem.W.callWith_K0 (first:=[.ref a]) I1.kIn hm.kp (b07 (us:=[.ref a]) (vs:=[.ref a]) F hr hb T Pl I1 (.cons rfl .nil) q)
theorem a9x{pl:Sem Bool}(h:HasM X.prog X.w X.K X.mg X.base (CXE X.prog X.w) k C m ps (a0k X.K sa))(hr:Room k X.A)(c:Cat X F0 R)(ho:PEA X F0 o to)(ha:PAA X F0 (e::es) tt)
   (hst:starEach (e::es) X.env=(false,eval e X.env)::starEach es X.env:=by rfl) (hpl:(backTo pos (starEach es X.env)).any (·.1)=false:=by rfl)
   (ht:eval (.Call (.Attribute o m apos) (e::es) [] pos) X.env=(do
     let ov <-eval o X.env
     standAt apos.atName
     let (f,first) <-holding [ov] (getMethod ov m pl)
     callWith pos f first (backTo pos (starEach (e::es) X.env)) (backToKw pos (keywordEach [] X.env))):=by rfl):
   PEA X F0 (.Call (.Attribute o m apos) (e::es) [] pos) (b70 C m sa R to tt):=by
 refine⟨?_⟩
 intro F Γ M σ H Q f0 g mm hw
 refine(b8p h hr c.thr c.pl a0l a1q hst hpl ht).to ((ho.run F Γ M σ H _ f0 g mm hw).mono fun v H1 zz9=> ?_)
 obtain⟨d,F1,M1,s1,m1,r1,q1⟩:=zz9
 obtain⟨pp,rfl,rfl⟩: ∃pp,v= .ref pp/\d= .obj pp:=by cases r1<;>first |exact q1.elim |exact⟨_,rfl,rfl⟩
 obtain⟨fs,hp,hl,q1⟩:=b3j q1
 obtain⟨u,e1,ro⟩:=m1.mem _ _ hp
 obtain⟨dx,ws,rfl,pf⟩:=ro.isI
 refine⟨pp,dx,ws,rfl,e1,pf.lookup.1 hl,?_⟩
 refine(ha.run F1 Γ M1 σ H1 _ (f0.trans s1) (g.up s1) m1 q1).mono fun vs H2 zz9=> ?_
 obtain⟨ds,F2,M2,s2,m2,r2,q2⟩:=zz9
 exact⟨F2,.obj pp::ds,M2,_,_,m2,.cons (.obj pp) r2,q2,fun v H' z=>z.dn (s1.trans s2),fun cls H' ⟨F',M',s',m',q'⟩ a=>⟨F',Γ,M',f0.trans (s1.trans (s2.trans s')),g.up (s1.trans (s2.trans s')),m',q'⟩⟩
theorem a3m{pl:Sem Bool}(h:HasM X.prog X.w X.K X.mg X.base (CXE X.prog X.w) k C m ps (a0k X.K sa))(hr:Room k X.A)(c:Cat X F0 R)(ho:PEA X F0 o to)
   (ht:eval (.Call (.Attribute o m apos) [] [] pos) X.env=(do
     let ov <-eval o X.env
     standAt apos.atName
     let (f,first) <-holding [ov] (getMethod ov m pl)
     callWith pos f first (backTo pos (starEach [] X.env)) (backToKw pos (keywordEach [] X.env))):=by rfl):
   PEA X F0 (.Call (.Attribute o m apos) [] [] pos) (b70 C m sa R to aNil):=by
 refine⟨?_⟩
 intro F Γ M σ H Q f0 g mm hw
 refine(b50 h hr c.thr c.pl a0l ht).to ((ho.run F Γ M σ H _ f0 g mm hw).mono fun v H1 zz9=> ?_)
 obtain⟨d,F1,M1,s1,m1,r1,q1⟩:=zz9
 obtain⟨pp,rfl,rfl⟩: ∃pp,v= .ref pp/\d= .obj pp:=by cases r1<;>first |exact q1.elim |exact⟨_,rfl,rfl⟩
 obtain⟨fs,hp,hl,q1⟩:=b3j q1
 obtain⟨u,e1,ro⟩:=m1.mem _ _ hp
 obtain⟨dx,ws,rfl,pf⟩:=ro.isI
 refine⟨pp,dx,ws,rfl,e1,pf.lookup.1 hl,?_⟩
 exact⟨F1,[.obj pp],M1,_,_,m1,.cons (.obj pp) .nil,q1,fun v H' z=>z.dn s1,fun cls H' ⟨F',M',s',m',q'⟩ a=>⟨F',Γ,M',f0.trans (s1.trans s'),g.up (s1.trans s'),m',q'⟩⟩
structure Pln(K:PySem.W.Frag)(C:Addr)(f:Str):Prop where
 cl:Cls K C
 no:NoAttr K C f
def aFldC(C:Addr)(f:Str)(to:AE):AE:=fun Γ M Q=>to Γ M fun x M1=>match x with
 | .obj p=>b1r (M1 p) C fun fs=>opt (fs.lookup f) fun d=>Q d M1
 |_=>False
theorem a54{f:Str}(P:Pln X.K C f)(ho:PEA X F0 e to)(hb:attributeBase e f X.env (eval e X.env)=eval e X.env):PEA X F0 (.Attribute e f pos) (aFldC C f to):=by
 refine⟨?_⟩
 intro F Γ M σ H Q f0 g mm hw
 refine(pe_fld a0l hb).to ((ho.run F Γ M σ H _ f0 g mm hw).mono fun v H1 zz9=> ?_)
 obtain⟨d,F1,M1,s1,m1,r1,q1⟩:=zz9
 obtain⟨pp,rfl,rfl⟩: ∃pp,v= .ref pp/\d= .obj pp:=by cases r1<;>first |exact q1.elim |exact⟨_,rfl,rfl⟩
 obtain⟨fs,hp,q1⟩:=b3j q1
 obtain⟨d,hl,q⟩:=a1v q1
 obtain⟨u,e1,ro⟩:=m1.mem _ _ hp
 obtain⟨dx,ws,rfl,pf⟩:=ro.isI
 obtain⟨v,lv,rv⟩:=pf.lookup.2 d hl
 exact⟨pp,C,dx,ws,v,rfl,e1,P.cl,P.no,lv,d,F1,M1,s1,m1,rv,q⟩
noncomputable def putD(f:Str)(v:D):List (Str×D)->List (Str×D)
 | []=>[(f,v)]
 | (g,x)::r=>if g=f then(g,v)::r else(g,x)::putD f v r
end
section
variable {X:Cx}{F0:Hp}{R:AX}{e o c:Expr}{es:List Expr}{pos pos':Pos}{te t_o:AE}{tt:AA}{t u:AS}{st:Stmt}{rest a b:List Stmt}{tc:AT}
def aNext:AS:=fun E Γ M=>E.nx Γ M
def aSeq(t u:AS):AS:=fun E Γ M=>t {E with nx:=u E} Γ M
theorem a0w:PSsA X F0 [] aNext:=⟨fun F Γ M σ H E _ g m h=>pss_nil.to (PQg.here m g h)⟩
theorem a0b(h1:PSA X F0 st t)(h2:PSsA X F0 rest u):PSsA X F0 (st::rest) (aSeq t u):=by
 refine⟨?_⟩
 intro F Γ M σ H E f0 g m h
 refine(b8j b5v a2a).to ((h1.run F Γ M σ H _ f0 g m h).mono ⟨fun σ1 H1 ⟨F1,Γ1,M1,s1,g1,m1,q1⟩=> ?_,fun _ _ z=>z,fun _ _ z=>z,fun _ _ z=>z⟩)
 exact(h2.run F1 Γ1 M1 σ1 H1 E (f0.trans s1) g1 m1 q1).mono (PQD.dn s1)
theorem a0h(h1:PSA X F0 st t):PSsA X F0 [st] t:=⟨fun F Γ M σ H E f0 g m h=>(pss_one b5v).to (h1.run F Γ M σ H E f0 g m h)⟩
def b19(te:AE):AS:=fun E Γ M=>te Γ M fun _ M1=>E.nx Γ M1
theorem a1y(he:PEA X F0 e te)(hs:swapsWith e none pos.line X.env=pure false:=by rfl):PSA X F0 (.Expr e pos) (b19 te):=by
 refine⟨?_⟩
 intro F Γ M σ H E f0 g m h
 exact(ps_expr a0l hs).to ((he.run F Γ M σ H _ f0 g m h).mono fun v H1 ⟨d,F1,M1,s1,m1,_,q1⟩=>⟨F1,Γ,M1,s1,g.up s1,m1,q1⟩)
def aRet(te:AE):AS:=fun E Γ M=>te Γ M E.rt
theorem sRet(he:PEA X F0 e te):PSA X F0 (.Return (some e) pos) (aRet te):=⟨fun F Γ M σ H E f0 g m h=>(ps_ret a0l).to (he.run F Γ M σ H _ f0 g m h)⟩
def aRetN:AS:=fun E _ M=>E.rt .non M
def aIf(c:AT)(t u:AS):AS:=fun E Γ M=>c Γ M fun b M1=>if b=true then t E Γ M1 else u E Γ M1
theorem sIf(hc:PTA X F0 c tc)(ha:PSsA X F0 a t)(hb:PSsA X F0 b u):PSA X F0 (.If c a b pos) (aIf tc t u):=by
 refine⟨?_⟩
 intro F Γ M σ H E f0 g m h
 refine(ps_if a3k a2a a2a).to ((hc.run F Γ M σ H _ f0 g m h).mono fun k H1 zz9=> ?_)
 obtain⟨F1,M1,s1,m1,q1⟩:=zz9
 cases k with
 |true=>
   rw[if_pos rfl]at q1 |-
   exact(ha.run F1 Γ M1 σ H1 E (f0.trans s1) (g.up s1) m1 q1).mono (PQD.dn s1)
 |false=>
   rw[if_neg Bool.false_ne_true]at q1 |-
   exact(hb.run F1 Γ M1 σ H1 E (f0.trans s1) (g.up s1) m1 q1).mono (PQD.dn s1)
def gaN(i:Nat):AGt:=fun d Γ M Q=>Q (Γ.set i (some d)) M
theorem a0r{i:Nat}{x:Str}(hN:X.N.Nodup)(hi:X.N[i]? =some x)(hx:Loc X.env.scope x)(hf:X.fn x=true\/X.env.scope.names.lookup x=some .local:=by first |exact .inl rfl |exact .inr rfl |assumption):PGA X F0 (.Name x pos) (gaN i):=
 ⟨fun F Γ M σ H v d Q _ g m r h=>(pg_name hN hi hx hf).to (PQg.here m (g.set r i) h)⟩
def gaNil:AGts:=fun ds Γ M Q=>ds=[]/\Q Γ M
def a3q(t:AGt)(u:AGts):AGts:=fun ds Γ M Q=>match ds with |d::r=>t d Γ M fun Γ' M'=>u r Γ' M' Q | []=>False
theorem a2p:PGsA X F0 [] gaNil:=by
 refine⟨?_⟩
 intro F Γ M σ H vs ds Q _ g m r h
 obtain⟨rfl,h⟩:=h
 cases r
 exact pgs_nil.to ⟨rfl,PQg.here m g h⟩
theorem a0u{gt:AGt}{gu:AGts}(h1:PGA X F0 e gt)(h2:PGsA X F0 es gu)(hs:(assignEach (e::es) X.env).map (·.2)=assign e X.env::(assignEach es X.env).map (·.2):=by rfl):PGsA X F0 (e::es) (a3q gt gu):=by
 refine⟨?_⟩
 intro F Γ M σ H vs ds Q f0 g m r h
 cases r with
 |nil=>exact h.elim
 |cons r1 r2=>
   refine(b8n a8r a8q hs).to ⟨_,_,rfl,?_⟩
   refine(h1.run F Γ M σ H _ _ _ f0 g m r1 h).mono fun σ1 H1 zz9=> ?_
   obtain⟨F1,Γ1,M1,s1,g1,m1,q1⟩:=zz9
   exact(h2.run F1 Γ1 M1 σ1 H1 _ _ Q (f0.trans s1) g1 m1 (r2.up s1) q1).mono fun _ _ z=>z.dn s1
def a5s(n:Nat)(t:AGts):AGt:=fun d Γ M Q=>match d with | .tup ds=>ds.length=n/\t ds Γ M Q |_=>False
theorem a6i{k:Nat}{gu:AGts}{n:Nat}(hc:X.calm=true)(h:PGsA X F0 es gu)
   (hn:(assignEach es X.env).length=n:=by rfl) (hst:(assignEach es X.env).findIdx? (·.1)=none:=by rfl):PGA X F0 (.Tuple es k pos) (a5s n gu):=by
 refine⟨?_⟩
 intro F Γ M σ H v d Q f0 g m r hw
 cases r<;>first |exact hw.elim |skip
 rename_i a xs ds e r
 exact(pg_tup hc a8q hn hst).to ⟨a,xs,rfl,.of (m.sub _ _ e),by rw[r.length];exact hw.1,h.run F Γ M σ H xs ds Q f0 g m r hw.2⟩
def gaLst(n:Nat)(t:AGts):AGt:=fun d Γ M Q=>match dr M d with |some ds=>ds.length=n/\t ds Γ M Q |none=>False
theorem tgLst{k:Nat}{gu:AGts}{n:Nat}(hc:X.calm=true)(h:PGsA X F0 es gu)
   (hn:(assignEach es X.env).length=n:=by rfl) (hst:(assignEach es X.env).findIdx? (·.1)=none:=by rfl):PGA X F0 (.Tuple es k pos) (gaLst n gu):=by
 refine⟨?_⟩
 intro F Γ M σ H v d Q f0 g m r hw
 unfold gaLst at hw
 split at hw
 . rename_i ds hd
   obtain⟨p,vs,rfl,e,rr⟩:=a4y m r hd
   exact(pg_lst hc a8q hn hst).to ⟨p,vs,rfl,e,by rw[rr.length];exact hw.1,h.run F Γ M σ H vs ds Q f0 g m rr hw.2⟩
 . exact hw.elim
def gaSub(to ti:AE):AGt:=fun d Γ M Q=>to Γ M fun x M1=>ti Γ M1 fun y M2=>match x,y with
 | .obj p,.int k=>(match M2 p with |some (.lst ds)=>(match ixN ds.length k with |some j=>Q Γ (put M2 p (.lst (ds.set j d))) |none=>False) |_=>False)
 |_,_=>False
theorem tgSub{i:Expr}{ti:AE}(ho:PEA X F0 o t_o)(hi:PEA X F0 i ti)
   (ha: ∀v,assign (.Subscript o i pos) X.env v=(do
     let ov <-holding [v] (eval o X.env)
     let iv <-holding [v,ov] (eval i X.env)
     standAt pos
     holding [v,ov,iv] (setItem ov iv v)
     release [v,ov,iv] []):=by intro _;rfl):PGA X F0 (.Subscript o i pos) (gaSub t_o ti):=by
 refine⟨?_⟩
 intro F Γ M σ H v d Q f0 g m r hw
 refine(pg_sub a0l a0l b79 ha).to (two ho hi f0 g m hw fun F2 M2 H2 v1 u1 x y s m2 r1 r2 q=> ?_)
 cases r1<;>first |exact q.elim |skip
 cases r2<;>first |exact q.elim |skip
 rename_i p k
 dsimp only at q
 split at q
 . rename_i ds hd
   split at q
   . rename_i j hj
     obtain⟨vs,e,rr⟩:=a80 m2 hd
     exact⟨p,vs,k,j,rfl,rfl,e,by rw[rr.length];exact hj,F2,Γ,_,s,g.up s,m2.set hd (u:= .lst (vs.set j v)) (o':= .lst (ds.set j d)) (RDs.set (r.up s) j rr),q⟩
   . exact q.elim
 . exact q.elim
def aAsg(te:AE)(gt:AGt):AS:=fun E Γ M=>te Γ M fun d M1=>gt d Γ M1 E.nx
theorem sAsg{tg:Expr}{gt:AGt}(he:PEA X F0 e te)(hg:PGA X F0 tg gt)(hs:swapsWithSole [tg] e pos.line X.env=pure false:=by rfl)(hw:swappedStores [tg] e X.env=pure none:=by rfl)
   (h1:(assignEach [tg] X.env).map (·.2)=[assign tg X.env]:=by rfl):PSA X F0 (.Assign [tg] e pos) (aAsg te gt):=by
 refine⟨?_⟩
 intro F Γ M σ H E f0 g m h
 refine(ps_asg a0l a8r hs hw h1).to ((he.run F Γ M σ H _ f0 g m h).mono fun v H1 zz9=> ?_)
 obtain⟨d,F1,M1,s1,m1,r1,q1⟩:=zz9
 exact(hg.run F1 Γ M1 σ H1 v d _ (f0.trans s1) (g.up s1) m1 r1 q1).mono fun _ _ z=>PQg.dn s1 z
def aSet(i:Nat)(te:AE):AS:=fun E Γ M=>te Γ M fun d M1=>E.nx (Γ.set i (some d)) M1
theorem sSet{i:Nat}{x:Str}(hN:X.N.Nodup)(hi:X.N[i]? =some x)(hx:Loc X.env.scope x)(he:PEA X F0 e te)(hs:swapsWith e (some (.Name x pos')) pos.line X.env=pure false:=by rfl)(hf:X.fn x=true\/X.env.scope.names.lookup x=some .local:=by first |exact .inl rfl |exact .inr rfl |assumption):
   PSA X F0 (.Assign [.Name x pos'] e pos) (aSet i te):=by
 refine⟨?_⟩
 intro F Γ M σ H E f0 g m h
 exact(ps_set hN hi hx a0l hs hf).to ((he.run F Γ M σ H _ f0 g m h).mono fun v H1 ⟨d,F1,M1,s1,m1,r1,q1⟩=>⟨F1,_,M1,s1,(g.up s1).set r1 i,m1,q1⟩)
def aPar(i j:Nat)(t:AA):AS:=fun E Γ M=>t Γ M fun ds M1=>match ds with | [v,w]=>E.nx ((Γ.set i (some v)).set j (some w)) M1 |_=>False
def aSetF(C:Addr)(f:Str)(to te:AE):AS:=fun E Γ M=>te Γ M fun y M1=>to Γ M1 fun x M2=>match x with
 | .obj p=>b1r (M2 p) C fun fs=>fs.length<1000/\E.nx Γ (put M2 p (.ins C (putD f y fs)))
 |_=>False
theorem PF.put{K:PySem.W.Frag}{F:Hp}{f:Str}{v:V}{d:D}(r:RD K F v d): ∀{a:List (Str×V)}{b:List (Str×D)},PF K F a b->PF K F (putF f v a) (putD f d b)
 |_,_,.nil=> .cons ⟨rfl,r⟩ .nil
 | (n,_)::_,(n',_)::_,.cons ⟨h1,h2⟩ t=>by
   dsimp only at h1 h2
   subst h1
   unfold putF putD
   split
   . exact .cons ⟨rfl,r⟩ t
   . exact .cons ⟨rfl,h2⟩ (PF.put r t)
theorem b8c{C:Addr}{f:Str}(P:Pln X.K C f)(ho:PEA X F0 o t_o)(he:PEA X F0 e te)(hs:swapsWith e (some (.Attribute o f pos')) pos.line X.env=pure false):PSA X F0 (.Assign [.Attribute o f pos'] e pos) (aSetF C f t_o te):=by
 refine⟨?_⟩
 intro F Γ M σ H E f0 g m h
 refine(ps_fld a0l a0l hs).to (two he ho f0 g m h fun F2 M2 H2 v u x y s m2 r1 r2 q=> ?_)
 cases r2<;>first |exact q.elim |skip
 rename_i p
 obtain⟨fs,hp,hl,q⟩:=b3j q
 obtain⟨w,e1,ro⟩:=m2.mem _ _ hp
 obtain⟨dx,ws,rfl,pf⟩:=ro.isI
 exact⟨p,C,dx,ws,rfl,e1,P.cl,P.no,by rw[pf.length];exact hl,F2,Γ,_,s,g.up s,m2.set hp (u:= .ins C dx (putF f v ws)) (o':= .ins C (putD f x fs)) ⟨rfl,pf.put r1⟩,q⟩
def aRaise(R:AX)(C:Addr)(t:AA):AS:=fun _ Γ M=>t Γ M fun ds M1=>ds.length<=1000/\R Γ M1 (.ref C)
theorem a2f{x:Str}{C:Addr}{np cpos:Pos}(k:Cat X F0 R)(O:ExCls X.K X.mg x C)(hg:Gl X x)(ha:PAA X F0 (e::es) tt)
   (hd:(x==("__debug__":Str))=false:=by decide) (he:starEach (e::es) X.env=(false,eval e X.env)::starEach es X.env:=by rfl) (hpl:(backTo cpos (starEach es X.env)).any (·.1)=false:=by rfl):
   PSA X F0 (.Raise (some (.Call (.Name x np) (e::es) [] cpos)) none pos) (aRaise R C tt):=by
 refine⟨?_⟩
 intro F Γ M σ H E f0 g m h
 refine(b8l k.thr k.pl O k.calm hg a1q hd he hpl).to ((ha.run F Γ M σ H _ f0 g m h).mono fun vs H1 zz9=> ?_)
 obtain⟨ds,F1,M1,s1,m1,r1,hl,q1⟩:=zz9
 exact⟨by rw[r1.length];exact a5n hl,fun a=>⟨F1,Γ,M1,f0.trans s1,g.up s1,m1,q1⟩⟩
def aWhile(c:AT)(tb:AS):AS:=fun E Γ M=> ∃W:Nat->G->Mem->Prop,(∃m,W m Γ M)/\ ∀m Γ M,W m Γ M->
 c Γ M fun b M1=>if b=true then tb {E with nx:=fun Γ' M'=> ∃m',m'<m/\W m' Γ' M',ct:=fun Γ' M'=> ∃m',m'<m/\W m' Γ' M',bk:=E.nx} Γ M1 else E.nx Γ M1
theorem b2p{tb:AS}{body:List Stmt}(k:Cat X F0 R)(hc:PTA X F0 c tc)(hb:PSsA X F0 body tb):PSA X F0 (.While c body [] pos) (aWhile tc tb):=by
 refine⟨?_⟩
 intro F Γ M σ H E f0 g m h
 obtain⟨W,⟨m0,w0⟩,turn⟩:=h
 intro pins s I
 refine(b8k (k.pass I.ok.frames) a3k a2a).to ⟨fun n σ' H'=> ∃F' Γ' M',Same F F'/\AG X.K F' Γ' σ'/\AM X.K F' M' H'/\W n Γ' M',⟨m0,F,Γ,M,.refl F,g,m,w0⟩,?_⟩ pins s I
 rintro n σ1 H1 ⟨F1,Γ1,M1,s1,g1,m1,w1⟩
 refine(hc.run F1 Γ1 M1 σ1 H1 _ (f0.trans s1) g1 m1 (turn n Γ1 M1 w1)).mono fun b H2 zz9=> ?_
 obtain⟨F2,M2,s2,m2,q2⟩:=zz9
 cases b with
 |true=>
   rw[if_pos rfl]at q2 |-
   refine⟨PQg X.K F (fun Γ' M'=> ∃m',m'<n/\W m' Γ' M'),fun σ' H' ⟨F',Γ',M',s',g',m',n'⟩=> ?_,?_⟩
   . obtain⟨k',hm,w'⟩:=n'
     exact⟨k',hm,F',Γ',M',s',g',m',w'⟩
   . exact(hb.run F2 Γ1 M2 σ1 H2 _ (f0.trans (s1.trans s2)) (g1.up s2) m2 q2).mono ⟨fun _ _ z=>PQg.dn (s1.trans s2) z,fun _ _ z=>PQ.dn (s1.trans s2) z,fun _ _ z=>PQg.dn (s1.trans s2) z,fun _ _ z=>PQg.dn (s1.trans s2) z⟩
 |false=>
   rw[if_neg Bool.false_ne_true]at q2 |-
   exact⟨F2,Γ1,M2,s1.trans s2,g1.up s2,m2,q2⟩
structure Src where
 n:Nat
 item:Nat->D
 held:Mem->Prop
noncomputable abbrev AI:=G->Mem->(Src->Mem->Prop)->Prop
def b8a(X:Cx)(tg iter:Expr):TI:=fun σ H Rr=> ∀pins s,Inv X pins σ H s->wpAny (model X.prog X.w) X.A (eval iter X.env) (fun v s1=>wpAny (model X.prog X.w) X.A (pyIter v) (PIE X pins σ tg Rr) X.xe s1) X.xe s
theorem a8p{tg iter:Expr}:PI X tg iter (b8a X tg iter):=fun pins s _ _ _ I h=>h pins s I
theorem PI.to{tg iter:Expr}{σ:St}{H:Hp}{wi:TI}{Rr:It->Hp->Prop}(h:PI X tg iter wi)(hw:wi σ H Rr):b8a X tg iter σ H Rr:=fun pins s I=>h pins s σ H Rr I hw
structure ItS(K:PySem.W.Frag)(F:Hp)(J:It)(S:Src):Prop where
 go: ∀i F' M H,Same F F'->AM K F' M H->S.held M->i<S.n->J.go i H
 yld: ∀i F' M H x H',Same F F'->AM K F' M H->S.held M->i<S.n->J.yld i H x H'-> ∃F2,Same F' F2/\AM K F2 M H'/\RD K F2 x (S.item i)
 stop: ∀F' M H,Same F F'->AM K F' M H->S.held M->J.stop S.n H
structure PIA(X:Cx)(F0:Hp)(tg iter:Expr)(t:AI):Prop where
 run: ∀F Γ M σ H Q,Same F0 F->AG X.K F Γ σ->AM X.K F M H->t Γ M Q->b8a X tg iter σ H fun J H1=> ∃S F1 M1,Same F F1/\AM X.K F1 M1 H1/\ItS X.K F1 J S/\Q S M1
def LoopP(S:Src)(gt:AGt)(tb:AS):AS:=fun E Γ M=> ∃W:Nat->G->Mem->Prop,W 0 Γ M/\ ∀i Γ M,W i Γ M->S.held M/\if i<S.n then gt (S.item i) Γ M fun Γ2 M2=>tb {E with nx:=W (i+1),ct:=W (i+1),bk:=E.nx} Γ2 M2 else E.nx Γ M
theorem LoopP.by{S:Src}{gt:AGt}{tb:AS}{E:AEnds}{Γ:G}{M:Mem}(W:Nat->G->Mem->Prop)(h0:W 0 Γ M)(hl: ∀i Γ M,W i Γ M->S.held M)
   (step: ∀i Γ M,i<S.n->W i Γ M->gt (S.item i) Γ M fun Γ2 M2=>tb {E with nx:=fun Γ' M'=>i+1<=S.n/\W (i+1) Γ' M',ct:=fun Γ' M'=>i+1<=S.n/\W (i+1) Γ' M',bk:=E.nx} Γ2 M2) (done: ∀Γ M,W S.n Γ M->E.nx Γ M):LoopP S gt tb E Γ M:=by
 refine⟨fun i Γ M=>i<=S.n/\W i Γ M,⟨Nat.zero_le _,h0⟩,fun i Γ M ⟨hi,w⟩=>⟨hl i Γ M w,?_⟩⟩
 by_cases h:i<S.n
 . rw[if_pos h];exact step i Γ M h w
 . rw[if_neg h]
   have e:i=S.n:=by omega
   subst e
   exact done Γ M w
def aFor(wi:AI)(gt:AGt)(tb:AS):AS:=fun E Γ M=>wi Γ M fun S M1=>LoopP S gt tb E Γ M1
theorem sFor{tg iter:Expr}{body:List Stmt}{wi:AI}{gt:AGt}{tb:AS}(k:Cat X F0 R)(hi:PIA X F0 tg iter wi)(hg:PGA X F0 tg gt)(hb:PSsA X F0 body tb)
   (hs: ∀x,foldedSetIterable iter X.env x=pure x:=by intro _;rfl):PSA X F0 (.For tg iter body [] pos) (aFor wi gt tb):=by
 refine⟨?_⟩
 intro F Γ M σ H E f0 g m h
 intro pins0 s0 I0
 refine(ps_for (k.pass I0.ok.frames) k.calm a8p a8r a2a hs).to ?_ pins0 s0 I0
 intro pins s I
 refine thn (hi.run F Γ M σ H _ f0 g m h pins s I) fun v s1 h1=>thn h1 fun itv s2 zz9=> ?_
 obtain⟨it,fp,tn,J,H2,e1,I2,T,st,fo,S,F1,M1,s1,m1,iS,W,w0,turn⟩:=zz9
 refine⟨it,fp,tn,J,H2,e1,I2,T,st,fo,fun i n σ' H'=>n=S.n- i/\i<=S.n/\ ∃F' Γ' M',Same F1 F'/\AG X.K F' Γ' σ'/\AM X.K F' M' H'/\W i Γ' M',⟨S.n,rfl,Nat.zero_le _,F1,Γ,M1,.refl _,g.up s1,m1,w0⟩,?_⟩
 rintro i n σ3 H3 ⟨rfl,hle,F3,Γ3,M3,s3,g3,m3,w3⟩
 obtain⟨hh,w3⟩:=turn i Γ3 M3 w3
 by_cases hlt:i<S.n
 . rw[if_pos hlt]at w3
   refine .inr ⟨iS.go i F3 M3 H3 s3 m3 hh hlt,PQg X.K F1 (W (i+1)),fun σ' H' ⟨F',Γ',M',s',g',m',w'⟩=>⟨S.n- (i+1),by omega,rfl,hlt,F',Γ',M',s',g',m',w'⟩,fun x H' y=> ?_⟩
   obtain⟨F4,s4,m4,r4⟩:=iS.yld i F3 M3 H3 x H' s3 m3 hh hlt y
   refine(hg.run F4 Γ3 M3 σ3 H' x _ _ (f0.trans (s1.trans (s3.trans s4))) (g3.up s4) m4 r4 w3).mono fun σ5 H5 zz9=> ?_
   obtain⟨F5,Γ5,M5,s5,g5,m5,q5⟩:=zz9
   have sx:=s3.trans (s4.trans s5)
   refine(hb.run F5 Γ5 M5 σ5 H5 _ (f0.trans (s1.trans sx)) g5 m5 q5).mono ⟨fun _ _ z=>PQg.dn sx z,fun _ _ z=>PQ.dn (s1.trans sx) z,fun _ _ z=>PQg.dn (s1.trans sx) z,fun _ _ z=>PQg.dn sx z⟩
 . rw[if_neg hlt]at w3
   have hin:i=S.n:=by omega
   have w3:E.nx Γ3 M3:=w3
   exact .inl ⟨by rw[hin];exact iS.stop F3 M3 H3 s3 m3 hh,F3,Γ3,M3,s1.trans s3,g3,m3,w3⟩
def iaL(tl:AE):AI:=fun Γ M Q=>tl Γ M fun d M1=>match dr M1 d with
 |some ds=>Q ⟨ds.length,fun i=>ds.getD i .non,fun M=>dr M d=some ds⟩ M1
 |none=>False
theorem a1z{tg l:Expr}{tl:AE}(hl:PEA X F0 l tl):PIA X F0 tg l (iaL tl):=by
 refine⟨?_⟩
 intro F Γ M σ H Q f0 g m h
 refine(pi_list a0l).to ((hl.run F Γ M σ H _ f0 g m h).mono fun v H1 zz9=> ?_)
 obtain⟨d,F1,M1,s1,m1,r1,q1⟩:=zz9
 try dsimp only at q1
 split at q1
 . rename_i ds hd
   obtain⟨p,vs,rfl,e,rr⟩:=a4y m1 r1 hd
   refine⟨p,rfl,⟨vs,e⟩,_,F1,M1,s1,m1,⟨fun i F' M' H' s' m' hh hi=> ?_,fun i F' M' H' x H'' s' m' hh hi y=> ?_,fun F' M' H' s' m' hh=> ?_⟩,q1⟩
   . obtain⟨p',ws,e1,e2,r2⟩:=a4y m' (r1.up s') hh
     cases e1
     obtain⟨w,e3,_⟩:=r2.get (i:=i) (d:=ds[i]) (by simp[hi])
     exact⟨ws,w,e2,e3⟩
   . obtain⟨p',ws,e1,e2,r2⟩:=a4y m' (r1.up s') hh
     cases e1
     obtain⟨rfl,y⟩:=y
     obtain⟨w,e3,r3⟩:=r2.get (i:=i) (d:=ds[i]) (by simp[hi])
     have hx:=y ws e2
     rw[e3]at hx
     have hx:=Option.some.inj hx
     subst hx
     refine⟨F',.refl _,m',?_⟩
     have e4:ds.getD i .non=ds[i]:=by simp[List.getD,List.getElem?_eq_getElem hi]
     show RD X.K F' _ (ds.getD i .non)
     rw[e4];exact r3
   . obtain⟨p',ws,e1,e2,r2⟩:=a4y m' (r1.up s') hh
     cases e1
     exact⟨ws,e2,by rw[r2.length];exact Nat.le_refl _⟩
 . exact q1.elim
def iaR1(tt:AA):AI:=fun Γ M Q=>tt Γ M fun ds M1=>match ds with
 | [.int j]=> -(2^62)<=j/\j<2^62/\Q ⟨j.toNat,fun i=> .int i,fun _=>True⟩ M1
 |_=>False
theorem b67{K:PySem.W.Frag}{F:Hp}{lo:Int}{n:Nat}:ItS K F (Itr lo n) ⟨n,fun i=> .int (lo+i),fun _=>True⟩:=
 ⟨fun i _ _ _ _ _ _ h=>h,fun i F' M H x H' _ m _ _ ⟨e1,e2⟩=>by subst e1 e2;exact⟨F',.refl _,m,.int _⟩,fun _ _ _ _ _ _=>Nat.le_refl _⟩
theorem a88{tg a:Expr}{p:Pos}(hg:Gl X "range")(hm:X.mg "range"=none)(ha:PAA X F0 [a] tt)(hs:starEach [a] X.env=[(false,eval a X.env)]:=by rfl):PIA X F0 tg (.Call (.Name "range" p) [a] [] pos) (iaR1 tt):=by
 refine⟨?_⟩
 intro F Γ M σ H Q f0 g m h
 refine(b5z hg hm a1q hs).to ((ha.run F Γ M σ H _ f0 g m h).mono fun vs H1 zz9=> ?_)
 obtain⟨ds,F1,M1,s1,m1,r1,q1⟩:=zz9
 try dsimp only at q1
 split at q1
 . rename_i j
   obtain⟨x,rfl,rx⟩:=r1.one'
   obtain rfl:x= .int j:=by cases rx;rfl
   refine⟨j,rfl,q1.1,q1.2.1,⟨j.toNat,fun i=> .int i,fun _=>True⟩,F1,M1,s1,m1,?_,q1.2.2⟩
   have:=b67 (K:=X.K) (F:=F1) (lo:=0) (n:=j.toNat)
   simpa using this
 . exact q1.elim
def iaR2(tt:AA):AI:=fun Γ M Q=>tt Γ M fun ds M1=>match ds with
 | [.int i,.int j]=>(-(2^62)<=i/\i<2^62/\ -(2^62)<=j/\j<2^62)/\Q ⟨(j- i).toNat,fun k=> .int (i+k),fun _=>True⟩ M1
 |_=>False
theorem iRange2{tg a b:Expr}{p:Pos}(hg:Gl X "range")(hm:X.mg "range"=none)(ha:PAA X F0 [a,b] tt)(hs:starEach [a,b] X.env=[(false,eval a X.env),(false,eval b X.env)]:=by rfl)(hs2:starEach [b] X.env=[(false,eval b X.env)]:=by rfl):PIA X F0 tg (.Call (.Name "range" p) [a,b] [] pos) (iaR2 tt):=by
 refine⟨?_⟩
 intro F Γ M σ H Q f0 g m h
 refine(b5y hg hm a1q hs hs2).to ((ha.run F Γ M σ H _ f0 g m h).mono fun vs H1 zz9=> ?_)
 obtain⟨ds,F1,M1,s1,m1,r1,q1⟩:=zz9
 try dsimp only at q1
 split at q1
 . rename_i i j
   obtain⟨x,y,rfl,rx,ry⟩:=r1.two'
   obtain rfl:x= .int i:=by cases rx;rfl
   obtain rfl:y= .int j:=by cases ry;rfl
   exact⟨i,j,rfl,q1.1,⟨(j- i).toNat,fun k=> .int (i+k),fun _=>True⟩,F1,M1,s1,m1,b67,q1.2⟩
 . exact q1.elim
def iaS(tl:AE):AI:=fun Γ M Q=>tl Γ M fun d M1=>match d with
 | .str x=>Q ⟨x.cps.size,fun i=> .str ⟨#[x.cps.getD i 0]⟩,fun _=>True⟩ M1
 |_=>False
theorem iStr'{tg l:Expr}{tl:AE}(hl:PEA X F0 l tl):PIA X F0 tg l (iaS tl):=by
 refine⟨?_⟩
 intro F Γ M σ H Q f0 g m h
 refine(pi_str a0l).to ((hl.run F Γ M σ H _ f0 g m h).mono fun v H1 zz9=> ?_)
 obtain⟨d,F1,M1,s1,m1,r1,q1⟩:=zz9
 obtain⟨x,rfl,rfl⟩: ∃x,v= .str x/\d= .str x:=by cases r1<;>first |exact q1.elim |exact⟨_,rfl,rfl⟩
 exact⟨x,rfl,⟨x.cps.size,fun i=> .str ⟨#[x.cps.getD i 0]⟩,fun _=>True⟩,F1,M1,s1,m1,⟨fun i _ _ _ _ _ _ h=>h,fun i F' M H x H' _ m _ _ ⟨e1,e2⟩=>by subst e1 e2;exact⟨F',.refl _,m,.str _⟩,fun _ _ _ _ _ _=>rfl⟩,q1⟩
end
noncomputable def a72(N:List Str)(ds:List D):G:=ds.map some++List.replicate (N.length- ds.length) none
theorem b2h{K:PySem.W.Frag}{F:Hp}: ∀{vs:List V}{ds:List D}{n i:Nat}{d:D},RDs K F vs ds->(ds.map some++List.replicate n none:G)[i]? =some (some d)-> ∃v,(vs.map some++List.replicate n none:St)[i]? =some (some v)/\RD K F v d
 |_,_,n,i,d,.nil,h=>by
   simp only[List.map_nil,List.nil_append,List.getElem?_replicate]at h
   split at h<;>cases h
 |_,_,n,0,d,.cons r _,h=>by simp at h;subst h;exact⟨_,by simp,r⟩
 |_,_,n,i+1,d,.cons _ t,h=>by
   obtain⟨v,e,r⟩:=b2h (i:=i) t (by simpa using h)
   exact⟨v,by simpa using e,r⟩
theorem b2g{K:PySem.W.Frag}{F:Hp}{N:List Str}{vs:List V}{ds:List D}(r:RDs K F vs ds):AG K F (a72 N ds) (start N vs):=by
 refine⟨by simp[a72,start,r.length],fun i d h=> ?_⟩
 unfold start
 rw[r.length]
 exact b2h r h
theorem Cat.of{P:Program}{w:World}{K:PySem.W.Frag}{mg:Str->Option Value}{base:Heap}{N:List Str}{qual:Str}{scope:Scope}{f:Addr}{cd:Value}{A:Around}{outer:List Env}{s:Shared}{H:Hp}{E:XK}{F:Hp}{Ea:Value->Mem->Prop}
   (hE: ∀cls H',(∃F' M',Same F F'/\AM K F' M' H'/\Ea cls M')->E cls none H') (hu:(A.deeper (envOfC qual scope s.heap.objs.size f cd)).units+64<cLine):Cat ((cxOf (CXE P w) P w K mg base N qual scope f cd A outer s H E).by (rE E)) F (fun _ M cls=>Ea cls M):=
 ⟨Thr.imp b2c fun _ H' cls _ ⟨F',_,M',s',_,m',q⟩=>hE cls H' ⟨F',M',s',m',q⟩,plain_cx.wish _,rfl,fun fr=>a9w plain_cx fr,hu⟩
theorem Fun.okA{P:Program}{w:World}{K:PySem.W.Frag}{mg:Str->Option Value}{base:Heap}{x qual:Str}{st:Stmt}{f:Addr}{fd:FuncData}{N ps:List Str}{k:Nat}{sa:SpA}(Fn:Fun K x qual st f fd)(S:FnScope N ps (a0d st))(len: ∀ds M Q E,sa ds M Q E->ds.length=ps.length)
   (hbody: ∀(cdv:Value) (A:Around) (outer:List Env) (s:Shared) (H:Hp) (E:XK) (F0:Hp) (ds:List D) (M:Mem) (Q:AK) (Ea:Value->Mem->Prop),Room k (A.deeper (envOfC qual (a0d st) s.heap.objs.size f cdv))->
     Cat ((cxOf (CXE P w) P w K mg base N qual (a0d st) f cdv A outer s H E).by (rE E)) F0 (fun _ M cls=>Ea cls M)->sa ds M Q Ea->
     ∃t,PSsA ((cxOf (CXE P w) P w K mg base N qual (a0d st) f cdv A outer s H E).by (rE E)) F0 (a0y st) t/\t {nx:=fun _ M'=>Rt Q .non M',rt:=Rt Q} (a72 N ds) M):FnOk P w K mg base (CXE P w) (k+1) f fd ps (a0k K sa):=by
 refine Fn.okX S (fun vs H Q E ⟨F,ds,M,Qa,Ea,m,r,h,_⟩=>by rw[r.length];exact len _ _ _ _ h) ?_
 intro cdv A outer s H vs Q E hr ⟨F,ds,M,Qa,Ea,m,r,h,hQ,hE⟩
 obtain⟨t,ht,q⟩:=hbody cdv A outer s H E F ds M Qa Ea hr (Cat.of hE hr.units) h
 refine⟨_,a2a,?_⟩
 refine(ht.run F _ M _ H _ (.refl F) (b2g r) m q).mono ⟨fun σ' H' ⟨F',Γ',M',s',g',m',q'⟩=> ?_,fun v H' z=> ?_,fun _ _ ⟨_,_,_,_,_,_,q'⟩=>q'.elim,fun _ _ ⟨_,_,_,_,_,_,q'⟩=>q'.elim⟩
 . exact hQ _ _ (PQ.rt ⟨.non,F',M',s',m',.non,q'⟩)
 . exact hQ _ _ (PQ.rt z)
theorem passE{X:Cx}:b73 (CXE X.prog X.w) X E0:=fun _ _ _ _ _ _ _ ⟨_,_,_,_,_,_,_,_,_,_,_,_,_,_,q⟩=>q.elim
section
variable {X:Cx}{F0:Hp}{R:AX}{k:Nat}{x:Str}{sa:SpA}{p pos:Pos}{C:Addr}
structure HasC(P:Program)(w:World)(K:PySem.W.Frag)(mg:Str->Option Value)(base:Heap)(k:Nat)(x:Str)(C:Addr)(sa:SpA):Prop where
 bound:mg x=some (.ref C)
 ex: ∃f fd,FnOk P w K mg base (CXE P w) k f fd ["self"] (a0k K sa)/\Mk K C f/\Binds K fd ["self"] []
def aMake(C:Addr)(sa:SpA):AE:=fun _ M Q=> ∀p,M p=none->sa [.obj p] (put M p (.ins C [])) (fun d M'=>d= .non/\Q (.obj p) M') fun _ _=>False
theorem paMake(h:HasC X.prog X.w X.K X.mg X.base k x C sa)(hr:Room (k+1) X.A)(hg:Gl X x)(hdb:(x==("__debug__":Str))=false:=by decide):PEA X F0 (.Call (.Name x p) [] [] pos) (aMake C sa):=by
 refine⟨?_⟩
 intro F Γ M σ H Q f0 g m hw
 obtain⟨f,fd,Fn,mk,hb⟩:=h.ex
 refine(b8q mk Fn hr hg h.bound hb .nil passE hdb).to ?_
 intro q dx hq hdx hne
 have hs:=hw q (m.fM hq)
 have hq2:upd H dx (.own q) q=none:=by rw[a0o (Ne.symm hne)];exact hq
 refine⟨F,[.obj q],put M q (.ins C []),_,_,(m.more (u:= .own q) hdx).new (o:= .ins C []) hq2 ⟨rfl,.nil⟩,.cons (.obj q) .nil,hs,fun v H' ⟨d,F',M',s',m',r',hd,q'⟩=> ?_,fun _ _ ⟨_,_,_,_,z⟩=>z.elim⟩
 subst hd
 cases r'
 exact⟨rfl,.obj q,F',M',s',m',.obj q,q'⟩
end
noncomputable def keyD:D->Option Key
 | .int i=>some (.inl i)
 | .str x=>some (.inr x)
 |_=>none
noncomputable def getK(kvs:List (Key×D))(k:Key):Option D:=(kvs.find? fun kv=>decide (kv.1=k)).map (·.2)
noncomputable def a53(kvs:List (Key×D))(k:Key)(v:D):List (Key×D):=if(getK kvs k).isSome then kvs.map fun kv=>if kv.1=k then(kv.1,v)else kv else kvs++[(k,v)]
noncomputable def a5y(kvs:List (Key×D))(k:Key):List (Key×D):=kvs.filter fun kv=>decide (kv.1≠k)
section
variable {K:PySem.W.Frag}{F:Hp}
theorem a5v{x:V}{d:D}{k:Key}(r:RD K F x d)(h:keyD d=some k):x=kV k:=by
 cases r<;>first | (cases h;done) | (cases h;rfl)
theorem PF.get(k:Key): ∀{a:List (Key×V)}{b:List (Key×D)},PF K F a b->(getK b k=none->valV a k=none)/\ ∀d,getK b k=some d-> ∃v,valV a k=some v/\RD K F v d
 |_,_,.nil=>⟨fun _=>rfl,fun d h=>by cases h⟩
 | (n,v)::a,(n',d)::b,.cons ⟨h1,h2⟩ t=>by
   dsimp only at h1 h2
   subst h1
   obtain⟨i1,i2⟩:=PF.get k t
   by_cases hn:n=k
   . rw[a58 (p:=(n,v)) hn]
     have:getK ((n,d)::b) k=some d:=by simp[getK,List.find?_cons,hn]
     rw[this]
     refine⟨fun h=> ?_,fun d' h=> ?_⟩
     . cases h
     . cases h;exact⟨v,rfl,h2⟩
   . rw[a59 (p:=(n,v)) hn]
     have:getK ((n,d)::b) k=getK b k:=by simp[getK,List.find?_cons,hn]
     rw[this]
     exact⟨i1,i2⟩
theorem PF.append{κ:Type}: ∀{a a':List (κ×V)}{b b':List (κ×D)},PF K F a b->PF K F a' b'->PF K F (a++a') (b++b')
 |_,_,_,_,.nil,s=>s
 |_,_,_,_,.cons h t,s=> .cons h (PF.append t s)
theorem PF.mapK{k:Key}{v:V}{d:D}(r:RD K F v d): ∀{a:List (Key×V)}{b:List (Key×D)},PF K F a b->PF K F (a.map fun kv=>if kv.1=k then(kv.1,v)else kv) (b.map fun kv=>if kv.1=k then(kv.1,d)else kv)
 |_,_,.nil=> .nil
 | (n,_)::_,(n',_)::_,.cons ⟨h1,h2⟩ t=>by
   dsimp only at h1 h2
   subst h1
   simp only[List.map_cons]
   refine .cons ?_ (PF.mapK r t)
   split
   . exact⟨rfl,r⟩
   . exact⟨rfl,h2⟩
theorem PF.putK{k:Key}{v:V}{d:D}(r:RD K F v d){a:List (Key×V)}{b:List (Key×D)}(h:PF K F a b):PF K F (L2.putK a k v) (a53 b k d):=by
 unfold L2.putK a53
 rw[a8f]
 cases q:getK b k with
 |none=>
   rw[(h.get k).1 q]
   simp only[Option.isSome_none,Bool.false_eq_true,if_false]
   exact h.append (.cons ⟨rfl,r⟩ .nil)
 |some d'=>
   obtain⟨v',e,_⟩:=(h.get k).2 d' q
   rw[e]
   simp only[Option.isSome_some,if_true]
   exact PF.mapK r h
theorem PF.dropK{k:Key}: ∀{a:List (Key×V)}{b:List (Key×D)},PF K F a b->PF K F (L2.dropK a k) (a5y b k)
 |_,_,.nil=> .nil
 | (n,_)::_,(n',_)::_,.cons ⟨h1,h2⟩ t=>by
   dsimp only at h1 h2
   subst h1
   unfold L2.dropK a5y
   simp only[List.filter_cons]
   split
   . exact .cons ⟨rfl,h2⟩ (PF.dropK t)
   . exact PF.dropK t
end
section
variable {X:Cx}{F0:Hp}{e o i:Expr}{pos pos':Pos}{td ti tv:AE}
def aDGet(td ti:AE):AE:=fun Γ M Q=>td Γ M fun x M1=>ti Γ M1 fun y M2=>both (dd M2 x) (keyD y) fun kvs k=>opt (getK kvs k) fun d=>Q d M2
theorem a3n(hu:X.A.units+1<cLine)(ho:PEA X F0 o td)(hi:PEA X F0 i ti)(hs:NoSl i):PEA X F0 (.Subscript o i pos) (aDGet td ti):=by
 refine⟨?_⟩
 intro F Γ M σ H Q f0 g m hw
 refine(pe_dget hu a0l a0l hs).to (two ho hi f0 g m hw fun F2 M2 H2 v u x y s m2 r1 r2 q0=> ?_)
 obtain⟨kvs,k,h1,h2,q0⟩:=a70 q0
 obtain⟨d,h3,q⟩:=a1v q0
 obtain⟨p,ws,rfl,rfl,_,e1,pf⟩:=a4z m2 r1 h1
 obtain⟨w,e2,rw'⟩:=(pf.get k).2 d h3
 refine⟨p,w,rfl,?_,d,F2,M2,s,m2,rw',q⟩
 rw[a5v r2 h2,<-e2]
 exact DGet.k e1
def oDIn(neg:Bool):A2:=fun y x M Q=>both (dd M x) (keyD y) fun kvs k=>Q (.bl (if neg then !(getK kvs k).isSome else(getK kvs k).isSome)) M
theorem PF.some{K:PySem.W.Frag}{F:Hp}{a:List (Key×V)}{b:List (Key×D)}(h:PF K F a b)(k:Key):(valV a k).isSome=(getK b k).isSome:=by
 cases q:getK b k with
 |none=>rw[(h.get k).1 q];rfl
 |some d=>obtain⟨v,e,_⟩:=(h.get k).2 d q;rw[e];rfl
structure PCA(X:Cx)(F0:Hp)(op:CmpOp)(a b:Expr)(t:AE):Prop where
 run: ∀F Γ M σ H Q,Same F0 F->AG X.K F Γ σ->AM X.K F M H->t Γ M Q-> ∃tc:TE,PC X op a b tc/\ ∀Rv:VK,(∀v H',PQ X.K F Q v H'->Rv v H')->tc σ H Rv
theorem pcDIn(hu:X.A.units+1<cLine)(hi:PEA X F0 i ti)(ho:PEA X F0 o td):PCA X F0 .In i o (aOp (oDIn false) ti td):=by
 refine⟨?_⟩
 intro F Γ M σ H Q f0 g m hw
 refine⟨_,pc_din hu a0l a0l,fun Rv kk=>two hi ho f0 g m hw fun F2 M2 H2 v u y x s m2 r1 r2 q0=> ?_⟩
 obtain⟨kvs,k,h1,h2,q⟩:=a70 q0
 obtain⟨p,ws,rfl,rfl,_,e1,pf⟩:=a4z m2 r2 h1
 refine⟨p,_,rfl,by rw[a5v r1 h2];exact DGet.k e1,kk _ _ ⟨_,F2,M2,s,m2,.bl _,?_⟩⟩
 rw[pf.some k];simpa using q
theorem a3u(hu:X.A.units+1<cLine)(hi:PEA X F0 i ti)(ho:PEA X F0 o td):PCA X F0 .NotIn i o (aOp (oDIn true) ti td):=by
 refine⟨?_⟩
 intro F Γ M σ H Q f0 g m hw
 refine⟨_,b52 hu a0l a0l,fun Rv kk=>two hi ho f0 g m hw fun F2 M2 H2 v u y x s m2 r1 r2 q0=> ?_⟩
 obtain⟨kvs,k,h1,h2,q⟩:=a70 q0
 obtain⟨p,ws,rfl,rfl,_,e1,pf⟩:=a4z m2 r2 h1
 refine⟨p,_,rfl,by rw[a5v r1 h2];exact DGet.k e1,kk _ _ ⟨_,F2,M2,s,m2,.bl _,?_⟩⟩
 rw[pf.some k];simpa using q
theorem ptPC{op:CmpOp}{a b:Expr}{t:AE}(h:PCA X F0 op a b t)(h1:behindInMarks op b=false:=by first |exact nobehind _ (by decide) (by decide) |rfl):PTA X F0 (.Compare a [op] [b] pos) (aT t):=by
 refine⟨?_⟩
 intro F Γ M σ H Q f0 g m hw
 obtain⟨tc,pc,k⟩:=h.run F Γ M σ H _ f0 g m hw
 refine(pt_cmp pc h1).to (k _ fun v H' z=> ?_)
 exact PQ.bool z
def aDPut(td ti tv:AE):AS:=fun E Γ M=>tv Γ M fun v M1=>td Γ M1 fun x M2=>ti Γ M2 fun y M3=>match x with
 | .obj p=>both (dd M3 (.obj p)) (keyD y) fun kvs k=>kvs.length<1000/\E.nx Γ (put M3 p (.dic (a53 kvs k v)))
 |_=>False
theorem dd_obj{M:Mem}{p:Addr}{kvs:List (Key×D)}(h:dd M (.obj p)=some kvs):M p=some (.dic kvs):=by
 unfold dd at h
 dsimp only at h
 split at h
 . rename_i h';cases h;exact h'
 . cases h
theorem b06(hu:X.A.units+1<cLine)(ho:PEA X F0 o td)(hi:PEA X F0 i ti)(hv:PEA X F0 e tv)(hs:swapsWith e (some (.Subscript o i pos')) pos.line X.env=pure false):PSA X F0 (.Assign [.Subscript o i pos'] e pos) (aDPut td ti tv):=by
 refine⟨?_⟩
 intro F Γ M σ H E f0 g m hw
 refine(ps_dput hu a0l a0l a0l hs).to ?_
 refine(hv.run F Γ M σ H _ f0 g m hw).mono fun v H1 zz9=> ?_
 obtain⟨dv,F1,M1,s1,m1,r1,q1⟩:=zz9
 refine two ho hi (f0.trans s1) (g.up s1) m1 q1 fun F2 M2 H2 u w x y s m2 r2 r3 q=> ?_
 cases r2<;>first |exact q.elim |skip
 rename_i p
 obtain⟨kvs,k,hp,hk,hl,q⟩:=a70 q
 have hp:=dd_obj hp
 obtain⟨u',e1,ro⟩:=m2.mem _ _ hp
 obtain⟨ws,rfl,pf⟩:=ro.isD
 refine⟨p,_,rfl,?_,F2,Γ,put M2 p (.dic (a53 kvs k dv)),s1.trans s,g.up (s1.trans s),m2.set hp (u:= .dK (putK ws k v)) (o':= .dic (a53 kvs k dv)) (pf.putK (r1.up s)),q⟩
 rw[a5v r3 hk]
 exact DPut.k e1 (by rw[pf.length];exact a4i (Nat.le_of_lt hl))
def aDNew:AE:=fun _ M Q=> ∀p,M p=none->Q (.obj p) (put M p (.dic []))
theorem b2z:PEA X F0 (.Dict [] [] pos) aDNew:=by
 refine⟨?_⟩
 intro F Γ M σ H Q f0 g m hw
 exact pe_dnewK.to fun p hp=>⟨.obj p,F,_,.refl F,m.new (o:= .dic []) hp .nil,.obj p,hw p (m.fM hp)⟩
variable {apos cpos:Pos}
def aDPop(td ti:AE):AE:=fun Γ M Q=>td Γ M fun x M1=>(dd M1 x).isSome=true/\ti Γ M1 fun y M2=>match x with
 | .obj p=>both (dd M2 (.obj p)) (keyD y) fun kvs k=>opt (getK kvs k) fun d=>Q d (put M2 p (.dic (a5y kvs k)))
 |_=>False
theorem b54(ho:PEA X F0 o td)(he:PEA X F0 e ti)(mm:M1 X o "pop" apos e cpos):PEA X F0 (.Call (.Attribute o "pop" apos) [e] [] cpos) (aDPop td ti):=by
 refine⟨?_⟩
 intro F Γ M σ H Q f0 g m hw
 refine(b8r a0l a0l mm).to ((ho.run F Γ M σ H _ f0 g m hw).mono fun v H1 zz9=> ?_)
 obtain⟨x,F1,M1,s1,m1,r1,hd,q1⟩:=zz9
 cases hdd:dd M1 x with
 |none=>rw[hdd]at hd;cases hd
 |some kvs0=>
   obtain⟨p,ws,rfl,rfl,hp,e1,pf⟩:=a4z m1 r1 hdd
   refine⟨p,rfl,.inl ⟨ws,.inl e1⟩,(he.run F1 Γ M1 σ H1 _ (f0.trans s1) (g.up s1) m1 q1).mono fun u H2 zz9=> ?_⟩
   obtain⟨y,F2,M2,s2,m2,r2,q2⟩:=zz9
   obtain⟨kvs,k,hp2,hk,q2⟩:=a70 q2
   obtain⟨d,hg,q⟩:=a1v q2
   have hp2:=dd_obj hp2
   obtain⟨u',e2,ro⟩:=m2.mem _ _ hp2
   obtain⟨ws2,rfl,pf2⟩:=ro.isD
   obtain⟨w,e3,rw'⟩:=(pf2.get k).2 d hg
   exact⟨ws2,k,w,e2,a5v r2 hk,e3,d,F2,_,s1.trans s2,m2.set hp2 (u:= .dK (dropK ws2 k)) (o':= .dic (a5y kvs k)) pf2.dropK,rw',q⟩
def aDGet1(td ti:AE):AE:=fun Γ M Q=>td Γ M fun x M1=>(dd M1 x).isSome=true/\ti Γ M1 fun y M2=>both (dd M2 x) (keyD y) fun kvs k=>Q ((getK kvs k).getD .non) M2
theorem paDGet1(hu:X.A.units+1<cLine)(ho:PEA X F0 o td)(he:PEA X F0 e ti)(mm:M1 X o "get" apos e cpos):PEA X F0 (.Call (.Attribute o "get" apos) [e] [] cpos) (aDGet1 td ti):=by
 refine⟨?_⟩
 intro F Γ M σ H Q f0 g m hw
 refine(b8s hu a0l a0l mm).to ((ho.run F Γ M σ H _ f0 g m hw).mono fun v H1 zz9=> ?_)
 obtain⟨x,F1,M1,s1,m1,r1,hd,q1⟩:=zz9
 cases hdd:dd M1 x with
 |none=>rw[hdd]at hd;cases hd
 |some kvs0=>
   obtain⟨p,ws,rfl,rfl,hp,e1,pf⟩:=a4z m1 r1 hdd
   refine⟨p,rfl,.inl ⟨ws,.inl e1⟩,(he.run F1 Γ M1 σ H1 _ (f0.trans s1) (g.up s1) m1 q1).mono fun u H2 zz9=> ?_⟩
   obtain⟨y,F2,M2,s2,m2,r2,q0⟩:=zz9
   obtain⟨kvs,k,h1,h2,q⟩:=a70 q0
   obtain⟨p',ws2,e0,_,hp2,e2,pf2⟩:=a4z m2 (r1.up s2) h1
   cases e0
   refine⟨valV ws2 k,by rw[a5v r2 h2];exact DGet.k e2,?_⟩
   cases hk:getK kvs k with
   |none=>
     rw[(pf2.get k).1 hk]
     rw[hk]at q
     exact⟨_,F2,M2,s1.trans s2,m2,.non,q⟩
   |some d=>
     obtain⟨w,e3,rw'⟩:=(pf2.get k).2 d hk
     rw[e3]
     rw[hk]at q
     exact⟨_,F2,M2,s1.trans s2,m2,rw',q⟩
end
noncomputable def jsOf(n:Nat)(fs:List Nat):List (Option Nat):=List.replicate n none++fs.map some
noncomputable def frG(fs:List Nat)(Γ:G):G:=fs.map fun j=>(Γ[j]?).join
noncomputable def outs(f:Nat->Option D)(n:Nat):List D:=(List.range n).filterMap f
theorem a4p(f:Nat->Option D)(n:Nat):outs f (n+1)=outs f n++(f n).toList:=by
 unfold outs
 rw[List.range_succ,List.filterMap_append]
 cases h:f n<;>simp[h]
theorem outs_le(f:Nat->Option D)(n:Nat):(outs f n).length<=n:=by
 unfold outs
 exact Nat.le_trans (List.length_filterMap_le _ _) (by simp)
def a3d(n:Nat)(fs:List Nat)(wi:AI)(gt:AGt)(ti:AT)(te:AE):AE:=fun Γ M Q=>wi Γ M fun S M1=> ∃out:Nat->Option D,S.n<=1000/\
 (∀M',Sub M1 M'->S.held M'/\ ∀i,i<S.n-> ∀own:G,own.length=n->gt (S.item i) (own++frG fs Γ) M' fun Γ2 M2=>M2=M'/\(∃own',own'.length=n/\Γ2=own'++frG fs Γ)/\
   ti Γ2 M' fun b M3=>M3=M'/\if b=true then te Γ2 M' fun y M4=>M4=M'/\out i=some y else out i=none)/\
 ∀p,M1 p=none->Q (.obj p) (put M1 p (.lst (outs out S.n)))
def aYes:AT:=fun _ M Q=>Q true M
section
variable {X:Cx}{F0:Hp}{Nc:List Str}{scope:Scope}{cl:List (Str×Addr)}{n:Nat}{fs:List Nat}{tg iter elt:Expr}{ifs:List Expr}{gt:AGt}{ti:AT}{te:AE}{wi:AI}{pos:Pos}
structure PIfsA(X:Cx)(F0:Hp)(ifs:List Expr)(t:AT):Prop where
 run: ∀F Γ M σ H Q,Same F0 F->AG X.K F Γ σ->AM X.K F M H->t Γ M Q-> ∀pins s,Inv X pins σ H s->wpAny (model X.prog X.w) X.A (a3p X.env ifs) (TP X pins σ (PQb X.K F Q)) X.xe s
theorem a9b:PIfsA X F0 [] aYes:=⟨fun F Γ M σ H Q _ _ m h pins s I=>pif_nil pins s σ H _ I (PQb.here m h)⟩
theorem fiOne{c:Expr}{t:AT}(h:PTA X F0 c t):PIfsA X F0 [c] t:=⟨fun F Γ M σ H Q f0 g m hw pins s I=>pif_one a3k pins s σ H _ I (h.run F Γ M σ H Q f0 g m hw)⟩
theorem frG_ok{K:PySem.W.Frag}{F:Hp}{Γ:G}{σ:St}(g:AG K F Γ σ)(n:Nat)(fs:List Nat):AG K F (List.replicate n none++frG fs Γ) (sigC (jsOf n fs) σ):=by
 have e:sigC (jsOf n fs) σ=List.replicate n none++fs.map fun j=>(σ[j]?).join:=by
   unfold sigC jsOf
   rw[List.map_append,List.map_replicate,List.map_map]
   rfl
 rw[e]
 refine⟨by simp[frG],fun i d h=> ?_⟩
 by_cases hi:i<n
 . rw[List.getElem?_append_left (by simpa using hi),List.getElem?_replicate,if_pos hi]at h
   cases h
 . rw[List.getElem?_append_right (by simp;omega)]at h |-
   simp only[List.length_replicate,frG,List.getElem?_map]at h |-
   cases q:fs[i- n]? with
   |none=>rw[q]at h;cases h
   |some j=>
     rw[q]at h
     simp only[Option.map_some,Option.some.injEq]at h |-
     have h2:Γ[j]? =some (some d):=by
       cases q2:Γ[j]? with
       |none=>rw[q2]at h;cases h
       |some z=>rw[q2]at h;cases z<;>cases h;rfl
     obtain⟨v,e1,r⟩:=g.at' j d h2
     exact⟨v,by rw[e1];rfl,r⟩
theorem a7g{σ:St}{H:Hp}{F:Hp}{Γ:G}{M:Mem}{Q:AK}{Rv:VK}(f0:Same F0 F)(g:AG X.K F Γ σ)(m:AM X.K F M H)(hi:PIA X F0 tg iter wi)
   (hg: ∀pins C fp s H,PGA (a0p X pins Nc scope cl C fp s H) F0 tg gt) (hti: ∀pins C fp s H,PIfsA (a0p X pins Nc scope cl C fp s H) F0 ifs ti) (he: ∀pins C fp s H,PEA (a0p X pins Nc scope cl C fp s H) F0 elt te)
   (hw:a3d n fs wi gt ti te Γ M Q) (hR: ∀v H',PQ X.K F Q v H'->Rv v H'):
   tComp (jsOf n fs) (b8a X tg iter) (fun v σ H Q=> ∀pins C fp s H0,selfG (a0p X pins Nc scope cl C fp s H0) tg v σ H Q)
     (fun σ H Q=> ∀pins C fp s H0 pins' s',Inv (a0p X pins Nc scope cl C fp s H0) pins' σ H s'->wpAny (model X.prog X.w) X.A (a3p (a0p X pins Nc scope cl C fp s H0).env ifs) (TP (a0p X pins Nc scope cl C fp s H0) pins' σ Q) (fun _ _=>False) s')
     (fun σ H Q=> ∀pins C fp s H0,selfE (a0p X pins Nc scope cl C fp s H0) elt σ H Q) σ H Rv:=by
 intro pins s I
 refine thn (hi.run F Γ M σ H _ f0 g m hw pins s I) fun v s1 h1=>thn h1 fun itv s2 zz9=> ?_
 obtain⟨it,fp,tn,J,H2,e1,I2,T,st,fo,S,F1,M1,s1,m1,iS,out,hn,turn,q⟩:=zz9
 refine⟨it,fp,tn,J,H2,e1,I2,T,st,fo,fun l hl=> ?_⟩
 have hMl:=m1.fM hl
 refine⟨fun i k ys σ' H'=>k=S.n- i/\i<=S.n/\ ∃F' own,Same F1 F'/\own.length=n/\AG X.K F' (own++frG fs Γ) σ'/\AM X.K F' (put M1 l (.raw (.lst ys))) H'/\RDs X.K F' ys (outs out i),⟨S.n,rfl,Nat.zero_le _,F1,List.replicate n none,.refl _,by simp,frG_ok (g.up s1) n fs,m1.new (o:= .raw (.lst [])) hl rfl,.nil⟩,?_⟩
 rintro i k ys σ3 H3 ⟨rfl,hle,F3,own,s3,ho,g3,m3,hys⟩
 have hs3:Sub M1 (put M1 l (.raw (.lst ys))):= .put hMl
 obtain⟨hh,turn⟩:=turn _ hs3
 have at_l: ∀{F5:Hp}{H5:Hp},AM X.K F5 (put M1 l (.raw (.lst ys))) H5->H5 l=some (.lst ys):=fun m5=>by
   obtain⟨u,e,r⟩:=m5.mem l _ a0c
   rw[e];exact congrArg some r
 refine⟨at_l m3,?_⟩
 by_cases hlt:i<S.n
 . refine .inr ⟨iS.go i F3 _ H3 s3 m3 hh hlt,by rw[hys.length];exact a4i (Nat.le_trans (outs_le out i) (by omega)),fun x H' y pins C fp s H0=> ?_⟩
   obtain⟨F4,s4,m4,r4⟩:=iS.yld i F3 _ H3 x H' s3 m3 hh hlt y
   have ft:=f0.trans (s1.trans (s3.trans s4))
   refine((hg pins C fp s H0).run F4 _ _ σ3 H' x _ _ ft (g3.up s4) m4 r4 (turn i hlt own ho)).mono fun σ5 H5 zz9=> ?_
   obtain⟨F5,Γ5,M5,s5,g5,m5,e5,⟨own5,ho5,eΓ5⟩,q5⟩:=zz9
   subst e5 eΓ5
   intro pinsb Cb fpb sb H0b pins' s' I'
   refine thn ((hti pinsb Cb fpb sb H0b).run F5 _ _ σ5 H5 _ (ft.trans s5) g5 m5 q5 pins' s' I') fun b s6 ⟨H6,I6,F6,M6,s6',m6,e6,q6⟩=>⟨H6,I6,?_⟩
   subst e6
   have sx:=s4.trans (s5.trans s6')
   cases b with
   |true=>
     rw[if_pos rfl]at q6 |-
     intro pinsc Cc fpc sc H0c
     refine((he pinsc Cc fpc sc H0c).run F6 _ _ σ5 H6 _ (ft.trans (s5.trans s6')) (g5.up s6') m6 q6).mono fun vy H7 zz9=> ?_
     obtain⟨y7,F7,M7,s7,m7,r7,e7,q7⟩:=zz9
     subst e7
     refine⟨at_l m7,S.n- (i+1),by omega,rfl,hlt,F7,own5,s3.trans (sx.trans s7),ho5,g5.up (s6'.trans s7),?_,?_⟩
     . have:=m7.set (p:=l) (o':= .raw (.lst (ys++[vy]))) (u:= .lst (ys++[vy])) a0c rfl
       rw[a1b]at this
       exact this
     . rw[a4p,q7]
       exact(hys.up (sx.trans s7)).append (.cons r7 .nil)
   |false=>
     rw[if_neg Bool.false_ne_true]at q6 |-
     refine⟨S.n- (i+1),by omega,rfl,hlt,F6,own5,s3.trans sx,ho5,g5.up s6',m6,?_⟩
     rw[a4p,q6]
     simpa using hys.up sx
 . have hin:i=S.n:=by omega
   subst hin
   have m4:AM X.K F3 (put M1 l (.lst (outs out S.n))) H3:=by
     have:=m3.set (p:=l) (o':= .lst (outs out S.n)) (u:= .lst ys) a0c hys
     rw[a1b]at this
     have e:upd H3 l (.lst ys)=H3:=by
       funext b
       by_cases hb:b=l
       . subst hb;rw[a0t,at_l m3]
       . rw[a0o hb]
     rw[e]at this
     exact this
   exact .inl ⟨iS.stop F3 _ H3 s3 m3 hh,hR _ _ ⟨.obj l,F3,_,s1.trans s3,m4,.obj l,q l hMl⟩⟩
theorem a6z(O:CompOk X scope cl Nc (jsOf n fs))(hc:X.calm=true)(hi:PIA X F0 tg iter wi)(hg: ∀pins C fp s H,PGA (a0p X pins Nc scope cl C fp s H) F0 tg gt)(hti: ∀pins C fp s H,PIfsA (a0p X pins Nc scope cl C fp s H) F0 ifs ti)
   (he: ∀pins C fp s H,PEA (a0p X pins Nc scope cl C fp s H) F0 elt te) (hs: ∀x,foldedSetIterable iter X.env x=pure x:=by intro _;rfl):
   PEA X F0 (.ListComp elt [⟨tg,iter,ifs,0⟩] scope pos) (a3d n fs wi gt ti te):=by
 refine⟨?_⟩
 intro F Γ M σ H Q f0 g m hw
 refine(pe_comp O hc a8p (g:=fun v σ H Q=> ∀pins C fp s H0,selfG (a0p X pins Nc scope cl C fp s H0) tg v σ H Q)
   (ti:=fun σ H Q=> ∀pins C fp s H0 pins' s',Inv (a0p X pins Nc scope cl C fp s H0) pins' σ H s'->wpAny (model X.prog X.w) X.A (a3p (a0p X pins Nc scope cl C fp s H0).env ifs) (TP (a0p X pins Nc scope cl C fp s H0) pins' σ Q) (fun _ _=>False) s')
   (te:=fun σ H Q=> ∀pins C fp s H0,selfE (a0p X pins Nc scope cl C fp s H0) elt σ H Q)
   (fun pins C fp s H=>fun pins' s' _ _ _ u _ I r h=>h pins C fp s H pins' s' u I r) (fun pins C fp s H=>fun pins' s' _ _ _ I h=>h pins C fp s H pins' s' I) (fun pins C fp s H=>fun pins' s' _ _ _ I h=>h pins C fp s H pins' s' I) hs).to ?_
 exact a7g f0 g m hi hg hti he hw fun _ _ z=>z
theorem sCompM{i:Nat}{y:Str}{py spos:Pos}(hN:X.N.Nodup)(hiN:X.N[i]? =some y)(hyl:X.env.scope.names.lookup y=some .local)(O:CompOk X scope cl Nc (jsOf n fs))(hc:X.calm=true)(hi:PIA X F0 tg iter wi)(hg: ∀pins C fp s H,PGA (a0p X pins Nc scope cl C fp s H) F0 tg gt)
   (hti: ∀pins C fp s H,PIfsA (a0p X pins Nc scope cl C fp s H) F0 ifs ti) (he: ∀pins C fp s H,PEA (a0p X pins Nc scope cl C fp s H) F0 elt te)
   (hsw:swapsWith (.ListComp elt [⟨tg,iter,ifs,0⟩] scope pos) (some (.Name y py)) spos.line X.env=pure true) (hs: ∀x,foldedSetIterable iter X.env x=pure x:=by intro _;rfl):
   PSA X F0 (.Assign [.Name y py] (.ListComp elt [⟨tg,iter,ifs,0⟩] scope pos) spos) (aSet i (a3d n fs wi gt ti te)):=by
 refine⟨?_⟩
 intro F Γ M σ H E f0 g m hw
 refine(b5w hN hiN hyl O hc a8p (g:=fun v σ H Q=> ∀pins C fp s H0,selfG (a0p X pins Nc scope cl C fp s H0) tg v σ H Q)
   (ti:=fun σ H Q=> ∀pins C fp s H0 pins' s',Inv (a0p X pins Nc scope cl C fp s H0) pins' σ H s'->wpAny (model X.prog X.w) X.A (a3p (a0p X pins Nc scope cl C fp s H0).env ifs) (TP (a0p X pins Nc scope cl C fp s H0) pins' σ Q) (fun _ _=>False) s')
   (te:=fun σ H Q=> ∀pins C fp s H0,selfE (a0p X pins Nc scope cl C fp s H0) elt σ H Q)
   (fun pins C fp s H=>fun pins' s' _ _ _ u _ I r h=>h pins C fp s H pins' s' u I r) (fun pins C fp s H=>fun pins' s' _ _ _ I h=>h pins C fp s H pins' s' I) (fun pins C fp s H=>fun pins' s' _ _ _ I h=>h pins C fp s H pins' s' I) hsw hs).to ?_
 refine a7g f0 g m hi hg hti he hw fun v H1 zz9=> ?_
 obtain⟨d,F1,M1,s1,m1,r1,q1⟩:=zz9
 exact⟨F1,_,M1,s1,(g.up s1).set r1 i,m1,q1⟩
theorem b2q{i:Nat}{y:Str}{py spos:Pos}(hN:X.N.Nodup)(hiN:X.N[i]? =some y)(hyl:X.env.scope.names.lookup y=some .local)(O:CompOk X scope cl Nc (jsOf n fs))(hc:X.calm=true)(hi:PIA X F0 tg iter wi)(hg: ∀pins C fp s H,PGA (a0p X pins Nc scope cl C fp s H) F0 tg gt)
   (hti: ∀pins C fp s H,PIfsA (a0p X pins Nc scope cl C fp s H) F0 ifs ti) (he: ∀pins C fp s H,PEA (a0p X pins Nc scope cl C fp s H) F0 elt te)
   (hsw:swapsWith (.ListComp elt [⟨tg,iter,ifs,0⟩] scope pos) (some (.Name y py)) spos.line X.env=pure true) (hs: ∀x,foldedSetIterable iter X.env x=pure x:=by intro _;rfl):
   PSA X F0 (.Assign [.Name y py] (.ListComp elt [⟨tg,iter,ifs,0⟩] scope pos) spos) (aSet i (aFz (a3d n fs wi gt ti te))):=by
 refine⟨?_⟩
 intro F Γ M σ H E f0 g m hw
 refine(b5w hN hiN hyl O hc a8p (g:=fun v σ H Q=> ∀pins C fp s H0,selfG (a0p X pins Nc scope cl C fp s H0) tg v σ H Q)
   (ti:=fun σ H Q=> ∀pins C fp s H0 pins' s',Inv (a0p X pins Nc scope cl C fp s H0) pins' σ H s'->wpAny (model X.prog X.w) X.A (a3p (a0p X pins Nc scope cl C fp s H0).env ifs) (TP (a0p X pins Nc scope cl C fp s H0) pins' σ Q) (fun _ _=>False) s')
   (te:=fun σ H Q=> ∀pins C fp s H0,selfE (a0p X pins Nc scope cl C fp s H0) elt σ H Q)
   (fun pins C fp s H=>fun pins' s' _ _ _ u _ I r h=>h pins C fp s H pins' s' u I r) (fun pins C fp s H=>fun pins' s' _ _ _ I h=>h pins C fp s H pins' s' I) (fun pins C fp s H=>fun pins' s' _ _ _ I h=>h pins C fp s H pins' s' I) hsw hs).to ?_
 refine a7g f0 g m hi hg hti he (Q:=fun d M'=>match d with | .obj p=>(match M' p with |some (.lst ds)=>E.nx (Γ.set i (some (.lst ds))) (del M' p) |_=>False) |_=>False) hw fun v H1 zz9=> ?_
 obtain⟨d,F1,M1,s1,m1,r1,q1⟩:=zz9
 cases r1 with
 |obj p=>
   try dsimp only at q1
   split at q1
   . rename_i ds hd
     obtain⟨F2,s2,m2,r2⟩:=m1.freeze hd
     exact⟨F2,_,_,s1.trans s2,(g.up (s1.trans s2)).set r2 i,m2,q1⟩
   . exact q1.elim
 |_=>exact q1.elim
noncomputable def oAll:A1s:=fun ds M Q=>match ds with
 | [d]=>(match dr M d with |some xs=> ∃bs:List Bool,xs=bs.map D.bl/\Q (.bl (bs.all id)) M |none=>False)
 |_=>False
theorem b3z{K:PySem.W.Frag}{F:Hp}: ∀{vs:List V}{bs:List Bool}{us:List Value},RDs K F vs (bs.map D.bl)->Vals vs us->us=bs.map Value.bool
 |_,[],_,r,v=>by cases r;cases v;rfl
 |_,b::bs,_,r,v=>by
   cases r with
   |cons r1 r2=>
     cases r1
     cases v with
     |cons v1 v2=>
       cases(show _=Value.bool b from v1)
       rw[b3z r2 v2];rfl
theorem paAll{tt:AA}{e:Expr}{p:Pos}(hg:Gl X "all")(hm:X.mg "all"=none)(hc:X.calm=true)(ha:PAA X F0 [e] tt)
   (he:starEach [e] X.env=(false,eval e X.env)::starEach [] X.env:=by rfl):PEA X F0 (.Call (.Name "all" p) [e] [] pos) (b71 oAll tt):=by
 refine⟨?_⟩
 intro F Γ M σ H Q f0 g m hw
 have base:CallR X (.builtin "all") (fun vs H Rv=> ∃F1 M1 ds,AM X.K F1 M1 H/\RDs X.K F1 vs ds/\oAll ds M1 (fun d M'=> ∀v,RD X.K F1 v d->AM X.K F1 M' H->Rv v H)):=by
   intro pins s σ H vs us Rv I rv ⟨F1,M1,ds,m1,r1,h⟩
   unfold oAll at h
   split at h
   . obtain⟨x,rfl,rx⟩:=r1.one'
     split at h
     . rename_i xs hd
       obtain⟨bs,rfl,q⟩:=h
       obtain⟨a,ws,rfl,e,rr⟩:=a4y m1 rx hd
       obtain⟨u,rfl,ru⟩:=rv.one
       cases ru
       obtain⟨its,ri,pl,hz⟩:=I.list e
       have hits:=b3z rr ri
       subst hits
       have hl:=pl.isList
       have hlt:a<s.heap.objs.size:=by obtain⟨_,e,_⟩:=hl;exact Heap.lt_size e
       refine call_all_walk (wpAny_pyIter_list hl ?_)
       refine⟨s.heap.objs.size,[s.heap.objs.size,a],[s.heap.objs.size],(bs.map Value.bool).toArray.size,_,_,fun i=>(bs[i]?).getD true,rfl,Walks.list (prog:=X.prog) (w:=X.w) (A:=X.A.in1) (I.ok.hd hc) s.heap.objs.size a (Nat.ne_of_lt hlt) (bs.map Value.bool).toArray,⟨⟨_,Heap.get?_push_size _ rfl,rfl,rfl⟩,hl.push _⟩,fun i v s' Q' E' hP hQ=> ?_,fun h' tk hk=> ?_⟩
       . have hP':(bs.map Value.bool)[i]? =some v:=by simpa using hP
         rw[List.getElem?_map]at hP'
         cases hb:bs[i]? with
         |none=>rw[hb]at hP';cases hP'
         |some b=>
           rw[hb]at hP'
           cases hP'
           have hQ:Q' ((bs[i]?).getD true) s':=hQ
           rw[hb]at hQ
           exact wpAny_truthy_bool hQ
       . have e2:((List.range bs.length).all fun i=>(bs[i]?).getD true)=bs.all id:=by
           rw[Bool.eq_iff_iff,List.all_eq_true,List.all_eq_true]
           constructor
           . intro h b hb
             obtain⟨i,hi,rfl⟩:=List.getElem_of_mem hb
             have:=h i (List.mem_range.mpr hi)
             simpa[List.getElem?_eq_getElem hi]using this
           . intro h i hi
             have hi':=List.mem_range.mp hi
             simpa[List.getElem?_eq_getElem hi']using h _ (List.getElem_mem hi')
         rw[show(bs.map Value.bool).toArray.size=bs.length by simp,e2]
         refine⟨.bl _,H,?_,rfl,q _ (.bl _) m1⟩
         exact I.kept (t':=tk) fun b o e=>hk b o (fun hm=>by rw[List.mem_singleton.mp hm]at e;exact Nat.lt_irrefl _ (Heap.lt_size e)) (Heap.get?_push_of_some _ e)
     . exact h.elim
   . exact h.elim
 refine(a8s base hg hm boot_all a1q (by decide) (by decide) he rfl).to ((ha.run F Γ M σ H _ f0 g m hw).mono fun vs H1 ⟨ds,F1,M1,s1,m1,r1,q1⟩=>⟨F1,M1,ds,m1,r1,?_⟩)
 unfold oAll at q1 |-
 try dsimp only at q1
 split at q1
 . rename_i d
   dsimp only
   cases hd:dr M1 d with
   |none=>rw[hd]at q1;exact q1.elim
   |some xs=>
     rw[hd]at q1
     obtain⟨bs,e,q⟩:=q1
     exact⟨bs,e,fun v rv m'=>⟨_,F1,M1,s1,m1,rv,q⟩⟩
 . exact q1.elim
end
theorem FnOk.noX{P:Program}{w:World}{K:PySem.W.Frag}{mg:Str->Option Value}{base:Heap}{k:Nat}{f:Addr}{fd:FuncData}{ps:List Str}{sp sp':Sp}(Fn:FnOk P w K mg base (CXE P w) k f fd ps sp)
   (h: ∀vs H Q E,sp' vs H Q E->sp vs H Q fun _ _ _=>False):FnOk P w K mg base CX0 k f fd ps sp':=by
 refine⟨fun vs H Q E q=>Fn.len vs H Q _ (h _ _ _ _ q),fun A outer s H args us vs Q E hr he hb hv hs=>codeAny_mono (Fn.run A outer s H args us vs Q _ hr he hb hv (h _ _ _ _ hs)) fun r s' q=> ?_⟩
 cases r with
 |error e=>obtain⟨_,_,_,_,_,_,_,_,_,_,_,_,_,_,z⟩:=q;exact z.elim
 |ok fl=>
   cases fl with
   |ret u=>exact q
   |_=>exact q
noncomputable def a6a(K:PySem.W.Frag):Sp:=fun vs H Q _=> ∃(a:Addr) (ns:List Int),vs=[.ref a]/\SqL K H a (ns.map V.int)/\Script 63 ns/\ ∀H',Q (.bl true) H'
def spTrue:SpA:=fun ds _ Q _=> ∃ns:List Int,ds=[.scr (ns.map D.int)]/\Script 63 ns/\ ∀M',Q (.bl true) M'
theorem b7a{K:PySem.W.Frag}{F:Hp}: ∀ns:List Int,RDs K F (ns.map V.int) (ns.map D.int)
 | []=> .nil
 |_::ns=> .cons (.int _) (b7a ns)
theorem law_ok{P:Program}{w:World}{K:PySem.W.Frag}{mg:Str->Option Value}{base:Heap}{k:Nat}{f:Addr}{fd:FuncData}{ps:List Str}(Fn:FnOk P w K mg base (CXE P w) k f fd ps (a0k K spTrue)):FnOk P w K mg base CX0 k f fd ps (a6a K):=by
 refine Fn.noX fun vs H Q E zz9=> ?_
 obtain⟨a,ns,e,hS,hsc,q⟩:=zz9
 subst e
 refine⟨fun b=>if b=a then H b else none,[.scr (ns.map D.int)],fun _=>none,fun d _=>d= .bl true,fun _ _=>False,⟨fun b o e=> ?_,fun b o e=> ?_,fun b o e=> ?_⟩,.cons (.scr ?_ (b7a ns)) .nil,⟨ns,rfl,hsc,fun _=>rfl⟩,fun v H' ⟨d,_,_,_,_,r,hd⟩=> ?_,fun _ _ ⟨_,_,_,_,z⟩=>z.elim⟩
 . split at e
   . exact e
   . cases e
 . cases e
 . cases e
 . rcases hS with(h | ⟨o,h⟩) |h
   . exact .inl (.inl (by simpa using h))
   . exact .inl (.inr ⟨o,by simpa using h⟩)
   . exact .inr h
 . subst hd
   cases r
   exact q H'
theorem b9j{fs:List Nat}{tl te:AE}{Γ:G}{M:Mem}{Q:AK}(ds:List D)(f:D->D)(htl: ∀R:AK,R (.lst ds) M->tl Γ M R)(hn:ds.length<=1000)(he: ∀x∈ds,∀(M':Mem) (R:AK),R (f x) M'->te (some x::frG fs Γ) M' R)
   (q:Q (.lst (ds.map f)) M):aFz (a3d 1 fs (iaL tl) (gaN 0) aYes te) Γ M Q:=by
 refine htl _ ?_
 refine⟨fun i=>some (f (ds.getD i .non)),hn,fun M' _=>⟨rfl,fun i hi own ho=> ?_⟩,fun p hp=> ?_⟩
 . obtain⟨o,rfl⟩: ∃o,own=[o]:=by
     cases own with
     |nil=>cases ho
     |cons o l=>cases l with
       |nil=>exact⟨o,rfl⟩
       |cons _ _=>simp at ho
   refine⟨rfl,⟨[some _],rfl,rfl⟩,rfl,?_⟩
   rw[if_pos rfl]
   have hi':i<ds.length:=hi
   have e:ds.getD i .non=ds[i]:=by simp[List.getD,List.getElem?_eq_getElem hi']
   show te (some (ds.getD i .non)::frG fs Γ) M' _
   rw[e]
   exact he _ (List.getElem_mem hi') M' _ ⟨rfl,by dsimp only;rw[e]⟩
 . dsimp only
   rw[a0c]
   dsimp only
   rw[a1w hp]
   have e:outs (fun i=>some (f (ds.getD i .non))) ds.length=ds.map f:=by
     apply List.ext_getElem?
     intro i
     have:outs (fun i=>some (f (ds.getD i .non))) ds.length=(List.range ds.length).map fun i=>f (ds.getD i .non):=by
       unfold outs
       induction List.range ds.length with
       |nil=>rfl
       |cons a l ih=>simp only[List.filterMap_cons,List.map_cons,ih]
     rw[this]
     simp only[List.getElem?_map]
     by_cases hi:i<ds.length
     . simp[List.getElem?_range hi,List.getElem?_eq_getElem hi,List.getD]
     . simp[List.getElem?_eq_none (show(List.range ds.length).length<=i by simp;omega),List.getElem?_eq_none (show ds.length<=i by omega)]
   rw[e]
   exact q
theorem at_map{α:Type}(f:α->D)(xs:List α)(j:Int)(h0:0<=j)(h1:j<xs.length): ∃x,atI (xs.map f) j=some (f x)/\x∈xs:=by
 obtain⟨k,rfl⟩:=Int.eq_ofNat_of_zero_le h0
 have hk:k<xs.length:=by omega
 exact⟨xs[k],a29 (by simp[List.getElem?_eq_getElem hk]),List.getElem_mem hk⟩
theorem at0{a:D}{l:List D}:atI (a::l) 0=some a:=a29 (j:=0) rfl
theorem at1{a b:D}{l:List D}:atI (a::b::l) 1=some b:=a29 (j:=1) rfl
theorem at2{a b c:D}{l:List D}:atI (a::b::c::l) 2=some c:=a29 (j:=2) rfl
theorem at3{a b c d:D}{l:List D}:atI (a::b::c::d::l) 3=some d:=a29 (j:=3) rfl
theorem compF{fs:List Nat}{tl:AE}{ti:AT}{Γ:G}{M:Mem}{Q:AK}(ds:List D)(p:D->Bool)(htl: ∀R:AK,R (.lst ds) M->tl Γ M R)(hn:ds.length<=1000)
   (hi: ∀x∈ds,∀(M':Mem) (R:Bool->Mem->Prop),R (p x) M'->ti (some x::frG fs Γ) M' R) (q:Q (.lst (ds.filter p)) M):aFz (a3d 1 fs (iaL tl) (gaN 0) ti (aV 0)) Γ M Q:=by
 refine htl _ ?_
 refine⟨fun i=>if p (ds.getD i .non)=true then some (ds.getD i .non)else none,hn,fun M' _=>⟨rfl,fun i hi' own ho=> ?_⟩,fun l hp=> ?_⟩
 . obtain⟨o,rfl⟩: ∃o,own=[o]:=by
     cases own with
     |nil=>cases ho
     |cons o l=>cases l with
       |nil=>exact⟨o,rfl⟩
       |cons _ _=>simp at ho
   refine⟨rfl,⟨[some _],rfl,rfl⟩,?_⟩
   have hi'':i<ds.length:=hi'
   have e:ds.getD i .non=ds[i]:=by simp[List.getD,List.getElem?_eq_getElem hi'']
   show ti (some (ds.getD i .non)::frG fs Γ) M' _
   rw[e]
   refine hi _ (List.getElem_mem hi'') M' _ ⟨rfl,?_⟩
   cases hpx:p ds[i]with
   |true=>
     rw[if_pos rfl]
     exact⟨rfl,by dsimp only;rw[e,hpx,if_pos rfl]⟩
   |false=>
     rw[if_neg Bool.false_ne_true]
     dsimp only
     rw[e,hpx,if_neg Bool.false_ne_true]
 . dsimp only
   rw[a0c]
   dsimp only
   rw[a1w hp]
   have e: ∀n,n<=ds.length->outs (fun i=>if p (ds.getD i .non)=true then some (ds.getD i .non)else none) n=(ds.take n).filter p:=by
     intro n
     induction n with
     |zero=>intro _;rfl
     |succ n ih=>
       intro hn'
       have hlt:n<ds.length:=by omega
       rw[a4p,ih (by omega),List.take_succ,List.filter_append,List.getElem?_eq_getElem hlt]
       have e:ds.getD n .non=ds[n]:=by simp[List.getD,List.getElem?_eq_getElem hlt]
       rw[e]
       cases hpx:p ds[n]<;>simp[hpx]
   rw[e ds.length (Nat.le_refl _),List.take_length]
   exact q
section
variable {M:Mem}{Q:AK}
theorem b7k{i j:Int}:oEq false (.int i) (.int j) M Q=Q (.bl (decide (i=j))) M:=by unfold oEq eqC eqB;simp[a45,eqS]
theorem eqq_str{i j:PySem.Str}:oEq false (.str i) (.str j) M Q=Q (.bl (decide (i=j))) M:=by unfold oEq eqC eqB;simp[a45,eqS]
theorem eqq_bl{i j:Bool}:oEq false (.bl i) (.bl j) M Q=Q (.bl (decide (i=j))) M:=by unfold oEq eqC eqB;simp[a45,eqS]
theorem neq_int{i j:Int}:oEq true (.int i) (.int j) M Q=Q (.bl (!decide (i=j))) M:=by unfold oEq eqC eqB;simp[a45,eqS]
theorem b6c{i j:PySem.Str}:oEq true (.str i) (.str j) M Q=Q (.bl (!decide (i=j))) M:=by unfold oEq eqC eqB;simp[a45,eqS]
theorem neq_bl{i j:Bool}:oEq true (.bl i) (.bl j) M Q=Q (.bl (!decide (i=j))) M:=by unfold oEq eqC eqB;simp[a45,eqS]
end
theorem a1f{c:AT}{t rest:AS}{E:AEnds}{Γ:G}{M:Mem}(h: ∀R:Bool->Mem->Prop,R false M->c Γ M R)(h2:rest E Γ M):aSeq (aIf c t aNext) rest E Γ M:=h _ (by rw[if_neg Bool.false_ne_true];exact h2)
theorem a3b{c:AT}{t u rest:AS}{E:AEnds}{Γ:G}{M:Mem}(h: ∀R:Bool->Mem->Prop,R true M->c Γ M R)(h2:t {E with nx:=rest E} Γ M):aSeq (aIf c t u) rest E Γ M:=h _ (by rw[if_pos rfl];exact h2)
theorem b3q{d:D}{M:Mem}(h:shD (drf M d)=true):eqB M d d=true:=by
 unfold eqB
 split
 . rename_i hs
   cases d<;>first
     | (simp[a45]at hs;done)
     |simp[eqS]
 . unfold shD at h
   simp only[Bool.and_eq_true]at h
   exact b3p _ (PySem.SeqAt.canLay_of_shaped h.2)
theorem a6h{d:D}{M:Mem}{Q:AK}(h:shD (drf M d)=true)(q:Q (.bl true) M):oEq false d d M Q:=⟨.inr ⟨h,h⟩,by rw[b3q h];exact q⟩
theorem a82{d:D}{M:Mem}{Q:AK}(h:shD (drf M d)=true)(q:Q (.bl false) M):oEq true d d M Q:=⟨.inr ⟨h,h⟩,by rw[b3q h];exact q⟩
open PySem
inductive Gd:Nat->D->Prop where
 |non (n:Nat):Gd n .non
 |bl (n:Nat) (b:Bool):Gd n (.bl b)
 |int (n:Nat) (i:Int):Gd n (.int i)
 |str (n:Nat) (x:Str) (h:PyData.strOk x=true):Gd n (.str x)
 |lst (n:Nat) (ds:List D) (h: ∀d∈ds,Gd n d):Gd (n+1) (.lst ds)
 |tup (n:Nat) (ds:List D) (h: ∀d∈ds,Gd n d):Gd (n+1) (.tup ds)
theorem b7g{n:Nat}: ∀{ds:List D},(∀d∈ds,d.flat=true/\d.py.canLay0=true/\d.py.depth<=n)->D.flats ds=true/\PyData.canLayAll0 (D.pys ds)=true/\PyData.depthAll (D.pys ds)<=n
 | [],_=>⟨by simp[D.flats],by simp[D.pys,PyData.canLayAll0],by simp[D.pys,PyData.depthAll]⟩
 |d::ds,h=>by
   obtain⟨h1,h2,h3⟩:=h d List.mem_cons_self
   obtain⟨g1,g2,g3⟩:=b7g fun e he=>h e (List.mem_cons_of_mem _ he)
   refine⟨by simp[D.flats,h1,g1],by simp[D.pys,PyData.canLayAll0,h2,g2],?_⟩
   simp only[D.pys,PyData.depthAll]
   omega
theorem Gd.ok{n:Nat}{d:D}(h:Gd n d):d.flat=true/\d.py.canLay0=true/\d.py.depth<=n:=by
 induction h with
 |non n=>simp[D.flat,D.py,PyData.canLay0,PyData.depth]
 |bl n b=>simp[D.flat,D.py,PyData.canLay0,PyData.depth]
 |int n i=>simp[D.flat,D.py,PyData.canLay0,PyData.depth]
 |str n x h=>simp[D.flat,D.py,PyData.canLay0,PyData.depth,h]
 |lst n ds _ ih=>
   obtain⟨h1,h2,h3⟩:=b7g ih
   exact⟨by simpa[D.flat]using h1,by simpa[D.py,PyData.canLay0]using h2,by simp only[D.py,PyData.depth];omega⟩
 |tup n ds _ ih=>
   obtain⟨h1,h2,h3⟩:=b7g ih
   exact⟨by simpa[D.flat]using h1,by simpa[D.py,PyData.canLay0]using h2,by simp only[D.py,PyData.depth];omega⟩
theorem Gd.sh{n:Nat}{d:D}(h:Gd n d)(hn:n<=64:=by decide):shD d=true:=by
 obtain⟨h1,h2,h3⟩:=h.ok
 unfold shD SeqAt.shaped
 rw[h1,h2]
 simp;omega
noncomputable def keyOf:Key->D
 | .inl i=> .int i
 | .inr x=> .str x
section
variable {X:Cx}{F0:Hp}{o:Expr}{td:AE}{p q pos apos cpos:Pos}{K:PySem.W.Frag}
def aVals(td:AE):AE:=fun Γ M Q=>td Γ M fun x M1=>opt (dd M1 x) fun kvs=> ∀p,M1 p=none->Q (.obj p) (put M1 p (.lst (kvs.map fun kv=>kv.2)))
def aItems(td:AE):AE:=fun Γ M Q=>td Γ M fun x M1=>opt (dd M1 x) fun kvs=> ∀p,M1 p=none->Q (.obj p) (put M1 p (.lst (kvs.map fun kv=> .tup [keyOf kv.1,kv.2])))
theorem PF.vals{F:Hp}: ∀{ws:List (Key×V)}{kvs:List (Key×D)},PF K F ws kvs->RDs K F (ws.map (·.2)) (kvs.map (·.2))
 |_,_,.nil=> .nil
 |_,_,.cons h t=> .cons h.2 (PF.vals t)
theorem b60{F:Hp}: ∀k:Key,RD K F (kV k) (keyOf k)
 | .inl _=> .int _
 | .inr _=> .str _
theorem paVals(hm:X.mg "list"=none)(hc:X.calm=true)(hg:Gl X "list")(ho:PEA X F0 o td)
   (hbase:attributeBase o "values" X.env (eval o X.env)=eval o X.env:=by rfl) (hline:(apos.endLine==cpos.line)=true:=by rfl)
   (he:starEach [.Call (.Attribute o "values" apos) [] [] cpos] X.env=(false,eval (.Call (.Attribute o "values" apos) [] [] cpos) X.env)::starEach [] X.env:=by rfl) (hpl:(backTo pos (starEach [] X.env)).any (·.1)=false:=by rfl):
   PEA X F0 (.Call (.Name "list" p) [.Call (.Attribute o "values" apos) [] [] cpos] [] pos) (aVals td):=by
 refine⟨?_⟩
 intro F Γ M σ H Q f0 g m hw
 refine(a6t (a57 hc) hg hm boot_list (a6u (a9v PySem.F.plainAttrs_dict PySem.F.slot_dict_values PySem.F.type_dict_values a99 a0l hbase hline) pa_nil he) (by decide) (by decide) he hpl).to
   ((ho.run F Γ M σ H _ f0 g m hw).mono fun v H1 ⟨d,F1,M1,s1,m1,r1,q1⟩=> ?_)
 obtain⟨kvs,hd,q2⟩:=a1v q1
 obtain⟨a,ws,rfl,rfl,hM,e1,pf⟩:=a4z m1 r1 hd
 refine⟨.inr (.inr (.inl ⟨rfl,.inl ⟨ws,e1⟩⟩)),a,ws,rfl,rfl,.inl e1,fun vw hvw=> ?_⟩
 have ha:a≠vw:=fun z=>by rw[z,hvw]at e1;cases e1
 refine⟨vw,a,ws,rfl,a0t,.inl (by rw[a0o ha];exact e1),fun l hl=> ?_⟩
 exact⟨.obj l,F1,_,s1,(m1.more (u:= .ext (viewφ "dict_values" vw a)) hvw).new (o:= .lst (kvs.map fun kv:Key×D=>kv.2)) hl (PF.vals pf),.obj l,q2 l ((m1.more (u:= .ext (viewφ "dict_values" vw a)) hvw).fM hl)⟩
theorem b9b{F:Hp}{M:Mem}{H H1:Hp}{l:Addr}{as:List Addr}{ws:List (Key×V)}{kvs:List (Key×D)}(m:AM K F M H)(hl:H l=none)(ha: ∀a∈as,H a=none/\a≠l)
   (hb: ∀b,(∀a∈as,b≠a)->H1 b=upd H l (.lst (as.map V.ref)) b) (hp:Prs H1 as ws) (pf:PF K F ws kvs):
   ∃F',Same F F'/\AM K F' (put M l (.lst (kvs.map fun kv=> .tup [keyOf kv.1,kv.2]))) H1:=by
 have hs:Same F fun b=>if b∈as then H1 b else F b:=fun b x e=>by
   have:b∉as:=fun hm=>by rw[m.sub.free (ha b hm).1]at e;cases e
   dsimp only;rw[if_neg this];exact e
 have out: ∀b,b∉as->H1 b=upd H l (.lst (as.map V.ref)) b:=fun b hn=>hb b fun a hm z=>hn (z▸hm)
 have hll:l∉as:=fun hm=>(ha l hm).2 rfl
 refine⟨_,hs,⟨fun b x e=> ?_,fun b x e=> ?_,fun b x e=> ?_⟩⟩
 . split at e
   . exact e
   . rename_i hn
     have hbl:b≠l:=by rintro rfl;rw[m.fF hl]at e;cases e
     rw[out b hn,a0o hbl];exact m.sub b x e
 . have hn:b∉as:=by
     by_cases hbl:b=l
     . subst hbl;exact hll
     . rw[a0g hbl]at e
       intro hm
       rw[m.fM (ha b hm).1]at e;cases e
   rw[if_neg hn]
   by_cases hbl:b=l
   . subst hbl;exact m.fF hl
   . rw[a0g hbl]at e;exact m.dj b x e
 . by_cases hbl:b=l
   . subst hbl
     rw[a0c]at e
     cases e
     refine⟨.lst (as.map V.ref),by rw[out b hll,a0t],?_⟩
     show RDs K _ (as.map V.ref) (kvs.map fun kv=> .tup [keyOf kv.1,kv.2])
     have key: ∀{as':List Addr}{ws':List (Key×V)}{kvs':List (Key×D)},(∀a∈as',a∈as)->Prs H1 as' ws'->PF K F ws' kvs'->RDs K (fun b=>if b∈as then H1 b else F b) (as'.map V.ref) (kvs'.map fun kv=> .tup [keyOf kv.1,kv.2]):=by
       intro as' ws' kvs' hin hp' pf'
       induction hp' generalizing kvs' with
       |nil=>cases pf';exact .nil
       |cons h t ih=>
         cases pf' with
         |cons h2 t2=>
           refine .cons (.tup (by rw[if_pos (hin _ List.mem_cons_self)];exact h) ?_) (ih (fun a hm=>hin a (List.mem_cons_of_mem _ hm)) t2)
           refine .cons ?_ (.cons (h2.2.up hs) .nil)
           rw[h2.1];exact b60 _
     exact key (fun _ h=>h) hp pf
   . rw[a0g hbl]at e
     obtain⟨y,e1,r1⟩:=m.mem b x e
     have hn:b∉as:=fun hm=>by rw[(ha b hm).1]at e1;cases e1
     exact⟨y,by rw[out b hn,a0o hbl];exact e1,r1.up hs⟩
theorem paItems(hm:X.mg "list"=none)(hc:X.calm=true)(hg:Gl X "list")(ho:PEA X F0 o td)
   (hbase:attributeBase o "items" X.env (eval o X.env)=eval o X.env:=by rfl) (hline:(apos.endLine==cpos.line)=true:=by rfl)
   (he:starEach [.Call (.Attribute o "items" apos) [] [] cpos] X.env=(false,eval (.Call (.Attribute o "items" apos) [] [] cpos) X.env)::starEach [] X.env:=by rfl) (hpl:(backTo pos (starEach [] X.env)).any (·.1)=false:=by rfl):
   PEA X F0 (.Call (.Name "list" p) [.Call (.Attribute o "items" apos) [] [] cpos] [] pos) (aItems td):=by
 refine⟨?_⟩
 intro F Γ M σ H Q f0 g m hw
 refine(a6t (a7i hc) hg hm boot_list (a6u (a9v PySem.F.plainAttrs_dict PySem.F.slot_dict_items PySem.F.type_dict_items b24 a0l hbase hline) pa_nil he) (by decide) (by decide) he hpl).to
   ((ho.run F Γ M σ H _ f0 g m hw).mono fun v H1 ⟨d,F1,M1,s1,m1,r1,q1⟩=> ?_)
 obtain⟨kvs,hd,q2⟩:=a1v q1
 obtain⟨a,ws,rfl,rfl,hM,e1,pf⟩:=a4z m1 r1 hd
 refine⟨.inr (.inr (.inl ⟨rfl,.inl ⟨ws,e1⟩⟩)),a,ws,rfl,rfl,.inl e1,fun vw hvw=> ?_⟩
 have ha:a≠vw:=fun z=>by rw[z,hvw]at e1;cases e1
 refine⟨vw,a,ws,rfl,a0t,.inl (by rw[a0o ha];exact e1),fun l as H2 hl has hH2 hp=> ?_⟩
 have m2:=m1.more (u:= .ext (viewφ "dict_items" vw a)) hvw
 obtain⟨F',s',m'⟩:=b9b m2 hl has hH2 hp pf
 exact⟨.obj l,F',_,s1.trans s',m',.obj l,q2 l (m2.fM hl)⟩
end
noncomputable def a85(M:Mem)(T:String):D->Bool
 | .int _=>T== "int"
 | .bl _=>T== "bool"||T== "int"
 | .str _=>T== "str"
 | .lst _=>T== "list"
 | .tup _=>T== "tuple"
 | .obj p=>(match M p with |some (.lst _)=>T== "list" |some (.dic _)=>T== "dict" |_=>false)
 |_=>false
noncomputable def a4w(M:Mem):D->Bool
 | .scr _=>false | .ctp _=>false
 | .obj p=>(match M p with |some (.lst _)=>true |some (.dic _)=>true |_=>false)
 |_=>true
section
variable {X:Cx}{F0:Hp}{e:Expr}{te:AE}{p q pos:Pos}{K:PySem.W.Frag}{T:String}{x:Str}
theorem ty_of{F:Hp}{M:Mem}{H:Hp}{v:V}{d:D}(m:AM K F M H)(r:RD K F v d)(h:a4w M d=true)(hT:T="int"\/T="bool"\/T="str"\/T="list"\/T="tuple"):
   ∃t,TyOf K H v t/\PySem.W.kitOne K t (.type T)=some (a85 M T d):=by
 cases r<;>first
   | (simp[a4w]at h;done)
   |skip
 . exact⟨_,.non,by rcases hT with rfl |rfl |rfl |rfl |rfl<;>rfl⟩
 . exact⟨_,.bl _,by rcases hT with rfl |rfl |rfl |rfl |rfl<;>rfl⟩
 . exact⟨_,.int _,by rcases hT with rfl |rfl |rfl |rfl |rfl<;>rfl⟩
 . exact⟨_,.str _,by rcases hT with rfl |rfl |rfl |rfl |rfl<;>rfl⟩
 . rename_i e r
   exact⟨_,.lst (m.sub _ _ e),by rcases hT with rfl |rfl |rfl |rfl |rfl<;>rfl⟩
 . rename_i e r
   exact⟨_,.tup (m.sub _ _ e),by rcases hT with rfl |rfl |rfl |rfl |rfl<;>rfl⟩
 . rename_i pp
   unfold a4w at h
   dsimp only at h
   unfold a85
   dsimp only
   split at h
   . rename_i ds hd
     obtain⟨u,e,r⟩:=m.mem _ _ hd
     obtain⟨vs,rfl,r⟩:=r.isL
     exact⟨_,.lst e,by rcases hT with rfl |rfl |rfl |rfl |rfl<;>rfl⟩
   . rename_i ds hd
     obtain⟨u,e,r⟩:=m.mem _ _ hd
     obtain⟨vs,rfl,r⟩:=r.isD
     exact⟨_,.dK e,by rcases hT with rfl |rfl |rfl |rfl |rfl<;>rfl⟩
   . cases h
def b40(T:String)(te:AE):AE:=fun Γ M Q=>te Γ M fun d M1=>a4w M1 d=true/\Q (.bl (a85 M1 T d)) M1
theorem a6y(hT:T="int"\/T="bool"\/T="str"\/T="list"\/T="tuple")(hg:Gl X "isinstance")(hm:X.mg "isinstance"=none)(hx:Gl X x)(hmx:X.mg x=none)(hv:bootBuiltins x=some (.type T))(ha:PEA X F0 e te)
   (hn:x≠ "__name__":=by decide) (hdb:(x==("__debug__":Str))=false:=by decide)
   (he:starEach [e,.Name x q] X.env=(false,eval e X.env)::starEach [.Name x q] X.env:=by rfl) (he2:starEach [.Name x q] X.env=(false,eval (.Name x q) X.env)::starEach [] X.env:=by rfl) (hpl:(backTo pos (starEach [.Name x q] X.env)).any (·.1)=false:=by rfl):
   PEA X F0 (.Call (.Name "isinstance" p) [e,.Name x q] [] pos) (b40 T te):=by
 refine⟨?_⟩
 intro F Γ M σ H Q f0 g m hw
 refine(a8s b0l hg hm boot_isinstance (a6u a0l (a6u (pe_bltn (v:= .ty T) hx hmx hv rfl hn hdb) pa_nil he2) he) (by decide) (by decide) he hpl).to ((ha.run F Γ M σ H _ f0 g m hw).mono fun v H1 zz9=> ?_)
 obtain⟨d,F1,M1,s1,m1,r1,hok,q1⟩:=zz9
 obtain⟨t,h1,h2⟩:=ty_of m1 r1 hok hT
 exact⟨v,.ty T,t,.type T,_,rfl,h1,rfl,h2,_,F1,M1,s1,m1,.bl _,q1⟩
end
noncomputable abbrev ATh:=AEnds->Value->G->Mem->Prop
def selfH(X:Cx)(hs:List ExceptHandler):TH:=fun D cls a σ H=> ∀s B a0,Inv X [] σ H s->Exn X H B a cls a0 (some .none) s.heap->wpAny (model X.prog X.w) X.A (handleBy (.ref a) X.env hs) (SP X [] D) X.xe s
theorem ph_self{X:Cx}{hs:List ExceptHandler}:PH X hs (selfH X hs):=fun s σ H D B a cls a0 I ex h=>h s B a0 I ex
theorem PH.to{X:Cx}{hs:List ExceptHandler}{t:TH}{D:Ends}{cls:Value}{a:Addr}{σ:St}{H:Hp}(h:PH X hs t)(hw:t D cls a σ H):selfH X hs D cls a σ H:=fun s B a0 I ex=>h s σ H D B a cls a0 I ex hw
theorem selfH.mono{X:Cx}{hs:List ExceptHandler}{D D':Ends}{cls:Value}{a:Addr}{σ:St}{H:Hp}(h:selfH X hs D cls a σ H)(k:EndsTo D D'):selfH X hs D' cls a σ H:=fun s B a0 I ex=>thn (h s B a0 I ex) fun _ _ q=>q.to k
structure PHA(X:Cx)(F0:Hp)(hs:List ExceptHandler)(t:ATh):Prop where
 run: ∀F Γ M σ H E cls a,Same F0 F->AG X.K F Γ σ->AM X.K F M H->t E cls Γ M->selfH X hs (PQD X.K F E) cls a σ H
def aTry(tb:AX->AS)(th:ATh)(to:AS):AS:=fun E Γ M=>tb (fun Γ' M' cls=>th E cls Γ' M') {E with nx:=to E} Γ M
section
variable {X:Cx}{F0:Hp}{R:AX}
theorem selfSs.byImp{R R':RX}{sts:List Stmt}{D:Ends}{σ:St}{H:Hp}(h:selfSs (X.by R) sts D σ H)(k: ∀σ H cls a,R σ H cls a->R' σ H cls a):selfSs (X.by R') sts D σ H:=fun pins s I=>
 wpAny_mono (h pins s (I.unwish.wish _)) (fun _ _ q=>by
   cases ‹Flow›with
   |next=>obtain⟨σ',H',J,q⟩:=q;exact⟨σ',H',J.unwish.wish _,q⟩
   |brk=>obtain⟨σ',H',J,q⟩:=q;exact⟨σ',H',J.unwish.wish _,q⟩
   |cont=>obtain⟨σ',H',J,q⟩:=q;exact⟨σ',H',J.unwish.wish _,q⟩
   |ret u=>obtain⟨v,σ',H',J,r,q⟩:=q;exact⟨v,σ',H',J.unwish.wish _,r,q⟩) fun e s' x=>x.imp k
theorem Cat.by{R':AX}(pl:Plain X)(calm:X.calm=true)(hu:X.A.units+64<cLine):Cat (X.by (b6p X.K F0 R')) F0 R':=⟨b2c,pl.wish _,calm,fun fr=>a9w pl fr,hu⟩
theorem sTry{body orelse:List Stmt}{h₀:ExceptHandler}{hs:List ExceptHandler}{pos:Pos}{tb:AX->AS}{th:ATh}{t_o:AS}(k:Cat X F0 R)
   (hb: ∀pn F1 R',Cat ((X.pin pn).by (b6p X.K F1 R')) F1 R'->PSsA ((X.pin pn).by (b6p X.K F1 R')) F1 body (tb R')) (hh: ∀pn,PHA (X.pin pn) F0 (h₀::hs) th) (ho:PSsA X F0 orelse t_o):
   PSA X F0 (.Try body (h₀::hs) orelse [] pos) (aTry tb th t_o):=by
 refine⟨?_⟩
 intro F Γ M σ H E f0 g m hw
 refine(ps_try k.pl (tb:=fun R D σ H=> ∀pn,selfSs ((X.pin pn).by R) body D σ H) (th:=fun D cls a σ H=> ∀pn,selfH (X.pin pn) (h₀::hs) D cls a σ H) (to:=selfSs X orelse)
   (fun pn R pins s σ H D I h=>h pn pins s I) (fun pn s σ H D B a cls a0 I ex h=>h pn s B a0 I ex) a2a).to ?_
 intro pn
 have b:=(hb pn F (fun Γ' M' cls=>th E cls Γ' M') (Cat.by (k.pl.pin pn) k.calm k.un)).run F Γ M σ H _ (.refl F) g m hw
 refine(b.byImp fun σ' H' cls a ⟨F',Γ',M',s',g',m',q'⟩ pn'=> ?_).mono ⟨fun σ' H' ⟨F',Γ',M',s',g',m',q'⟩=> ?_,fun _ _ z=>z,fun _ _ z=>z,fun _ _ z=>z⟩
 . exact(ho.run F' Γ' M' σ' H' E (f0.trans s') g' m' q').mono (PQD.dn s')
 . exact((hh pn').run F' Γ' M' σ' H' E cls a (f0.trans s') g' m' q').mono (PQD.dn s')
theorem Cat.pin(k:Cat X F0 R)(h:X.pn=[])(pn:List (Addr×Obj)):Thr (X.pin pn) (b6p X.K F0 R):=by
 rintro e s' ⟨a,σ,H,B,cls,a0,m,rfl,I,ex,r⟩
 have J:Inv X [] σ H s':=⟨I.ok.unpin,I.os,I.bare,I.base,I.loc,I.cell,I.free,I.freeC,fun p hp=>by rw[h]at hp;simp at hp,I.hok,I.len⟩
 refine k.thr _ _ ⟨a,σ,H,B,cls,a0,m,rfl,J,⟨ex.air,ex.tr,ex.md,fun b o e q n=>ex.cov b o e ?_ n,ex.nd⟩,r⟩
 rcases q with q |q |q | ⟨p,hp,e⟩ |q
 . exact .inl q
 . exact .inr (.inl q)
 . exact .inr (.inr (.inl q))
 . rw[h]at hp;simp at hp
 . exact .inr (.inr (.inr (.inr q)))
theorem haNil(k:Cat X F0 R)(h:X.pn=[])(pn:List (Addr×Obj)):PHA (X.pin pn) F0 [] (fun _ cls Γ M=>R Γ M cls):=by
 refine⟨?_⟩
 intro F Γ M σ H E cls a f0 g m hw
 exact(ph_nil (k.pin h pn) (k.pl.pin pn)).to ⟨F,Γ,M,f0,g,m,hw⟩
variable {x n:Str}{C:Addr}{np hp:Pos}{b₀:Stmt}{suite:List Stmt}{rest:List ExceptHandler}{ts:Addr->AS}{tr:ATh}{K':PySem.W.Frag}
theorem haCons(hK:X.K=K')(Pl:Plain X)(hm:X.mg x=some (.ref C))(hg:Gl X x)(hs: ∀a,PSsA (X.hand a) F0 (b₀::suite) (ts a))(hr:PHA X F0 rest tr)(hd:(x==("__debug__":Str))=false:=by decide):
   PHA X F0 (.ExceptHandler (some (.Name x np)) none (b₀::suite) hp::rest) (fun E cls Γ M=> ∃b,PySem.W.exmOne K' cls (.ref C)=some b/\if b=true then ∀a,ts a E Γ M else tr E cls Γ M):=by
 refine⟨?_⟩
 intro F Γ M σ H E cls a f0 g m hw
 subst hK
 refine(ph_cons Pl hm hg (ts:=fun a D σ H=>selfSs (X.hand a) (b₀::suite) D σ H) (fun a pins s σ H D I h=>h pins s I) ph_self hd).to ?_
 obtain⟨b,hx,hw⟩:=hw
 refine⟨b,hx,?_⟩
 cases b with
 |true=>rw[if_pos rfl]at hw |-;exact(hs a).run F Γ M σ H E f0 g m (hw a)
 |false=>rw[if_neg Bool.false_ne_true]at hw |-;exact hr.run F Γ M σ H E cls a f0 g m hw
end
section
variable {X:Cx}{F0:Hp}{k:Nat}{x:Str}{ps:List Str}{sa:Addr->SpA}{p pos:Pos}{e:Expr}{es:List Expr}{tt:AA}{a:Addr}
end
section
variable {X:Cx}{F0:Hp}{e:Expr}{te:AE}{p q pos:Pos}{x:Str}{C:Addr}
end
section
variable {X:Cx}{tg:Expr}{F0:Hp}{tt:AA}{pos:Pos}
noncomputable def size2(a b:Int):Nat:=((b- a+1)/2).toNat
def iaR3(tt:AA):AI:=fun Γ M Q=>tt Γ M fun ds M1=>match ds with
 | [.int i,.int j,.int c]=>c=2/\(-(2^61)<=i/\i<2^61/\ -(2^61)<=j/\j<2^61)/\Q ⟨size2 i j,fun k=> .int (i+k *2),fun _=>True⟩ M1
 |_=>False
end
section
variable {X:Cx}{F0:Hp}{pos:Pos}{k v:Expr}{tk tv:AE}
def aDict1(tk tv:AE):AE:=fun Γ M Q=> ∀p,M p=none->tk Γ (put M p (.dic [])) fun x M1=>tv Γ M1 fun y M2=>M2 p=some (.dic [])/\opt (keyD x) fun kk=>Q (.obj p) (put M2 p (.dic [(kk,y)]))
theorem paDict1(hk:PEA X F0 k tk)(hv:PEA X F0 v tv):PEA X F0 (.Dict [some k] [v] pos) (aDict1 tk tv):=by
 refine⟨?_⟩
 intro F Γ M σ H Q f0 g m hw
 refine(pe_disp (trs:=[(selfE X k,selfE X v)]) (b8m a0l a0l pps_nil) rfl rfl (by simp) (Nat.le_of_ble_eq_true rfl)).to ?_
 intro p hp
 have hq:=hw p (m.fM hp)
 have m1:=m.new (o:= .dic []) hp (u:= .dK []) .nil
 refine two hk hv f0 g m1 hq fun F2 M2 H2 a b x y s m2 r1 r2 q=> ?_
 obtain⟨e1,q⟩:=q
 obtain⟨kk,hkk,q⟩:=a1v q
 obtain⟨u,e2,ro⟩:=m2.mem _ _ e1
 obtain⟨ws,rfl,pf⟩:=ro.isD
 cases pf
 refine⟨e2,[(kk,b)],?_,Nat.le_of_ble_eq_true rfl,.obj p,F2,put M2 p (.dic [(kk,y)]),s,?_,.obj p,q⟩
 . rw[a5v r1 hkk];rfl
 . exact m2.set e1 (u:= .dK (a78 [] [(kk,b)])) (o':= .dic [(kk,y)]) (.cons ⟨rfl,r2⟩ .nil)
end
section
variable {X:Cx}{F0:Hp}{e:Expr}{te:AE}
def aFzN(t:AE):AE:=fun Γ M Q=>t Γ M fun d M'=>match d with | .obj p=>(match M' p with |some (.lst ds)=>Q (.lst ds) (del M' p) |_=>False) | .non=>Q .non M' |_=>False
theorem paFzN(h:PEA X F0 e te):PEA X F0 e (aFzN te):=by
 refine⟨?_⟩
 intro F Γ M σ H Q f0 g m hw
 refine(h.run F Γ M σ H _ f0 g m hw).mono fun v H1 zz9=> ?_
 obtain⟨d,F1,M1,s1,m1,r1,q1⟩:=zz9
 cases r1 with
 |obj p=>
   try dsimp only at q1
   split at q1
   . rename_i ds hd
     obtain⟨F2,s2,m2,r2⟩:=m1.freeze hd
     exact⟨_,F2,_,s1.trans s2,m2,r2,q1⟩
   . exact q1.elim
 |non=>exact⟨_,F1,_,s1,m1,.non,q1⟩
 |_=>exact q1.elim
end
theorem b1o{n j:Nat}(h:j<n):ixN n (j:Int)=some j:=by
 unfold ixN
 rw[if_pos (by omega),if_pos (by omega)];rfl
end L2
namespace PySem
open Sem (wp)
theorem b6z:typeLookup (.type "list") "keys"=pure none:=am_miss_of_fast (by decide+kernel)
theorem a4x{prog:Program}{w:World}{A:Around}{E:Value->Shared->Prop}{s:Shared}{a:Addr}{o:Obj}{xs:Array Value}{k:Nat}{name:Str}{Q:Option Value->Shared->Prop}
   (hx : s.heap.get? a = some o) (hc : o.cls = .type "list") (hdat : o.data = .seq xs k) (hd : o.dict = none) (hmiss : typeLookup (.type "list") name = pure none) (hname : (["__module__", "__name__", "__qualname__", "__doc__", "__annotations__"] : List Str).contains name = false) (hA : A.handled = none)
   (h: ∀h' tk,(∀b ob,s.heap.get? b=some ob->h'.get? b=some ob)->Q none {s with heap:=h',toks:=tk}) (hsz:name.length+100<=sizeLine:=by size_fits):
   wpAny (model prog w) A (getAttr? (.ref a) name) Q E s:=by
 obtain⟨c,dct,dat,sl⟩:=o
 simp only at hc hdat hd
 subst hc hdat hd
 obtain⟨hp,g,d,tk,os⟩:=s
 have hT: ∀tk',(⟨hp,g,d,tk',os⟩:Shared).TypeIs (.ref a) "list":=fun _=>⟨_,hx,rfl⟩
 have f1:=sub_AttributeError
 have f3:=F.slot_list_getattribute.lookup
 have f4:=F.slot_list_getattribute.bind (.ref a)
 have f5:=am_list_getattr_none
 unfold getAttr? getAttrBy? getAttrBy
 repeat (any_goals (first |assumption |exact hT _ | ((with_reducible show wpAny _ _ (call (Value.builtin "list.__getattribute__") _ _) _ _ _);refine call_meets F.slot_list_getattribute (hT _) am_entry_list_getattribute (F.args_list_getattribute_2 _ _) (meets_getattribute_miss_list a xs k sl name _ hmiss hname hsz) ⟨hx,hA,fun h' tk' e hx'=> ?_⟩) |wp_step))
 obtain⟨t',u',he⟩:=hx'.there
 show wpAny _ _ (getattributeRaised _ _ _ _ _ _ _) _ _ _
 unfold getattributeRaised
 repeat (any_goals (first |assumption |wp_step))
 exact h _ _ hx'.keeps
theorem a1x:plainId "dict.update.loop"=true:=by decide+kernel
theorem a32 : entryFor table "dict.update.loop" = some Builtin.«dict.update.loop» := entryFor_of_fast (by kernel_rfl)
section
variable {prog:Program}{w:World}{K:Type}[DecidableEq K]{knd:KeyKind prog w K}{A:Around}{R:Result->Shared->Prop}{I:Addr}{fp wr:List Addr}{n:Nat}{P:Nat->Value->Prop}{St:Nat->Heap->Prop}
def PairAt(knd:KeyKind prog w K)(d:Addr)(wr:List Addr)(h:Heap)(p:K×Value)(v:Value):Prop:=
 ∃t key o,v= .ref t/\t≠d/\t∉wr/\h.get? t=some o/\o.cls= .type "tuple"/\(∃n,o.data= .seq #[key,p.2] n)/\knd.is p.1 key=true
theorem a56(W:Walks prog w A.in1 I fp wr n P St)(d:Addr)(hd:d∉fp)(ps:List (K×Value))(hl:ps.length=n)(hn:n<=1000):
   ∀(k i:Nat) (s:Shared) (tk:Tok),n- i=k->i<=n->St i s.heap->(∀j v p,P j v->ps[j]? =some p->PairAt knd d wr s.heap p v)->s.heap.DictOf knd d ((ps.take i).foldl (fun m p=>stored m p.1 p.2) [])->
   (∀h' tk',(∀b o,b≠d->b∉wr->s.heap.get? b=some o->h'.get? b=some o)->h'.DictOf knd d (ps.foldl (fun m p=>stored m p.1 p.2) [])->R (.ok (.ret .none)) {s with heap:=h',toks:=tk'})->
   codeAny (model prog w) A (.builtin "dict.update.loop" ⟨[.ref d,.ref I,.int i tk,.none],[]⟩) R s:=by
 have hdw:d∉wr:=fun h=>hd (W.sub _ h)
 have hlen: ∀i,((ps.take i).foldl (fun m p=>stored m p.1 p.2) []).length<=i:=by
   intro i
   have all: ∀(ps:List (K×Value)) (m:List (K×Value)),(ps.foldl (fun m p=>stored m p.1 p.2) m).length<=m.length+ps.length:=by
     intro ps
     induction ps with
     |nil=>intro m;simp
     |cons p ps ih2=>
       intro m
       have h1:=ih2 (stored m p.1 p.2)
       have h2:=stored_length_le m p.1 p.2
       simp only[List.foldl_cons,List.length_cons]
       omega
   have h:=all (ps.take i) []
   rw[List.length_take]at h
   simp only[List.length_nil]at h
   omega
 intro k
 induction k with
 |zero=>
   intro i s tk hk hi hst hps hD hR
   have hin:i=n:=by omega
   subst hin
   refine codeAny_builtin a32 ?_
   rw[Around.under_plainId a1x _]
   show wpAny _ A.in1 (pyNext (.ref I)>>=_) _ _ s
   refine wpAny_bind (W.done s _ _ hst fun h' tk' hm=> ?_)
   rw[<-hl,List.take_length]at hD
   exact wpAny_pure (hR h' tk' (fun b o _ hb e=>hm b o hb e) (by obtain⟨o,es,ep,ho,r⟩:=hD;exact⟨o,es,ep,hm d o hdw ho,r⟩))
 |succ k ih=>
   intro i s tk hk hi hst hps hD hR
   have hlt:i<n:=by omega
   refine codeAny_builtin a32 ?_
   rw[Around.under_plainId a1x _]
   show wpAny _ A.in1 (pyNext (.ref I)>>=_) _ _ s
   refine wpAny_bind (W.item i s _ _ hlt hst fun v h' tk' hP hst' hm=> ?_)
   obtain⟨p,hp⟩: ∃p,ps[i]? =some p:=⟨ps[i]'(by omega),List.getElem?_eq_getElem (by omega)⟩
   obtain⟨t,key,o,rfl,ht1,ht2,ht3,ht4,⟨m,ht5⟩,hkey⟩:=hps i v p hP hp
   have ht3':=hm t o ht2 ht3
   have hD':h'.DictOf knd d ((ps.take i).foldl (fun m p=>stored m p.1 p.2) []):=by obtain⟨o,es,ep,ho,r⟩:=hD;exact⟨o,es,ep,hm d o hdw ho,r⟩
   dsimp only
   refine wpAny_bind (wpAny_holding (wpAny_bind (wpAny_tryCatch ?_)))
   unfold Builtin.Dict.pairItems
   refine wpAny_bind (wpAny_typeOf (T:="tuple") ⟨o,ht3',ht4⟩ ?_)
   rw[if_pos (by decide)]
   refine wpAny_bind (wpAny_seqItems ht3' ht5 (wpAny_pure ?_))
   have hsl:(1000:Nat)<=sizeLine:=by decide
   have hls:=hlen i
   refine wpAny_holding (wpAny_dictSet_pairs hkey hD' (fun h2 hD2 hs2=> ?_) (by omega))
   have e:stored ((ps.take i).foldl (fun m p=>stored m p.1 p.2) []) p.1 p.2=(ps.take (i+1)).foldl (fun m p=>stored m p.1 p.2) []:=by
     rw[List.take_succ,hp,List.foldl_append];rfl
   rw[e]at hD2
   refine wpAny_pure ⟨plainId_quiet a1x _,ih (i+1) _ 0 (by omega) hlt (W.frame _ _ _ hst' fun b hb o' e'=> ?_) (fun j v q hPj hq=> ?_) hD2 fun h3 tk3 hk3 hD3=> ?_⟩
   . exact(hs2.2 b (fun z=>hd (z▸hb))).trans e'
   . obtain⟨t',key',o2,rfl,g1,g2,g3,g4⟩:=hps j v q hPj hq
     exact⟨t',key',o2,rfl,g1,g2,(hs2.2 t' g1).trans (hm t' o2 g2 g3),g4⟩
   . exact hR h3 tk3 (fun b o' hb1 hb2 e'=>hk3 b o' hb1 hb2 ((hs2.2 b hb1).trans (hm b o' hb2 e'))) hD3
end
section
variable {prog:Program}{w:World}{K:Type}[DecidableEq K]{knd:KeyKind prog w K}{A:Around}{E:Value->Shared->Prop}{s:Shared}
theorem a7j{l:Addr}{o:Obj}{items:Array Value}{m:Nat}{Q:Value->Shared->Prop}(hA:A.handled=none)(hl:s.heap.get? l=some o)(hc:o.cls= .type "list")(hdat:o.data= .seq items m)(hdn:o.dict=none)(ps:List (K×Value))(hlen:ps.length=items.size)(hn:items.size<=1000)
   (hps: ∀(j:Nat) (v:Value) (p:K×Value),items[j]? =some v->ps[j]? =some p-> ∃t key o,v= .ref t/\s.heap.get? t=some o/\o.cls= .type "tuple"/\(∃n,o.data= .seq #[key,p.2] n)/\knd.is p.1 key=true)
   (h: ∀h' tk,(∀b ob,s.heap.get? b=some ob->h'.get? b=some ob)->h'.DictOf knd s.heap.objs.size (ps.foldl (fun m p=>stored m p.1 p.2) [])->Q (.ref s.heap.objs.size) {s with heap:=h',toks:=tk}):
   wpAny (model prog w) A (call (.type "dict") [.ref l]) Q E s:=by
 refine callType_codes (Q₁:=fun obj s₁=>obj= .ref s.heap.objs.size/\s₁={s with heap:=s.heap.push {cls:= .type "dict",data:= .dict #[]}}) F.kt_called_dict (F.kt_typeCall_dict_1 _) F.entry_dict_init (kt_code_dict_new _ ⟨rfl,rfl⟩) ?_
 rintro obj s₁ ⟨rfl,rfl⟩
 have hnew:(s.heap.push {cls:= .type "dict",data:= .dict #[]}).DictOf knd s.heap.objs.size []:=Heap.DictOf.new s.heap
 have hl1:=Heap.get?_push_of_some {cls:= .type "dict",data:= .dict #[]} hl
 refine⟨hnew.typeIs,F.args_dict_init_2 _ _,?_⟩
 unfold Builtin.«dict.__init__»
 refine wpAny_bind ?_
 unfold Builtin.Dict.selfAndRest
 refine wpAny_bind (wpAny_notOrdered_dict hnew.typeIs ?_)
 show wpAny _ _ (pure (s.heap.objs.size,[Value.ref l])) _ _ _
 refine wpAny_pure ?_
 show wpAny _ _ (Builtin.Dict.updateFrom "dict.__init__" s.heap.objs.size (.ref l) [] .none) _ _ _
 unfold Builtin.Dict.updateFrom
 refine wpAny_bind (wpAny_typeOf (T:="list") ⟨o,hl1,hc⟩ ?_)
 rw[if_pos (by decide)]
 refine wpAny_bind (a4x hl1 hc hdat hdn b6z (by decide+kernel) hA fun h2 tk2 hk2=> ?_)
 rw[if_pos (show(none:Option Value).isNone=true from rfl)]
 have hl2:=hk2 _ _ hl1
 have hD2:h2.DictOf knd s.heap.objs.size []:=by obtain⟨o,es,ep,ho,r⟩:=hnew;exact⟨o,es,ep,hk2 _ _ ho,r⟩
 have hlt:l<s.heap.objs.size:=Heap.lt_size hl
 have hsz:s.heap.objs.size<h2.objs.size:=by obtain⟨o,es,ep,ho,r⟩:=hD2;exact Heap.lt_size ho
 refine wpAny_bind (wpAny_rule (wpAny_bind (wpAny_pyIter_list (items:=items) ⟨o,hl2,hc,m,hdat⟩ ?_)))
 refine wpAny_pure ⟨plainId_quiet a1x _,?_⟩
 have hIl: ∀b,b<h2.objs.size->b≠h2.objs.size:=fun b hb=>Nat.ne_of_lt hb
 have hne:l≠h2.objs.size:=hIl l (Heap.lt_size hl2)
 have hdf:s.heap.objs.size∉[h2.objs.size,l]:=by
   simp only[List.mem_cons,List.not_mem_nil,or_false,not_or]
   exact⟨Nat.ne_of_lt hsz,Nat.ne_of_gt hlt⟩
 refine a56 (knd:=knd) (Walks.list (A:=A.in1.in1) hA h2.objs.size l hne items) s.heap.objs.size hdf ps hlen hn items.size 0 _ 0 (by omega) (Nat.zero_le _) ⟨⟨_,Heap.get?_push_size _ rfl,rfl,rfl⟩,o,Heap.get?_push_of_some _ hl2,hc,m,hdat⟩ (fun j v p hP hp=> ?_) (by
     obtain⟨o,es,ep,ho,r⟩:=hD2
     exact⟨o,es,ep,Heap.get?_push_of_some _ ho,r⟩) fun h3 tk3 hk3 hD3=>⟨rfl,h h3 tk3 (fun b ob e=> ?_) hD3⟩
 . obtain⟨t,key,ot,rfl,g1,g2⟩:=hps j v p hP hp
   have g3:=hk2 _ _ (Heap.get?_push_of_some {cls:= .type "dict",data:= .dict #[]} g1)
   exact⟨t,key,ot,rfl,Nat.ne_of_lt (Heap.lt_size g1),by simp only[List.mem_singleton];exact hIl t (Heap.lt_size g3),Heap.get?_push_of_some _ g3,g2⟩
 . have e2:=hk2 _ _ (Heap.get?_push_of_some {cls:= .type "dict",data:= .dict #[]} e)
   exact hk3 b ob (Nat.ne_of_lt (Heap.lt_size e)) (by simp only[List.mem_singleton];exact hIl b (Heap.lt_size e2)) (Heap.get?_push_of_some _ e2)
end
end PySem
namespace L2
open PySem PySem.Spec PySem.Calls PyProof.Rows
theorem a7d{κ:Type}[DecidableEq κ]: ∀(ps m:List (κ×Value)),((m++ps).map (·.1)).Nodup->ps.foldl (fun m p=>stored m p.1 p.2) m=m++ps
 | [],m,_=>by simp
 |p::ps,m,h=>by
   have h1:stored m p.1 p.2=m++[p]:=by
     refine stored_absent ?_ _
     have hn:p.1∉m.map (·.1):=fun z=>by
       rw[List.map_append,List.map_cons,List.nodup_append]at h
       exact h.2.2 _ z _ List.mem_cons_self rfl
     unfold valueAt
     rw[List.find?_eq_none.mpr fun x hx=>by
       have:x.1≠p.1:=fun e=>hn (by rw[<-e];exact List.mem_map.mpr ⟨x,hx,rfl⟩)
       simp[this]]
     rfl
   rw[List.foldl_cons,h1,a7d ps (m++[p]) (by simpa using h)]
   simp
section
variable {X:Cx}
def Prs'(H:Hp):List V->List (Key×V)->Prop:=Paired fun v p=> ∃t,v= .ref t/\H t=some (.tup [kV p.1,p.2])
def rDictOf:List V->Hp->VK->Prop:=fun xs H Q=> ∃a vs ps,xs=[.ref a]/\H a=some (.lst vs)/\vs.length<=1000/\Prs' H vs ps/\(ps.map (·.1)).Nodup/\ ∀p,H p=none->Q (.ref p) (upd H p (.dK ps))
theorem prs_len{H:Hp}{vs:List V}{ps:List (Key×V)}(h:Prs' H vs ps):vs.length=ps.length:=by
 induction h with
 |nil=>rfl
 |cons _ _ ih=>simp[ih]
theorem prs_rel{pins:List (Addr×Obj)}{σ:St}{H:Hp}{s:Shared}(I:Inv X pins σ H s){vs:List V}{ps:List (Key×V)}(h:Prs' H vs ps): ∀{its:List Value},Vals vs its->
   ∃ws:List (Key×Value),KV ps ws/\ ∀(j:Nat) (v:Value) (p:Key×Value),its[j]? =some v->ws[j]? =some p-> ∃t key o,v= .ref t/\s.heap.get? t=some o/\o.cls= .type "tuple"/\(∃n,o.data= .seq #[key,p.2] n)/\(a00 X.prog X.w).is p.1 key=true:=by
 induction h with
 |nil=>intro its _;exact⟨[],.nil,fun j v p _ h=>by simp at h⟩
 |cons hd _ ih=>
   intro its r
   cases r with
   |cons r1 r2=>
     obtain⟨ws,k1,k2⟩:=ih r2
     obtain⟨t,rfl,ht⟩:=hd
     cases r1
     obtain⟨_,us,ru,o,ho,hc,n,hdat⟩:=I.hok t _ ht
     obtain⟨key,x,rfl,rk,rv⟩:=vals2 ru
     refine⟨(_,x)::ws,.cons ⟨rfl,rv⟩ k1,fun j v p hj hp=> ?_⟩
     cases j with
     |zero=>
       simp only[List.getElem?_cons_zero,Option.some.injEq]at hj hp
       subst hj hp
       exact⟨t,key,o,rfl,ho,hc,⟨n,hdat⟩,a84 rk⟩
     |succ j=>exact k2 j v p (by simpa using hj) (by simpa using hp)
theorem kv_keys{ps:List (Key×V)}{ws:List (Key×Value)}(kv:KV ps ws):ps.map (·.1)=ws.map (·.1):=by
 induction kv with
 |nil=>rfl
 |cons h _ ih=>simp only[List.map_cons,h.1,ih]
theorem a50(hc:X.calm=true):CallR X (.type "dict") rDictOf:=by
 intro pins s σ H xs us Q I r h
 obtain⟨a,vs,ps,rfl,ha,hn,hp,nd,q⟩:=h
 obtain⟨u,rfl,rx⟩:=b0s r
 cases rx
 obtain⟨hz,its,n,rv,hg⟩:=I.hok a _ ha
 obtain⟨ws,kv,hps⟩:=prs_rel I hp rv
 have hl1:=rv.length
 have hl2:=prs_len hp
 have hl3:=kv.length
 have ek:=kv_keys kv
 refine a7j (knd:=a00 X.prog X.w) (I.ok.hd hc) hg rfl rfl rfl ws (by simp;omega) (by simp;omega) (fun j v p hj hp=>hps j v p (by simpa using hj) hp) fun h' tk hk hD=> ?_
 rw[a7d ws [] (by rw[List.nil_append,<-ek];exact nd),List.nil_append]at hD
 refine⟨.ref s.heap.objs.size,_,I.laid (t':=tk) (o:= .dK ps) hk (Nat.le_refl _) (b3s (by omega) (beq_eq_false_iff_ne.mpr (Ne.symm (Nat.ne_of_lt I.big))) kv hD),rfl,q _ (I.hok.fresh (Nat.le_refl _))⟩
end
noncomputable def a76:List D->Option (List (Key×D))
 | []=>some []
 | .tup [k,v]::r=>(match keyD k,a76 r with |some k',some r'=>some ((k',v)::r') |_,_=>none)
 |_=>none
theorem b2w{K:PySem.W.Frag}{F:Hp}{M:Mem}{H:Hp}(m:AM K F M H): ∀{ds:List D}{vs:List V}{kvs:List (Key×D)},RDs K F vs ds->a76 ds=some kvs-> ∃ps,Prs' H vs ps/\PF K F ps kvs
 | [],_,_,.nil,h=>by cases h;exact⟨[],.nil,.nil⟩
 |d::ds,_,kvs,.cons r1 r2,h=>by
   unfold a76 at h
   split at h
   . rename_i heq;cases heq
   . rename_i k v r heq
     cases heq
     split at h
     . rename_i k' r' hk hr
       cases h
       obtain⟨ps,h1,h2⟩:=b2w m r2 hr
       cases r1 with
       |tup e rr=>
         obtain⟨x,y,rfl,rx,ry⟩:=rr.two'
         have ek:=a5v rx hk
         subst ek
         exact⟨(k',y)::ps,.cons ⟨_,rfl,m.sub _ _ e⟩ h1,.cons ⟨rfl,ry⟩ h2⟩
     . cases h
   . cases h
noncomputable def oDictOf:A1s:=fun ds M Q=>match ds with
 | [d]=>opt (dl M d) fun xs=>xs.length<=1000/\opt (a76 xs) fun kvs=>(kvs.map (·.1)).Nodup/\ ∀p,M p=none->Q (.obj p) (put M p (.dic kvs))
 |_=>False
theorem pf_keys{K:PySem.W.Frag}{F:Hp}{ps:List (Key×V)}{kvs:List (Key×D)}(h:PF K F ps kvs):ps.map (·.1)=kvs.map (·.1):=by
 induction h with
 |nil=>rfl
 |cons h _ ih=>simp only[List.map_cons,h.1,ih]
theorem b6w{K:PySem.W.Frag}:LC K rDictOf oDictOf:=by
 intro F M H xs ds Q R m r h k
 unfold oDictOf at h
 split at h
 . obtain⟨x,rfl,rx⟩:=r.one'
   obtain⟨es,hd,hn,h⟩:=a1v h
   obtain⟨kvs,hp,nd,h⟩:=a1v h
   obtain⟨p,vs,rfl,e,rr⟩:=dl_rep m rx hd
   obtain⟨ps,h1,h2⟩:=b2w m rr hp
   exact⟨p,vs,ps,rfl,e,by rw[rr.length];exact hn,h1,by rw[pf_keys h2];exact nd,fun l hl=>k _ _ ⟨.obj l,F,_,.refl F,m.new (o:= .dic kvs) hl h2,.obj l,h l (m.fM hl)⟩⟩
 . exact h.elim
section
variable {X:Cx}{pins:List (Addr×Obj)}{σ:St}{H:Hp}{s:Shared}
theorem Inv.still{d:Addr}{kvs:List (Key×V)}{o:Obj}(I:Inv X pins σ H s)(hd:H d=some (.dK kvs))(ho:s.heap.get? d=some o):Inv X pins σ (upd H d (.frz o (.dK kvs))) s:=by
 have key: ∀b u,H b=some u->(∀ws,u≠ .dK ws)->upd H d (.frz o (.dK kvs)) b=some u:=fun b u e n=>by
   rw[a0o (by rintro rfl;rw[hd]at e;cases e;exact n _ rfl)];exact e
 have nn: ∀b,H b=none->upd H d (.frz o (.dK kvs)) b=none:=fun b e=>by
   rw[a0o (by rintro rfl;rw[hd]at e;cases e)];exact e
 refine⟨I.ok,I.os,I.bare,⟨I.base.keep,I.base.slot,fun c oc e n hx=>nn c (I.base.free c oc e n hx),I.base.there,fun c xs e=>key c _ (I.base.tups c xs e) (fun _ z=>by cases z),fun c oc u e=>key c _ (I.base.frzs c oc u e) (fun _ z=>by cases z),fun c ps e=> ?_⟩,I.loc,I.cell,nn _ I.free,fun x c e=>nn _ (I.freeC x c e),fun p hp=> ?_,fun c u q=> ?_,I.len⟩
 . obtain⟨m1,e'⟩:=I.base.tbls c ps e
   exact⟨m1,key c _ e' (fun _ z=>by cases z)⟩
 . obtain⟨e,n,n1,n2,dd⟩:=I.pin p hp
   exact⟨e,nn _ n,n1,n2,dd⟩
 . have st: ∀{b:Addr}{u:HO},ObjOk X.prog X.w H s.heap b u->ObjOk X.prog X.w (upd H d (.frz o (.dK kvs))) s.heap b u:=fun x=>x.stay (fun _ _ _ r=>r) (fun c' r=>key c' _ r (fun _ z=>by cases z)) fun c' xs r=>key c' _ r (fun _ z=>by cases z)
   by_cases hc:c=d
   . subst hc
     rw[a0t]at q
     cases q
     exact⟨ho,st (I.hok c _ hd)⟩
   . rw[a0o hc]at q
     exact st (I.hok c u q)
noncomputable def ItdI(d:Addr)(o:Obj)(kvs:List (Key×V)):It:=⟨fun i H=>i<kvs.length/\H d=some (.frz o (.dK kvs)),fun i H x H'=> ∃T k v,H T=none/\kvs[i]? =some (k,v)/\x= .ref T/\H'=upd H T (.tup [kV k,v]),fun i H=>i=kvs.length/\H d=some (.frz o (.dK kvs))⟩
noncomputable def ItdV(d:Addr)(o:Obj)(kvs:List (Key×V)):It:=⟨fun i H=>i<kvs.length/\H d=some (.frz o (.dK kvs)),fun i H x H'=>H'=H/\ ∃k,kvs[i]? =some (k,x),fun i H=>i=kvs.length/\H d=some (.frz o (.dK kvs))⟩
theorem kv_at{kvs:List (Key×V)}{ws:List (Key×Value)}(r:KV kvs ws){i:Nat}(h:i<kvs.length): ∃k v u,kvs[i]? =some (k,v)/\ws[i]? =some (k,u)/\RelV v u:=by
 have hw:i<ws.length:=by rw[<-r.length];exact h
 obtain⟨v,e,rv⟩:=r.at (j:=i) (k:=ws[i].1) (u:=ws[i].2) (List.getElem?_eq_getElem hw)
 exact⟨_,v,_,e,List.getElem?_eq_getElem hw,rv⟩
theorem b46{P:Program}{w:World}{K:PySem.W.Frag}{tg:Expr}{it d:Addr}{o:Obj}{kvs:List (Key×V)}{ws:List (Key×Value)}{ep:Nat}(rel:KV kvs ws)(hat: ∀h:Heap,h.get? d=some o->h.DictAt (a00 P w) d ws ep):
   Turn P w K tg (ItdV d o kvs) [it] it (fun i h=>h.IsValIter it d i ws.length ep) where
 mem:=by simp
 obj:=fun i h st b hb=>by
   have e:b=it:=by simpa using hb
   subst e
   obtain⟨o',e,_,dt⟩:=st
   exact⟨o',e,fun v z=>by rw[dt]at z;cases z⟩
 keep:=fun i h h' st k=>st.at fun o e=>k it (by simp) o e
 item:=by
   intro X hP hw hK hc i pins s σ H E I hf st hg
   subst hP hw hK
   obtain⟨f0,f1,f2,f3,f4,f5⟩:=hf it (by simp)
   obtain⟨hi,hd⟩:=hg
   obtain⟨k,v,u,e1,e2,rv⟩:=kv_at rel hi
   refine wpAny_pyNext_values_item st (hat _ (I.hok d _ hd).1) e2 fun h' st' hs'=> ?_
   have I1:Inv X pins σ H {s with heap:=h',toks:=s.toks}:=I.turned (fun b o hb e=>(hs'.2 b hb).trans e) f0 f1 f3 f4 f5
   obtain⟨oi,g,c,dt⟩:=id st'
   exact⟨u,rfl,b9c (s:={s with heap:=h'}) g c dt (by decide) ⟨v,H,I1,rv,⟨rfl,k,e1⟩,st',fun b hb=>(hf b hb).1⟩⟩
 done:=by
   intro X hP hw hK hc i pins s σ H E I hf st hg
   subst hP hw hK
   obtain⟨f0,f1,f2,f3,f4,f5⟩:=hf it (by simp)
   obtain⟨hi,hd⟩:=hg
   refine wpAny_pyNext_values_end (I.ok.hd hc) st (hat _ (I.hok d _ hd).1) (by rw[hi,rel.length];simp) fun h' he'=>⟨rfl,?_⟩
   exact I.turned (t':=s.toks) (fun b o hb e=>he' b o hb e) f0 f1 f3 f4 f5
 self:=fun A i s Q E st q=>wpAny_pyIter_valiter st q
theorem b34{P:Program}{w:World}{K:PySem.W.Frag}{elts:List Expr}{kk:Nat}{pos:Pos}{it d:Addr}{o:Obj}{kvs:List (Key×V)}{ws:List (Key×Value)}{ep:Nat}(rel:KV kvs ws)(hat: ∀h:Heap,h.get? d=some o->h.DictAt (a00 P w) d ws ep):
   Turn P w K (.Tuple elts kk pos) (ItdI d o kvs) [it] it (fun i h=> ∃ok ov,IsItemIter h it d i ws.length ep ok ov) where
 mem:=by simp
 obj:=fun i h st b hb=>by
   have e:b=it:=by simpa using hb
   subst e
   obtain⟨ok,ov,e⟩:=st
   exact⟨_,e,fun v z=>by cases z⟩
 keep:=fun i h h' st k=>by
   obtain⟨ok,ov,e⟩:=st
   exact⟨ok,ov,k it (by simp) _ e⟩
 item:=by
   intro X hP hw hK hc i pins s σ H E I hf st hg
   subst hP hw hK
   obtain⟨f0,f1,f2,f3,f4,f5⟩:=hf it (by simp)
   obtain⟨hi,hd⟩:=hg
   obtain⟨k,v,u,e1,e2,rv⟩:=kv_at rel hi
   obtain⟨ok,ov,st⟩:=st
   refine wpAny_pyNext_items_item st (hat _ (I.hok d _ hd).1) e2 fun key h' hk ho hT hsz hkeep=> ?_
   refine⟨.ref s.heap.objs.size,rfl,wpAny_letOwnedTupleGo_items ho fun h2 st2 hs2=> ?_⟩
   have hTi:s.heap.objs.size≠it:=Nat.ne_of_gt (Heap.lt_size st)
   have I1:Inv X pins σ H {s with heap:=h2,toks:=s.toks}:=I.turned (fun b o hb e=>(hs2.2 b hb).trans (hkeep b o hb e)) f0 f1 f3 f4 f5
   have hT2:h2.get? s.heap.objs.size=some {cls:= .type "tuple",data:= .seq #[key,u]}:=(hs2.2 _ hTi).trans hT
   have hnone:H s.heap.objs.size=none:=I.hok.fresh (Nat.le_refl _)
   have fp:FpOk X pins H s.heap.objs.size:=I.fpOk (Nat.le_refl _) hnone
   have rk:RelV (kV k) key:=by
     rcases a1a hk with⟨i,t,rfl,rfl⟩ | ⟨x,t,rfl,rfl⟩
     . exact⟨t,rfl⟩
     . exact⟨t,rfl⟩
   refine⟨.ref s.heap.objs.size,upd H s.heap.objs.size (.tup [kV k,v]),I1.adopt fp I.sz ⟨by show 2<=sizeLine;decide,[key,u],.cons rk (.cons rv .nil),_,hT2,rfl,_,rfl⟩,rfl,⟨_,k,v,hnone,e1,rfl,rfl⟩,⟨_,_,st2⟩,fun b hb=> ?_⟩
   have e:b=it:=by simpa using hb
   subst e
   rw[a0o (Ne.symm hTi)];exact f0
 done:=by
   intro X hP hw hK hc i pins s σ H E I hf st hg
   subst hP hw hK
   obtain⟨f0,f1,f2,f3,f4,f5⟩:=hf it (by simp)
   obtain⟨hi,hd⟩:=hg
   obtain⟨ok,ov,st⟩:=st
   refine wpAny_pyNext_items_end (I.ok.hd hc) st (hat _ (I.hok d _ hd).1) (by rw[hi,rel.length];simp) fun h' he'=>⟨rfl,?_⟩
   exact I.turned (t':=s.toks) (fun b o hb e=>he' b o hb e) f0 f1 f3 f4 f5
 self:=by
   intro A i s Q E st q
   obtain⟨ok,ov,st⟩:=st
   exact PySem.W.kcp_self st q
end
section
variable {X:Cx}{tg o:Expr}{apos cpos:Pos}{tl:TE}
def iVals(K:PySem.W.Frag)(tl:TE):TI:=fun σ H R=>tBM0 K "dict" (b8g "dict_values") tl σ H fun v H2=> ∃d kvs vw,v= .ref vw/\H2 vw=some (.ext (viewφ "dict_values" vw d))/\H2 d=some (.dK kvs)/\ ∀o,R (ItdV d o kvs) (upd H2 d (.frz o (.dK kvs)))
def iItms(K:PySem.W.Frag)(tl:TE):TI:=fun σ H R=>tBM0 K "dict" (b8g "dict_items") tl σ H fun v H2=> ∃d kvs vw,v= .ref vw/\H2 vw=some (.ext (viewφ "dict_items" vw d))/\H2 d=some (.dK kvs)/\ ∀o,R (ItdI d o kvs) (upd H2 d (.frz o (.dK kvs)))
theorem pi_vals(ho:PE X o tl)(hbase:attributeBase o "values" X.env (eval o X.env)=eval o X.env:=by rfl)(hline:(apos.endLine==cpos.line)=true:=by rfl):PI X tg (.Call (.Attribute o "values" apos) [] [] cpos) (iVals X.K tl):=by
 intro pins s σ H R I h
 refine thn (a9v PySem.F.plainAttrs_dict PySem.F.slot_dict_values PySem.F.type_dict_values a99 ho hbase hline pins s σ H _ I h) fun v s1 zz9=> ?_
 obtain⟨x,H1,I1,r1,d,kvs,vw,e,hv,hd,q⟩:=zz9
 subst e
 cases r1
 have hvw:s1.heap.get? vw=some {cls:= .type "dict_values",data:= .fields #[.ref d]}:=(I1.hok vw _ hv).1
 obtain⟨hz,lo,ws,rel,hD⟩:=b7o I1.hok hd
 obtain⟨ep,hat⟩:=hD.dictAt
 obtain⟨ob,es,hob,rest⟩:=id hat
 refine wpAny_pyIter_values ⟨_,hvw,rfl,rfl⟩ hat ?_
 have I2:=I1.still hd hob
 refine⟨s1.heap.objs.size,[s1.heap.objs.size],_,_,_,rfl,I2.kept (t':=s1.toks) fun b o e=>Heap.get?_push_of_some _ e,b46 rel (fun h e=>⟨ob,es,e,rest⟩),⟨_,Heap.get?_push_size _ rfl,rfl,rfl⟩,fun b hb=> ?_,q ob⟩
 have e:b=s1.heap.objs.size:=by simpa using hb
 subst e
 exact I2.fpOk (Nat.le_refl _) (I2.hok.fresh (Nat.le_refl _))
theorem pi_itms{elts:List Expr}{kk:Nat}{tpos:Pos}(ho:PE X o tl)(hbase:attributeBase o "items" X.env (eval o X.env)=eval o X.env:=by rfl)(hline:(apos.endLine==cpos.line)=true:=by rfl):PI X (.Tuple elts kk tpos) (.Call (.Attribute o "items" apos) [] [] cpos) (iItms X.K tl):=by
 intro pins s σ H R I h
 refine thn (a9v PySem.F.plainAttrs_dict PySem.F.slot_dict_items PySem.F.type_dict_items b24 ho hbase hline pins s σ H _ I h) fun v s1 zz9=> ?_
 obtain⟨x,H1,I1,r1,d,kvs,vw,e,hv,hd,q⟩:=zz9
 subst e
 cases r1
 have hvw:s1.heap.get? vw=some {cls:= .type "dict_items",data:= .fields #[.ref d]}:=(I1.hok vw _ hv).1
 obtain⟨hz,lo,ws,rel,hD⟩:=b7o I1.hok hd
 obtain⟨ep,hat⟩:=hD.dictAt
 obtain⟨ob,es,hob,rest⟩:=id hat
 refine wpAny_pyIter_items ⟨_,hvw,rfl,rfl⟩ hat ?_
 have I2:=I1.still hd hob
 refine⟨s1.heap.objs.size,[s1.heap.objs.size],_,_,_,rfl,I2.kept (t':=s1.toks) fun b o e=>Heap.get?_push_of_some _ e,b34 rel (fun h e=>⟨ob,es,e,rest⟩),⟨_,_,Heap.get?_push_size _ rfl⟩,fun b hb=> ?_,q ob⟩
 have e:b=s1.heap.objs.size:=by simpa using hb
 subst e
 exact I2.fpOk (Nat.le_refl _) (I2.hok.fresh (Nat.le_refl _))
end
theorem AM.fix{K:PySem.W.Frag}{F:Hp}{M:Mem}{H:Hp}{p:Addr}{o:MO}{u:HO}(m:AM K F M H)(hp:M p=some o):Same F (upd F p u)/\AM K (upd F p u) (del M p) (upd H p u):=by
 have hs:Same F (upd F p u):=a1h (m.dj p o hp)
 refine⟨hs,fun b x e=> ?_,fun b x e=> ?_,fun b x e=> ?_⟩
 . by_cases hb:b=p
   . subst hb;rw[a0t]at e |-;exact e
   . rw[a0o hb]at e |-;exact m.sub b x e
 . have hb:b≠p:=by rintro rfl;rw[a3z]at e;cases e
   rw[a33 hb]at e
   rw[a0o hb];exact m.dj b x e
 . have hb:b≠p:=by rintro rfl;rw[a3z]at e;cases e
   rw[a33 hb]at e
   obtain⟨y,e1,r1⟩:=m.mem b x e
   exact⟨y,by rw[a0o hb];exact e1,r1.up hs⟩
section
variable {X:Cx}{F0:Hp}{tg o:Expr}{td:AE}{apos cpos:Pos}
noncomputable def valAt(kvs:List (Key×D))(i:Nat):D:=match kvs[i]? with |some kv=>kv.2 |none=> .non
noncomputable def itemAt(kvs:List (Key×D))(i:Nat):D:=match kvs[i]? with |some kv=> .tup [keyOf kv.1,kv.2] |none=> .non
def iaV(td:AE):AI:=fun Γ M Q=>td Γ M fun x M1=>match x with
 | .obj p=>(match M1 p with |some (.dic kvs)=>Q ⟨kvs.length,valAt kvs,fun _=>True⟩ (del M1 p) |_=>False)
 |_=>False
theorem pf_at{K:PySem.W.Frag}{F:Hp}{ws:List (Key×V)}{kvs:List (Key×D)}(h:PF K F ws kvs): ∀{i:Nat}{k:Key}{v:V},ws[i]? =some (k,v)-> ∃d,kvs[i]? =some (k,d)/\RD K F v d:=by
 induction h with
 |nil=>intro i k v e;simp at e
 |cons h1 _ ih=>
   intro i k v e
   cases i with
   |zero=>
     simp only[List.getElem?_cons_zero,Option.some.injEq]at e
     rename_i p q _ _ _
     subst e
     exact⟨q.2,by simp only[List.getElem?_cons_zero,Option.some.injEq];exact Prod.ext h1.1.symm rfl,h1.2⟩
   |succ i=>exact ih (by simpa using e)
theorem key_of'{K:PySem.W.Frag}{F:Hp}(k:Key):RD K F (kV k) (keyOf k):=by
 cases k
 . exact .int _
 . exact .str _
theorem iValues(ho:PEA X F0 o td)(hbase:attributeBase o "values" X.env (eval o X.env)=eval o X.env:=by rfl)(hline:(apos.endLine==cpos.line)=true:=by rfl):PIA X F0 tg (.Call (.Attribute o "values" apos) [] [] cpos) (iaV td):=by
 refine⟨?_⟩
 intro F Γ M σ H Q f0 g m h
 refine(pi_vals a0l hbase hline).to ((ho.run F Γ M σ H _ f0 g m h).mono fun v H1 zz9=> ?_)
 obtain⟨d,F1,M1,s1,m1,r1,q1⟩:=zz9
 obtain⟨p,rfl⟩: ∃p,d= .obj p:=by
   cases d<;>first |exact q1.elim |exact⟨_,rfl⟩
 cases r1
 try dsimp only at q1
 split at q1
 . rename_i kvs hp
   obtain⟨u,e1,ro⟩:=m1.mem _ _ hp
   obtain⟨ws,rfl,pf⟩:=ro.isD
   refine⟨.inr (.inr (.inl ⟨rfl,.inl ⟨ws,e1⟩⟩)),p,ws,rfl,rfl,.inl e1,fun vw hvw=>⟨p,ws,vw,rfl,a0t,?_,fun ob=> ?_⟩⟩
   . rw[a0o (fun z=>by rw[z,hvw]at e1;cases e1)];exact e1
   . obtain⟨s2,m2⟩:=(m1.more (u:= .ext (viewφ "dict_values" vw p)) hvw).fix (u:= .frz ob (.dK ws)) hp
     have hl:=pf.length
     refine⟨_,_,_,s1.trans s2,m2,⟨fun i F' M' H' s' m' _ hi=>⟨by rw[hl];exact hi,m'.sub _ _ (s' _ _ a0t)⟩,fun i F' M' H' x H'' s' m' _ hi y=> ?_,fun F' M' H' s' m' _=>⟨hl.symm,m'.sub _ _ (s' _ _ a0t)⟩⟩,q1⟩
     obtain⟨rfl,k,e⟩:=y
     obtain⟨d,e2,rd⟩:=pf_at pf e
     refine⟨F',.refl _,m',?_⟩
     show RD X.K F' x (valAt kvs i)
     unfold valAt
     rw[e2]
     exact rd.up (s2.trans s')
 . exact q1.elim
end
structure FunD(K:PySem.W.Frag)(x qual:Str)(st:Stmt)(f:Addr)(fd:FuncData):Prop where
 ex: ∃(oc:Value) (od:Option Addr) (dv:Addr) (kV doc pm:Value) (an:Option Addr) (cdv ct:Value) (osl:Array (Option Value)),
   fd=PySem.W.fnOf x qual (a05 st) (a0y st) (a0d st) (.ref dv) kV doc pm an cdv ct/\K.lookup f=some ⟨oc,od,.func fd,osl⟩/\PySem.W.codeIn K cdv qual=true/\ ∃oc2 od2 n2 osl2,K.lookup dv=some ⟨oc2,od2,.seq #[.none] n2,osl2⟩
theorem b7h{K:PySem.W.Frag}{x qual:Str}{st:Stmt}{f dv:Addr}{oc oc2:Value}{od an od2:Option Addr}{osl osl2:Array (Option Value)}{kV doc pm cdv ct:Value}{n2:Nat}(l:K.lookup f=some ⟨oc,od,.func (PySem.W.fnOf x qual (a05 st) (a0y st) (a0d st) (.ref dv) kV doc pm an cdv ct),osl⟩)
   (c:PySem.W.codeIn K cdv qual=true) (d:K.lookup dv=some ⟨oc2,od2,.seq #[.none] n2,osl2⟩):FunD K x qual st f (PySem.W.fnOf x qual (a05 st) (a0y st) (a0d st) (.ref dv) kV doc pm an cdv ct):=
 ⟨oc,od,dv,kV,doc,pm,an,cdv,ct,osl,rfl,l,c,oc2,od2,n2,osl2,d⟩
theorem FunD.okX{P:Program}{w:World}{K:PySem.W.Frag}{mg:Str->Option Value}{base:Heap}{x qual:Str}{st:Stmt}{f:Addr}{fd:FuncData}{N ps:List Str}{k:Nat}{sp:Sp}(F:FunD K x qual st f fd)(S:FnScope N ps (a0d st))(len: ∀vs H Q E,sp vs H Q E->vs.length=ps.length)
   (hbody: ∀(cdv:Value) (A:Around) (outer:List Env) (s:Shared) (H:Hp) (vs:List V) (Q:VK) (E:XK),Room k (A.deeper (envOfC qual (a0d st) s.heap.objs.size f cdv))->sp vs H Q E->
     ∃t,PSs ((cxOf (CXE P w) P w K mg base N qual (a0d st) f cdv A outer s H E).by (rE E)) (a0y st) t/\t {nx:=fun _ H'=>Q .non H',rt:=Q} (start N vs) H):FnOk P w K mg base (CXE P w) (k+1) f fd ps sp:=by
 obtain⟨oc,od,dv,kV,doc,pm,an,cdv,ct,osl,rfl,lk,hcd,_⟩:=F.ex
 refine fn_of lk hcd S len fun A outer s H vs Q E hr hsp=> ?_
 obtain⟨t,h,q⟩:=hbody cdv A outer s H vs Q E hr hsp
 exact⟨t,h.unthr b3b,q⟩
theorem FunD.okA{P:Program}{w:World}{K:PySem.W.Frag}{mg:Str->Option Value}{base:Heap}{x qual:Str}{st:Stmt}{f:Addr}{fd:FuncData}{N ps:List Str}{k:Nat}{sa:SpA}(Fn:FunD K x qual st f fd)(S:FnScope N ps (a0d st))(len: ∀ds M Q E,sa ds M Q E->ds.length=ps.length)
   (hbody: ∀(cdv:Value) (A:Around) (outer:List Env) (s:Shared) (H:Hp) (E:XK) (F0:Hp) (ds:List D) (M:Mem) (Q:AK) (Ea:Value->Mem->Prop),Room k (A.deeper (envOfC qual (a0d st) s.heap.objs.size f cdv))->
     Cat ((cxOf (CXE P w) P w K mg base N qual (a0d st) f cdv A outer s H E).by (rE E)) F0 (fun _ M cls=>Ea cls M)->sa ds M Q Ea->
     ∃t,PSsA ((cxOf (CXE P w) P w K mg base N qual (a0d st) f cdv A outer s H E).by (rE E)) F0 (a0y st) t/\t {nx:=fun _ M'=>Rt Q .non M',rt:=Rt Q} (a72 N ds) M):FnOk P w K mg base (CXE P w) (k+1) f fd ps (a0k K sa):=by
 refine Fn.okX S (fun vs H Q E ⟨F,ds,M,Qa,Ea,m,r,h,_⟩=>by rw[r.length];exact len _ _ _ _ h) ?_
 intro cdv A outer s H vs Q E hr ⟨F,ds,M,Qa,Ea,m,r,h,hQ,hE⟩
 obtain⟨t,ht,q⟩:=hbody cdv A outer s H E F ds M Qa Ea hr (Cat.of hE hr.units) h
 refine⟨_,a2a,?_⟩
 refine(ht.run F _ M _ H _ (.refl F) (b2g r) m q).mono ⟨fun σ' H' ⟨F',Γ',M',s',g',m',q'⟩=> ?_,fun v H' z=> ?_,fun _ _ ⟨_,_,_,_,_,_,q'⟩=>q'.elim,fun _ _ ⟨_,_,_,_,_,_,q'⟩=>q'.elim⟩
 . exact hQ _ _ (PQ.rt ⟨.non,F',M',s',m',.non,q'⟩)
 . exact hQ _ _ (PQ.rt z)
structure HasD(P:Program)(w:World)(K:PySem.W.Frag)(mg:Str->Option Value)(base:Heap)(k:Nat)(x:Str)(ps:List Str)(sp:Sp):Prop where
 ex: ∃f fd,FnOk P w K mg base (CXE P w) k f fd ps sp/\mg x=some (.ref f)/\PySem.W.keepIn K (.ref f)=true/\Binds K fd ps []/\Binds K fd ps [.none]
section
variable {X:Cx}{k:Nat}{f:Addr}{fd:FuncData}{ps:List Str}{sp:Sp}{R:RX}{x:Str}{p pos:Pos}{e:Expr}{es:List Expr}{t:TA}
theorem b8e{pins:List (Addr×Obj)}{σ:St}{H:Hp}{s:Shared}{Q:VK}{us:List Value}{vs:List V}(F:FnOk X.prog X.w X.K X.mg X.base (CXE X.prog X.w) k f fd ps sp)(hr:Room k X.A)(hb:Binds X.K fd ps [.none])(T:Thr X R)(Pl:Plain X)
   (I:Inv X pins σ H s) (r:Vals vs us) (h:sp (vs++[.non]) H Q (fun cls _ H'=> ∀a,R σ H' cls a)):wpAny (model X.prog X.w) X.A (call (.ref f) us) (EP X pins σ Q) X.xe s:=by
 have r2:Vals (vs++[.non]) (us++[.none]):=r.append (.cons rfl .nil)
 have hl:(us++[Value.none]).length=ps.length:=by rw[<-r2.length];exact F.len _ _ _ _ h
 refine wpAny_call (codeAny_mono (F.run X.A X.stack s H ⟨us,[]⟩ (us++[.none]) (vs++[.non]) Q _ hr I.env0 (hb s us I.kIn hl) r2 h) fun r s' hq=> ?_)
 cases r with
 |error e=>exact T.call Pl I hq
 |ok fl=>
   cases fl with
   |ret u=>exact I.after hq
   |next=>exact False.elim hq
   |brk=>exact False.elim hq
   |cont=>exact False.elim hq
def tCallXD(sp:Sp)(R:RX)(t:TA):TE:=fun σ H Q=>t σ H fun vs H1=>sp (vs++[.non]) H1 Q (fun cls _ H'=> ∀a,R σ H' cls a)
theorem b51(h:HasD X.prog X.w X.K X.mg X.base k x ps sp)(hr:Room k X.A)(hg:Gl X x)(T:Thr X R)(Pl:Plain X)(ha:PA X (e::es) t)
   (hdb:(x==("__debug__":Str))=false:=by decide) (he:starEach (e::es) X.env=(false,eval e X.env)::starEach es X.env:=by rfl) (hpl:(backTo pos (starEach es X.env)).any (·.1)=false:=by rfl):
   PE X (.Call (.Name x p) (e::es) [] pos) (tCallXD sp R t):=by
 intro pins s σ H Q I hw
 obtain⟨f,fd,F,hm,hk,_,hb⟩:=h.ex
 refine wpAny_Call_Name_kw (a5l I hg hm ?_ hdb)
 refine PySem.W.callWith_K (h₀:=X.base) I.ok.mod.kin hk (thn (ha pos pins s σ H _ I hw) fun us s1 ⟨vs,H1,I1,r,q⟩=>⟨I1.kIn,?_⟩) he hpl
 exact b8e F hr hb T Pl I1 r q
end
section
variable {X:Cx}{F0:Hp}{R:AX}{k:Nat}{x:Str}{ps:List Str}{sa:SpA}{p pos:Pos}{e:Expr}{es:List Expr}{tt:AA}
def b18(sa:SpA)(R:AX)(t:AA):AE:=fun Γ M Q=>t Γ M fun ds M1=>sa (ds++[.non]) M1 Q fun cls M'=>R Γ M' cls
theorem a77(h:HasD X.prog X.w X.K X.mg X.base k x ps (a0k X.K sa))(hr:Room k X.A)(hg:Gl X x)(c:Cat X F0 R)(ha:PAA X F0 (e::es) tt)
   (hdb:(x==("__debug__":Str))=false:=by decide) (he:starEach (e::es) X.env=(false,eval e X.env)::starEach es X.env:=by rfl) (hpl:(backTo pos (starEach es X.env)).any (·.1)=false:=by rfl):
   PEA X F0 (.Call (.Name x p) (e::es) [] pos) (b18 sa R tt):=by
 refine⟨?_⟩
 intro F Γ M σ H Q f0 g mm hw
 refine(b51 h hr hg c.thr c.pl a1q hdb he hpl).to ((ha.run F Γ M σ H _ f0 g mm hw).mono fun vs H1 zz9=> ?_)
 obtain⟨ds,F1,M1,s1,m1,r1,q1⟩:=zz9
 exact⟨F1,ds++[.non],M1,_,_,m1,r1.append (.cons .non .nil),q1,fun v H' z=>z.dn s1,fun cls H' ⟨F',M',s',m',q'⟩ a=>⟨F',Γ,M',f0.trans (s1.trans s'),g.up (s1.trans s'),m',q'⟩⟩
end
section
variable {X:Cx}{pins:List (Addr×Obj)}{σ:St}{H:Hp}{s:Shared}
theorem Inv.thaw{d:Addr}{kvs:List (Key×V)}{o:Obj}(I:Inv X pins σ H s)(hd:H d=some (.frz o (.dK kvs)))(h0: ∀o u,X.H₀ d≠some (.frz o u)):Inv X pins σ (upd H d (.dK kvs)) s:=by
 have key: ∀b u,H b=some u->(∀o ws,u≠ .frz o (.dK ws))->upd H d (.dK kvs) b=some u:=fun b u e n=>by
   rw[a0o (by rintro rfl;rw[hd]at e;cases e;exact n _ _ rfl)];exact e
 have nn: ∀b,H b=none->upd H d (.dK kvs) b=none:=fun b e=>by
   rw[a0o (by rintro rfl;rw[hd]at e;cases e)];exact e
 refine⟨I.ok,I.os,I.bare,⟨I.base.keep,I.base.slot,fun c oc e n hx=>nn c (I.base.free c oc e n hx),I.base.there,fun c xs e=>key c _ (I.base.tups c xs e) (fun _ _ z=>by cases z),fun c oc u e=> ?_,fun c ps e=> ?_⟩,I.loc,I.cell,nn _ I.free,fun x c e=>nn _ (I.freeC x c e),fun p hp=> ?_,fun c u q=> ?_,I.len⟩
 . have:=I.base.frzs c oc u e
   rw[a0o (by rintro rfl;exact h0 _ _ e)];exact this
 . obtain⟨m1,e'⟩:=I.base.tbls c ps e
   exact⟨m1,key c _ e' (fun _ _ z=>by cases z)⟩
 . obtain⟨e,n,n1,n2,dd⟩:=I.pin p hp
   exact⟨e,nn _ n,n1,n2,dd⟩
 . have st: ∀{b:Addr}{u:HO},ObjOk X.prog X.w H s.heap b u->ObjOk X.prog X.w (upd H d (.dK kvs)) s.heap b u:=fun x=>x.stay (fun _ _ _ r=>r) (fun c' r=>key c' _ r (fun _ _ z=>by cases z)) fun c' xs r=>key c' _ r (fun _ _ z=>by cases z)
   by_cases hc:c=d
   . subst hc
     rw[a0t]at q
     cases q
     exact st (I.hok c _ hd).2
   . rw[a0o hc]at q
     exact st (I.hok c u q)
end
section
variable {X:Cx}{F0:Hp}{R:AX}{tg o:Expr}{td:AE}{apos cpos:Pos}
theorem selfE.frzs{e:Expr}{σ:St}{H:Hp}{Q:VK}(h:selfE X e σ H Q):selfE X e σ H fun v H'=>Q v H'/\ ∀b o u,X.H₀ b=some (.frz o u)->H' b=some (.frz o u):=fun pins s I=>thn (h pins s I) fun _ _ ⟨v,H',J,r,q⟩=>⟨v,H',J,r,q,J.base.frzs⟩
def aForI(td:AE)(gt:AGt)(tb:AS):AS:=fun E Γ M=>td Γ M fun x M1=>match x with
 | .obj p=>(match M1 p with
   |some (.dic kvs)=> ∀u,LoopP ⟨kvs.length,itemAt kvs,fun M=>M p=some (.raw u)⟩ gt tb {E with nx:=fun Γ' M'=>M' p=some (.raw u)/\E.nx Γ' (put M' p (.dic kvs))} Γ (put M1 p (.raw u))
   |_=>False)
 |_=>False
theorem AM.lie{K:PySem.W.Frag}{F:Hp}{M:Mem}{H:Hp}{p:Addr}{o:MO}{u:HO}(m:AM K F M H)(hp:M p=some o):AM K F (put M p (.raw u)) (upd H p u):=m.set hp (u:=u) (o':= .raw u) rfl
theorem sForI{elts:List Expr}{kk:Nat}{tpos pos:Pos}{body:List Stmt}{gt:AGt}{tb:AS}(k:Cat X F0 R)(ho:PEA X F0 o td)(hg:PGA X F0 (.Tuple elts kk tpos) gt)(hb:PSsA X F0 body tb)
   (hbase:attributeBase o "items" X.env (eval o X.env)=eval o X.env:=by rfl) (hline:(apos.endLine==cpos.line)=true:=by rfl)
   (hs: ∀x,foldedSetIterable (.Call (.Attribute o "items" apos) [] [] cpos) X.env x=pure x:=by intro _;rfl):
   PSA X F0 (.For (.Tuple elts kk tpos) (.Call (.Attribute o "items" apos) [] [] cpos) body [] pos) (aForI td gt tb):=by
 refine⟨?_⟩
 intro F Γ M σ H E f0 g m h
 intro pins0 s0 I0
 let D':Ends:={PQD X.K F E with nx:=fun σ' H'=> ∃F1 F' Γ' M' p kvs ws ob,Same F F1/\Same F1 F'/\PF X.K F1 ws kvs/\(∀o u,X.H₀ p≠some (.frz o u))/\AG X.K F' Γ' σ'/\AM X.K F' M' H'/\M' p=some (.raw (.frz ob (.dK ws)))/\E.nx Γ' (put M' p (.dic kvs))}
 have main:selfS X (.For (.Tuple elts kk tpos) (.Call (.Attribute o "items" apos) [] [] cpos) body [] pos) D' σ H:=by
   intro pins1 s1 I1
   refine(ps_for (k.pass I0.ok.frames) k.calm (pi_itms a0l hbase hline) a8r a2a hs).to ?_ pins1 s1 I1
   refine(selfE.frzs (ho.run F Γ M σ H _ f0 g m h)).mono fun v H1 zz9=> ?_
   obtain⟨⟨d,F1,M1,s1,m1,r1,q1⟩,hz⟩:=zz9
   obtain⟨p,rfl⟩: ∃p,d= .obj p:=by
     cases d<;>first |exact q1.elim |exact⟨_,rfl⟩
   cases r1
   try dsimp only at q1
   split at q1
   . rename_i kvs hp
     obtain⟨u,e1,ro⟩:=m1.mem _ _ hp
     obtain⟨ws,rfl,pf⟩:=ro.isD
     have hl:=pf.length
     have h0: ∀o u,X.H₀ p≠some (.frz o u):=fun o u z=>by
       have:=hz p o u z
       rw[e1]at this;cases this
     refine⟨.inr (.inr (.inl ⟨rfl,.inl ⟨ws,e1⟩⟩)),p,ws,rfl,rfl,.inl e1,fun vw hvw=>⟨p,ws,vw,rfl,a0t,?_,fun ob=> ?_⟩⟩
     . rw[a0o (fun z=>by rw[z,hvw]at e1;cases e1)];exact e1
     . obtain⟨W,w0,turn⟩:=q1 (.frz ob (.dK ws))
       have m2:=(m1.more (u:= .ext (viewφ "dict_items" vw p)) hvw).lie (u:= .frz ob (.dK ws)) hp
       refine⟨fun i n σ' H'=>n=kvs.length- i/\i<=kvs.length/\ ∃F' Γ' M',Same F1 F'/\AG X.K F' Γ' σ'/\AM X.K F' M' H'/\W i Γ' M',⟨kvs.length,rfl,Nat.zero_le _,F1,Γ,_,.refl _,g.up s1,m2,w0⟩,?_⟩
       rintro i n σ3 H3 ⟨rfl,hle,F3,Γ3,M3,s3,g3,m3,w3⟩
       obtain⟨hh,w3⟩:=turn i Γ3 M3 w3
       have hH:H3 p=some (.frz ob (.dK ws)):=by
         obtain⟨u',e4,r4⟩:=m3.mem _ _ hh
         rw[e4];exact congrArg some r4
       by_cases hlt:i<kvs.length
       . rw[if_pos hlt]at w3
         refine .inr ⟨⟨by rw[hl];exact hlt,hH⟩,PQg X.K F1 (W (i+1)),fun σ' H' ⟨F',Γ',M',s',g',m',w'⟩=>⟨kvs.length- (i+1),by omega,rfl,hlt,F',Γ',M',s',g',m',w'⟩,fun x H' y=> ?_⟩
         obtain⟨T,kk',v,hT,e,rfl,rfl⟩:=y
         obtain⟨d,e2,rd⟩:=pf_at pf e
         have s4:=a1h (u:= .tup [kV kk',v]) (m3.fF hT)
         have r4:RD X.K (upd F3 T (.tup [kV kk',v])) (.ref T) (itemAt kvs i):=by
           unfold itemAt
           rw[e2]
           exact .tup a0t (.cons (key_of' kk') (.cons (rd.up (s3.trans s4)) .nil))
         refine(hg.run _ Γ3 M3 σ3 _ _ _ _ (f0.trans (s1.trans (s3.trans s4))) (g3.up s4) (m3.frz hT) r4 w3).mono fun σ5 H5 zz9=> ?_
         obtain⟨F5,Γ5,M5,s5,g5,m5,q5⟩:=zz9
         have sx:=s3.trans (s4.trans s5)
         have nxt: ∀σ' H',PQg X.K F5 (fun Γ' M'=>M' p=some (.raw (.frz ob (.dK ws)))/\E.nx Γ' (put M' p (.dic kvs))) σ' H'->D'.nx σ' H':=fun σ' H' ⟨F',Γ',M',s',g',m',hp',q'⟩=>⟨F1,F',Γ',M',p,kvs,ws,ob,s1,sx.trans s',pf,h0,g',m',hp',q'⟩
         exact(hb.run F5 Γ5 M5 σ5 H5 _ (f0.trans (s1.trans sx)) g5 m5 q5).mono ⟨fun _ _ z=>PQg.dn sx z,fun _ _ z=>PQ.dn (s1.trans sx) z,nxt,fun _ _ z=>PQg.dn sx z⟩
       . rw[if_neg hlt]at w3
         exact .inl ⟨⟨by omega,hH⟩,F1,F3,Γ3,M3,p,kvs,ws,ob,s1,s3,pf,h0,g3,m3,w3.1,w3.2⟩
   . exact q1.elim
 refine thn (main pins0 s0 I0) fun f s' q=> ?_
 cases f with
 |next=>
   obtain⟨σ',H',I,F1,F',Γ',M',p,kvs,ws,ob,e1,e2,pf,h0,g',m',hp,q⟩:=q
   obtain⟨u,e3,ro⟩:=m'.mem _ _ hp
   have ro:u= .frz ob (.dK ws):=ro
   subst ro
   exact⟨σ',upd H' p (.dK ws),I.thaw e3 h0,F',Γ',_,e1.trans e2,g',m'.set hp (u:= .dK ws) (o':= .dic kvs) (pf.up e2),q⟩
 |brk=>exact q
 |cont=>exact q
 |ret u=>exact q
end
section
variable {X:Cx}{F0:Hp}{tg l:Expr}{tl:AE}{pos:Pos}
end
section
variable {X:Cx}
theorem a9h: ∀l:List (Str×Tok),Vals ((l.map (·.1)).map V.str) (strValues l)
 | []=> .nil
 |p::r=> .cons ⟨p.2,rfl⟩ (a9h r)
def rSplit:V->List V->Hp->VK->Prop:=fun x vs H Q=> ∃a b,x= .str a/\vs=[.str b]/\(b.length==0)=false/\a.length<=1000000/\ ∀p,H p=none->Q (.ref p) (upd H p (.lst ((Txt.split a b).map V.str)))
theorem b23:MtR X "str.split" rSplit:=by
 intro pins s σ H x vs v us Q I rx rv h
 obtain⟨a,b,rfl,rfl,hb,ha,q⟩:=h
 obtain⟨t,rfl⟩:=rx
 obtain⟨u,rfl,ru⟩:=rv.one
 obtain⟨t',rfl⟩:=ru
 have fin: ∀(l:List (Str×Tok)) (k:Nat),l.map (·.1)=Txt.split a b->(Txt.split a b).length<=sizeLine->EP X pins σ Q (.ref s.heap.objs.size) {s with heap:=s.heap.push {cls:= .type "list",data:= .seq (strValues l).toArray},toks:=k}:=by
   intro l k hl hz
   have hf:H s.heap.objs.size=none:=I.hok.fresh (Nat.le_refl _)
   refine⟨.ref s.heap.objs.size,upd H s.heap.objs.size (.lst ((Txt.split a b).map V.str)),I.laid (t':=k) (fun b u e=>Heap.get?_push_of_some _ e) (Nat.le_refl _) ?_,rfl,q _ hf⟩
   exact⟨by rw[List.length_map];exact hz,strValues l,0,by rw[<-hl];exact a9h l,Heap.get?_push_size _ rfl⟩
 have hz1:(1000000:Nat)+2<=sizeLine:=by decide
 have hn:(Builtin.Str.partsBetween a (Builtin.Str.occurrences a b 0 a.length (a.length+1)) b.length).length<=sizeLine:=by
   have e1:=StrLaws.occ_length_le a b 0 a.length (a.length+1)
   rw[length_partsBetween];omega
 cases h1:(decide (a.length<b.length)||decide (Builtin.Str.strKind a<Builtin.Str.strKind b))
 . cases hf:(Builtin.Str.occurrences a b 0 a.length (a.length+1)).isEmpty
   . have es:Txt.split a b=Builtin.Str.partsBetween a (Builtin.Str.occurrences a b 0 a.length (a.length+1)) b.length:=(if_neg (ne_true_of_eq_false h1)).trans (if_neg (ne_true_of_eq_false hf))
     refine call_meets F.slot_str_split (typeIs_str _ _ _) F.entry_str_split (F.args_str_split_2 _ _) (meets_str_split_sep a b t t' h1 hb hf (by omega) hn) ?_
     show wants _ _ _ {s with toks:=_,heap:=s.heap.push {cls:= .type "list",data:= .seq (strsFrom s.toks (Builtin.Str.partsBetween a (Builtin.Str.occurrences a b 0 a.length (a.length+1)) b.length)).toArray}}
     rw[strsFrom_eq]
     exact fin (numbered s.toks _) _ ((numbered_texts _ _).trans es.symm) (by rw[es];exact hn)
   . have es:Txt.split a b=[a]:=(if_neg (ne_true_of_eq_false h1)).trans (if_pos hf)
     exact call_meets F.slot_str_split (typeIs_str _ _ _) F.entry_str_split (F.args_str_split_2 _ _) (meets_str_split_not_found a b t t' h1 hb hf) (fin [(a,t)] s.toks es.symm (by rw[es];exact Nat.le_trans (Nat.le_refl 1) (by decide)))
 . have es:Txt.split a b=[a]:=if_pos h1
   exact call_meets F.slot_str_split (typeIs_str _ _ _) F.entry_str_split (F.args_str_split_2 _ _) (meets_str_split_cannot_occur a b t t' h1) (fin [(a,t)] s.toks es.symm (by rw[es];exact Nat.le_trans (Nat.le_refl 1) (by decide)))
def oSplit:A1m:=fun x vs M Q=>match x,vs with
 | .str a,[.str b]=>(b.length==0)=false/\a.length<=1000000/\Q (.lst ((Txt.split a b).map D.str)) M
 |_,_=>False
theorem b2s{K:PySem.W.Frag}{F:Hp}: ∀ss:List Str,RDs K F (ss.map V.str) (ss.map D.str)
 | []=> .nil
 |x::ss=> .cons (.str x) (b2s ss)
theorem lSplit{K:PySem.W.Frag}:LM K rSplit oSplit:=by
 intro F M H x d xs ds Q R m rx r h k
 unfold oSplit at h
 split at h
 . rename_i a b
   obtain⟨h1,h2,q⟩:=h
   cases rx
   obtain⟨y,rfl,ry⟩:=r.one'
   cases ry
   refine⟨a,b,rfl,rfl,h1,h2,fun p hp=>k _ _ ⟨_,upd F p (.lst ((Txt.split a b).map V.str)),M,a1h (m.fF hp),m.frz hp,.lst a0t (b2s _),q⟩⟩
 . exact h.elim
theorem a9l: ∀{ss:List Str}{its:List Value},Vals (ss.map V.str) its-> ∃l:List (Str×Tok),its=strValues l/\l.map (·.1)=ss
 | [],_,.nil=>⟨[],rfl,rfl⟩
 |x::ss,_,.cons ⟨t,e⟩ r=>by
   obtain⟨l,rfl,h⟩:=a9l (ss:=ss) r
   subst e
   exact⟨(x,t)::l,rfl,by rw[List.map_cons,h]⟩
noncomputable def a4v(sep:Str)(ss:List Str):Str:=Builtin.Str.glued sep ss
noncomputable def b65(sep:Str)(ss:List Str):Nat:=ss.toArray.foldl (· + ·.length+sep.length) 0
def rJoin(K:PySem.W.Frag):V->List V->Hp->VK->Prop:=fun x vs H Q=> ∃sep p ss,x= .str sep/\vs=[.ref p]/\SqL K H p (ss.map V.str)/\b65 sep ss<=1000000/\(a4v sep ss).length<=1000000/\Q (.str (a4v sep ss)) H
theorem mt_join:MtR X "str.join" (rJoin X.K):=by
 intro pins s σ H x vs v us Q I rx rv h
 obtain⟨sep,p,ss,rfl,rfl,hq,hn,hl,q⟩:=h
 obtain⟨t,rfl⟩:=rx
 obtain⟨u,rfl,ru⟩:=rv.one
 cases ru
 obtain⟨its,r,pl,hz⟩:=I.list hq
 obtain⟨l,rfl,hls⟩:=a9l r
 have z1:(1000000:Nat)<=sizeLine:=by decide
 have hm:Builtin.Str.tooLong ((l.map (·.1)).toArray.foldl (· + ·.length+sep.length) 0)=false:=by
   rw[hls]
   unfold b65 at hn
   unfold Builtin.Str.tooLong
   exact decide_eq_false (by omega)
 refine call_meets F.slot_str_join (typeIs_str _ _ _) F.entry_str_join (F.args_str_join_2 _ _) (meets_str_join_list sep t p l hm) ⟨pl.isList,?_⟩
 unfold a4v at q hl
 rw[<-hls]at q hl
 cases l with
 |nil=>exact⟨Nat.le_trans hl z1,.str _,H,I.kept (t':=s.toks+1) fun _ _ e=>e,⟨_,rfl⟩,q⟩
 |cons a l=>
   cases l with
   |nil=>
     have e1:Builtin.Str.glued sep ([a].map (·.1))=a.1:=(StrLaws.glued_eq_join sep _).trans rfl
     rw[e1]at q
     exact⟨.str a.1,H,I,⟨a.2,rfl⟩,q⟩
   |cons b l=>exact⟨Nat.le_trans hl z1,.str _,H,I.kept (t':=s.toks+1) fun _ _ e=>e,⟨_,rfl⟩,q⟩
noncomputable def a9m:List D->Option (List Str)
 | []=>some []
 | .str x::ds=>(a9m ds).map (x:: ·)
 |_=>none
theorem b5c(ss:List Str):a9m (ss.map D.str)=some ss:=by
 induction ss with
 |nil=>rfl
 |cons x ss ih=>rw[List.map_cons];unfold a9m;rw[ih];rfl
theorem b2e: ∀{ds:List D}{ss:List Str},a9m ds=some ss->ds=ss.map D.str
 | [],ss,h=>by cases h;rfl
 | .str x::ds,ss,h=>by
   unfold a9m at h
   cases hd:a9m ds with
   |none=>rw[hd]at h;cases h
   |some l=>rw[hd]at h;cases h;rw[List.map_cons,<-b2e hd]
 | .non::_,_,h=>by cases h
 | .bl _::_,_,h=>by cases h
 | .int _::_,_,h=>by cases h
 | .lst _::_,_,h=>by cases h
 | .tup _::_,_,h=>by cases h
 | .scr _::_,_,h=>by cases h
 | .ctp _::_,_,h=>by cases h
 | .obj _::_,_,h=>by cases h
theorem a9t{K:PySem.W.Frag}{F:Hp}: ∀{ss:List Str}{xs:List V},RDs K F xs (ss.map D.str)->xs=ss.map V.str
 | [],_,.nil=>rfl
 |_::ss,_,.cons h t=>by cases h;rw[a9t t];rfl
def oJoin:A1m:=fun x vs M Q=>match x,vs with
 | .str sep,[d]=>(match (dr M d).bind a9m with |some ss=>b65 sep ss<=1000000/\(a4v sep ss).length<=1000000/\Q (.str (a4v sep ss)) M |none=>False)
 |_,_=>False
theorem lJoin{K:PySem.W.Frag}:LM K (rJoin K) oJoin:=by
 intro F M H x d xs ds Q R m rx r h k
 unfold oJoin at h
 split at h
 . rename_i sep d'
   split at h
   . rename_i ss hs
     obtain⟨h1,h2,q⟩:=h
     cases rx
     obtain⟨y,rfl,ry⟩:=r.one'
     cases hd:dr M d' with
     |none=>rw[hd]at hs;cases hs
     |some l=>
       rw[hd]at hs
       have hl:=b2e (show a9m l=some ss from hs)
       subst hl
       obtain⟨p,vs,rfl,e,rr⟩:=a4y m ry hd
       have e1:=a9t rr
       subst e1
       exact⟨sep,p,ss,rfl,rfl,e,h1,h2,k _ _ (.here m (.str _) q)⟩
   . exact h.elim
 . exact h.elim
end
section
variable {X:Cx}{F0:Hp}{e:Expr}{es:List Expr}{te:AE}{pos:Pos}
noncomputable def intS(i:Int):Str:=toString i
theorem b6o{n:Nat}(h:n<2^64):n.log2<1920:=by
 by_cases h0:n=0
 . subst h0;decide
 . exact Nat.lt_trans (Nat.log2_lt h0|>.mpr h) (by decide)
noncomputable abbrev AF:=Str->G->Mem->(Str->Mem->Prop)->Prop
structure PFA(X:Cx)(F0:Hp)(es:List Expr)(t:AF):Prop where
 run: ∀acc F Γ M σ H Q,Same F0 F->AG X.K F Γ σ->AM X.K F M H->acc.length<=1000000->t acc Γ M Q-> ∀pins s,Inv X pins σ H s->wpAny (model X.prog X.w) X.A (joinParts acc (evalEach es X.env)) (EP X pins σ (PQ X.K F fun d M'=> ∃y,d= .str y/\Q y M')) X.xe s
end
section
variable {X:Cx}
def rIntT:List V->Hp->VK->Prop:=fun xs H Q=> ∃x n,xs=[.str x]/\PySem.intText? x=some n/\x.length<=640/\Q (.int n) H
theorem b7z:CallR X (.type "int") rIntT:=by
 intro pins s σ H xs us Q I r h
 obtain⟨x,n,rfl,hn,hl,q⟩:=h
 obtain⟨u,rfl,rx⟩:=b0s r
 obtain⟨t,rfl⟩:=rx
 exact PySem.W.KIN.call_text hn hl ⟨.int n,H,I.kept (t':=s.toks+1) (fun _ _ e=>e),⟨_,rfl⟩,q⟩
noncomputable def oIntT:A1s:=fun ds M Q=>match ds with
 | [.str x]=>opt (PySem.intText? x) fun n=>x.length<=640/\Q (.int n) M
 |_=>False
theorem lIntT{K:PySem.W.Frag}:LC K rIntT oIntT:=by
 intro F M H xs ds Q R m r h k
 unfold oIntT at h
 split at h
 . rename_i x
   obtain⟨y,rfl,ry⟩:=r.one'
   cases ry
   obtain⟨n,hn,hl,q⟩:=a1v h
   exact⟨x,n,rfl,hn,hl,k _ _ (.here m (.int n) q)⟩
 . exact h.elim
def rStrI:List V->Hp->VK->Prop:=fun xs H Q=> ∃i,xs=[.int i]/\i.natAbs<2^64/\Q (.str (intS i)) H
theorem b7w:CallR X (.type "str") rStrI:=by
 intro pins s σ H xs us Q I r h
 obtain⟨i,rfl,hl,q⟩:=h
 obtain⟨u,rfl,rx⟩:=b0s r
 obtain⟨t,rfl⟩:=rx
 exact P.str_of_int (b6o hl) ⟨.str (intS i),H,I.kept (t':=s.toks+1) (fun _ _ e=>e),⟨_,rfl⟩,q⟩
noncomputable def oStrI:A1s:=fun ds M Q=>match ds with
 | [.int i]=>i.natAbs<2^64/\Q (.str (intS i)) M
 |_=>False
theorem lStrI{K:PySem.W.Frag}:LC K rStrI oStrI:=by
 intro F M H xs ds Q R m r h k
 unfold oStrI at h
 split at h
 . rename_i i
   obtain⟨y,rfl,ry⟩:=r.one'
   cases ry
   exact⟨i,rfl,h.1,k _ _ (.here m (.str _) h.2)⟩
 . exact h.elim
end
end L2
namespace K8
open PySem PySem.Spec PySem.Calls PyProof.Rows L2
local macro_rules
 | `(tactic| simp! only [$xs,*] $[$l]?) => `(tactic| simp only [aYes, Bool.and_self, at0, at1, at2, at3, aSeq, aNext, aIf, aFor, iaR1, iaR2, iaR3, iaS, iaL, gaN, aSl, aPart, aNoPart, aT, aOp, aV, aC, aRet, aRetN, aTup, aLst, aLstM, b0r, aNil, aAnd, aOr, aNot, aAndV, aOrV, aNotV, aSet, aAsg, b19, b71, aFun, aUn, oAdd, addF, addC, oI, oIc, b7k, eqq_str, eqq_bl, neq_int, b6c, neq_bl, oIsN, b1q, oNeg, oLen, lenF, lenC, oIx, ixF, ixC, oIn, inB, oSl, slF, slC, Option.bind_some, Option.map_some, true_and, L2.dq, L2.dr, L2.dl, L2.dd, a3s, a1e, a2v, keyD, aFldC, aDPut, oDIn, aDGet, aDPop, aDGet1, aSetF, aDNew, aRaise, b70, oCat, oCatM, a72, List.map_cons, List.map_nil, List.length_cons, List.length_nil, List.replicate, List.cons_append, List.nil_append, List.getElem?_cons_zero, List.getElem?_cons_succ, List.set_cons_zero, List.set_cons_succ, Nat.reduceAdd, Nat.reduceSub, if_true, Bool.false_eq_true, if_false, $xs,*] $[$l]?)
noncomputable def letters:List Nat:=("abcdefghijklmnopqrstuvwxyz":Str).cps.toList
noncomputable def a1s(x:Str):Bool:= !(decide (x.length<1)||decide (8<x.length))&&x.cps.toList.all fun c=>decide (c∈letters)
structure TS where
 ws:List (Str×Int)
 js:List (Int×Str×Str×Str)
 nx:Int
noncomputable def dW(ws:List (Str×Int)):List (Key×D):=ws.map fun w=>(Sum.inr w.1,.int w.2)
noncomputable def eJ(j:Int×Str×Str×Str):D:= .tup [.int j.1,.str j.2.1,.str j.2.2.1,.str j.2.2.2]
noncomputable def eW(w:Str×Int):D:= .tup [.str w.1,.int w.2]
noncomputable def dJ(js:List (Int×Str×Str×Str)):List (Key×D):=js.map fun j=>(Sum.inl j.1,eJ j)
noncomputable def fsT(d1 d2:Addr)(n:Int):List (Str×D):=[("teeth_of",.obj d1),("join_of",.obj d2),("next_number",.int n)]
structure Tr(C:Addr)(M:Mem)(p d1 d2:Addr)(S:TS):Prop where
 self:M p=some (.ins C (fsT d1 d2 S.nx))
 teeth:M d1=some (.dic (dW S.ws))
 join:M d2=some (.dic (dJ S.js))
 ne:d1≠d2
 lt: ∀j∈S.js,j.1<S.nx
inductive Rk where
 |noName |twice |noTeeth |full |noWheel |noJoin
noncomputable def TS.has(S:TS)(n:Str):Bool:=S.ws.any fun w=>decide (w.1=n)
noncomputable def refW(S:TS)(n:Str)(t:Int):Option Rk:=
 if a1s n=false then some .noName else if S.has n=true then some .twice else if t<1\/1000000000<=t then some .noTeeth else if 100<=S.ws.length then some .full else none
noncomputable def a2u(k:Str):Bool:=decide (k="mesh")||decide (k="pin")||decide (k="band")||decide (k="cross")
noncomputable def refJ(S:TS)(k a b:Str):Option Rk:=
 if a2u k=false then some .noJoin else if S.has a=false\/S.has b=false then some .noWheel else if a=b then some .noJoin else if 200<=S.js.length then some .full else none
noncomputable def TS.hasJ(S:TS)(n:Int):Bool:=S.js.any fun j=>decide (j.1=n)
noncomputable def refL(S:TS)(n:Int):Option Rk:=if S.hasJ n=false then some .noJoin else none
theorem b1v(ws:List (Str×Int))(n:Str):(getK (dW ws) (Sum.inr n)).isSome=ws.any fun w=>decide (w.1=n):=by
 induction ws with
 |nil=>rfl
 |cons w ws ih=>
   unfold dW getK at ih |-
   simp only[List.map_cons,List.find?_cons,List.any_cons,Sum.inr.injEq]
   by_cases h:w.1=n
   . simp[h]
   . simp only[h,decide_false,Bool.false_or];exact ih
theorem b1w(js:List (Int×Str×Str×Str))(n:Int):(getK (dJ js) (Sum.inl n)).isSome=js.any fun j=>decide (j.1=n):=by
 induction js with
 |nil=>rfl
 |cons w ws ih=>
   unfold dJ getK at ih |-
   simp only[List.map_cons,List.find?_cons,List.any_cons,Sum.inl.injEq]
   by_cases h:w.1=n
   . simp[h]
   . simp only[h,decide_false,Bool.false_or];exact ih
theorem a2q{kvs:List (Key×D)}{k:Key}{v:D}(h:(getK kvs k).isSome=false):a53 kvs k v=kvs++[(k,v)]:=by
 unfold a53;rw[h];rfl
theorem b7n(js:List (Int×Str×Str×Str))(n:Int):a5y (dJ js) (Sum.inl n)=dJ (js.filter fun j=>decide (j.1≠n)):=by
 unfold a5y dJ
 rw[List.filter_map]
 congr 1
 apply List.filter_congr
 intro j _
 simp[Function.comp]
inductive Deed where
 |wheel (n:Str) (t:Int) |join (k a b:Str) |less (n:Int)
def Deed.ok:Deed->Prop
 | .wheel n _=>n.length<=1000
 |_=>True
noncomputable def wordOf:Rk->Str
 | .noName=>"no name" | .twice=>"twice" | .noTeeth=>"no teeth" | .full=>"full" | .noWheel=>"no wheel" | .noJoin=>"no join"
noncomputable def refD(S:TS):Deed->Option Rk
 | .wheel n t=>refW S n t
 | .join k a b=>refJ S k a b
 | .less n=>refL S n
noncomputable def gives(S:TS):Deed->D
 | .join _ _ _=> .int S.nx
 |_=> .non
noncomputable def behind(S:TS):Deed->TS
 | .wheel n t=>{S with ws:=S.ws++[(n,t)]}
 | .join k a b=>{S with js:=S.js++[(S.nx,k,a,b)],nx:=S.nx+1}
 | .less n=>{S with js:=S.js.filter fun j=>decide (j.1≠n)}
noncomputable def due(S:TS)(d:Deed):D:=match refD S d with
 |some r=> .tup [.str "refused",.str (wordOf r)]
 |none=> .tup [.str "done",gives S d]
noncomputable abbrev Jn:=Int×Str×Str×Str
noncomputable abbrev Ld:=Int×Str×Str
noncomputable abbrev TT:=List (Str×Option Ld)
noncomputable def a7w(here:Str)(j:Jn):List Ld:=(if j.2.2.1=here then[(j.1,j.2.1,j.2.2.2)]else[])++(if j.2.2.2=here then[(j.1,j.2.1,j.2.2.1)]else[])
noncomputable def lead(js:List Jn)(here:Str):List Ld:=js.flatMap (a7w here)
noncomputable def eL(l:Ld):D:= .tup [.int l.1,.str l.2.1,.str l.2.2]
noncomputable def names(t:TT):List Str:=t.map Prod.fst
noncomputable def eE:Option Ld->D
 |none=> .non
 |some l=>eL l
noncomputable def encT(t:TT):List (Key×D):=t.map fun e=>(Sum.inr e.1,eE e.2)
noncomputable def ends(js:List Jn):List Str:=js.flatMap fun j=>[j.2.2.1,j.2.2.2]
noncomputable def a4e(js:List Jn)(t:TT):Nat:=((ends js).filter fun n=>decide (n∉names t)).length
inductive Grown(js:List Jn)(start:Str):TT->Prop where
 |root:Grown js start [(start,none)]
 |more (t:TT) (n:Str) (e:Ld) (g:Grown js start t) (new:n∉names t) (old:e.2.2∈names t) (by_:(e.1,e.2.1,n)∈lead js e.2.2):Grown js start (t++[(n,some e)])
def Closed(js:List Jn)(t:TT):Prop:= ∀n∈names t,∀l∈lead js n,l.2.2∈names t
inductive Reach(js:List Jn)(a:Str):Str->Prop where
 |refl:Reach js a a
 |step {b:Str}{l:Ld} (h:Reach js a b) (hl:l∈lead js b):Reach js a l.2.2
inductive Way(js:List Jn):Str->List (Int×Str)->Str->Prop where
 |nil (a:Str):Way js a [] a
 |cons {a b:Str}{l:Ld}{st:List (Int×Str)} (hl:l∈lead js a) (h:Way js l.2.2 st b):Way js a ((l.1,l.2.2)::st) b
theorem a08(t:TT)(n:Str)(e:Option Ld):names (t++[(n,e)])=names t++[n]:=by simp[names]
theorem b6u(here:Str)(j:Jn):(a7w here j).length<=2:=by
 unfold a7w;rw[List.length_append]
 split<;>split<;>simp
theorem b3c(js:List Jn)(here:Str):(lead js here).length<=2 *js.length:=by
 induction js with
 |nil=>simp[lead]
 |cons j js ih=>
   have:=b6u here j
   unfold lead at ih |-
   rw[List.flatMap_cons,List.length_append,List.length_cons];omega
theorem b6t{js:List Jn}{here:Str}{l:Ld}(h:l∈lead js here):l.2.2∈ends js:=by
 unfold lead at h
 obtain⟨j,hj,h⟩:=List.mem_flatMap.mp h
 unfold ends
 refine List.mem_flatMap.mpr ⟨j,hj,?_⟩
 unfold a7w at h
 rcases List.mem_append.mp h with h |h
 . split at h
   . have:l=(j.1,j.2.1,j.2.2.2):=by simpa using h
     subst this;simp
   . cases h
 . split at h
   . have:l=(j.1,j.2.1,j.2.2.1):=by simpa using h
     subst this;simp
   . cases h
theorem b9g(js:List Jn):(ends js).length=2 *js.length:=by
 induction js with
 |nil=>rfl
 |cons j js ih=>
   unfold ends at ih |-
   rw[List.flatMap_cons,List.length_append,List.length_cons,ih];simp;omega
theorem b1z{α:Type}{p q:α->Bool}{l:List α}{x:α}(hx:x∈l)(hp:p x=true)(hq:q x=false)(h: ∀y,q y=true->p y=true):(l.filter q).length+1<=(l.filter p).length:=by
 induction l with
 |nil=>cases hx
 |cons y l ih=>
   have all: ∀l:List α,(l.filter q).length<=(l.filter p).length:=by
     intro l
     induction l with
     |nil=>exact Nat.le_refl _
     |cons z l ih2=>
       rw[List.filter_cons,List.filter_cons]
       cases hz:q z with
       |true=>rw[if_pos (h z hz),if_pos rfl,List.length_cons,List.length_cons];omega
       |false=>
         rw[if_neg Bool.false_ne_true]
         split
         . rw[List.length_cons];omega
         . exact ih2
   rw[List.filter_cons,List.filter_cons]
   rcases List.mem_cons.mp hx with rfl |hx
   . rw[if_pos hp,hq,if_neg Bool.false_ne_true,List.length_cons]
     have:=all l;omega
   . have:=ih hx
     cases hz:q y with
     |true=>rw[if_pos (h y hz),if_pos rfl,List.length_cons,List.length_cons];omega
     |false=>
       rw[if_neg Bool.false_ne_true]
       split
       . rw[List.length_cons];omega
       . exact this
theorem b0t{js:List Jn}{t:TT}{n:Str}{e:Option Ld}(h:n∈ends js)(hn:n∉names t):a4e js (t++[(n,e)])+1<=a4e js t:=by
 unfold a4e
 refine b1z h (decide_eq_true hn) (decide_eq_false fun z=>z ?_) fun y hy=> ?_
 . rw[a08];simp
 . have hy:=of_decide_eq_true hy
   rw[a08]at hy
   exact decide_eq_true fun z=>hy (List.mem_append_left _ z)
theorem Grown.nodup{js:List Jn}{s:Str}{t:TT}(g:Grown js s t):(names t).Nodup:=by
 induction g with
 |root=>simp[names]
 |more t n e g new old by_ ih=>
   rw[a08]
   rw[List.nodup_append]
   refine⟨ih,by simp,fun a ha b hb=> ?_⟩
   have:b=n:=by simpa using hb
   subst this
   rintro rfl
   exact new ha
theorem Grown.start{js:List Jn}{s:Str}{t:TT}(g:Grown js s t):s∈names t:=by
 induction g with
 |root=>simp[names]
 |more t n e g new old by_ ih=>rw[a08];exact List.mem_append_left _ ih
theorem Grown.reach{js:List Jn}{s:Str}{t:TT}(g:Grown js s t): ∀n∈names t,Reach js s n:=by
 induction g with
 | root => intro n hn; have : n = s := by simpa [names] using hn
           subst this;exact .refl
 |more t n e g new old by_ ih=>
   intro m hm
   rw[a08]at hm
   rcases List.mem_append.mp hm with hm |hm
   . exact ih m hm
   . have:m=n:=by simpa using hm
     subst this
     exact .step (l:=(e.1,e.2.1,m)) (ih _ old) by_
theorem Grown.all{js:List Jn}{s:Str}{t:TT}(g:Grown js s t)(c:Closed js t){n:Str}(h:Reach js s n):n∈names t:=by
 induction h with
 |refl=>exact g.start
 |step h hl ih=>exact c _ ih _ hl
theorem Grown.came{js:List Jn}{s:Str}{t:TT}(g:Grown js s t){n:Str}(hn:n∈names t)(ne:n≠s):
   ∃t0 e t2,Grown js s t0/\t=t0++(n,some e)::t2/\n∉names t0/\e.2.2∈names t0/\(e.1,e.2.1,n)∈lead js e.2.2:=by
 induction g with
 |root=>exact absurd (by simpa[names]using hn) ne
 |more t m e g new old by_ ih=>
   rw[a08]at hn
   rcases List.mem_append.mp hn with hn |hn
   . obtain⟨t0,e0,t2,h1,h2,h3,h4,h5⟩:=ih hn
     exact⟨t0,e0,t2++[(m,some e)],h1,by rw[h2];simp,h3,h4,h5⟩
   . have:n=m:=by simpa using hn
     subst this
     exact⟨t,e,[],g,rfl,new,old,by_⟩
theorem b7e(t0 t2:TT)(n:Str)(e:Option Ld)(h:n∉names t0):getK (encT (t0++(n,e)::t2)) (Sum.inr n)=some (eE e):=by
 induction t0 with
 |nil=>unfold encT getK;simp
 |cons x t0 ih=>
   have hx:x.1≠n:=fun z=>h (by simp[names,z])
   have ht:n∉names t0:=fun z=>h (by unfold names at z |-;simp only[List.map_cons,List.mem_cons];exact .inr z)
   have:=ih ht
   unfold encT getK at this |-
   simp only[List.cons_append,List.map_cons,List.find?_cons,Sum.inr.injEq]
   rw[decide_eq_false hx]
   exact this
theorem a5r(t:TT)(n:Str):(getK (encT t) (Sum.inr n)).isSome=decide (n∈names t):=by
 induction t with
 |nil=>rfl
 |cons x t ih=>
   unfold encT getK names at ih |-
   simp only[List.map_cons,List.find?_cons,List.mem_cons,Sum.inr.injEq]
   by_cases h:x.1=n
   . simp[h]
   . rw[decide_eq_false h]
     have h': ¬ n=x.1:=fun z=>h z.symm
     simp only[h',false_or]
     exact ih
theorem b5u{t:TT}{n:Str}{l:Ld}(h:n∉names t):a53 (encT t) (Sum.inr n) (eL l)=encT (t++[(n,some l)]):=by
 rw[a2q (by rw[a5r,decide_eq_false h])]
 simp[encT,eE]
noncomputable def chF(s k:Nat):Nat:=97+(k/26+s) % 26
noncomputable def chL(s k:Nat):Nat:=97+(k+s) % 26
noncomputable def a2e(s k:Nat):List Nat:=
 if s % 3=0 then(if k<26 then[chL s k]else[chF s k,chL s k])else if s % 3=1 then List.replicate (s % 7) 97++[chF s k,chL s k]else[chF s k,chL s k]++List.replicate ((s+k) % 7) 113
noncomputable def a2i(s k:Nat):Str:=⟨(a2e s k).toArray⟩
theorem b44{s k k':Nat}(h:k<676)(h':k'<676)(e:a2i s k=a2i s k'):k=k':=by
 have e:a2e s k=a2e s k':=by
   have:=congrArg (fun x:Str=>x.cps.toList) e
   exact this
 have both:chF s k=chF s k'->chL s k=chL s k'->k=k':=fun e1 e2=>by unfold chF at e1;unfold chL at e2;omega
 unfold a2e at e
 split at e
 . split at e<;>split at e
   . have:=(List.cons.inj e).1
     unfold chL at this;omega
   . simp at e
   . simp at e
   . obtain⟨e1,e2⟩:=List.cons.inj e
     exact both e1 (List.cons.inj e2).1
 . split at e
   . have:=List.append_cancel_left e
     obtain⟨e1,e2⟩:=List.cons.inj this
     exact both e1 (List.cons.inj e2).1
   . obtain⟨e1,e2⟩:=List.cons.inj e
     exact both e1 (List.cons.inj e2).1
theorem b6q{c:Nat}(h1:97<=c)(h2:c<123):c∈letters:=by
 have: ∀i,i<26->97+i∈letters:=by decide+kernel
 have:=this (c- 97) (by omega)
 rwa [show 97+(c- 97)=c by omega]at this
theorem b31{s k c:Nat}(h:c∈a2e s k):97<=c/\c<123:=by
 have l:97<=chL s k/\chL s k<123:=by unfold chL;omega
 have f:97<=chF s k/\chF s k<123:=by unfold chF;omega
 have two:c∈[chF s k,chL s k]->97<=c/\c<123:=fun h=>by
   rcases List.mem_cons.mp h with h |h
   . rw[h];exact f
   . rw[List.mem_singleton.mp h];exact l
 unfold a2e at h
 split at h
 . split at h
   . rw[List.mem_singleton.mp h];exact l
   . exact two h
 . split at h
   . rcases List.mem_append.mp h with h |h
     . rw[(List.mem_replicate.mp h).2];omega
     . exact two h
   . rcases List.mem_append.mp h with h |h
     . exact two h
     . rw[(List.mem_replicate.mp h).2];omega
theorem b32(s k:Nat):1<=(a2e s k).length/\(a2e s k).length<=8:=by
 unfold a2e
 split
 . split<;>simp
 . split<;>simp<;>omega
theorem a5w(s k:Nat):a1s (a2i s k)=true:=by
 have hl:=b32 s k
 have e:(a2i s k).length=(a2e s k).length:=rfl
 unfold a1s
 rw[decide_eq_false (by rw[e];omega),decide_eq_false (by rw[e];omega)]
 show(a2e s k).all _=true
 rw[List.all_eq_true]
 intro c hc
 have:=b31 hc
 exact decide_eq_true (b6q this.1 this.2)
theorem a9g(s:Nat){n:Nat}(h:n<=676):((List.range n).map (a2i s)).Nodup:=by
 refine List.pairwise_map.mpr (List.Pairwise.imp_of_mem (fun {a b} ha hb hab e=> ?_) List.pairwise_lt_range)
 have ha:=List.mem_range.mp ha
 have hb:=List.mem_range.mp hb
 have:=b44 (by omega) (by omega) e
 omega
noncomputable abbrev En:=Int×Nat×Nat
inductive Hung(es:List En)(a:Nat):Nat->Prop where
 |refl:Hung es a a
 |to {e:En} (h:Hung es a e.2.1) (he:e∈es):Hung es a e.2.2
 |fro {e:En} (h:Hung es a e.2.2) (he:e∈es):Hung es a e.2.1
noncomputable def at_(ns:List Str)(i:Nat):Str:=ns.getD i ""
noncomputable def jE(j:Jn):Int×Str×Str:=(j.1,j.2.2.1,j.2.2.2)
noncomputable def eN(ns:List Str)(e:En):Int×Str×Str:=(e.1,at_ ns e.2.1,at_ ns e.2.2)
structure Net(ns:List Str)(js:List Jn)(es:List En):Prop where
 same:js.map jE=es.map (eN ns)
 inn: ∀e∈es,e.2.1<ns.length/\e.2.2<ns.length/\e.2.1≠e.2.2
 nd:ns.Nodup
 keys:(es.map Prod.fst).Nodup
theorem a34{ns:List Str}(nd:ns.Nodup){i j:Nat}(hi:i<ns.length)(hj:j<ns.length)(e:at_ ns i=at_ ns j):i=j:=by
 unfold at_ at e
 rw[List.getD_eq_getElem?_getD,List.getD_eq_getElem?_getD,List.getElem?_eq_getElem hi,List.getElem?_eq_getElem hj]at e
 have e:ns[i]=ns[j]:=e
 have P:=List.pairwise_iff_getElem.mp nd
 rcases Nat.lt_trichotomy i j with h |h |h
 . exact absurd e (P i j hi hj h)
 . exact h
 . exact absurd e.symm (P j i hj hi h)
theorem b86{js:List Jn}{x:Str}{l:Ld}(h:l∈lead js x): ∃j∈js,j.1=l.1/\((j.2.2.1=x/\j.2.2.2=l.2.2)\/(j.2.2.2=x/\j.2.2.1=l.2.2)):=by
 unfold lead at h
 obtain⟨j,hj,h⟩:=List.mem_flatMap.mp h
 refine⟨j,hj,?_⟩
 unfold a7w at h
 rcases List.mem_append.mp h with h |h<;>split at h
 . rename_i e
   rw[List.mem_singleton.mp h];exact⟨rfl,.inl ⟨e,rfl⟩⟩
 . cases h
 . rename_i e
   rw[List.mem_singleton.mp h];exact⟨rfl,.inr ⟨e,rfl⟩⟩
 . cases h
theorem Net.keyOf{ns:List Str}{js:List Jn}{es:List En}(N:Net ns js es):js.map Prod.fst=es.map Prod.fst:=by
 have:=congrArg (List.map Prod.fst) N.same
 rw[List.map_map,List.map_map]at this
 exact this
theorem Net.len{ns:List Str}{js:List Jn}{es:List En}(N:Net ns js es):js.length=es.length:=by
 have:=congrArg List.length N.same
 simpa using this
noncomputable def a2t(bs:List Bool):Nat:=(bs.filter fun b=> !b).length
theorem b0b{bs:List Bool}{i:Nat}(h:i<bs.length):a2t (bs.set i true)+(if bs[i]=true then 0 else 1)=a2t bs:=by
 unfold a2t
 induction bs generalizing i with
 |nil=>cases h
 |cons b bs ih=>
   cases i with
   |zero=>cases b<;>simp
   |succ i=>
     have:=ih (i:=i) (by simpa using h)
     cases b<;>simp[List.filter_cons]at this |- <;>omega
theorem b6j{bs:List Bool}{i j:Nat}(hi:i<bs.length)(hj:j<bs.length)(h:bs.getD i false≠bs.getD j false):a2t ((bs.set i true).set j true)+1=a2t bs:=by
 have gi:bs.getD i false=bs[i]:=by simp[List.getD,List.getElem?_eq_getElem hi]
 have gj:bs.getD j false=bs[j]:=by simp[List.getD,List.getElem?_eq_getElem hj]
 rw[gi,gj]at h
 have hij:i≠j:=by rintro rfl;exact h rfl
 have l1:=b0b hi
 have hj':j< (bs.set i true).length:=by simpa using hj
 have l2:=b0b hj'
 have e:(bs.set i true)[j]=bs[j]:=List.getElem_set_ne hij hj'
 rw[e]at l2
 cases h1:bs[i]<;>cases h2:bs[j]
 . rw[h1,h2]at h;exact absurd rfl h
 . rw[h1]at l1;rw[h2]at l2;simp at l1 l2;omega
 . rw[h1]at l1;rw[h2]at l2;simp at l1 l2;omega
 . rw[h1,h2]at h;exact absurd rfl h
structure Hg(es:List En)(a n:Nat)(bs:List Bool):Prop where
 len:bs.length=n
 sound: ∀b,bs.getD b false=true->Hung es a b
 first:bs.getD a false=true
theorem b7f{bs:List Bool}{i j b:Nat}(h:((bs.set i true).set j true).getD b false=true):b=i\/b=j\/bs.getD b false=true:=by
 by_cases h1:b=i
 . exact .inl h1
 by_cases h2:b=j
 . exact .inr (.inl h2)
 refine .inr (.inr ?_)
 simp only[List.getD_eq_getElem?_getD]at h |-
 rw[List.getElem?_set_ne (fun z=>h2 z.symm),List.getElem?_set_ne (fun z=>h1 z.symm)]at h
 exact h
theorem b5k{bs:List Bool}{i j b:Nat}(hb:bs.getD b false=true):((bs.set i true).set j true).getD b false=true:=by
 have one: ∀(bs:List Bool) (i:Nat),bs.getD b false=true->(bs.set i true).getD b false=true:=by
   intro bs i hb
   simp only[List.getD_eq_getElem?_getD]at hb |-
   by_cases h:i=b
   . subst h
     cases hx:bs[i]? with
     |none=>rw[hx]at hb;cases hb
     |some x=>
       have:i<bs.length:=by
         by_cases hlt:i<bs.length
         . exact hlt
         . rw[List.getElem?_eq_none (by omega)]at hx;cases hx
       rw[List.getElem?_set_self this];rfl
   . rw[List.getElem?_set_ne h];exact hb
 exact one _ j (one _ i hb)
theorem Hg.edge{es:List En}{a n:Nat}{bs:List Bool}(h:Hg es a n bs){e:En}(he:e∈es)(i1:e.2.1<n)(i2:e.2.2<n)(d:bs.getD e.2.1 false≠bs.getD e.2.2 false):
   Hg es a n ((bs.set e.2.1 true).set e.2.2 true)/\a2t ((bs.set e.2.1 true).set e.2.2 true)+1=a2t bs:=by
 have i1':e.2.1<bs.length:=by rw[h.len];exact i1
 have i2':e.2.2<bs.length:=by rw[h.len];exact i2
 have both:Hung es a e.2.1/\Hung es a e.2.2:=by
   cases h1:bs.getD e.2.1 false with
   |true=>exact⟨h.sound _ h1,.to (h.sound _ h1) he⟩
   |false=>
     have h2:bs.getD e.2.2 false=true:=by
       cases h2:bs.getD e.2.2 false with
       |true=>rfl
       |false=>rw[h1,h2]at d;exact absurd rfl d
     exact⟨.fro (h.sound _ h2) he,h.sound _ h2⟩
 refine⟨⟨by simp[h.len],fun b hb=> ?_,b5k h.first⟩,b6j i1' i2' d⟩
 rcases b7f hb with rfl |rfl |hb
 . exact both.1
 . exact both.2
 . exact h.sound b hb
theorem Hg.all{es:List En}{a n:Nat}{bs:List Bool}(h:Hg es a n bs)(cl: ∀e∈es,bs.getD e.2.1 false=bs.getD e.2.2 false){b:Nat}(hb:Hung es a b):bs.getD b false=true:=by
 induction hb with
 |refl=>exact h.first
 |to _ he ih=>rw[<-cl _ he];exact ih
 |fro _ he ih=>rw[cl _ he];exact ih
structure Rw(s:Nat)(ws:List (Str×Int))(js:List (Str×Nat×Nat)):Prop where
 names:ws.map Prod.fst=(List.range ws.length).map (a2i s)
 teeth: ∀w∈ws,1<=w.2/\w.2<1000000000
 kinds: ∀j∈js,a2u j.1=true/\j.2.1<ws.length/\j.2.2<ws.length/\j.2.1≠j.2.2
theorem Rw.wheel{s:Nat}{ws:List (Str×Int)}{js:List (Str×Nat×Nat)}(r:Rw s ws js){t:Int}(h1:1<=t)(h2:t<1000000000):Rw s (ws++[(a2i s ws.length,t)]) js:=by
 refine⟨?_,fun w hw=> ?_,fun j hj=> ?_⟩
 . rw[List.map_append,r.names,List.length_append]
   simp[List.range_succ]
 . rcases List.mem_append.mp hw with hw |hw
   . exact r.teeth w hw
   . rw[List.mem_singleton.mp hw];exact⟨h1,h2⟩
 . obtain⟨a,b,c,d⟩:=r.kinds j hj
   rw[List.length_append]
   exact⟨a,by omega,by omega,d⟩
theorem Rw.join{s:Nat}{ws:List (Str×Int)}{js:List (Str×Nat×Nat)}(r:Rw s ws js){k:Str}{a b:Nat}(hk:a2u k=true)(ha:a<ws.length)(hb:b<ws.length)(ne:a≠b):Rw s ws (js++[(k,a,b)]):=by
 refine⟨r.names,r.teeth,fun j hj=> ?_⟩
 rcases List.mem_append.mp hj with hj |hj
 . exact r.kinds j hj
 . rw[List.mem_singleton.mp hj];exact⟨hk,ha,hb,ne⟩
theorem Rw.nil(s:Nat):Rw s [] []:=⟨rfl,fun _ h=>(List.not_mem_nil h).elim,fun _ h=>(List.not_mem_nil h).elim⟩
theorem Rw.nodup{s:Nat}{ws:List (Str×Int)}{js:List (Str×Nat×Nat)}(r:Rw s ws js)(h:ws.length<=676):(ws.map Prod.fst).Nodup:=by
 rw[r.names];exact a9g s h
theorem Rw.name{s:Nat}{ws:List (Str×Int)}{js:List (Str×Nat×Nat)}(r:Rw s ws js){x:Str}(h:x∈ws.map Prod.fst): ∃k,k<ws.length/\x=a2i s k:=by
 rw[r.names]at h
 obtain⟨k,hk,rfl⟩:=List.mem_map.mp h
 exact⟨k,List.mem_range.mp hk,rfl⟩
noncomputable def jsRow(ns:List Str)(i:Nat)(j:Str×Nat×Nat):Jn:=((i:Int),j.1,at_ ns j.2.1,at_ ns j.2.2)
noncomputable def b1n(ns:List Str)(js:List (Str×Nat×Nat)):List Jn:=js.mapIdx (jsRow ns)
noncomputable def esRow(i:Nat)(j:Str×Nat×Nat):En:=((i:Int),j.2.1,j.2.2)
noncomputable def esOf(js:List (Str×Nat×Nat)):List En:=js.mapIdx esRow
theorem b64(ns:List Str)(js:List (Str×Nat×Nat))(j:Str×Nat×Nat):b1n ns (js++[j])=b1n ns js++[jsRow ns js.length j]:=by
 unfold b1n;rw[List.mapIdx_append];simp
theorem gcd_step{d r:Nat}:Nat.gcd r (d % r)=Nat.gcd d r:=by
 rw[Nat.gcd_comm r,Nat.gcd_comm d,Nat.gcd_rec r d]
noncomputable def low(t b:Int):Int:=if b<0 then -(Int.gcd t b:Int)else(Int.gcd t b:Int)
theorem b6f{t b:Int}(hb:b≠0):low t b≠0:=by
 have:Int.gcd t b≠0:=by rw[Ne,Int.gcd_eq_zero_iff];intro h;exact hb h.2
 unfold low;split<;>omega
theorem b6h(t b:Int):low t b∣t:=by
 unfold low;split
 . exact Int.neg_dvd.mpr (Int.gcd_dvd_left ..)
 . exact Int.gcd_dvd_left ..
theorem b6g(t b:Int):low t b∣b:=by
 unfold low;split
 . exact Int.neg_dvd.mpr (Int.gcd_dvd_right ..)
 . exact Int.gcd_dvd_right ..
noncomputable def lowT(t b:Int):Int:=t.fdiv (low t b)
noncomputable def lowB(t b:Int):Int:=b.fdiv (low t b)
theorem a6e(t b:Int):lowT t b *low t b=t:=Int.fdiv_mul_cancel (b6h t b)
theorem a6f(t b:Int):lowB t b *low t b=b:=Int.fdiv_mul_cancel (b6g t b)
theorem b27(t b:Int):lowT t b *b=lowB t b *t:=by
 have e1:=a6e t b
 have e2:=a6f t b
 generalize lowT t b=x at *
 generalize lowB t b=y at *
 generalize low t b=d at *
 subst e1;rw[<-e2]
 rw[<-Int.mul_assoc,<-Int.mul_assoc,Int.mul_comm x y]
theorem a3o{t b:Int}(hb:b≠0):1<=lowB t b:=by
 have e2:=a6f t b
 have h0:(Int.gcd t b:Int)>0:=by
   have:Int.gcd t b≠0:=by rw[Ne,Int.gcd_eq_zero_iff];intro h;exact hb h.2
   omega
 unfold low at e2
 generalize lowB t b=y at *
 rcases Int.lt_or_le y 1 with h |h
 . exfalso
   split at e2
   . have:=Int.mul_nonneg (show 0<= -y by omega) (Int.le_of_lt h0)
     rw[Int.neg_mul]at this
     rw[Int.mul_neg]at e2
     omega
   . have:=Int.mul_nonneg (show 0<= -y by omega) (Int.le_of_lt h0)
     rw[Int.neg_mul]at this
     omega
 . exact h
theorem low_gcd{t b:Int}(hb:b≠0):Int.gcd (lowT t b) (lowB t b)=1:=by
 have e1:=a6e t b
 have e2:=a6f t b
 have h0:Int.gcd t b≠0:=by rw[Ne,Int.gcd_eq_zero_iff];intro h;exact hb h.2
 have g:(low t b).natAbs=Int.gcd t b:=by unfold low;split<;>omega
 have:Int.gcd (lowT t b *low t b) (lowB t b *low t b)=Int.gcd (lowT t b) (lowB t b) * (low t b).natAbs:=Int.gcd_mul_right ..
 rw[e1,e2,g]at this
 have p:0<Int.gcd t b:=Nat.pos_of_ne_zero h0
 exact Nat.eq_of_mul_eq_mul_right p (by omega)
theorem absE(a:Int):(if a<0 then -a else a)=((a.natAbs:Nat):Int):=by split<;>omega
noncomputable def addW(x:Str)(st:TT×List Str)(l:Ld):TT×List Str:=if l.2.2∈names st.1 then st else(st.1++[(l.2.2,some (l.1,l.2.1,x))],st.2++[l.2.2])
noncomputable def stepT(js:List Jn)(st:TT×List Str):TT×List Str:=match st.2 with | []=>st |x::ws=>(lead js x).foldl (addW x) (st.1,ws)
noncomputable def b1p(js:List Jn):Nat->TT×List Str->TT×List Str
 |0,s=>s
 |k+1,s=>stepT js (b1p js k s)
def IsTree(js:List Jn)(n:Str)(t:TT):Prop:= ∃k,b1p js k ([(n,none)],[n])=(t,[])
theorem a7a{js:List Jn}{s:TT×List Str}{t:TT}{k:Nat}(h:b1p js k s=(t,[])): ∀m,b1p js (k+m) s=(t,[])
 |0=>h
 |m+1=>by
   show stepT js (b1p js (k+m) s)=_
   rw[a7a h m];rfl
theorem IsTree.one{js:List Jn}{n:Str}{t t':TT}(h:IsTree js n t)(h':IsTree js n t'):t=t':=by
 obtain⟨k,e⟩:=h
 obtain⟨k',e'⟩:=h'
 have a:=a7a e k'
 have b:=a7a e' k
 rw[Nat.add_comm k' k,a]at b
 exact(Prod.mk.inj b).1
noncomputable abbrev Fr:=Int×Int
noncomputable def fac(k:Str)(a b:Int):Fr:=if k="pin" then(1,1)else if k="band" then(lowT a b,lowB a b)else(lowT (-a) b,lowB (-a) b)
noncomputable def mulF(x y:Fr):Fr:=(lowT (x.1 *y.1) (x.2 *y.2),lowB (x.1 *y.1) (x.2 *y.2))
noncomputable def a0j(ws:List (Str×Int))(n:Str):Int:=((ws.find? fun w=>decide (w.1=n)).map Prod.snd).getD 1
noncomputable abbrev Sh:=List (Str×Fr)
noncomputable def lk(sh:Sh)(n:Str):Fr:=((sh.find? fun e=>decide (e.1=n)).map Prod.snd).getD (1,1)
noncomputable def a4j(ws:List (Str×Int))(sh:Sh)(e:Str×Option Ld):Fr:=match e.2 with
 |none=>(1,1)
 |some l=>mulF (lk sh l.2.2) (fac l.2.1 (a0j ws l.2.2) (a0j ws e.1))
noncomputable def a0e(ws:List (Str×Int))(t:TT):Sh:=t.foldl (fun sh e=>sh++[(e.1,a4j ws sh e)]) []
theorem a1l(ws:List (Str×Int))(t:TT)(e:Str×Option Ld):a0e ws (t++[e])=a0e ws t++[(e.1,a4j ws (a0e ws t) e)]:=by
 unfold a0e;rw[List.foldl_append];rfl
theorem a0n(ws:List (Str×Int))(t:TT):(a0e ws t).map Prod.fst=names t:=by
 suffices ∀(t:TT) (sh:Sh),(t.foldl (fun sh e=>sh++[(e.1,a4j ws sh e)]) sh).map Prod.fst=sh.map Prod.fst++names t by
   have:=this t []
   simpa[a0e]using this
 intro t
 induction t with
 |nil=>intro sh;simp[names]
 |cons e t ih=>intro sh;rw[List.foldl_cons,ih];simp[names]
theorem b4d(ws:List (Str×Int))(t:TT):(a0e ws t).length=t.length:=by
 have:=congrArg List.length (a0n ws t)
 simpa[names]using this
def Small(i:Nat)(x:Fr):Prop:=1<=x.2/\x.2<2^(30 *i)/\x.1.natAbs<2^(30 *i)
theorem b1l{t b:Int}(hb:1<=b):lowB t b<=b:=by
 have hp:=a3o (t:=t) (b:=b) (by omega)
 have e:=a6f t b
 have hl:1<=low t b:=by
   have hn:=b6f (t:=t) (b:=b) (by omega)
   have:low t b=(Int.gcd t b:Int):=if_neg (by omega)
   omega
 have:lowB t b *1<=lowB t b *low t b:=Int.mul_le_mul_of_nonneg_left hl (by omega)
 omega
theorem b1k{t b:Int}(hb:1<=b):(lowT t b).natAbs<=t.natAbs:=by
 have e:=a6e t b
 have hl:1<=(low t b).natAbs:=by
   have hn:=b6f (t:=t) (b:=b) (by omega)
   omega
 have e2:(lowT t b).natAbs * (low t b).natAbs=t.natAbs:=by rw[<-Int.natAbs_mul,e]
 have:=Nat.mul_le_mul_left (lowT t b).natAbs hl
 omega
theorem a7f{k:Str}{a b:Int}(ha:1<=a)(ha2:a<1000000000)(hb:1<=b)(hb2:b<1000000000):Small 1 (fac k a b):=by
 have e30:(2:Nat)^(30 *1)=1073741824:=by decide
 have e30':(2:Int)^(30 *1)=1073741824:=by decide
 unfold fac Small
 rw[e30,e30']
 split
 . exact⟨by decide,by decide,by decide⟩
 . split
   . have h1:=a3o (t:=a) (b:=b) (by omega)
     have h2:=b1l (t:=a) hb
     have h3:=b1k (t:=a) hb
     exact⟨h1,by show lowB a b<_;omega,by show(lowT a b).natAbs<_;omega⟩
   . have h1:=a3o (t:= -a) (b:=b) (by omega)
     have h2:=b1l (t:= -a) hb
     have h3:=b1k (t:= -a) hb
     exact⟨h1,by show lowB (-a) b<_;omega,by show(lowT (-a) b).natAbs<_;omega⟩
theorem b4n{i j:Nat}{x y:Fr}(hx:Small i x)(hy:Small j y):Small (i+j) (mulF x y):=by
 obtain⟨x1,x2,x3⟩:=hx
 obtain⟨y1,y2,y3⟩:=hy
 have hb:1<=x.2 *y.2:=by
   have:=Int.mul_le_mul_of_nonneg_left y1 (show 0<=x.2 by omega)
   omega
 have e:(2:Nat)^(30 * (i+j))=2^(30 *i) *2^(30 *j):=by rw[Nat.mul_add,Nat.pow_add]
 have e':(2:Int)^(30 * (i+j))=2^(30 *i) *2^(30 *j):=by rw[Nat.mul_add,Int.pow_add]
 have h1:=a3o (t:=x.1 *y.1) (b:=x.2 *y.2) (by omega)
 have h2:=b1l (t:=x.1 *y.1) hb
 have h3:=b1k (t:=x.1 *y.1) hb
 refine⟨h1,?_,?_⟩
 . show lowB _ _<_
   rw[e']
   refine Int.lt_of_le_of_lt h2 ?_
   exact Int.mul_lt_mul x2 (by omega) (by omega) (by omega)
 . show(lowT _ _).natAbs<_
   rw[e]
   refine Nat.lt_of_le_of_lt h3 ?_
   rw[Int.natAbs_mul]
   exact Nat.mul_lt_mul'' x3 y3
theorem Small.up{i j:Nat}{x:Fr}(h:Small i x)(hij:i<=j):Small j x:=by
 have e:(2:Nat)^(30 *i)<=2^(30 *j):=Nat.pow_le_pow_right (by decide) (by omega)
 have e':(2:Int)^(30 *i)<=2^(30 *j):=by
   have h1:((2^(30 *i):Nat):Int)=(2:Int)^(30 *i):=by rw[Int.natCast_pow];rfl
   have h2:((2^(30 *j):Nat):Int)=(2:Int)^(30 *j):=by rw[Int.natCast_pow];rfl
   omega
 exact⟨h.1,Int.lt_of_lt_of_le h.2.1 e',Nat.lt_of_lt_of_le h.2.2 e⟩
theorem b29{sh:Sh}{n:Str}(h:n∈sh.map Prod.fst): ∃e∈sh,e.1=n/\lk sh n=e.2:=by
 induction sh with
 |nil=>cases h
 |cons e sh ih=>
   by_cases he:e.1=n
   . exact⟨e,List.mem_cons_self,he,by simp[lk,he]⟩
   . obtain⟨x,h1,h2,h3⟩:=ih (by
       rcases List.mem_cons.mp h with h |h
       . exact absurd h.symm he
       . exact h)
     refine⟨x,List.mem_cons_of_mem _ h1,h2,?_⟩
     rw[<-h3]
     unfold lk
     rw[List.find?_cons,decide_eq_false he]
def a3e(ws:List (Str×Int)):Prop:= ∀w∈ws,1<=w.2/\w.2<1000000000
theorem a0q{ws:List (Str×Int)}(h:a3e ws)(n:Str):1<=a0j ws n/\a0j ws n<1000000000:=by
 unfold a0j
 cases e:ws.find? (fun w=>decide (w.1=n))with
 |none=>exact⟨by decide,by decide⟩
 |some w=>exact h w (List.mem_of_find?_eq_some e)
theorem a2j{ws:List (Str×Int)}(h:a3e ws){js:List Jn}{n:Str}{t:TT}(g:Grown js n t): ∀e∈a0e ws t,Small t.length e.2:=by
 induction g with
 |root=>
   intro e he
   have:e=(n,(1,1)):=by simpa[a0e,a4j]using he
   rw[this]
   show Small 1 (1,1)
   exact⟨by decide,by decide,by decide⟩
 |more t m l g new old by_ ih=>
   intro e he
   rw[a1l]at he
   rw[List.length_append]
   rcases List.mem_append.mp he with he |he
   . exact(ih e he).up (Nat.le_add_right _ _)
   . rw[List.mem_singleton.mp he]
     obtain⟨x,h1,_,h3⟩:=b29 (sh:=a0e ws t) (n:=l.2.2) (by rw[a0n];exact old)
     show Small _ (mulF (lk (a0e ws t) l.2.2) _)
     rw[h3]
     have t1:=a0q h l.2.2
     have t2:=a0q h m
     exact b4n (ih x h1) (a7f t1.1 t1.2 t2.1 t2.2)
noncomputable def jams(ws:List (Str×Int))(sh:Sh)(j:Jn):Bool:=decide (j.2.2.1∈sh.map Prod.fst)&& !decide (mulF (lk sh j.2.2.1) (fac j.2.1 (a0j ws j.2.2.1) (a0j ws j.2.2.2))=lk sh j.2.2.2)
noncomputable def byF(k:Str)(a b:Int):Fr:=if k="pin" then(1,1)else if k="band" then(a,b)else(-a,b)
theorem b7j(k:Str)(a b:Int):fac k a b=(lowT (byF k a b).1 (byF k a b).2,lowB (byF k a b).1 (byF k a b).2):=by
 unfold fac byF
 split
 . decide
 . split<;>rfl
theorem b3y{k:Str}{a b:Int}(ha:1<=a)(hb:1<=b):(byF k a b).1≠0/\(byF k a b).2≠0:=by
 unfold byF
 split
 . exact⟨by decide,by decide⟩
 . split
   . exact⟨by show a≠0;omega,by show b≠0;omega⟩
   . exact⟨by show -a≠0;omega,by show b≠0;omega⟩
def Low(x:Fr):Prop:=1<=x.2/\Int.gcd x.1 x.2=1
theorem b7v{a b d:Int}(h:Int.gcd a b=1)(hd:b∣a *d):b∣d:=by
 have h1:b.natAbs∣a.natAbs *d.natAbs:=by rw[<-Int.natAbs_mul];exact Int.natAbs_dvd_natAbs.mpr hd
 exact Int.natAbs_dvd_natAbs.mp (Nat.Coprime.dvd_of_dvd_mul_left (show Nat.gcd b.natAbs a.natAbs=1 by rw[Nat.gcd_comm];exact h) h1)
theorem Low.eq{x y:Fr}(hx:Low x)(hy:Low y)(e:x.1 *y.2=y.1 *x.2):x=y:=by
 obtain⟨a,b⟩:=x
 obtain⟨c,d⟩:=y
 obtain⟨h1,h2⟩:=hx
 obtain⟨h3,h4⟩:=hy
 dsimp only at *
 have d1:b∣d:=by
   refine b7v (a:=a) h2 ⟨c,?_⟩
   rw[e,Int.mul_comm]
 have d2:d∣b:=by
   refine b7v (a:=c) h4 ⟨a,?_⟩
   rw[<-e,Int.mul_comm]
 have hbd:b=d:=Int.le_antisymm (Int.le_of_dvd (by omega) d1) (Int.le_of_dvd (by omega) d2)
 subst hbd
 rw[Int.eq_of_mul_eq_mul_right (show b≠0 by omega) e]
theorem low_Low{t b:Int}(hb:b≠0):Low (lowT t b,lowB t b):=⟨a3o hb,low_gcd hb⟩
theorem b22{x y:Fr}(hx:x.2≠0)(hy:y.2≠0):Low (mulF x y):=low_Low (Int.mul_ne_zero hx hy)
theorem a4s{x z:Fr}{k:Str}{a b:Int}(hx:x.2≠0)(hz:Low z)(ha:1<=a)(hb:1<=b):mulF x (fac k a b)=z↔x.1 * (byF k a b).1 *z.2=z.1 *x.2 * (byF k a b).2:=by
 obtain⟨_,n2⟩:=b3y (k:=k) ha hb
 rw[b7j]
 generalize byF k a b=f at n2
 have s1:=b27 f.1 f.2
 have p1:=a3o (t:=f.1) n2
 have hy:lowB f.1 f.2≠0:=by omega
 generalize lowT f.1 f.2=u at *
 generalize lowB f.1 f.2=v at *
 have s2:=b27 (x.1 *u) (x.2 *v)
 have n3:x.2 *v≠0:=Int.mul_ne_zero hx hy
 have L:Low (mulF x (u,v)):=b22 hx hy
 have e1:(mulF x (u,v)).1=lowT (x.1 *u) (x.2 *v):=rfl
 have e2:(mulF x (u,v)).2=lowB (x.1 *u) (x.2 *v):=rfl
 have p2:lowB (x.1 *u) (x.2 *v)≠0:=by have:=a3o (t:=x.1 *u) n3;omega
 constructor
 . intro h
   rw[<-h,e1,e2]
   generalize lowT (x.1 *u) (x.2 *v)=p at *
   generalize lowB (x.1 *u) (x.2 *v)=q at *
   refine Int.eq_of_mul_eq_mul_right hy ?_
   have:x.1 *f.1 *q *v=q * (x.1 *u) *f.2:=by
     rw[show x.1 *f.1 *q *v=x.1 *q * (v *f.1)by ac_rfl,<-s1];ac_rfl
   rw[this,<-s2];ac_rfl
 . intro h
   refine Low.eq L hz ?_
   rw[e1,e2]
   generalize lowT (x.1 *u) (x.2 *v)=p at *
   generalize lowB (x.1 *u) (x.2 *v)=q at *
   refine Int.eq_of_mul_eq_mul_right (Int.mul_ne_zero n3 n2) ?_
   rw[show p *z.2 * (x.2 *v *f.2)=p * (x.2 *v) * (z.2 *f.2)by ac_rfl,s2,show q * (x.1 *u) * (z.2 *f.2)=q *x.1 *z.2 * (u *f.2)by ac_rfl,s1,show q *x.1 *z.2 * (v *f.1)=q *v * (x.1 *f.1 *z.2)by ac_rfl,h];ac_rfl
def Agrees(ws:List (Str×Int))(sh:Sh)(k a b:Str):Prop:=(lk sh a).1 * (byF k (a0j ws a) (a0j ws b)).1 * (lk sh b).2=(lk sh b).1 * (lk sh a).2 * (byF k (a0j ws a) (a0j ws b)).2
theorem Agrees.symm{ws:List (Str×Int)}{sh:Sh}{k a b:Str}(h:Agrees ws sh k a b):Agrees ws sh k b a:=by
 unfold Agrees byF at *
 generalize lk sh a=x at *
 generalize lk sh b=y at *
 generalize a0j ws a=m at *
 generalize a0j ws b=n at *
 split at h
 . rename_i hk
   rw[if_pos hk]
   dsimp only at h |-
   rw[Int.mul_one,Int.mul_one]at h |-
   exact h.symm
 . rename_i hk
   rw[if_neg hk]
   split at h
   . rename_i hk2
     rw[if_pos hk2]
     dsimp only at h |-
     rw[show y.1 *n *x.2=y.1 *x.2 *n by ac_rfl,<-h];ac_rfl
   . rename_i hk2
     rw[if_neg hk2]
     dsimp only at h |-
     rw[Int.mul_neg,Int.neg_mul]at h |-
     rw[show y.1 *n *x.2=y.1 *x.2 *n by ac_rfl,<-h,Int.neg_neg];ac_rfl
theorem b0c{sh:Sh}{n:Str}{e:Str×Fr}(h:n∈sh.map Prod.fst):lk (sh++[e]) n=lk sh n:=by
 induction sh with
 |nil=>cases h
 |cons x sh ih=>
   unfold lk at ih |-
   rw[List.cons_append,List.find?_cons,List.find?_cons]
   by_cases hx:x.1=n
   . rw[decide_eq_true hx]
   . rw[decide_eq_false hx]
     rcases List.mem_cons.mp h with h |h
     . exact absurd h.symm hx
     . exact ih h
theorem b28{sh:Sh}{n:Str}{f:Fr}(h:n∉sh.map Prod.fst):lk (sh++[(n,f)]) n=f:=by
 induction sh with
 |nil=>simp[lk]
 |cons x sh ih=>
   rw[List.map_cons,List.mem_cons,not_or]at h
   have:=ih h.2
   unfold lk at this |-
   rw[List.cons_append,List.find?_cons,decide_eq_false fun z=>h.1 z.symm]
   exact this
theorem a1o{ws:List (Str×Int)}(ht:a3e ws){js:List Jn}{n:Str}{t:TT}(g:Grown js n t): ∀m∈names t,Low (lk (a0e ws t) m):=by
 induction g with
 |root=>
   intro m hm
   have:m=n:=by simpa[names]using hm
   subst this
   have e:lk (a0e ws [(m,none)]) m=(1,1):=by simp[a0e,a4j,lk]
   rw[e]
   exact⟨by decide,by decide⟩
 |more t m l g new old by_ ih=>
   intro x hx
   rw[a08]at hx
   rw[a1l]
   rcases List.mem_append.mp hx with hx |hx
   . rw[b0c (by rw[a0n];exact hx)];exact ih x hx
   . have:x=m:=by simpa using hx
     subst this
     rw[b28 (by rw[a0n];exact new)]
     have h1:=(ih _ old).1
     have t1:=a0q ht l.2.2
     have t2:=a0q ht x
     refine b22 (by omega) ?_
     rw[b7j]
     have:=a3o (t:=(byF l.2.1 (a0j ws l.2.2) (a0j ws x)).1) (b3y (k:=l.2.1) t1.1 t2.1).2
     show lowB (byF l.2.1 (a0j ws l.2.2) (a0j ws x)).1 (byF l.2.1 (a0j ws l.2.2) (a0j ws x)).2≠0
     omega
noncomputable def nums(t:TT):List Int:=t.filterMap fun e=>e.2.map Prod.fst
theorem a09{js:List Jn}{x:Str}{l:Ld}(h:l∈lead js x): ∃j∈js,j.1=l.1/\j.2.1=l.2.1/\((j.2.2.1=x/\j.2.2.2=l.2.2)\/(j.2.2.2=x/\j.2.2.1=l.2.2)):=by
 unfold lead at h
 obtain⟨j,hj,h⟩:=List.mem_flatMap.mp h
 refine⟨j,hj,?_⟩
 unfold a7w at h
 rcases List.mem_append.mp h with h |h<;>split at h
 . rename_i e
   have:l=(j.1,j.2.1,j.2.2.2):=by simpa using h
   subst this;exact⟨rfl,rfl,.inl ⟨e,rfl⟩⟩
 . cases h
 . rename_i e
   have:l=(j.1,j.2.1,j.2.2.1):=by simpa using h
   subst this;exact⟨rfl,rfl,.inr ⟨e,rfl⟩⟩
 . cases h
theorem a1i{js:List Jn}{j:Jn}(h:j∈js):(j.1,j.2.1,j.2.2.2)∈lead js j.2.2.1/\(j.1,j.2.1,j.2.2.1)∈lead js j.2.2.2:=by
 constructor<;>refine List.mem_flatMap.mpr ⟨j,h,?_⟩<;>unfold a7w
 . rw[if_pos rfl];simp
 . refine List.mem_append_right _ ?_;rw[if_pos rfl];simp
theorem b6s{js:List Jn}{x:Str}{l:Ld}(h:l∈lead js x):(l.1,l.2.1,x)∈lead js l.2.2:=by
 obtain⟨j,hj,e1,e2,⟨e3,e4⟩ | ⟨e3,e4⟩⟩:=a09 h
 . rw[<-e1,<-e2,<-e3,<-e4];exact(a1i hj).2
 . rw[<-e1,<-e2,<-e3,<-e4];exact(a1i hj).1
theorem Reach.trans{js:List Jn}{a b c:Str}(h1:Reach js a b)(h2:Reach js b c):Reach js a c:=by
 induction h2 with
 |refl=>exact h1
 |step _ hl ih=>exact .step ih hl
theorem Reach.symm{js:List Jn}{a b:Str}(h:Reach js a b):Reach js b a:=by
 induction h with
 |refl=>exact .refl
 | @step b l h hl ih=>exact Reach.trans (.step (l:=(l.1,l.2.1,b)) .refl (b6s hl)) ih
theorem uniq{js:List Jn}(nd:(js.map Prod.fst).Nodup){i j:Jn}(hi:i∈js)(hj:j∈js)(e:i.1=j.1):i=j:=by
 induction js with
 |nil=>cases hi
 |cons x js ih=>
   rw[List.map_cons,List.nodup_cons]at nd
   rcases List.mem_cons.mp hi with h1 |h1<;>rcases List.mem_cons.mp hj with h2 |h2
   . rw[h1,h2]
   . exact absurd (List.mem_map.mpr ⟨j,h2,by rw[<-e,h1]⟩) nd.1
   . exact absurd (List.mem_map.mpr ⟨i,h1,by rw[e,h2]⟩) nd.1
   . exact ih nd.2 h1 h2
noncomputable def a15(js:List Jn)(t:TT):List Jn:=js.filter fun j=>decide (j.1∈nums t)
theorem a81(t:TT)(n:Str)(e:Ld):nums (t++[(n,some e)])=nums t++[e.1]:=by simp[nums]
theorem a28{js js':List Jn}{x:Str}{l:Ld}(h:l∈lead js x)(hs: ∀j∈js,j.1=l.1->j∈js'):l∈lead js' x:=by
 obtain⟨j,hj,e1,e2,⟨e3,e4⟩ | ⟨e3,e4⟩⟩:=a09 h
 . have:=(a1i (hs j hj e1)).1
   rw[e1,e2,e3,e4]at this;exact this
 . have:=(a1i (hs j hj e1)).2
   rw[e1,e2,e3,e4]at this;exact this
theorem Grown.sub{js js':List Jn}{x:Str}{t:TT}(g:Grown js x t)(hs: ∀j∈js,j.1∈nums t->j∈js'):Grown js' x t:=by
 induction g with
 |root=>exact .root
 |more t n e g new old by_ ih=>
   refine .more t n e (ih fun j hj hn=>hs j hj (by rw[a81];exact List.mem_append_left _ hn)) new old (a28 by_ fun j hj e1=>hs j hj ?_)
   rw[a81,e1];simp
theorem Grown.tree{js:List Jn}{x:Str}{t:TT}(g:Grown js x t):Grown (a15 js t) x t:=g.sub fun j hj hn=>List.mem_filter.mpr ⟨hj,decide_eq_true hn⟩
theorem b0w{ws:List (Str×Int)}(ht:a3e ws){js:List Jn}(nd:(js.map Prod.fst).Nodup){x:Str}{t:TT}(g:Grown js x t): ∀j∈js,j.1∈nums t->j.2.2.1∈names t/\j.2.2.2∈names t/\Agrees ws (a0e ws t) j.2.1 j.2.2.1 j.2.2.2:=by
 induction g with
 |root=>intro j _ h;simp[nums]at h
 |more t n e g new old by_ ih=>
   intro j hj hn
   have gg:=Grown.more t n e g new old by_
   rw[a81]at hn
   have so: ∀m∈names t,lk (a0e ws (t++[(n,some e)])) m=lk (a0e ws t) m:=fun m hm=>by rw[a1l,b0c (by rw[a0n];exact hm)]
   rw[a08]
   rcases List.mem_append.mp hn with hn |hn
   . obtain⟨h1,h2,h3⟩:=ih j hj hn
     refine⟨List.mem_append_left _ h1,List.mem_append_left _ h2,?_⟩
     unfold Agrees at h3 |-
     rw[so _ h1,so _ h2];exact h3
   . have hn:j.1=e.1:=by simpa using hn
     obtain⟨i,hi,e1,e2,e3⟩:=a09 by_
     obtain rfl:=uniq nd hi hj (e1.trans hn.symm)
     have l1:=(a1o ht g _ old).1
     have t1:=a0q ht e.2.2
     have t2:=a0q ht n
     have sn:lk (a0e ws (t++[(n,some e)])) n=mulF (lk (a0e ws t) e.2.2) (fac e.2.1 (a0j ws e.2.2) (a0j ws n)):=by
       rw[a1l,b28 (by rw[a0n];exact new)];rfl
     have ln:=a1o ht gg n (by rw[a08];simp)
     have key:Agrees ws (a0e ws (t++[(n,some e)])) e.2.1 e.2.2 n:=by
       unfold Agrees
       rw[so _ old]
       exact(a4s (by omega) ln t1.1 t2.1).mp sn.symm
     dsimp only at e2 e3
     rcases e3 with⟨e3,e4⟩ | ⟨e3,e4⟩
     . rw[e2,e3,e4];exact⟨List.mem_append_left _ old,by simp,key⟩
     . rw[e2,e3,e4];exact⟨by simp,List.mem_append_left _ old,key.symm⟩
noncomputable def kindOf(js:List Jn)(n:Int):Str:=((js.find? fun j=>decide (j.1=n)).map fun j=>j.2.1).getD ""
theorem a5m{js:List Jn}(nd:(js.map Prod.fst).Nodup){j:Jn}(h:j∈js):kindOf js j.1=j.2.1:=by
 unfold kindOf
 cases e:js.find? (fun i=>decide (i.1=j.1))with
 |none=>have:=List.find?_eq_none.mp e j h;simp at this
 |some i=>
   have h1:=List.mem_of_find?_eq_some e
   have h2:=List.find?_some e
   rw[uniq nd h1 h (of_decide_eq_true h2)];rfl
noncomputable def wayF(ws:List (Str×Int))(js:List Jn):Str->List (Int×Str)->Fr->Fr
 |_,[],f=>f
 |a,s::st,f=>wayF ws js s.2 st (f.1 * (byF (kindOf js s.1) (a0j ws a) (a0j ws s.2)).1,f.2 * (byF (kindOf js s.1) (a0j ws a) (a0j ws s.2)).2)
theorem b41(ws:List (Str×Int))(js:List Jn){a b:Str}{st:List (Int×Str)}(h:Way js a st b)(s:Int×Str): ∀f:Fr,wayF ws js a (st++[s]) f=((wayF ws js a st f).1 * (byF (kindOf js s.1) (a0j ws b) (a0j ws s.2)).1,(wayF ws js a st f).2 * (byF (kindOf js s.1) (a0j ws b) (a0j ws s.2)).2):=by
 induction h with
 |nil=>intro f;rfl
 |cons hl _ ih=>intro f;rw[List.cons_append];unfold wayF;exact ih _
theorem Way.mono{js js':List Jn}(hs: ∀j∈js,j∈js'){a b:Str}{st:List (Int×Str)}(h:Way js a st b):Way js' a st b:=by
 induction h with
 |nil=>exact .nil _
 |cons hl _ ih=>exact .cons (a28 hl fun j hj _=>hs j hj) ih
theorem Way.snoc{js:List Jn}{a b:Str}{st:List (Int×Str)}(h:Way js a st b){l:Ld}(hl:l∈lead js b):Way js a (st++[(l.1,l.2.2)]) l.2.2:=by
 induction h with
 |nil=>exact .cons hl (.nil _)
 |cons hl' _ ih=>exact .cons hl' (ih hl)
theorem way_nil{js:List Jn}{a b:Str}(h:Way js a [] b):a=b:=by
 generalize e:([]:List (Int×Str))=st at h
 cases h with
 |nil=>rfl
 |cons _ _=>cases e
theorem a7z{ws:List (Str×Int)}(ht:a3e ws){js tj:List Jn}(nd:(js.map Prod.fst).Nodup){sh:Sh}(hs: ∀j∈tj,j∈js)(hA: ∀j∈tj,Agrees ws sh j.2.1 j.2.2.1 j.2.2.2/\(lk sh j.2.2.1).2≠0/\(lk sh j.2.2.2).2≠0){a b o:Str}{st:List (Int×Str)}(h:Way tj a st b):
   ∀f:Fr,f.1≠0->f.2≠0->(lk sh o).1 *f.1 * (lk sh a).2=(lk sh a).1 * (lk sh o).2 *f.2->(wayF ws js a st f).1≠0/\(wayF ws js a st f).2≠0/\(lk sh o).1 * (wayF ws js a st f).1 * (lk sh b).2=(lk sh b).1 * (lk sh o).2 * (wayF ws js a st f).2:=by
 induction h with
 |nil=>intro f h1 h2 h3;exact⟨h1,h2,h3⟩
 | @cons a b l st hl _ ih=>
   intro f h1 h2 h3
   obtain⟨j,hj,e1,e2,e3⟩:=a09 hl
   have key:Agrees ws sh l.2.1 a l.2.2/\(lk sh a).2≠0:=by
     obtain⟨A,n1,n2⟩:=hA j hj
     rw[e2]at A
     rcases e3 with⟨e3,e4⟩ | ⟨e3,e4⟩
     . rw[e3,e4]at A;rw[e3]at n1;exact⟨A,n1⟩
     . rw[e3,e4]at A;rw[e3]at n2;exact⟨A.symm,n2⟩
   have ek:kindOf js l.1=l.2.1:=by rw[<-e1,a5m nd (hs j hj),e2]
   obtain⟨b1,b2⟩:=b3y (k:=l.2.1) (a0q ht a).1 (a0q ht l.2.2).1
   obtain⟨A,na⟩:=key
   unfold wayF
   dsimp only
   rw[ek]
   unfold Agrees at A
   generalize byF l.2.1 (a0j ws a) (a0j ws l.2.2)=y at *
   refine ih _ (Int.mul_ne_zero h1 b1) (Int.mul_ne_zero h2 b2) (Int.eq_of_mul_eq_mul_right na ?_)
   dsimp only
   rw[show(lk sh o).1 * (f.1 *y.1) * (lk sh l.2.2).2 * (lk sh a).2=(lk sh o).1 *f.1 * (lk sh a).2 * (y.1 * (lk sh l.2.2).2)by ac_rfl,h3,
     show(lk sh a).1 * (lk sh o).2 *f.2 * (y.1 * (lk sh l.2.2).2)=(lk sh a).1 *y.1 * (lk sh l.2.2).2 * ((lk sh o).2 *f.2)by ac_rfl,A]
   ac_rfl
theorem b74{js:List Jn}(nd:(js.map Prod.fst).Nodup){a b:Str}{st:List (Int×Str)}(h:Way js a st b):(a::st.map Prod.snd).Nodup->(st.map Prod.fst).Nodup/\ ∀j∈js,(j.2.2.1∉a::st.map Prod.snd\/j.2.2.2∉a::st.map Prod.snd)->j.1∉st.map Prod.fst:=by
 induction h with
 |nil=>intro _;exact⟨List.nodup_nil,fun _ _ _ h=>List.not_mem_nil h⟩
 | @cons a b l st hl _ ih=>
   intro hnd
   rw[List.map_cons,List.nodup_cons]at hnd
   obtain⟨h1,h2⟩:=ih hnd.2
   obtain⟨i,hi,e1,e2,e3⟩:=a09 hl
   rw[List.map_cons,List.map_cons]
   refine⟨List.nodup_cons.mpr ⟨?_,h1⟩,fun j hj ho hm=> ?_⟩
   . have:=h2 i hi (by
       rcases e3 with⟨e3,_⟩ | ⟨e3,_⟩
       . left;rw[e3];exact hnd.1
       . right;rw[e3];exact hnd.1)
     rw[e1]at this;exact this
   . rcases List.mem_cons.mp hm with hm |hm
     . obtain rfl:=uniq nd hi hj (e1.trans hm.symm)
       dsimp only at ho
       rcases e3 with⟨e3,e4⟩ | ⟨e3,e4⟩<;>rw[e3,e4]at ho<;>simp at ho
     . refine h2 j hj ?_ hm
       dsimp only at ho
       rcases ho with ho |ho
       . left;exact fun z=>ho (List.mem_cons_of_mem _ z)
       . right;exact fun z=>ho (List.mem_cons_of_mem _ z)
structure Ring(ws:List (Str×Int))(js:List Jn)(x:Str)(a:Str)(rs:List (Int×Str)):Prop where
 way:Way js a rs a
 two:2<=rs.length
 joins:(rs.map Prod.fst).Nodup
 wheels:(rs.map Prod.snd).Nodup
 hang: ∀s∈rs,Reach js x s.2
 ne:(wayF ws js a rs (1,1)).1≠(wayF ws js a rs (1,1)).2
 last: ∃st n,rs=st++[(n,a)]
theorem ring_ok{ws:List (Str×Int)}(ht:a3e ws){js:List Jn}(nd:(js.map Prod.fst).Nodup){x:Str}{t:TT}(g:Grown js x t){j:Jn}(hj:j∈js)(h1:j.2.2.1∈names t)(h2:j.2.2.2∈names t)(hne:j.2.2.1≠j.2.2.2)
   (hjam: ¬ mulF (lk (a0e ws t) j.2.2.1) (fac j.2.1 (a0j ws j.2.2.1) (a0j ws j.2.2.2))=lk (a0e ws t) j.2.2.2)
   {st:List (Int×Str)} (hw:Way (a15 js t) j.2.2.1 st j.2.2.2) (hnd:(j.2.2.1::st.map Prod.snd).Nodup):Ring ws js x j.2.2.1 (st++[(j.1,j.2.2.1)]):=by
 have hs: ∀i∈a15 js t,i∈js:=fun i hi=>(List.mem_filter.mp hi).1
 have low:=a1o ht g
 have hA: ∀i∈a15 js t,Agrees ws (a0e ws t) i.2.1 i.2.2.1 i.2.2.2/\(lk (a0e ws t) i.2.2.1).2≠0/\(lk (a0e ws t) i.2.2.2).2≠0:=fun i hi=>by
   obtain⟨m1,m2⟩:=List.mem_filter.mp hi
   obtain⟨a1,a2,a3⟩:=b0w ht nd g i m1 (of_decide_eq_true m2)
   have:=(low _ a1).1
   have:=(low _ a2).1
   exact⟨a3,by omega,by omega⟩
 have l1:=low _ h1
 have l2:=low _ h2
 have t1:=a0q ht j.2.2.1
 have t2:=a0q ht j.2.2.2
 have hno: ¬ Agrees ws (a0e ws t) j.2.1 j.2.2.1 j.2.2.2:=fun A=>hjam ((a4s (by have:=l1.1;omega) l2 t1.1 t2.1).mpr A)
 have hjt:j∉a15 js t:=fun z=>hno (hA j z).1
 have hwj:=hw.mono hs
 have ndt:((a15 js t).map Prod.fst).Nodup:=nd.sublist (List.Sublist.map _ List.filter_sublist)
 obtain⟨q1,_⟩:=b74 ndt hw hnd
 have hmem: ∀{a b:Str}{st:List (Int×Str)},Way (a15 js t) a st b-> ∀s∈st,s.1∈(a15 js t).map Prod.fst:=by
   intro a b st h
   induction h with
   |nil=>intro s hs;cases hs
   |cons hl _ ih=>
     intro s hs
     rcases List.mem_cons.mp hs with rfl |hs
     . obtain⟨i,hi,e1,_⟩:=a09 hl
       exact List.mem_map.mpr ⟨i,hi,e1⟩
     . exact ih s hs
 have hreach: ∀{a b:Str}{st:List (Int×Str)},Way (a15 js t) a st b->Reach js x a-> ∀s∈st,Reach js x s.2:=by
   intro a b st h
   induction h with
   |nil=>intro _ s hs;cases hs
   |cons hl _ ih=>
     intro ha s hs'
     have:=Reach.step ha (a28 hl fun i hi _=>hs i hi)
     rcases List.mem_cons.mp hs' with rfl |hs'
     . exact this
     . exact ih this s hs'
 refine⟨hwj.snoc (a1i hj).2,?_,?_,?_,?_,?_,⟨st,j.1,rfl⟩⟩
 . cases st with
   |nil=>exact absurd (way_nil hw) hne
   |cons _ _=>simp
 . rw[List.map_append,List.nodup_append]
   refine⟨q1,by simp,fun a ha b hb=> ?_⟩
   have:b=j.1:=by simpa using hb
   subst this
   rintro rfl
   obtain⟨s,hs1,hs2⟩:=List.mem_map.mp ha
   obtain⟨i,hi,e⟩:=List.mem_map.mp (hmem hw s hs1)
   have:=uniq nd (hs i hi) hj (e.trans hs2)
   subst this
   exact hjt hi
 . rw[List.map_append,List.nodup_append]
   rw[List.nodup_cons]at hnd
   refine⟨hnd.2,by simp,fun a ha b hb=> ?_⟩
   have:b=j.2.2.1:=by simpa using hb
   subst this
   rintro rfl
   exact hnd.1 ha
 . have r1:=g.reach _ h1
   intro s hs'
   rcases List.mem_append.mp hs' with hs' |hs'
   . exact hreach hw r1 s hs'
   . rw[List.mem_singleton.mp hs'];exact r1
 . rw[b41 ws js hwj]
   obtain⟨f1,f2,f3⟩:=a7z ht nd hs hA (o:=j.2.2.1) hw (1,1) (by decide) (by decide) (by rw[Int.mul_one,Int.mul_one])
   dsimp only
   rw[a5m nd hj]
   generalize wayF ws js j.2.2.1 st (1,1)=F at *
   intro e
   refine hno (Agrees.symm ?_)
   unfold Agrees
   generalize byF j.2.1 (a0j ws j.2.2.2) (a0j ws j.2.2.1)=y at *
   refine Int.eq_of_mul_eq_mul_right f1 ?_
   rw[show(lk (a0e ws t) j.2.2.2).1 *y.1 * (lk (a0e ws t) j.2.2.1).2 *F.1=(lk (a0e ws t) j.2.2.2).1 * (lk (a0e ws t) j.2.2.1).2 * (F.1 *y.1)by ac_rfl,e,
     show(lk (a0e ws t) j.2.2.2).1 * (lk (a0e ws t) j.2.2.1).2 * (F.2 *y.2)=(lk (a0e ws t) j.2.2.2).1 * (lk (a0e ws t) j.2.2.1).2 *F.2 *y.2 by ac_rfl,<-f3]
   ac_rfl
theorem b35{js:List Jn}{x:Str}{t:TT}(g:Grown js x t){a b:Str}(ha:a∈names t)(hb:b∈names t):Reach (a15 js t) a b:=(g.tree.reach _ ha).symm.trans (g.tree.reach _ hb)
def AgreesG(ws:List (Str×Int))(g:Str->Fr)(k a b:Str):Prop:=(g a).1 * (byF k (a0j ws a) (a0j ws b)).1 * (g b).2=(g b).1 * (g a).2 * (byF k (a0j ws a) (a0j ws b)).2
theorem AgreesG.symm{ws:List (Str×Int)}{g:Str->Fr}{k a b:Str}(h:AgreesG ws g k a b):AgreesG ws g k b a:=by
 unfold AgreesG byF at *
 generalize g a=x at *
 generalize g b=y at *
 generalize a0j ws a=m at *
 generalize a0j ws b=n at *
 split at h
 . rename_i hk
   rw[if_pos hk]
   dsimp only at h |-
   rw[Int.mul_one,Int.mul_one]at h |-
   exact h.symm
 . rename_i hk
   rw[if_neg hk]
   split at h
   . rename_i hk2
     rw[if_pos hk2]
     dsimp only at h |-
     rw[show y.1 *n *x.2=y.1 *x.2 *n by ac_rfl,<-h];ac_rfl
   . rename_i hk2
     rw[if_neg hk2]
     dsimp only at h |-
     rw[Int.mul_neg,Int.neg_mul]at h |-
     rw[show y.1 *n *x.2=y.1 *x.2 *n by ac_rfl,<-h,Int.neg_neg];ac_rfl
structure Fits(ws:List (Str×Int))(js:List Jn)(x:Str)(t:TT)(g:Str->Fr):Prop where
 one:g x=(1,1)
 low: ∀n∈names t,Low (g n)
 agr: ∀j∈js,j.2.2.1∈names t->j.2.2.2∈names t->AgreesG ws g j.2.1 j.2.2.1 j.2.2.2
theorem Fits.less{ws:List (Str×Int)}{js js':List Jn}{x:Str}{t t':TT}{g:Str->Fr}(F:Fits ws js x t g)(hj: ∀j∈js',j∈js)(hn: ∀n∈names t',n∈names t):Fits ws js' x t' g:=
 ⟨F.one,fun n h=>F.low n (hn n h),fun j h h1 h2=>F.agr j (hj j h) (hn _ h1) (hn _ h2)⟩
theorem a7e{ws:List (Str×Int)}(ht:a3e ws){js:List Jn}{x:Str}{t:TT}{g:Str->Fr}(gr:Grown js x t):Fits ws js x t g-> ∀n∈names t,lk (a0e ws t) n=g n:=by
 induction gr with
 |root=>
   intro F n hn
   have:n=x:=by simpa[names]using hn
   subst this
   rw[F.one]
   simp[a0e,a4j,lk]
 |more t n e gr new old by_ ih=>
   intro F m hm
   have sub: ∀m∈names t,m∈names (t++[(n,some e)]):=fun m h=>by rw[a08];exact List.mem_append_left _ h
   have ih:=ih (F.less (fun _ h=>h) sub)
   rw[a1l]
   rw[a08]at hm
   rcases List.mem_append.mp hm with hm |hm
   . rw[b0c (by rw[a0n];exact hm)];exact ih m hm
   . have:m=n:=by simpa using hm
     subst this
     have hm':m∈names (t++[(m,some e)]):=by rw[a08];simp
     rw[b28 (by rw[a0n];exact new)]
     show mulF (lk (a0e ws t) e.2.2) (fac e.2.1 (a0j ws e.2.2) (a0j ws m))=g m
     rw[ih _ old]
     have l1:=(F.low _ (sub _ old)).1
     refine(a4s (by omega) (F.low _ hm') (a0q ht _).1 (a0q ht _).1).mpr ?_
     obtain⟨j,hj,_,e2,e3⟩:=a09 by_
     dsimp only at e2 e3
     rcases e3 with⟨e3,e4⟩ | ⟨e3,e4⟩
     . have:=F.agr j hj (by rw[e3];exact sub _ old) (by rw[e4];exact hm')
       rw[e2,e3,e4]at this;exact this
     . have:=(F.agr j hj (by rw[e4];exact hm') (by rw[e3];exact sub _ old)).symm
       rw[e2,e3,e4]at this;exact this
def a4d(ws:List (Str×Int))(js:List Jn)(t:TT):Prop:= ∀j∈js,j.2.2.1∈names t->mulF (lk (a0e ws t) j.2.2.1) (fac j.2.1 (a0j ws j.2.2.1) (a0j ws j.2.2.2))=lk (a0e ws t) j.2.2.2
theorem a2d{js:List Jn}{t:TT}(cl:Closed js t){j:Jn}(hj:j∈js):j.2.2.1∈names t↔j.2.2.2∈names t:=
 ⟨fun h=>cl _ h _ (a1i hj).1,fun h=>cl _ h _ (a1i hj).2⟩
theorem b9f{ws:List (Str×Int)}(ht:a3e ws){js:List Jn}{x:Str}{t:TT}{g:Str->Fr}(gr:Grown js x t)(cl:Closed js t)(F:Fits ws js x t g):a4d ws js t:=by
 intro j hj h1
 have h2:=(a2d cl hj).mp h1
 have e:=a7e ht gr F
 rw[e _ h1,e _ h2]
 have l1:=(F.low _ h1).1
 exact(a4s (by omega) (F.low _ h2) (a0q ht _).1 (a0q ht _).1).mpr (F.agr j hj h1 h2)
theorem b3a{ws:List (Str×Int)}{js:List Jn}{x:Str}{t:TT}(g:Grown js x t):lk (a0e ws t) x=(1,1):=by
 induction g with
 |root=>simp[a0e,a4j,lk]
 |more t n e g new old by_ ih=>rw[a1l,b0c (by rw[a0n];exact g.start)];exact ih
theorem b1y{ws:List (Str×Int)}(ht:a3e ws){js:List Jn}{x:Str}{t:TT}(gr:Grown js x t)(nj:a4d ws js t):Fits ws js x t (lk (a0e ws t)):=by
 have low:=a1o ht gr
 refine⟨b3a gr,low,fun j hj h1 h2=> ?_⟩
 have l1:=(low _ h1).1
 exact(a4s (by omega) (low _ h2) (a0q ht _).1 (a0q ht _).1).mp (nj j hj h1)
theorem Reach.mono{js js':List Jn}(hs: ∀j∈js,j∈js'){a b:Str}(h:Reach js a b):Reach js' a b:=by
 induction h with
 |refl=>exact .refl
 |step _ hl ih=>exact .step ih (a28 hl fun j hj _=>hs j hj)
theorem a98{js js':List Jn}(hs: ∀j∈js,j∈js'){x:Str}{t t':TT}(g:Grown js x t)(g':Grown js' x t')(c':Closed js' t'): ∀n∈names t,n∈names t':=fun n hn=>g'.all c' ((g.reach n hn).mono hs)
theorem b88{ws:List (Str×Int)}(ht:a3e ws){js js':List Jn}(hs: ∀j∈js,j∈js'){x:Str}{t t':TT}(g:Grown js x t)(c:Closed js t)(g':Grown js' x t')(c':Closed js' t')(nj:a4d ws js' t'):
   a4d ws js t/\ ∀n∈names t,lk (a0e ws t) n=lk (a0e ws t') n:=by
 have F:=(b1y ht g' nj).less hs (a98 hs g g' c')
 exact⟨b9f ht g c F,a7e ht g F⟩
theorem a7h{js:List Jn}{j:Jn}{t:TT}(c:Closed js t)(h:j.2.2.1∈names t↔j.2.2.2∈names t):Closed (js++[j]) t:=by
 intro n hn l hl
 obtain⟨i,hi,e1,e2,e3⟩:=a09 hl
 rcases List.mem_append.mp hi with hi |hi
 . rcases e3 with⟨e3,e4⟩ | ⟨e3,e4⟩
   . rw[<-e4];exact(a2d c hi).mp (by rw[e3];exact hn)
   . rw[<-e4];exact(a2d c hi).mpr (by rw[e3];exact hn)
 . have:i=j:=by simpa using hi
   subst this
   rcases e3 with⟨e3,e4⟩ | ⟨e3,e4⟩
   . rw[<-e4];exact h.mp (by rw[e3];exact hn)
   . rw[<-e4];exact h.mpr (by rw[e3];exact hn)
theorem Closed.reach{js:List Jn}{t:TT}(c:Closed js t){a b:Str}(ha:a∈names t)(h:Reach js a b):b∈names t:=by
 induction h with
 |refl=>exact ha
 |step _ hl ih=>exact c _ ih _ hl
theorem b4m{js:List Jn}{j:Jn}{x:Str}{t t':TT}(g:Grown js x t)(c:Closed js t)(g':Grown (js++[j]) x t')(c':Closed (js++[j]) t')(h:j.2.2.1∈names t↔j.2.2.2∈names t)(n:Str):n∈names t'↔n∈names t:=
 ⟨fun hn=>(a7h c h).reach g.start (g'.reach n hn),a98 (fun _ hi=>List.mem_append_left _ hi) g g' c' n⟩
theorem b6i{t b:Int}(h:t≠0):lowT t b≠0:=fun z=>h (by have:=a6e t b;rw[z,Int.zero_mul]at this;exact this.symm)
theorem b4b{ws:List (Str×Int)}(ht:a3e ws){js:List Jn}{x:Str}{t:TT}(g:Grown js x t): ∀n∈names t,(lk (a0e ws t) n).1≠0:=by
 induction g with
 |root=>
   intro m hm
   have:m=x:=by simpa[names]using hm
   subst this
   have e:lk (a0e ws [(m,none)]) m=(1,1):=by simp[a0e,a4j,lk]
   rw[e];decide
 |more t m l g new old by_ ih=>
   intro y hy
   rw[a08]at hy
   rw[a1l]
   rcases List.mem_append.mp hy with hy |hy
   . rw[b0c (by rw[a0n];exact hy)];exact ih y hy
   . have:y=m:=by simpa using hy
     subst this
     rw[b28 (by rw[a0n];exact new)]
     show lowT _ _≠0
     refine b6i (Int.mul_ne_zero (ih _ old) ?_)
     rw[b7j]
     exact b6i (b3y (a0q ht _).1 (a0q ht _).1).1
theorem b8f{ws:List (Str×Int)}(ht:a3e ws){js:List Jn}{j:Jn}(nd:((js++[j]).map Prod.fst).Nodup){x:Str}{t:TT}(g:Grown js x t)(c:Closed js t)(h:j.2.2.1∈names t↔j.2.2.2∈names t)(nj:a4d ws js t)
   {a:Str}{rs:List (Int×Str)} (R:Ring ws (js++[j]) x a rs):j.1∈rs.map Prod.fst:=by
 by_cases hm:j.1∈rs.map Prod.fst
 . exact hm
 exfalso
 have cm:=a7h c h
 obtain⟨st0,n0,er⟩:=R.last
 have ha:a∈names t:=cm.reach g.start (R.hang (n0,a) (by rw[er];simp))
 let tj:=js.filter fun i=>decide (i.2.2.1∈names t)
 have hway: ∀{b d:Str}{st:List (Int×Str)},Way (js++[j]) b st d->b∈names t->j.1∉st.map Prod.fst->Way tj b st d:=by
   intro b d st hw
   induction hw with
   |nil=>intro _ _;exact .nil _
   | @cons b d l st hl _ ih=>
     intro hb hn
     rw[List.map_cons,List.mem_cons,not_or]at hn
     refine .cons (a28 hl fun i hi e=> ?_) (ih (cm _ hb _ hl) hn.2)
     rcases List.mem_append.mp hi with hi |hi
     . refine List.mem_filter.mpr ⟨hi,decide_eq_true ?_⟩
       obtain⟨i',hi',e1,_,e3⟩:=a09 hl
       have:i'=i:=uniq nd hi' (List.mem_append_left _ hi) (e1.trans e.symm)
       subst this
       rcases e3 with⟨e3,_⟩ | ⟨e3,_⟩
       . rw[e3];exact hb
       . exact(a2d c hi).mpr (by rw[e3];exact hb)
     . have:i=j:=by simpa using hi
       subst this
       exact absurd e hn.1
 have hA: ∀i∈tj,Agrees ws (a0e ws t) i.2.1 i.2.2.1 i.2.2.2/\(lk (a0e ws t) i.2.2.1).2≠0/\(lk (a0e ws t) i.2.2.2).2≠0:=by
   intro i hi
   obtain⟨i1,i2⟩:=List.mem_filter.mp hi
   have i2:=of_decide_eq_true i2
   have i3:=(a2d c i1).mp i2
   have low:=a1o ht g
   have:=(low _ i2).1
   have:=(low _ i3).1
   exact⟨(b1y ht g nj).agr i i1 i2 i3,by omega,by omega⟩
 obtain⟨_,_,f3⟩:=a7z ht nd (fun i hi=>List.mem_append_left _ (List.mem_filter.mp hi).1) hA (o:=a) (hway R.way ha hm) (1,1) (by decide) (by decide) (by rw[Int.mul_one,Int.mul_one])
 refine R.ne ?_
 generalize wayF ws (js++[j]) a rs (1,1)=F at *
 have n1:=b4b ht g a ha
 have n2:(lk (a0e ws t) a).2≠0:=by have:=(a1o ht g a ha).1;omega
 refine Int.eq_of_mul_eq_mul_right (Int.mul_ne_zero n1 n2) ?_
 rw[show F.1 * ((lk (a0e ws t) a).1 * (lk (a0e ws t) a).2)=(lk (a0e ws t) a).1 *F.1 * (lk (a0e ws t) a).2 by ac_rfl,f3]
 ac_rfl
noncomputable def top(i:Nat):Stmt:=PySem.Challenge.pw_cogtrain_k08_whole_loosened.main.body.getD i (.Pass ⟨0,0,0,0⟩)
structure Txt(K:PySem.W.Frag)(mg:Str->Option Value):Prop where
 len:mg "len"=none
 all:mg "all"=none
 list:mg "list"=none
 range:mg "range"=none
 isinstance:mg "isinstance"=none
 int:mg "int"=none
 bool:mg "bool"=none
 str:mg "str"=none
 max:mg "max"=none
 abs:mg "abs"=none
 dict:mg "dict"=none
 tuple:mg "tuple"=none
 ValueError:mg "ValueError"=none
 LONGEST_NAME: ∃t,mg "LONGEST_NAME"=some (.int 8 t)
 TEETH_BOUND: ∃t,mg "TEETH_BOUND"=some (.int 1000000000 t)
 MOST_WHEELS: ∃t,mg "MOST_WHEELS"=some (.int 100 t)
 MOST_JOINS: ∃t,mg "MOST_JOINS"=some (.int 200 t)
 MOST_FIGURES: ∃t,mg "MOST_FIGURES"=some (.int 9 t)
 LETTERS: ∃t,mg "LETTERS"=some (.str "abcdefghijklmnopqrstuvwxyz" t)
 FIGURES: ∃t,mg "FIGURES"=some (.str "0123456789" t)
 KINDS: ∃a,mg "KINDS"=some (.ref a)/\ ∀H,SqT K H a ([.str "mesh",.str "pin",.str "band",.str "cross"])
noncomputable abbrev a1p:Stmt:=top 11
theorem sc_greatest_divisor:FnScope ["one","other","divisor","rest","left_over"] ["one","other"] (a0d a1p):=⟨rfl,rfl,rfl,by decide+kernel,rfl,by decide+kernel,by decide+kernel⟩
noncomputable abbrev a4m:Stmt:=top 12
theorem sc_lowest:FnScope ["top","bottom","divisor"] ["top","bottom"] (a0d a4m):=⟨rfl,rfl,rfl,by decide+kernel,rfl,by decide+kernel,by decide+kernel⟩
noncomputable abbrev b05:Stmt:=top 13
theorem b8b:FnScope ["one","other"] ["one","other"] (a0d b05):=⟨rfl,rfl,rfl,by decide+kernel,rfl,by decide+kernel,by decide+kernel⟩
noncomputable abbrev a8o:Stmt:=top 15
theorem b5n:FnScope ["kind","one","other"] ["kind","one","other"] (a0d a8o):=⟨rfl,rfl,rfl,by decide+kernel,rfl,by decide+kernel,by decide+kernel⟩
noncomputable abbrev a13:Stmt:=top 16
theorem a46:FnScope ["names","name"] ["names","name"] (a0d a13):=⟨rfl,rfl,rfl,by decide+kernel,rfl,by decide+kernel,by decide+kernel⟩
noncomputable abbrev a2z:Stmt:=top 17
theorem sc_wheel_meant:FnScope ["train","name","names"] ["train","name"] (a0d a2z):=⟨rfl,rfl,rfl,by decide+kernel,rfl,by decide+kernel,by decide+kernel⟩
noncomputable abbrev a3j:Stmt:=top 18
theorem sc_joins_from:FnScope ["joins","here","leading","number","kind","one","other"] ["joins","here"] (a0d a3j):=⟨rfl,rfl,rfl,by decide+kernel,rfl,by decide+kernel,by decide+kernel⟩
noncomputable abbrev a35:Stmt:=top 19
theorem sc_tree_from:FnScope ["joins","start","tree","waiting","here","number","kind","there"] ["joins","start"] (a0d a35):=⟨rfl,rfl,rfl,by decide+kernel,rfl,by decide+kernel,by decide+kernel⟩
noncomputable abbrev a6q:Stmt:=top 20
theorem sc_road_by:FnScope ["joins","one","other","tree","steps","there","entry"] ["joins","one","other"] (a0d a6q):=⟨rfl,rfl,rfl,by decide+kernel,rfl,by decide+kernel,by decide+kernel⟩
noncomputable abbrev a2k:Stmt:=top 21
theorem sc_shares_along:FnScope ["train","tree","teeth_of","shares","name","entry","before"] ["train","tree"] (a0d a2k):=⟨rfl,rfl,rfl,by decide+kernel,rfl,by decide+kernel,by decide+kernel⟩
noncomputable abbrev a2n:Stmt:=top 22
theorem sc_jamming_join:FnScope ["train","shares","teeth_of","join","one","other","share"] ["train","shares"] (a0d a2n):=⟨rfl,rfl,rfl,by decide+kernel,rfl,by decide+kernel,by decide+kernel⟩
noncomputable abbrev a11:Stmt:=top 23
theorem sc_ring_closed_by:FnScope ["join","joins","tree","numbers","tree_joins","steps"] ["join","joins","tree"] (a0d a11):=⟨rfl,rfl,rfl,by decide+kernel,rfl,by decide+kernel,by decide+kernel⟩
noncomputable abbrev a3c:Stmt:=top 24
theorem sc_ring:FnScope ["train","name","tree","join"] ["train","name"] (a0d a3c):=⟨rfl,rfl,rfl,by decide+kernel,rfl,by decide+kernel,by decide+kernel⟩
noncomputable abbrev a24:Stmt:=top 25
theorem sc_free_shares:FnScope ["train","name","tree","shares"] ["train","name"] (a0d a24):=⟨rfl,rfl,rfl,by decide+kernel,rfl,by decide+kernel,by decide+kernel⟩
noncomputable abbrev a10:Stmt:=top 26
theorem sc_turns:FnScope ["train","name","shares"] ["train","name"] (a0d a10):=⟨rfl,rfl,rfl,by decide+kernel,rfl,by decide+kernel,by decide+kernel⟩
noncomputable abbrev a6s:Stmt:=top 34
theorem b4f:FnScope ["text"] ["text"] (a0d a6s):=⟨rfl,rfl,rfl,by decide+kernel,rfl,by decide+kernel,by decide+kernel⟩
noncomputable abbrev a1d:Stmt:=a5o (top 35) 0
theorem a47:FnScope ["self"] ["self"] (a0d a1d):=⟨rfl,rfl,rfl,by decide+kernel,rfl,by decide+kernel,by decide+kernel⟩
noncomputable abbrev a07:Stmt:=a5o (top 35) 1
theorem a4l:FnScope ["self","name","teeth"] ["self","name","teeth"] (a0d a07):=⟨rfl,rfl,rfl,by decide+kernel,rfl,by decide+kernel,by decide+kernel⟩
noncomputable abbrev a1c:Stmt:=a5o (top 35) 2
theorem sc_Train_put_join:FnScope ["self","kind","one","other","number"] ["self","kind","one","other"] (a0d a1c):=⟨rfl,rfl,rfl,by decide+kernel,rfl,by decide+kernel,by decide+kernel⟩
noncomputable abbrev a06:Stmt:=a5o (top 35) 3
theorem a4k:FnScope ["self","number"] ["self","number"] (a0d a06):=⟨rfl,rfl,rfl,by decide+kernel,rfl,by decide+kernel,by decide+kernel⟩
noncomputable abbrev a1j:Stmt:=a5o (top 35) 4
theorem a6p:FnScope ["self"] ["self"] (a0d a1j):=⟨rfl,rfl,rfl,by decide+kernel,rfl,by decide+kernel,by decide+kernel⟩
noncomputable abbrev a1m:Stmt:=a5o (top 35) 5
theorem a7n:FnScope ["self"] ["self"] (a0d a1m):=⟨rfl,rfl,rfl,by decide+kernel,rfl,by decide+kernel,by decide+kernel⟩
noncomputable abbrev a3g:Stmt:=top 39
theorem a8l:FnScope ["word"] ["word"] (a0d a3g):=⟨rfl,rfl,rfl,by decide+kernel,rfl,by decide+kernel,by decide+kernel⟩
noncomputable abbrev a48:Stmt:=top 40
theorem b03:FnScope ["train","words"] ["train","words"] (a0d a48):=⟨rfl,rfl,rfl,by decide+kernel,rfl,by decide+kernel,by decide+kernel⟩
noncomputable abbrev b5o:Stmt:=top 41
theorem sc_read:FnScope ["text","train","part","reason"] ["text"] (a0d b5o):=⟨rfl,rfl,rfl,by decide+kernel,rfl,by decide+kernel,by decide+kernel⟩
noncomputable abbrev a23:Stmt:=top 43
theorem a7m:FnScope ["_law_script","_law_k"] ["_law_script","_law_k"] (a0d a23):=⟨rfl,rfl,rfl,by decide+kernel,rfl,by decide+kernel,by decide+kernel⟩
noncomputable abbrev a36:Stmt:=top 44
theorem a9r:FnScope ["_law_found"] ["_law_found"] (a0d a36):=⟨rfl,rfl,rfl,by decide+kernel,rfl,by decide+kernel,by decide+kernel⟩
noncomputable abbrev a5d:Stmt:=top 45
theorem sc_law_name:FnScope ["_law_k","_law_spin","_law_letters","_law_first","_law_last"] ["_law_k","_law_spin"] (a0d a5d):=⟨rfl,rfl,rfl,by decide+kernel,rfl,by decide+kernel,by decide+kernel⟩
noncomputable abbrev a37:Stmt:=top 46
theorem a9s:FnScope ["_law_number","_law_way"] ["_law_number","_law_way"] (a0d a37):=⟨rfl,rfl,rfl,by decide+kernel,rfl,by decide+kernel,by decide+kernel⟩
noncomputable abbrev a5b:Stmt:=top 47
theorem sc_law_rows:FnScope ["_law_script","_law_wheels","_law_joins","_law_start","_law_kinds","_law_k","_law_way","_law_rest","_law_kind","_law_many","_law_at","_law_to"] ["_law_script"] (a0d a5b):=⟨rfl,rfl,rfl,by decide+kernel,rfl,by decide+kernel,by decide+kernel⟩
noncomputable abbrev a5a:Stmt:=top 48
theorem sc_law_text:FnScope ["_law_wheels","_law_joins","_law_parts","_law_kind","_law_one","_law_other"] ["_law_wheels","_law_joins"] (a0d a5a):=⟨rfl,rfl,rfl,by decide+kernel,rfl,by decide+kernel,by decide+kernel⟩
noncomputable abbrev a8m:Stmt:=top 49
theorem b5m:FnScope ["_law_kind","_law_one","_law_other"] ["_law_kind","_law_one","_law_other"] (a0d a8m):=⟨rfl,rfl,rfl,by decide+kernel,rfl,by decide+kernel,by decide+kernel⟩
noncomputable abbrev a5e:Stmt:=top 50
theorem sc_law_hung:FnScope ["_law_many","_law_joins","_law_start","_law_hung_here","_law_again","_law_kind","_law_one","_law_other"] ["_law_many","_law_joins","_law_start"] (a0d a5e):=⟨rfl,rfl,rfl,by decide+kernel,rfl,by decide+kernel,by decide+kernel⟩
noncomputable abbrev a38:Stmt:=top 51
theorem sc_law_steps:FnScope ["_law_way","_law_wheels","_law_left","_law_names","_law_steps_here","_law_step"] ["_law_way","_law_wheels","_law_left"] (a0d a38):=⟨rfl,rfl,rfl,by decide+kernel,rfl,by decide+kernel,by decide+kernel⟩
noncomputable abbrev a3i:Stmt:=top 52
theorem sc_law_jammed:FnScope ["_law_way","_law_wheels","_law_left","_law_hung_here","_law_steps_here","_law_at","_law_top","_law_bottom","_law_gone","_law_seen","_law_number","_law_to","_law_kind","_law_one","_law_other","_law_by_here"] ["_law_way","_law_wheels","_law_left","_law_hung_here"] (a0d a3i):=⟨rfl,rfl,rfl,by decide+kernel,rfl,by decide+kernel,by decide+kernel⟩
noncomputable abbrev a2m:Stmt:=top 53
theorem sc_law_loosened:FnScope ["_law_train","_law_wheels","_law_left","_law_hung_here","_law_cell","_law_out","_law_turn","_law_way","_law_number"] ["_law_train","_law_wheels","_law_left","_law_hung_here","_law_cell"] (a0d a2m):=⟨rfl,rfl,rfl,by decide+kernel,rfl,by decide+kernel,by decide+kernel⟩
noncomputable abbrev a39:Stmt:=top 54
theorem sc_law_leads:FnScope ["_law_left","_law_at","_law_found","_law_number","_law_row"] ["_law_left","_law_at"] (a0d a39):=⟨rfl,rfl,rfl,by decide+kernel,rfl,by decide+kernel,by decide+kernel⟩
noncomputable abbrev a3h:Stmt:=top 55
theorem sc_law_walked:FnScope ["_law_told_here","_law_wheels","_law_left","_law_cells","_law_at","_law_top","_law_bottom","_law_cell","_law_some","_law_number","_law_to","_law_by_here"] ["_law_told_here","_law_wheels","_law_left","_law_cells"] (a0d a3h):=⟨rfl,rfl,rfl,by decide+kernel,rfl,by decide+kernel,by decide+kernel⟩
noncomputable abbrev a5c:Stmt:=top 56
theorem b04:FnScope ["_law_found"] ["_law_found"] (a0d a5c):=⟨rfl,rfl,rfl,by decide+kernel,rfl,by decide+kernel,by decide+kernel⟩
noncomputable abbrev a49:Stmt:=top 57
theorem sc_law_told:FnScope ["_law_told_here","_law_hung_here","_law_k"] ["_law_told_here","_law_hung_here"] (a0d a49):=⟨rfl,rfl,rfl,by decide+kernel,rfl,by decide+kernel,by decide+kernel⟩
noncomputable abbrev a6r:Stmt:=top 58
theorem sc_law_now:FnScope ["_law_train","_law_told_here","_law_jams"] ["_law_train"] (a0d a6r):=⟨rfl,rfl,rfl,by decide+kernel,rfl,by decide+kernel,by decide+kernel⟩
noncomputable abbrev a2l:Stmt:=top 59
theorem sc_law_put_back:FnScope ["_law_train","_law_wheels","_law_left","_law_out","_law_told_here","_law_hung_here","_law_kind","_law_one","_law_other","_law_number","_law_jams","_law_again","_law_way"] ["_law_train","_law_wheels","_law_left","_law_out","_law_told_here"] (a0d a2l):=⟨rfl,rfl,rfl,by decide+kernel,rfl,by decide+kernel,by decide+kernel⟩
noncomputable abbrev a22:Stmt:=top 60
theorem a7l:FnScope ["_law_train"] ["_law_train"] (a0d a22):=⟨rfl,rfl,rfl,by decide+kernel,rfl,by decide+kernel,by decide+kernel⟩
noncomputable abbrev a8n:Stmt:=top 61
theorem sc_law:FnScope ["_law_script","_law_wheels","_law_joins","_law_train","_law_left","_law_k","_law_hung_here","_law_out","_law_told_here","_law_kept"] ["_law_script"] (a0d a8n):=⟨rfl,rfl,rfl,by decide+kernel,rfl,by decide+kernel,by decide+kernel⟩
section
variable {P:Program}{w:World}{K:PySem.W.Frag}{mg:Str->Option Value}{base:Heap}
theorem a6w{X:Cx}{F0:Hp}{pos:Pos}(T:Txt X.K X.mg)(hg:Gl X "LONGEST_NAME":=by rfl):PEA X F0 (.Name "LONGEST_NAME" pos) (aC (.int 8)):=by
 obtain⟨t,h⟩:=T.LONGEST_NAME
 exact paC (a3l (v:= .int 8) hg h ⟨t,rfl⟩) fun _=> .int _
theorem a7p{X:Cx}{F0:Hp}{pos:Pos}(T:Txt X.K X.mg)(hg:Gl X "TEETH_BOUND":=by rfl):PEA X F0 (.Name "TEETH_BOUND" pos) (aC (.int 1000000000)):=by
 obtain⟨t,h⟩:=T.TEETH_BOUND
 exact paC (a3l (v:= .int 1000000000) hg h ⟨t,rfl⟩) fun _=> .int _
theorem a7q{X:Cx}{F0:Hp}{pos:Pos}(T:Txt X.K X.mg)(hg:Gl X "MOST_WHEELS":=by rfl):PEA X F0 (.Name "MOST_WHEELS" pos) (aC (.int 100)):=by
 obtain⟨t,h⟩:=T.MOST_WHEELS
 exact paC (a3l (v:= .int 100) hg h ⟨t,rfl⟩) fun _=> .int _
theorem a8t{X:Cx}{F0:Hp}{pos:Pos}(T:Txt X.K X.mg)(hg:Gl X "MOST_JOINS":=by rfl):PEA X F0 (.Name "MOST_JOINS" pos) (aC (.int 200)):=by
 obtain⟨t,h⟩:=T.MOST_JOINS
 exact paC (a3l (v:= .int 200) hg h ⟨t,rfl⟩) fun _=> .int _
theorem a6v{X:Cx}{F0:Hp}{pos:Pos}(T:Txt X.K X.mg)(hg:Gl X "MOST_FIGURES":=by rfl):PEA X F0 (.Name "MOST_FIGURES" pos) (aC (.int 9)):=by
 obtain⟨t,h⟩:=T.MOST_FIGURES
 exact paC (a3l (v:= .int 9) hg h ⟨t,rfl⟩) fun _=> .int _
theorem b4g{X:Cx}{F0:Hp}{pos:Pos}(T:Txt X.K X.mg)(hg:Gl X "LETTERS":=by rfl):PEA X F0 (.Name "LETTERS" pos) (aC (.str "abcdefghijklmnopqrstuvwxyz")):=by
 obtain⟨t,h⟩:=T.LETTERS
 exact paC (a3l (v:= .str "abcdefghijklmnopqrstuvwxyz") hg h ⟨t,rfl⟩) fun _=> .str _
theorem b4h{X:Cx}{F0:Hp}{pos:Pos}(T:Txt X.K X.mg)(hg:Gl X "FIGURES":=by rfl):PEA X F0 (.Name "FIGURES" pos) (aC (.str "0123456789")):=by
 obtain⟨t,h⟩:=T.FIGURES
 exact paC (a3l (v:= .str "0123456789") hg h ⟨t,rfl⟩) fun _=> .str _
theorem b8w{X:Cx}{F0:Hp}{pos:Pos}(T:Txt X.K X.mg)(hg:Gl X "KINDS":=by rfl):PEA X F0 (.Name "KINDS" pos) (aC (.ctp [.str "mesh",.str "pin",.str "band",.str "cross"])):=by
 obtain⟨a,h,hs⟩:=T.KINDS
 exact paC (a3l (v:= .ref a) hg h rfl) fun _=> .ctp (hs _) (.cons (.str _) (.cons (.str _) (.cons (.str _) (.cons (.str _) .nil))))
noncomputable def cell(ns:List Int)(k:Int):Int:=(ns[k.toNat]?).getD 0
def a9o:SpA:=fun ds M Q _=> ∃(ns:List Int) (k:Int),ds=[.scr (ns.map D.int),.int k]/\0<=k/\Q (.int (cell ns k)) M
theorem ok_cell{f:Addr}{fd:FuncData}(Fn:Fun K "_law_cell_at" "_law_cell_at" a23 f fd)(T:Txt K mg):FnOk P w K mg base (CXE P w) 1 f fd ["_law_script","_law_k"] (a0k K a9o):=by
 refine Fn.okA a7m (fun ds M Q E h=> ?_) ?_
 . obtain⟨a,b,rfl,_⟩:=h;rfl
 intro cdv A outer s H E F0 ds M Q Ea hr ct hsp
 obtain⟨ns,k,rfl,hk,q⟩:=hsp
 refine⟨_,(a0b (sIf (a0v a7r lLt (paV (pv 1)) (a0z a0s lLen (by rfl) T.len PySem.boot_len (a0a (paV (pv 0)) a0f)) (a0m _))
       (a0h (sRet (paIx a0i lIx (paV (pv 0)) (paV (pv 1)) (fun _ _=>rfl))))
       a0w)
     (a0h (sRet paI))),?_⟩
 simp! only[List.length_map]
 obtain⟨n,rfl⟩:=Int.eq_ofNat_of_zero_le hk
 refine ite2 (fun h=> ?_) fun h=> ?_
 . have h:=of_decide_eq_true h
   have hn:n<ns.length:=by omega
   rw[a29 (v:=D.int ns[n]) (by simp[List.getElem?_eq_getElem hn])]
   have e:cell ns (n:Int)=ns[n]:=by simp[cell,List.getElem?_eq_getElem hn]
   rw[e]at q
   exact .now q
 . have hn: ¬ n<ns.length:=fun z=>h (decide_eq_true (by omega))
   have e:cell ns (n:Int)=0:=by simp[cell,List.getElem?_eq_none (Nat.le_of_not_lt hn)]
   rw[e]at q
   exact .now q
noncomputable def isInt:D->Bool | .int _=>true |_=>false
def a6k:SpA:=fun ds M Q _=> ∃d,ds=[d]/\a4w M d=true/\Q (.bl (isInt d)) M
theorem b8y{f:Addr}{fd:FuncData}(Fn:Fun K "_law_whole" "_law_whole" a36 f fd)(T:Txt K mg):FnOk P w K mg base (CXE P w) 1 f fd ["_law_found"] (a0k K a6k):=by
 refine Fn.okA a9r (fun ds M Q E h=> ?_) ?_
 . obtain⟨a,rfl,_⟩:=h;rfl
 intro cdv A outer s H E F0 ds M Q Ea hr ct hsp
 obtain⟨d,rfl,hk,q⟩:=hsp
 refine⟨_,(a0h (sRet (b8x (a6y (T:="int") (x:="int") (by decide) (by rfl) T.isinstance (by rfl) T.int boot_int (paV (pv 0))) (paOne (paNot (a6y (T:="bool") (x:="bool") (by decide) (by rfl) T.isinstance (by rfl) T.bool boot_bool (paV (pv 0)))))))),?_⟩
 simp! only[b40]
 refine⟨hk,ite2 (fun h=>⟨hk,?_⟩) fun h=> ?_⟩
 . cases d<;>first
     |exact .now q
     | (simp[a85]at h;done)
     |skip
   rename_i p
   unfold a85 at h
   dsimp only at h
   split at h<;>simp at h
 . cases d<;>first
     |exact .now q
     | (exact absurd rfl h)
theorem b0j{X:Cx}{scope:Scope}{Nc:List Str}{n:Nat}(clos:closureFor scope X.env=pure []:=by rfl)(cell: ∀y∈scope.names,y.2≠ .cell:=by decide+kernel)(kind:scope.kind= .function:=by rfl)
   (names : ∀ x ∈ scope.names, x.2 = .local -> scope.names.lookup x.1 = some .local := by decide +kernel) (nof : ∀ y ∈ scope.names, y.2 ≠ .free := by decide +kernel) (rl : (relabel scope X.env).names = scope.names := by rfl) (len : n = Nc.length := by rfl) : CompOk X scope [] Nc (jsOf n []) := by
 have look: ∀{x:Str}{k:NameKind},scope.names.lookup x=some k-> ∃y∈scope.names,y.2=k:=by
   intro x k
   generalize scope.names=l
   intro h
   induction l with
   |nil=>cases h
   |cons a l ih=>
     rw[List.lookup_cons]at h
     split at h
     . cases h;exact⟨a,List.mem_cons_self,rfl⟩
     . obtain⟨y,h1,h2⟩:=ih h;exact⟨y,List.mem_cons_of_mem _ h1,h2⟩
 refine⟨clos,(fun _ _ h=>by cases h),cell,kind,names,fun x h=> ?_,by simp[jsOf,len],fun k j h=> ?_⟩
 . rw[rl]at h
   rcases h with h |h
   . obtain⟨y,h1,h2⟩:=look h;exact absurd h2 (cell y h1)
   . obtain⟨y,h1,h2⟩:=look h;exact absurd h2 (nof y h1)
 . unfold jsOf at h
   simp only[List.map_nil,List.append_nil,List.getElem?_replicate]at h
   split at h<;>cases h
theorem a6d(f:Nat->D)(n:Nat):outs (fun i=>some (f i)) n=(List.range n).map f:=by
 unfold outs
 induction List.range n with
 |nil=>rfl
 |cons a l ih=>simp only[List.filterMap_cons,List.map_cons,ih]
theorem all_cps(x:Str)(q:Nat->Bool):((List.range x.cps.size).map fun i=>q (x.cps.getD i 0)).all id=x.cps.toList.all q:=by
 rw[Bool.eq_iff_iff,List.all_eq_true,List.all_eq_true]
 constructor
 . intro h c hc
   obtain⟨i,hi,rfl⟩:=List.getElem_of_mem hc
   have hi':i<x.cps.size:=by simpa using hi
   have:=h _ (List.mem_map.mpr ⟨i,List.mem_range.mpr hi',rfl⟩)
   simpa[Array.getD,hi']using this
 . intro h b hb
   obtain⟨i,hi,rfl⟩:=List.mem_map.mp hb
   have hi':=List.mem_range.mp hi
   have:=h (x.cps.toList[i]'(by simpa using hi')) (List.getElem_mem _)
   simpa[Array.getD,hi']using this
theorem own1{own:G}(h:own.length=1): ∃o,own=[o]:=by
 cases own with
 |nil=>cases h
 |cons o l=>cases l with
   |nil=>exact⟨o,rfl⟩
   |cons _ _=>simp at h
def a8j:SpA:=fun ds M Q _=> ∃x:Str,ds=[.str x]/\x.length<=1000/\Q (.bl (a1s x)) M
theorem b4l{f:Addr}{fd:FuncData}(Fn:Fun K "is_name" "is_name" a6s f fd)(T:Txt K mg):FnOk P w K mg base (CXE P w) 1 f fd ["text"] (a0k K a8j):=by
 refine Fn.okA b4f (fun ds M Q E h=> ?_) ?_
 . obtain⟨x,rfl,_⟩:=h;rfl
 intro cdv A outer s H E F0 ds M Q Ea hr ct hsp
 obtain⟨x,rfl,hx,q⟩:=hsp
 refine⟨_,(a0b (sIf ((pwOr (a0v a7r lLt (a0z a0s lLen (by rfl) T.len PySem.boot_len (a0a (paV (pv 0)) a0f)) paI (a0m _)) (a52 (a0v b56 lGt (a0z a0s lLen (by rfl) T.len PySem.boot_len (a0a (paV (pv 0)) a0f)) (a6w T) (a0m _))))).pt
       (a0h (sRet paB))
       a0w)
     (a0h (sRet (paAll (by rfl) T.all rfl (a0a (paFz (a6z (Nc:=["sign"]) (n:=1) (fs:=[]) b0j rfl (iStr' (paV (pv 0))) (fun _ _ _ _ _=>(a0r (i:=0) (show List.Nodup (["sign"]:List Str)by decide+kernel) rfl (Or.inl rfl))) (fun _ _ _ _ _=>a9b) (fun _ _ _ _ _=>(a8u a90 lIn (paV (pv 0)) (b4g T) (by with_unfolding_all rfl))))) a0f))))),?_⟩
 have hl:x.length<=sizeLine:=a5n hx
 simp! only[]
 refine⟨hl,ite2 (fun h1=> ?_) (fun h1=>⟨hl,ite2 (fun h2=> ?_) (fun h2=> ?_)⟩)⟩
 . have h1:=of_decide_eq_true h1
   have e:a1s x=false:=by
     unfold a1s
     rw[decide_eq_true (show x.length<1 by omega)];rfl
   rw[e]at q
   exact .now q
 . have h2:=of_decide_eq_true h2
   have e:a1s x=false:=by
     unfold a1s
     rw[decide_eq_true (show 8<x.length by omega),Bool.or_true];rfl
   rw[e]at q
   exact .now q
 . have h1: ¬ (x.length<1):=fun z=>h1 (decide_eq_true (by omega))
   have h2: ¬ (8<x.length):=fun z=>h2 (decide_eq_true (by omega))
   have e:a1s x=x.cps.toList.all fun c=>decide (c∈letters):=by
     unfold a1s
     rw[decide_eq_false h1,decide_eq_false h2];rfl
   rw[e,<-all_cps]at q
   simp! only[aFz,a3d,frG,oIn]
   refine⟨fun i=>some (.bl (decide (x.cps.getD i 0∈letters))),by show x.cps.size<=1000;exact hx,fun M' _ i hi own ho=> ?_,fun p hp=> ?_⟩
   . obtain⟨o,rfl⟩:=own1 ho
     refine⟨⟨[some _],rfl,rfl⟩,?_⟩
     simp! only[]
     exact(congrArg (fun b=>some (D.bl b)) (PySem.StrLaws.found_one ("abcdefghijklmnopqrstuvwxyz":Str) (x.cps.getD i 0)).symm)
   . simp only[a0c,a1w hp,oAll,L2.dr]
     refine⟨_,?_,.now q⟩
     rw[a6d,List.map_map];rfl
theorem a5k{d1 d2:Addr}{n:Int}:(fsT d1 d2 n).lookup ("teeth_of":Str)=some (.obj d1):=rfl
theorem a66{d1 d2:Addr}{n:Int}:(fsT d1 d2 n).lookup ("join_of":Str)=some (.obj d2):=rfl
theorem b6m{d1 d2:Addr}{n:Int}:(fsT d1 d2 n).lookup ("next_number":Str)=some (.int n):=rfl
def b2m(C:Addr):SpA:=fun ds M Q _=> ∃p,ds=[.obj p]/\M p=some (.ins C [])/\ ∀d1 d2,M d1=none->M d2=none->d1≠d2->d1≠p->d2≠p->Q .non (put (put (put M d1 (.dic [])) d2 (.dic [])) p (.ins C (fsT d1 d2 0)))
theorem ok_init{f C:Addr}{fd:FuncData}(Fn:Fun K "__init__" "Train.__init__" a1d f fd)(pl_teeth_of:Pln K C "teeth_of")(pl_join_of:Pln K C "join_of")(pl_next_number:Pln K C "next_number"):
   FnOk P w K mg base (CXE P w) 1 f fd ["self"] (a0k K (b2m C)):=by
 refine Fn.okA a47 (fun ds M Q E h=> ?_) ?_
 . obtain⟨x,rfl,_⟩:=h;rfl
 intro cdv A outer s H E F0 ds M Q Ea hr ct hsp
 obtain⟨p,rfl,hp,q⟩:=hsp
 refine⟨_,(a0b (b8c pl_teeth_of (paV (pv 0)) b2z rfl)
     (a0b (b8c pl_join_of (paV (pv 0)) b2z rfl)
     (a0h (b8c pl_next_number (paV (pv 0)) paI rfl)))),?_⟩
 simp! only[]
 intro d1 h1
 have n1:p≠d1:=by rintro rfl;rw[hp]at h1;cases h1
 simp only[a0g n1,hp,a2v,a0c]
 refine⟨by decide,fun d2 h2=> ?_⟩
 have n2:p≠d2:=by rintro rfl;rw[a0c]at h2;cases h2
 rw[a0g n2.symm]at h2
 have n3:d1≠d2:=by rintro rfl;rw[a0c]at h2;cases h2
 rw[a0g n3.symm]at h2
 simp only[a0g n2,a2v,a0c]
 refine⟨by show 1<1000;decide,by show 2<1000;decide,?_⟩
 rw[a1b,a25 n2,a1b]
 exact .now (q d1 d2 h1 h2 n3 n1.symm n2.symm)
structure ExK(K:PySem.W.Frag)(mg:Str->Option Value)(EC:Rk->Addr):Prop where
 noName:ExCls K mg "NoName" (EC .noName)
 twice:ExCls K mg "Twice" (EC .twice)
 noTeeth:ExCls K mg "NoTeeth" (EC .noTeeth)
 full:ExCls K mg "Full" (EC .full)
 noWheel:ExCls K mg "NoWheel" (EC .noWheel)
 noJoin:ExCls K mg "NoJoin" (EC .noJoin)
def b2k(C:Addr)(EC:Rk->Addr):SpA:=fun ds M Q E=> ∃p d1 d2 S n t,ds=[.obj p,.str n,.int t]/\Tr C M p d1 d2 S/\n.length<=1000/\
 match refW S n t with |some r=>E (.ref (EC r)) M |none=>Q .non (put M d1 (.dic (dW (S.ws++[(n,t)]))))
theorem a93{f C:Addr}{fd:FuncData}{EC:Rk->Addr}(Fn:Fun K "put_wheel" "Train.put_wheel" a07 f fd)(T:Txt K mg)(XK:ExK K mg EC)(pl_teeth_of:Pln K C "teeth_of")
   (h_is_name:Has P w K mg base (CXE P w) 1 "is_name" ["text"] (a0k K a8j)):FnOk P w K mg base (CXE P w) 2 f fd ["self","name","teeth"] (a0k K (b2k C EC)):=by
 refine Fn.okA a4l (fun ds M Q E h=> ?_) ?_
 . obtain⟨p,d1,d2,S,n,t,rfl,_⟩:=h;rfl
 intro cdv A outer s H E F0 ds M Q Ea hr ct hsp
 obtain⟨p,d1,d2,S,n,t,rfl,tr,hn,q⟩:=hsp
 have hu:=hu_of hr
 have X_NoName:=XK.noName
 have X_Twice:=XK.twice
 have X_NoTeeth:=XK.noTeeth
 have X_Full:=XK.full
 refine⟨_,(a0b (sIf (a5f (ptV (a04 h_is_name (hr.mono (by decide)) (by rfl) ct (a0a (paV (pv 1)) a0f))))
       (a0h (a2f ct X_NoName (by rfl) (a0a paS a0f)))
       a0w)
     (a0b (sIf (ptPC (pcDIn (un1 ct) (paV (pv 1)) (a54 pl_teeth_of (paV (pv 0)) rfl)))
       (a0h (a2f ct X_Twice (by rfl) (a0a paS a0f)))
       a0w)
     (a0b (sIf ((pwOr (a0v a7r lLt (paV (pv 2)) paI (a0m _)) (a52 (a0v op_ge lGe (paV (pv 2)) (a7p T) (a0m _))))).pt
       (a0h (a2f ct X_NoTeeth (by rfl) (a0a paS a0f)))
       a0w)
     (a0b (sIf (a0v op_ge lGe (a0z a0s lLen (by rfl) T.len PySem.boot_len (a0a (a54 pl_teeth_of (paV (pv 0)) rfl) a0f)) (a7q T) (a0m _))
       (a0h (a2f ct X_Full (by rfl) (a0a paS a0f)))
       a0w)
     (a0h (b06 (un1 ct) (a54 pl_teeth_of (paV (pv 0)) rfl) (paV (pv 1)) (paV (pv 2)) rfl)))))),?_⟩
 simp! only[a8j]
 refine⟨n,rfl,hn,?_⟩
 simp! only[tr.self,a5k,tr.teeth,b1v]
 have hh:(S.ws.any fun w=>decide (w.1=n))=S.has n:=rfl
 rw[hh]
 cases h1:a1s n with
 |false=>simpa[refW,h1]using q
 |true=>
   cases h2:S.has n with
   |true=>simpa[refW,h1,h2]using q
   |false=>
     by_cases h3:t<1
     . simpa[refW,h1,h2,h3]using q
     . by_cases h4:1000000000<=t
       . simpa[refW,h1,h2,h3,h4]using q
       . by_cases h5:100<=S.ws.length
         . have e5:(100:Int)<=((dW S.ws).length:Nat):=by simp[dW];omega
           simpa[refW,h1,h2,h3,h4,h5,e5]using q
         . have e5: ¬ (100:Int)<=((dW S.ws).length:Nat):=by simp[dW];omega
           have e6:a53 (dW S.ws) (Sum.inr n) (.int t)=dW (S.ws++[(n,t)]):=by
             rw[a2q (by rw[b1v];exact h2)]
             simp[dW]
           have e7:(dW S.ws).length<1000:=by simp[dW];omega
           simp[h3,h4,e5,e7,e6]
           simp[refW,h1,h2,h3,h4,h5]at q
           exact .now q
theorem a8g(a k:Str):(a==k)=decide (k=a):=by
 rw[<-b13]
 by_cases h:a=k
 . subst h;rw[decide_eq_true rfl,decide_eq_true rfl]
 . rw[decide_eq_false fun z=>h (V.str.inj z),decide_eq_false fun z=>h z.symm]
theorem b9a(k:Str):inD (.str k) [.str "mesh",.str "pin",.str "band",.str "cross"]=a2u k:=by
 unfold inD a2u
 simp only[List.any_cons,List.any_nil,eqF,Bool.or_false]
 rw[a8g,a8g,a8g,a8g]
 simp only[Bool.or_assoc]
theorem kindsB(k:Str):(if(flD (.str k)&&([.str "mesh",.str "pin",.str "band",.str "cross"]:List D).all flD)=true then some (inD (.str k) [.str "mesh",.str "pin",.str "band",.str "cross"])else none)=some (a2u k):=by
 rw[if_pos (show(flD (.str k)&&([.str "mesh",.str "pin",.str "band",.str "cross"]:List D).all flD)=true from rfl),b9a]
def a74(C:Addr)(EC:Rk->Addr):SpA:=fun ds M Q E=> ∃p d1 d2 S k a b,ds=[.obj p,.str k,.str a,.str b]/\Tr C M p d1 d2 S/\
 match refJ S k a b with |some r=>E (.ref (EC r)) M |none=>Q (.int S.nx) (put (put M d2 (.dic (dJ (S.js++[(S.nx,k,a,b)])))) p (.ins C (fsT d1 d2 (S.nx+1))))
theorem b09{f C:Addr}{fd:FuncData}{EC:Rk->Addr}(Fn:Fun K "put_join" "Train.put_join" a1c f fd)(T:Txt K mg)(XK:ExK K mg EC)(pl_teeth_of:Pln K C "teeth_of")(pl_join_of:Pln K C "join_of")(pl_next_number:Pln K C "next_number"):
   FnOk P w K mg base (CXE P w) 2 f fd ["self","kind","one","other"] (a0k K (a74 C EC)):=by
 refine Fn.okA sc_Train_put_join (fun ds M Q E h=> ?_) ?_
 . obtain⟨p,d1,d2,S,k,a,b,rfl,_⟩:=h;rfl
 intro cdv A outer s H E F0 ds M Q Ea hr ct hsp
 obtain⟨p,d1,d2,S,k,a,b,rfl,tr,q⟩:=hsp
 have hu:=hu_of hr
 have hu64:=hr.units
 have X_NoJoin:=XK.noJoin
 have X_NoWheel:=XK.noWheel
 have X_Full:=XK.full
 refine⟨_,(a0b (sIf (a0v a4q b3d (paV (pv 1)) (b8w T) (by with_unfolding_all rfl))
       (a0h (a2f ct X_NoJoin (by rfl) (a0a paS a0f)))
       a0w)
     (a0b (sIf ((pwOr (ptPC (a3u (un1 ct) (paV (pv 2)) (a54 pl_teeth_of (paV (pv 0)) rfl))) (a52 (ptPC (a3u (un1 ct) (paV (pv 3)) (a54 pl_teeth_of (paV (pv 0)) rfl)))))).pt
       (a0h (a2f ct X_NoWheel (by rfl) (a0a paS a0f)))
       a0w)
     (a0b (sIf (a0v (a1g (un64 ct)) lEq (paV (pv 2)) (paV (pv 3)) (a0m _))
       (a0h (a2f ct X_NoJoin (by rfl) (a0a paS a0f)))
       a0w)
     (a0b (sIf (a0v op_ge lGe (a0z a0s lLen (by rfl) T.len PySem.boot_len (a0a (a54 pl_join_of (paV (pv 0)) rfl) a0f)) (a8t T) (a0m _))
       (a0h (a2f ct X_Full (by rfl) (a0a paS a0f)))
       a0w)
     (a0b (sSet (i:=4) sc_Train_put_join.nd rfl (Or.inl rfl) (a54 pl_next_number (paV (pv 0)) rfl))
     (a0b (b06 (un1 ct) (a54 pl_join_of (paV (pv 0)) rfl) (paV (pv 4)) (a2b (a0a (paV (pv 4)) (a0a (paV (pv 1)) (a0a (paV (pv 2)) (a0a (paV (pv 3)) a0f))))) rfl)
     (a0b (b8c pl_next_number (paV (pv 0)) (paOp a01 lAdd (paV (pv 4)) paI) rfl)
     (a0h (sRet (paV (pv 4))))))))))),?_⟩
 simp! only[kindsB]
 have n1:p≠d2:=by rintro rfl;have:=tr.self;rw[tr.join]at this;cases this
 simp! only[tr.self,a5k,a66,b6m,tr.teeth,tr.join,b1v,a0g n1]
 have ha:(S.ws.any fun w=>decide (w.1=a))=S.has a:=rfl
 have hb:(S.ws.any fun w=>decide (w.1=b))=S.has b:=rfl
 rw[ha,hb]
 cases h1:a2u k with
 |false=>simpa[refJ,h1]using q
 |true=>
   cases h2:S.has a with
   |false=>simpa[refJ,h1,h2]using q
   |true=>
     cases h3:S.has b with
     |false=>simpa[refJ,h1,h2,h3]using q
     |true=>
       by_cases h4:a=b
       . subst h4
         simpa[refJ,h1,h2,h3]using q
       . by_cases h5:200<=S.js.length
         . have e5:(200:Int)<=((dJ S.js).length:Nat):=by simp[dJ];omega
           simpa[refJ,h1,h2,h3,h4,h5,e5]using q
         . have e5: ¬ (200:Int)<=((dJ S.js).length:Nat):=by simp[dJ];omega
           have e7:(dJ S.js).length<1000:=by simp[dJ];omega
           have e8:(getK (dJ S.js) (Sum.inl S.nx)).isSome=false:=by
             rw[b1w]
             rw[List.any_eq_false]
             intro j hj
             have:=tr.lt j hj
             simp;omega
           have e6:a53 (dJ S.js) (Sum.inl S.nx) (.tup [.int S.nx,.str k,.str a,.str b])=dJ (S.js++[(S.nx,k,a,b)]):=by
             rw[a2q e8]
             simp[dJ,eJ]
           simp[h4,e5,e7,e6]
           simp[refJ,h1,h2,h3,h4,h5]at q
           exact⟨by show 3<1000;decide,.now q⟩
def a41(C:Addr)(EC:Rk->Addr):SpA:=fun ds M Q E=> ∃p d1 d2 S n,ds=[.obj p,.int n]/\Tr C M p d1 d2 S/\
 match refL S n with |some r=>E (.ref (EC r)) M |none=>Q .non (put M d2 (.dic (dJ (S.js.filter fun j=>decide (j.1≠n)))))
theorem a92{f C:Addr}{fd:FuncData}{EC:Rk->Addr}(Fn:Fun K "take_join" "Train.take_join" a06 f fd)(XK:ExK K mg EC)(pl_join_of:Pln K C "join_of"):
   FnOk P w K mg base (CXE P w) 2 f fd ["self","number"] (a0k K (a41 C EC)):=by
 refine Fn.okA a4k (fun ds M Q E h=> ?_) ?_
 . obtain⟨p,d1,d2,S,n,rfl,_⟩:=h;rfl
 intro cdv A outer s H E F0 ds M Q Ea hr ct hsp
 obtain⟨p,d1,d2,S,n,rfl,tr,q⟩:=hsp
 have hu:=hu_of hr
 have X_NoJoin:=XK.noJoin
 refine⟨_,(a0b (sIf (ptPC (a3u (un1 ct) (paV (pv 1)) (a54 pl_join_of (paV (pv 0)) rfl)))
       (a0h (a2f ct X_NoJoin (by rfl) (a0a paS a0f)))
       a0w)
     (a0h (a1y (b54 (a54 pl_join_of (paV (pv 0)) rfl) (paV (pv 1)) ⟨by rfl,by rfl,by rfl,by rfl⟩)))),?_⟩
 simp! only[tr.self,a66,tr.join,b1w]
 have ha:(S.js.any fun j=>decide (j.1=n))=S.hasJ n:=rfl
 rw[ha]
 cases h1:S.hasJ n with
 |false=>simpa[refL,h1]using q
 |true=>
   have e:(getK (dJ S.js) (Sum.inl n)).isSome=true:=by rw[b1w];exact h1
   obtain⟨d,hd⟩:=Option.isSome_iff_exists.mp e
   simp[hd,a1e,b7n]
   simp[refL,h1]at q
   exact .now q
def a2y(C:Addr):SpA:=fun ds M Q _=> ∃p d1 d2 S,ds=[.obj p]/\Tr C M p d1 d2 S/\ ∀l,M l=none->Q (.obj l) (put M l (.lst (S.ws.map eW)))
theorem b57{f C:Addr}{fd:FuncData}(Fn:Fun K "wheels" "Train.wheels" a1j f fd)(T:Txt K mg)(pl_teeth_of:Pln K C "teeth_of"):FnOk P w K mg base (CXE P w) 1 f fd ["self"] (a0k K (a2y C)):=by
 refine Fn.okA a6p (fun ds M Q E h=> ?_) ?_
 . obtain⟨p,d1,d2,S,rfl,_⟩:=h;rfl
 intro cdv A outer s H E F0 ds M Q Ea hr ct hsp
 obtain⟨p,d1,d2,S,rfl,tr,q⟩:=hsp
 refine⟨_,a0h (sRet (paItems T.list rfl (by rfl) (a54 pl_teeth_of (paV (pv 0)) rfl))),?_⟩
 simp! only[aItems,tr.self,a5k,tr.teeth]
 intro l hl
 have e:(dW S.ws).map (fun kv=>D.tup [keyOf kv.1,kv.2])=S.ws.map eW:=by
   unfold dW;rw[List.map_map];rfl
 rw[e]
 exact .now (q l hl)
def a44(C:Addr):SpA:=fun ds M Q _=> ∃p d1 d2 S,ds=[.obj p]/\Tr C M p d1 d2 S/\ ∀l,M l=none->Q (.obj l) (put M l (.lst (S.js.map eJ)))
theorem b81{f C:Addr}{fd:FuncData}(Fn:Fun K "joins" "Train.joins" a1m f fd)(T:Txt K mg)(pl_join_of:Pln K C "join_of"):FnOk P w K mg base (CXE P w) 1 f fd ["self"] (a0k K (a44 C)):=by
 refine Fn.okA a7n (fun ds M Q E h=> ?_) ?_
 . obtain⟨p,d1,d2,S,rfl,_⟩:=h;rfl
 intro cdv A outer s H E F0 ds M Q Ea hr ct hsp
 obtain⟨p,d1,d2,S,rfl,tr,q⟩:=hsp
 refine⟨_,a0h (sRet (paVals T.list rfl (by rfl) (a54 pl_join_of (paV (pv 0)) rfl))),?_⟩
 simp! only[aVals,tr.self,a66,tr.join]
 intro l hl
 have e:(dJ S.js).map (fun kv=>kv.2)=S.js.map eJ:=by
   unfold dJ;rw[List.map_map];rfl
 rw[e]
 exact .now (q l hl)
theorem seqV{i:Nat}{te:AE}{rest:AS}{E:AEnds}{Γ:G}{M:Mem}(d:D)(M1:Mem)(hte: ∀R:AK,R d M1->te Γ M R)(h:rest E (Γ.set i (some d)) M1):aSeq (aSet i te) rest E Γ M:=hte _ h
theorem setV{i:Nat}{te:AE}{E:AEnds}{Γ:G}{M:Mem}(d:D)(M1:Mem)(hte: ∀R:AK,R d M1->te Γ M R)(h:E.nx (Γ.set i (some d)) M1):aSet i te E Γ M:=hte _ h
theorem b4y{te:AE}{rest:AS}{E:AEnds}{Γ:G}{M:Mem}(d:D)(M1:Mem)(hte: ∀R:AK,R d M1->te Γ M R)(h:rest E Γ M1):aSeq (b19 te) rest E Γ M:=hte _ h
theorem a7x{te:AE}{E:AEnds}{Γ:G}{M:Mem}(d:D)(M1:Mem)(hte: ∀R:AK,R d M1->te Γ M R)(h:E.nx Γ M1):b19 te E Γ M:=hte _ h
theorem retV{te:AE}{E:AEnds}{Γ:G}{M:Mem}(d:D)(M1:Mem)(hte: ∀R:AK,R d M1->te Γ M R)(h:E.rt d M1):aRet te E Γ M:=hte _ h
theorem ifV{c:AT}{t u:AS}{E:AEnds}{Γ:G}{M:Mem}(b:Bool)(hc: ∀R:Bool->Mem->Prop,R b M->c Γ M R)(h:if b=true then t E Γ M else u E Γ M):aIf c t u E Γ M:=hc _ h
theorem cut1{t rest:AS}{E:AEnds}{Γ:G}{M:Mem}(R:G->Mem->Prop)(hr: ∀Γ M,R Γ M->rest E Γ M)(h: ∀rest':AS,(∀Γ M,R Γ M->rest' E Γ M)->aSeq t rest' E Γ M):aSeq t rest E Γ M:=h rest hr
theorem cut2{t1 t2 rest:AS}{E:AEnds}{Γ:G}{M:Mem}(R:G->Mem->Prop)(hr: ∀Γ M,R Γ M->rest E Γ M)(h: ∀rest':AS,(∀Γ M,R Γ M->rest' E Γ M)->aSeq t1 (aSeq t2 rest') E Γ M):aSeq t1 (aSeq t2 rest) E Γ M:=h rest hr
theorem LoopP.by2{S:Src}{gt:AGt}{tb:AS}{E:AEnds}{Γ:G}{M:Mem}(W:Nat->G->Mem->Prop)(h0:W 0 Γ M)(hl: ∀i Γ M,W i Γ M->S.held M)
   (step: ∀(E':AEnds) i Γ M,E'.rt=E.rt->i<S.n->(∀Γ' M',W (i+1) Γ' M'->E'.nx Γ' M')->W i Γ M->gt (S.item i) Γ M fun Γ2 M2=>tb E' Γ2 M2) (done: ∀Γ M,W S.n Γ M->E.nx Γ M):LoopP S gt tb E Γ M:=
 LoopP.by W h0 hl (fun i Γ M hi w=>step _ i Γ M rfl hi (fun _ _ h=>⟨hi,h⟩) w) done
theorem cT{c:AT}{Γ:G}{M:Mem}{A B:Mem->Prop}(hc: ∀R:Bool->Mem->Prop,R true M->c Γ M R)(h:A M):c Γ M fun b M1=>if b=true then A M1 else B M1:=hc _ (by rw[if_pos rfl];exact h)
theorem cF{c:AT}{Γ:G}{M:Mem}{A B:Mem->Prop}(hc: ∀R:Bool->Mem->Prop,R false M->c Γ M R)(h:B M):c Γ M fun b M1=>if b=true then A M1 else B M1:=hc _ (by rw[if_neg Bool.false_ne_true];exact h)
theorem seqIfB{c:AT}{t u rest:AS}{E:AEnds}{Γ:G}{M:Mem}(b:Bool)(hc: ∀R:Bool->Mem->Prop,R b M->c Γ M R)(h:if b=true then t {E with nx:=rest E} Γ M else u {E with nx:=rest E} Γ M):aSeq (aIf c t u) rest E Γ M:=hc _ h
theorem b4w{tl:AE}{gt:AGt}{tb rest:AS}{E:AEnds}{Γ:G}{M:Mem}{d:D}{ds:List D}(htl: ∀R:AK,R d M->tl Γ M R)(hd:dr M d=some ds)(h:LoopP ⟨ds.length,fun i=>ds.getD i .non,fun M=>dr M d=some ds⟩ gt tb {E with nx:=rest E} Γ M):aSeq (aFor (iaL tl) gt tb) rest E Γ M:=
 htl _ (by dsimp only;rw[hd];exact h)
theorem comp1{X:Cx}{scope:Scope}{Nc:List Str}{n j:Nat}{x:Str}{c:Addr}(clos:closureFor scope X.env=pure [(x,c)]:=by rfl)(hc:X.env.cells.lookup x=some c:=by rfl)(cell: ∀y∈scope.names,y.2≠ .cell:=by decide+kernel)(kind:scope.kind= .function:=by rfl)
   (names: ∀x∈scope.names,x.2= .local->scope.names.lookup x.1=some .local:=by decide+kernel) (nof: ∀y∈scope.names,y.2= .free->y.1=x:=by decide+kernel)
   (hx : (relabel scope X.env).names.lookup x = some .cell := by rfl) (hd : X.env.scope.names.lookup x = some .cell := by rfl) (hN : X.N[j]? = some x := by rfl) (hNc : Nc[n]? = some x := by rfl) (len : n + 1 = Nc.length := by rfl) : CompOk X scope [(x, c)] Nc (jsOf n [j]) := by
 have look: ∀{l:List (Str×NameKind)}{z:Str}{k:NameKind},l.lookup z=some k->(z,k)∈l:=by
   intro l z k h
   induction l with
   |nil=>cases h
   |cons a l ih=>
     rw[List.lookup_cons]at h
     split at h
     . rename_i e
       cases h
       have e:z=a.1:=by simpa using e
       rw[e];exact List.mem_cons_self
     . exact List.mem_cons_of_mem _ (ih h)
 have one: ∀{z:Str}{d:Addr},([(x,c)]:List (Str×Addr)).lookup z=some d->z=x/\d=c:=by
   intro z d h
   rw[List.lookup_cons]at h
   split at h
   . rename_i e
     cases h
     exact⟨by simpa using e,rfl⟩
   . cases h
 have self:([(x,c)]:List (Str×Addr)).lookup x=some c:=by simp[List.lookup_cons]
 refine⟨clos,fun z d h=> ?_,cell,kind,names,fun z h=> ?_,by simp[jsOf,len],fun k j' h=> ?_⟩
 . obtain⟨rfl,rfl⟩:=one h;exact hc
 . have key : ∀ k', (z, k') ∈ (relabel scope X.env).names -> (k' = .cell \/ k' = .free) -> z = x := fun k' hm hk => by
     obtain⟨⟨n',k⟩,h1,h2⟩:=List.mem_map.mp (show(z,k')∈scope.names.map _ from hm)
     dsimp only at h2
     split at h2
     . rename_i hf
       simp only[Bool.and_eq_true,beq_iff_eq]at hf
       cases h2
       exact nof _ h1 hf.1.1
     . cases h2
       rcases hk with rfl |rfl
       . exact absurd rfl (cell _ h1)
       . exact nof _ h1 rfl
   have:z=x:=by
     rcases h with h |h
     . exact key _ (look h) (.inl rfl)
     . exact key _ (look h) (.inr rfl)
   subst this
   exact⟨c,self⟩
 . unfold jsOf at h
   by_cases hk:k<n
   . rw[List.getElem?_append_left (by simpa using hk),List.getElem?_replicate,if_pos hk]at h
     cases h
   . rw[List.getElem?_append_right (by simp;omega)]at h
     simp only[List.length_replicate,List.map_cons,List.map_nil]at h
     have hk0:k- n=0:=by
       cases hh:k- n with
       |zero=>rfl
       |succ m=>rw[hh]at h;simp at h
     rw[hk0]at h
     have h:j=j':=by simpa using h
     subst h
     have:k=n:=by omega
     subst this
     exact⟨x,c,hNc,hN,hd,self,hx⟩
def spGcd:SpA:=fun ds M Q _=> ∃a b:Int,ds=[.int a,.int b]/\Q (.int ((Int.gcd a b:Nat):Int)) M
theorem ok_gcd{f:Addr}{fd:FuncData}(Fn:Fun K "greatest_divisor" "greatest_divisor" a1p f fd)(T:Txt K mg):FnOk P w K mg base (CXE P w) 1 f fd ["one","other"] (a0k K spGcd):=by
 refine Fn.okA sc_greatest_divisor (fun ds M Q E h=> ?_) ?_
 . obtain⟨a,b,rfl,_⟩:=h;rfl
 intro cdv A outer s H E F0 ds M Q Ea hr ct hsp
 obtain⟨a,b,rfl,q⟩:=hsp
 refine⟨_,(a0b (sSet (i:=2) sc_greatest_divisor.nd rfl (Or.inl rfl) (a0z b3x lAbs (by rfl) T.abs boot_abs (a0a (paV (pv 0)) a0f)))
     (a0b (sSet (i:=3) sc_greatest_divisor.nd rfl (Or.inl rfl) (a0z b3x lAbs (by rfl) T.abs boot_abs (a0a (paV (pv 1)) a0f)))
     (a0b (b2p ct (a0v (a2r (un64 ct)) lNe (paV (pv 3)) paI (a0m _))
       (a0b (sSet (i:=4) sc_greatest_divisor.nd rfl (Or.inl rfl) (paOp a1k lMod (paV (pv 2)) (paV (pv 3))))
       (a0b (sSet (i:=2) sc_greatest_divisor.nd rfl (Or.inl rfl) (paV (pv 3)))
       (a0h (sSet (i:=3) sc_greatest_divisor.nd rfl (Or.inl rfl) (paV (pv 4)))))))
     (a0h (sRet (paV (pv 2))))))),?_⟩
 simp! only[oAbs,absE]
 refine⟨fun m Γ M'=>M'=M/\ ∃(d r:Nat) (lo:Option D),r=m/\Γ=[some (.int a),some (.int b),some (.int d),some (.int r),lo]/\Nat.gcd d r=Int.gcd a b,⟨b.natAbs,rfl,a.natAbs,b.natAbs,none,rfl,rfl,rfl⟩,?_⟩
 rintro m Γ M' ⟨rfl,d,r,lo,rfl,rfl,hg⟩
 by_cases hr0:r=0
 . subst hr0
   refine cF (fun R h=> ?_) ?_
   . simp! only[Int.natCast_zero,decide_true,Bool.not_true];exact h
   . rw[<-hg,Nat.gcd_zero_right]at q
     exact .now q
 . refine cT (fun R h=> ?_) ?_
   . simp! only[decide_eq_false (show ¬ (r:Int)=0 by omega),Bool.not_false];exact h
   . simp! only[]
     exact⟨by omega,d % r,Nat.mod_lt _ (by omega),r,d % r,some (.int ((d:Int) % (r:Int))),rfl,by rw[Int.natCast_emod],gcd_step.trans hg⟩
noncomputable def eF(x:Fr):D:= .tup [.int x.1,.int x.2]
def b39:SpA:=fun ds M Q _=> ∃a b:Int,ds=[.int a,.int b]/\b≠0/\Q (eF (lowT a b,lowB a b)) M
theorem ok_low{f:Addr}{fd:FuncData}(Fn:Fun K "lowest" "lowest" a4m f fd)(hs:base.NoSeer)(ht:P.given.tree=none)(h_greatest_divisor:Has P w K mg base (CXE P w) 1 "greatest_divisor" ["one","other"] (a0k K spGcd)):
   FnOk P w K mg base (CXE P w) 41 f fd ["top","bottom"] (a0k K b39):=by
 refine Fn.okA sc_lowest (fun ds M Q E h=> ?_) ?_
 . obtain⟨a,b,rfl,_⟩:=h;rfl
 intro cdv A outer s H E F0 ds M Q Ea hr ct hsp
 obtain⟨a,b,rfl,hb,q⟩:=hsp
 have bd:BigDiv ((cxOf (CXE P w) P w K mg base ["top","bottom","divisor"] "lowest" (a0d a4m) f cdv A outer s H E).by (rE E)):=⟨hs,ht,rfl,rfl,rfl,by have:=hr.dp;show A.depth+1+100<_;have e:(A.deeper (envOfC "lowest" (a0d a4m) s.heap.objs.size f cdv)).depth=A.depth+1:=rfl;rw[e]at this;omega⟩
 refine⟨_,(a0b (sSet (i:=2) sc_lowest.nd rfl (Or.inl rfl) (a04 h_greatest_divisor (hr.mono (by decide)) (by rfl) ct (a0a (paV (pv 0)) (a0a (paV (pv 1)) a0f))))
     (a0b (sIf (a0v a7r lLt (paV (pv 1)) paI (a0m _))
       (a0h (sSet (i:=2) sc_lowest.nd rfl (Or.inl rfl) (paUn a9j lNeg (paV (pv 2)))))
       a0w)
     (a0h (sRet (a2b (a0a (paOp (b20 bd) lDivB (paV (pv 0)) (paV (pv 2))) (a0a (paOp (b20 bd) lDivB (paV (pv 1)) (paV (pv 2))) a0f))))))),?_⟩
 simp! only[spGcd]
 refine⟨a,b,rfl,?_⟩
 have hn:=b6f (t:=a) hb
 by_cases h0:b<0
 . have e:low a b= -((Int.gcd a b:Nat):Int):=if_pos h0
   simp only[decide_eq_true h0,if_true,<-e]
   exact⟨hn,hn,by decide,.now q⟩
 . have e:low a b=((Int.gcd a b:Nat):Int):=if_neg h0
   simp only[decide_eq_false h0,Bool.false_eq_true,if_false,<-e]
   exact⟨hn,hn,by decide,.now q⟩
def a6l:SpA:=fun ds M Q _=> ∃x y:Fr,ds=[eF x,eF y]/\1<=x.2/\Small 1 y/\Q (eF (mulF x y)) M
theorem b4a{y:Fr}(h:Small 1 y):Builtin.Int.intBits y.1<=64/\Builtin.Int.intBits y.2<=64:=by
 obtain⟨h1,h2,h3⟩:=h
 have e:(2:Nat)^(30 *1)=1073741824:=by decide
 have e':(2:Int)^(30 *1)=1073741824:=by decide
 have e64:(2:Nat)^64=18446744073709551616:=by decide
 rw[e']at h2
 rw[e]at h3
 refine⟨intBits_le_iff.mpr ?_,intBits_le_iff.mpr ?_⟩
 . rw[e64];omega
 . rw[e64];omega
theorem b80{f:Addr}{fd:FuncData}(Fn:Fun K "times" "times" b05 f fd)(h_lowest:Has P w K mg base (CXE P w) 41 "lowest" ["top","bottom"] (a0k K b39)):FnOk P w K mg base (CXE P w) 42 f fd ["one","other"] (a0k K a6l):=by
 refine Fn.okA b8b (fun ds M Q E h=> ?_) ?_
 . obtain⟨a,b,rfl,_⟩:=h;rfl
 intro cdv A outer s H E F0 ds M Q Ea hr ct hsp
 obtain⟨x,y,rfl,hx,hy,q⟩:=hsp
 refine⟨_,(a0h (sRet (a04 h_lowest (hr.mono (by decide)) (by rfl) ct (a0a (paOp a2g lMul (paIx a0i lIx (paV (pv 0)) paI (fun _ _=>rfl)) (paIx a0i lIx (paV (pv 1)) paI (fun _ _=>rfl))) (a0a (paOp a2g lMul (paIx a0i lIx (paV (pv 0)) paI (fun _ _=>rfl)) (paIx a0i lIx (paV (pv 1)) paI (fun _ _=>rfl))) a0f))))),?_⟩
 obtain⟨b1,b2⟩:=b4a hy
 have hb:x.2 *y.2≠0:=by
   have:=Int.mul_pos (show 0<x.2 by omega) (show 0<y.2 by have:=hy.1;omega)
   omega
 simp! only[eF,b39]
 exact⟨.of_right b1,.of_right b2,_,_,rfl,hb,.now q⟩
def a4h:SpA:=fun ds M Q _=> ∃(k:Str) (a b:Int),ds=[.str k,.int a,.int b]/\1<=b/\Q (eF (fac k a b)) M
theorem b59{f:Addr}{fd:FuncData}(Fn:Fun K "factor" "factor" a8o f fd)(h_lowest:Has P w K mg base (CXE P w) 41 "lowest" ["top","bottom"] (a0k K b39)):FnOk P w K mg base (CXE P w) 42 f fd ["kind","one","other"] (a0k K a4h):=by
 refine Fn.okA b5n (fun ds M Q E h=> ?_) ?_
 . obtain⟨a,b,c,rfl,_⟩:=h;rfl
 intro cdv A outer s H E F0 ds M Q Ea hr ct hsp
 obtain⟨k,a,b,rfl,hb,q⟩:=hsp
 refine⟨_,(a0b (sIf (a0v (a1g (un64 ct)) lEq (paV (pv 0)) paS (a0m _))
       (a0h (sRet (a2b (a0a paI (a0a paI a0f)))))
       a0w)
     (a0b (sIf (a0v (a1g (un64 ct)) lEq (paV (pv 0)) paS (a0m _))
       (a0h (sRet (a04 h_lowest (hr.mono (by decide)) (by rfl) ct (a0a (paV (pv 1)) (a0a (paV (pv 2)) a0f)))))
       a0w)
     (a0h (sRet (a04 h_lowest (hr.mono (by decide)) (by rfl) ct (a0a (paUn a9j lNeg (paV (pv 1))) (a0a (paV (pv 2)) a0f))))))),?_⟩
 have hb0:b≠0:=by omega
 unfold fac at q
 by_cases h1:k="pin"
 . rw[if_pos h1]at q
   refine a3b (fun R h=>by simp! only[decide_eq_true h1];exact h) ?_
   simp! only[]
   exact⟨by decide,.now q⟩
 . rw[if_neg h1]at q
   refine a1f (fun R h=>by simp! only[decide_eq_false h1];exact h) ?_
   by_cases h2:k="band"
   . rw[if_pos h2]at q
     refine a3b (fun R h=>by simp! only[decide_eq_true h2];exact h) ?_
     simp! only[b39]
     exact⟨a,b,rfl,hb0,.now q⟩
   . rw[if_neg h2]at q
     refine a1f (fun R h=>by simp! only[decide_eq_false h2];exact h) ?_
     simp! only[b39]
     exact⟨-a,b,rfl,hb0,.now q⟩
def a8i(EC:Rk->Addr):SpA:=fun ds M Q E=> ∃(ns:List Str) (n:Str),ds=[.lst (ns.map D.str),.str n]/\if n∈ns then Q .non M else E (.ref (EC .noWheel)) M
theorem b3k(ns:List Str)(n:Str):inD (.str n) (ns.map D.str)=decide (n∈ns):=by
 unfold inD
 induction ns with
 |nil=>rfl
 |cons a ns ih=>
   simp only[List.map_cons,List.any_cons,List.mem_cons,Bool.decide_or]
   rw[ih]
   congr 1
   by_cases h:a=n
   . subst h;simp[eqF]
   . have h': ¬ n=a:=fun z=>h z.symm
     simp[eqF,h,h']
theorem a5i{f:Addr}{fd:FuncData}{EC:Rk->Addr}(Fn:Fun K "refuse_unknown" "refuse_unknown" a13 f fd)(XK:ExK K mg EC):FnOk P w K mg base (CXE P w) 1 f fd ["names","name"] (a0k K (a8i EC)):=by
 refine Fn.okA a46 (fun ds M Q E h=> ?_) ?_
 . obtain⟨a,b,rfl,_⟩:=h;rfl
 intro cdv A outer s H E F0 ds M Q Ea hr ct hsp
 obtain⟨ns,n,rfl,q⟩:=hsp
 have X_NoWheel:=XK.noWheel
 refine⟨_,(a0h (sIf (a0v a4q b3d (paV (pv 1)) (paV (pv 0)) (by with_unfolding_all rfl))
       (a0h (a2f ct X_NoWheel (by rfl) (a0a paS a0f)))
       a0w)),?_⟩
 have e1:(flD (D.str n)&&(ns.map D.str).all flD)=true:=by
   rw[Bool.and_eq_true];exact⟨rfl,List.all_eq_true.mpr fun d hd=>by obtain⟨x,_,rfl⟩:=List.mem_map.mp hd;rfl⟩
 simp! only[e1,b3k]
 split at q
 . rename_i h
   rw[decide_eq_true h]
   exact .now q
 . rename_i h
   rw[decide_eq_false h]
   exact⟨by decide,q⟩
theorem a1t{α:Type}(l:List α)(f:α->D)(i:Nat)(h:i<l.length):(l.map f).getD i .non=f l[i]:=by simp[List.getD,List.getElem?_eq_getElem h]
def spLead:SpA:=fun ds M Q _=> ∃(js:List Jn) (n:Str),ds=[.lst (js.map eJ),.str n]/\js.length<=300/\Q (.lst ((lead js n).map eL)) M
theorem a8z{f:Addr}{fd:FuncData}(Fn:Fun K "joins_from" "joins_from" a3j f fd):FnOk P w K mg base (CXE P w) 1 f fd ["joins","here"] (a0k K spLead):=by
 refine Fn.okA sc_joins_from (fun ds M Q E h=> ?_) ?_
 . obtain⟨a,b,rfl,_⟩:=h;rfl
 intro cdv A outer s H E F0 ds M Q Ea hr ct hsp
 obtain⟨js,n,rfl,hl,q⟩:=hsp
 refine⟨_,(a0b (sSet (i:=2) sc_joins_from.nd rfl (Or.inl rfl) (a31 a0f))
     (a0b (sFor ct (a1z (paV (pv 0))) (a6i rfl (a0u (a0r (i:=3) sc_joins_from.nd rfl (Or.inl rfl)) (a0u (a0r (i:=4) sc_joins_from.nd rfl (Or.inl rfl)) (a0u (a0r (i:=5) sc_joins_from.nd rfl (Or.inl rfl)) (a0u (a0r (i:=6) sc_joins_from.nd rfl (Or.inl rfl)) a2p)))))
       (a0b (sIf (a0v (a1g (un64 ct)) lEq (paV (pv 5)) (paV (pv 1)) (a0m _))
         (a0h (a1y (paBM PySem.F.plainAttrs_list PySem.F.slot_list_append PySem.F.type_list_append a03 a1n (paV (pv 2)) (a0a (a2b (a0a (paV (pv 3)) (a0a (paV (pv 4)) (a0a (paV (pv 6)) a0f)))) a0f))))
         a0w)
       (a0h (sIf (a0v (a1g (un64 ct)) lEq (paV (pv 6)) (paV (pv 1)) (a0m _))
         (a0h (a1y (paBM PySem.F.plainAttrs_list PySem.F.slot_list_append PySem.F.type_list_append a03 a1n (paV (pv 2)) (a0a (a2b (a0a (paV (pv 3)) (a0a (paV (pv 4)) (a0a (paV (pv 5)) a0f)))) a0f))))
         a0w))))
     (a0h (sRet (paV (pv 2)))))),?_⟩
 simp! only[]
 refine⟨Nat.le_of_ble_eq_true rfl,fun p hp=> ?_⟩
 refine LoopP.by (fun i Γ M'=>M'=put M p (.lst ((lead (js.take i) n).map eL))/\ ∃a b c d,Γ=[some (.lst (js.map eJ)),some (.str n),some (.obj p),a,b,c,d]) ⟨rfl,_,_,_,_,rfl⟩ (fun _ _ _ _=>trivial) ?_ ?_
 . rintro i Γ M' hi ⟨rfl,a,b,c,d,rfl⟩
   dsimp only at hi
   have hi':i<js.length:=by simpa using hi
   have hll:=b3c (js.take i) n
   rw[List.length_take]at hll
   have hl2:((lead (js.take i) n).map eL).length<=600:=by rw[List.length_map];omega
   have et:lead (js.take (i+1)) n=lead (js.take i) n++a7w n js[i]:=by
     unfold lead
     rw[List.take_succ_eq_append_getElem hi',List.flatMap_append];simp
   simp! only[a1t js eJ i hi',eJ,a5s,a3q,gaNil,aBM,a2c,a0c,oAppend,a1b]
   refine⟨rfl,?_⟩
   rw[et]
   generalize (lead (js.take i) n)=L at hl2 et |-
   unfold a7w
   have h3: ∀x:D,(L.map eL++[x]).length<1000:=fun x=>by rw[List.length_append];simp only[List.length_cons,List.length_nil];omega
   by_cases h1:js[i].2.2.1=n<;>by_cases h2:js[i].2.2.2=n<;>simp only[h1,h2,decide_true,decide_false,if_true,if_false,Bool.false_eq_true]
   . exact⟨by decide,by omega,by decide,h3 _,hi,by simp[eL],_,_,_,_,rfl⟩
   . exact⟨by decide,by omega,hi,by simp[eL],_,_,_,_,rfl⟩
   . exact⟨by decide,by omega,hi,by simp[eL],_,_,_,_,rfl⟩
   . exact⟨hi,by simp[eL],_,_,_,_,rfl⟩
 . rintro Γ M' ⟨rfl,a,b,c,d,rfl⟩
   refine .fz hp ?_
   have e:(js.map eJ).length=js.length:=List.length_map ..
   dsimp only
   rw[e,List.take_length]
   exact q
theorem b2v{M:Mem}{p r:Addr}{a b c:MO}(h:r≠p):put (put (put M p a) r b) p c=put (put M p c) r b:=by
 funext x
 by_cases hx:x=p
 . subst hx;rw[a0c,a0g h.symm,a0c]
 . rw[a0g hx]
   by_cases hr:x=r
   . subst hr;rw[a0c,a0c]
   . rw[a0g hr,a0g hr,a0g hx,a0g hx]
noncomputable abbrev MT(M:Mem)(p r:Addr)(t:TT)(ws:List Str):Mem:=put (put M p (.dic (encT t))) r (.lst (ws.map D.str))
def b2i:SpA:=fun ds M Q _=> ∃(js:List Jn) (n:Str),ds=[.lst (js.map eJ),.str n]/\js.length<=300/\ ∀t,IsTree js n t->Grown js n t->Closed js t->t.length<=2 *js.length+1-> ∀p,M p=none->Q (.obj p) (put M p (.dic (encT t)))
theorem a91{f:Addr}{fd:FuncData}(Fn:Fun K "tree_from" "tree_from" a35 f fd)(T:Txt K mg)(h_joins_from:Has P w K mg base (CXE P w) 1 "joins_from" ["joins","here"] (a0k K spLead)):FnOk P w K mg base (CXE P w) 2 f fd ["joins","start"] (a0k K b2i):=by
 refine Fn.okA sc_tree_from (fun ds M Q E h=> ?_) ?_
 . obtain⟨a,b,rfl,_⟩:=h;rfl
 intro cdv A outer s H E F0 ds M Q Ea hr ct hsp
 obtain⟨js,n,rfl,hl,q⟩:=hsp
 refine⟨_,(a0b (sSet (i:=2) sc_tree_from.nd rfl (Or.inl rfl) (paDict1 (paV (pv 1)) paN))
     (a0b (sSet (i:=3) sc_tree_from.nd rfl (Or.inl rfl) (a31 (a0a (paV (pv 1)) a0f)))
     (a0b (b2p ct (a0v b56 lGt (a0z a0s lLen (by rfl) T.len PySem.boot_len (a0a (paV (pv 3)) a0f)) paI (a0m _))
       (a0b (sSet (i:=4) sc_tree_from.nd rfl (Or.inl rfl) (paBM PySem.F.plainAttrs_list PySem.F.slot_list_pop PySem.F.type_list_pop b84 lPop0 (paV (pv 3)) (a0a paI a0f)))
       (a0h (sFor ct (a1z (a04 h_joins_from (hr.mono (by decide)) (by rfl) ct (a0a (paV (pv 0)) (a0a (paV (pv 4)) a0f)))) (a6i rfl (a0u (a0r (i:=5) sc_tree_from.nd rfl (Or.inl rfl)) (a0u (a0r (i:=6) sc_tree_from.nd rfl (Or.inl rfl)) (a0u (a0r (i:=7) sc_tree_from.nd rfl (Or.inl rfl)) a2p))))
         (a0h (sIf (ptPC (a3u (un1 ct) (paV (pv 7)) (paV (pv 2))))
           (a0b (b06 (un1 ct) (paV (pv 2)) (paV (pv 7)) (a2b (a0a (paV (pv 5)) (a0a (paV (pv 6)) (a0a (paV (pv 4)) a0f)))) rfl)
           (a0h (a1y (paBM PySem.F.plainAttrs_list PySem.F.slot_list_append PySem.F.type_list_append a03 a1n (paV (pv 3)) (a0a (paV (pv 7)) a0f)))))
           a0w))))))
     (a0h (sRet (paV (pv 2))))))),?_⟩
 simp! only[aDict1]
 intro p hp
 refine⟨a0c,?_⟩
 rw[a1b]
 refine⟨Nat.le_of_ble_eq_true rfl,fun r hr'=> ?_⟩
 have nrp:r≠p:=by rintro rfl;rw[a0c]at hr';cases hr'
 rw[a0g nrp]at hr'
 have hu:a4e js [(n,none)]<=2 *js.length:=by
   have:=List.length_filter_le (fun m=>decide (m∉names [(n,none)])) (ends js)
   rw[b9g]at this
   exact this
 refine⟨fun m Γ M'=> ∃t ws o4 o5 o6 o7,Γ=[some (.lst (js.map eJ)),some (.str n),some (.obj p),some (.obj r),o4,o5,o6,o7]/\M'=MT M p r t ws/\Grown js n t/\(∀x∈ws,x∈names t)/\(∀x∈names t,x∈ws\/ ∀l∈lead js x,l.2.2∈names t)/\ws.length+a4e js t<=m/\m<=2 *js.length+1/\t.length+a4e js t<=2 *js.length+1/\ ∃k,b1p js k ([(n,none)],[n])=(t,ws),
   ⟨1+a4e js [(n,none)],[(n,none)],[n],none,none,none,none,rfl,rfl,.root,fun x hx=>hx,fun x hx=> .inl hx,Nat.le_refl _,by omega,by simp only[List.length_cons,List.length_nil];omega,0,rfl⟩,?_⟩
 rintro m Γ M' ⟨t,ws,o4,o5,o6,o7,rfl,rfl,gr,hw,hc,hm,hm2,ht,kk,hkk⟩
 have e1: ∀ws:List Str,lenF (MT M p r t ws) (.obj r)=some ws.length:=by
   intro ws
   simp only[lenF,MT,L2.dd,L2.dq,a0c,Option.map_some,List.length_map]
 simp only[aT,aOp,b71,b0r,aNil,aV,aC,oLen,lenC,List.getElem?_cons_zero,List.getElem?_cons_succ,a1e,e1,true_and,oGt,oI]
 cases ws with
 |nil=>
   simp only[List.length_nil,Int.natCast_zero,gt_iff_lt,Int.lt_irrefl,decide_false,Bool.false_eq_true,if_false,aRet,aV,List.getElem?_cons_zero,List.getElem?_cons_succ,a1e]
   refine .sub (.put (by rw[a0g nrp];exact hr')) (q t ⟨kk,hkk⟩ gr (fun x hx l hl'=> ?_) (by omega) p hp)
   rcases hc x hx with h |h
   . cases h
   . exact h l hl'
 |cons x ws=>
   have hpos:decide ((0:Int)< ((x::ws).length:Int))=true:=decide_eq_true (by simp only[List.length_cons];omega)
   simp only[hpos,if_true]
   have hx:x∈names t:=hw x List.mem_cons_self
   simp only[aSeq,aSet,aBM,aV,aC,b0r,aNil,a2c,MT,a0c,oPop0,List.map_cons,a1b,true_and,aFor,iaL,aFun,List.set_cons_zero,List.set_cons_succ,List.getElem?_cons_zero,List.getElem?_cons_succ,a1e]
   refine⟨js,x,rfl,hl,?_⟩
   simp only[L2.dr]
   have hll:=b3c js x
   simp only[List.length_cons]at hm
   refine LoopP.by (fun i Γ M'=> ∃t' ws2 o5 o6 o7,Γ=[some (.lst (js.map eJ)),some (.str n),some (.obj p),some (.obj r),some (.str x),o5,o6,o7]/\M'=MT M p r t' ws2/\Grown js n t'/\x∈names t'/\(∀y∈ws2,y∈names t')/\(∀y∈names t',y∈ws2\/y=x\/ ∀l∈lead js y,l.2.2∈names t')/\(∀(k:Nat) (h:k< (lead js x).length),k<i->(lead js x)[k].2.2∈names t')/\ws2.length+a4e js t'+1<=m/\t'.length+a4e js t'<=2 *js.length+1/\(t',ws2)=((lead js x).take i).foldl (addW x) (t,ws))
     ⟨t,ws,o5,o6,o7,rfl,rfl,gr,hx,fun y hy=>hw y (List.mem_cons_of_mem _ hy),fun y hy=> ?_,fun k _ hk=>absurd hk (Nat.not_lt_zero _),by omega,ht,rfl⟩ (fun _ _ _ _=>trivial) ?_ ?_
   . rcases hc y hy with h |h
     . rcases List.mem_cons.mp h with h |h
       . exact .inr (.inl h)
       . exact .inl h
     . exact .inr (.inr h)
   . clear hc hw ht hx gr o4 o5 o6 o7 hpos
     rintro i Γ M' hi ⟨t',ws2,o5,o6,o7,rfl,rfl,gr,hx,hw,hc,hd,hm,ht,hfo⟩
     have hi':i< (lead js x).length:=by simpa using hi
     have hmem:(lead js x)[i]∈lead js x:=List.getElem_mem hi'
     have hend:=b6t hmem
     simp only[a1t _ _ _ hi']
     have step: ∀k (h:k< (lead js x).length),k<i+1->k<i\/(lead js x)[k]=(lead js x)[i]:=fun k h hk=>by
       by_cases e:k=i
       . subst e;exact .inr rfl
       . exact .inl (by omega)
     have hfo2:((lead js x).take (i+1)).foldl (addW x) (t,ws)=addW x (t',ws2) (lead js x)[i]:=by rw[List.take_succ_eq_append_getElem hi',List.foldl_append,<-hfo];rfl
     generalize (lead js x)[i]=l at hmem hend step hfo2 |-
     simp only[eL,a5s,a3q,gaNil,gaN,aIf,aT,aOp,aV,oDIn,L2.dq,L2.dd,keyD,a3s,MT,a0c,a0g nrp.symm,a5r,List.set_cons_zero,List.set_cons_succ,List.getElem?_cons_zero,List.getElem?_cons_succ,a1e,if_true]
     refine⟨rfl,trivial,?_⟩
     by_cases hin:l.2.2∈names t'
     . simp only[hin,decide_true,Bool.not_true,Bool.false_eq_true,if_false,aNext]
       refine⟨hi,t',ws2,_,_,_,rfl,rfl,gr,hx,hw,hc,fun k h hk=> ?_,hm,ht,by rw[hfo2];unfold addW;rw[if_pos hin]⟩
       rcases step k h hk with h' |h'
       . exact hd k h h'
       . rw[h'];exact hin
     . have hless:=b0t (e:=some (l.1,l.2.1,x)) hend hin
       simp only[hin,decide_false,Bool.not_false,if_true,aSeq,aDPut,aTup,b0r,aNil,aV,L2.dd,keyD,a3s,a0c,a0g nrp.symm,List.getElem?_cons_zero,List.getElem?_cons_succ,a1e]
       have e2:a53 (encT t') (Sum.inr l.2.2) (.tup [.int l.1,.str l.2.1,.str x])=encT (t'++[(l.2.2,some (l.1,l.2.1,x))]):=b5u (l:=(l.1,l.2.1,x)) hin
       rw[e2,b2v nrp]
       have hlen:(encT t').length=t'.length:=List.length_map ..
       refine⟨Nat.le_of_ble_eq_true rfl,by rw[hlen];omega,?_⟩
       simp only[b19,aBM,aV,b0r,aNil,a2c,a0c,oAppend,a1b,true_and,List.length_map,List.getElem?_cons_zero,List.getElem?_cons_succ,a1e]
       have nm:=a08 t' l.2.2 (some (l.1,l.2.1,x))
       refine⟨by omega,hi',t'++[(l.2.2,some (l.1,l.2.1,x))],ws2++[l.2.2],_,_,_,rfl,by simp[MT],.more t' l.2.2 (l.1,l.2.1,x) gr hin hx hmem,?_,?_,?_,?_,?_,?_,by rw[hfo2];unfold addW;rw[if_neg hin]⟩
       . rw[nm];exact List.mem_append_left _ hx
       . intro y hy
         rw[nm]
         rcases List.mem_append.mp hy with hy |hy
         . exact List.mem_append_left _ (hw y hy)
         . exact List.mem_append_right _ hy
       . intro y hy
         rw[nm]at hy |-
         rcases List.mem_append.mp hy with hy |hy
         . rcases hc y hy with h |h |h
           . exact .inl (List.mem_append_left _ h)
           . exact .inr (.inl h)
           . exact .inr (.inr fun l' hl'=>List.mem_append_left _ (h l' hl'))
         . exact .inl (List.mem_append_right _ hy)
       . intro k h hk
         rw[nm]
         rcases step k h hk with h' |h'
         . exact List.mem_append_left _ (hd k h h')
         . rw[h'];exact List.mem_append_right _ (by simp)
       . rw[List.length_append];simp only[List.length_cons,List.length_nil];omega
       . rw[List.length_append];simp only[List.length_cons,List.length_nil];omega
   . rintro Γ M' ⟨t',ws2,o5,o6,o7,rfl,rfl,gr,hx,hw,hc,hd,hm',ht,hfo⟩
     refine⟨m- 1,by omega,t',ws2,_,o5,o6,o7,rfl,rfl,gr,hw,fun y hy=> ?_,by omega,by omega,ht,kk+1,?_⟩
     . rcases hc y hy with h |h |h
       . exact .inl h
       . subst h
         refine .inr fun l hl'=> ?_
         obtain⟨k,hk,e⟩:=List.getElem_of_mem hl'
         rw[<-e]
         exact hd k hk (by simpa using hk)
       . exact .inr h
     . show stepT js (b1p js kk _)=_
       rw[hkk]
       have el:((lead js x).map eL).length=(lead js x).length:=List.length_map ..
       dsimp only at hfo
       rw[el,List.take_length]at hfo
       exact hfo.symm
theorem b6b{d1 d2:Addr}{n:Int}:(fsT d1 d2 n).lookup ("wheels":Str)=none:=rfl
theorem b82{d1 d2:Addr}{n:Int}:(fsT d1 d2 n).lookup ("joins":Str)=none:=rfl
theorem a4n{C:Addr}{M:Mem}{p d1 d2:Addr}{S:TS}{R:AX}{Γ:G}{Q:AK}{t_o:AE}(tr:Tr C M p d1 d2 S)(hto: ∀R:AK,R (.obj p) M->t_o Γ M R)(q:Q (.lst (S.ws.map eW)) M):aFz (b70 C "wheels" (a2y C) R t_o aNil) Γ M Q:=by
 refine hto _ ?_
 dsimp only
 rw[tr.self,a2v]
 refine⟨b6b,p,d1,d2,S,rfl,tr,fun l hl=> ?_⟩
 dsimp only
 rw[a0c]
 dsimp only
 rw[a1w hl];exact q
theorem a6b{C:Addr}{M:Mem}{p d1 d2:Addr}{S:TS}{R:AX}{Γ:G}{Q:AK}{t_o:AE}(tr:Tr C M p d1 d2 S)(hto: ∀R:AK,R (.obj p) M->t_o Γ M R)(q:Q (.lst (S.js.map eJ)) M):aFz (b70 C "joins" (a44 C) R t_o aNil) Γ M Q:=by
 refine hto _ ?_
 dsimp only
 rw[tr.self,a2v]
 refine⟨b82,p,d1,d2,S,rfl,tr,fun l hl=> ?_⟩
 dsimp only
 rw[a0c]
 dsimp only
 rw[a1w hl];exact q
noncomputable def row0:D->D
 | .tup (d::_)=>d
 |d=>d
theorem b83(S:TS):(S.ws.map eW).map row0=(S.ws.map Prod.fst).map D.str:=by
 rw[List.map_map,List.map_map];rfl
theorem a5j{M:Mem}{a b:Addr}{o:MO}(h:M a=some o)(h':M b=none):b≠a:=by rintro rfl;rw[h]at h';cases h'
theorem none_of{M:Mem}{a b:Addr}{o:MO}(h:put M a o b=none):b≠a/\M b=none:=by
 have n:b≠a:=by rintro rfl;rw[a0c]at h;cases h
 exact⟨n,by rw[a0g n]at h;exact h⟩
theorem Tr.sub{C:Addr}{M M':Mem}{p d1 d2:Addr}{S:TS}(tr:Tr C M p d1 d2 S)(h:L2.Sub M M'):Tr C M' p d1 d2 S:=
 ⟨h _ _ tr.self,h _ _ tr.teeth,h _ _ tr.join,tr.ne,tr.lt⟩
structure Fit(S:TS):Prop where
 nd:(S.ws.map Prod.fst).Nodup
 teeth:a3e S.ws
 ends: ∀j∈S.js,j.2.2.1∈S.ws.map Prod.fst/\j.2.2.2∈S.ws.map Prod.fst
 w:S.ws.length<=100
 j:S.js.length<=200
noncomputable def encN:Option Str->D |none=> .non |some x=> .str x
noncomputable def a30(S:TS):Option Str->Option Str |none=>(S.ws.map Prod.fst).head? |some x=>if x∈S.ws.map Prod.fst then some x else none
def b01(C:Addr)(EC:Rk->Addr):SpA:=fun ds M Q E=> ∃(p d1 d2:Addr) (S:TS) (o:Option Str),ds=[.obj p,encN o]/\Tr C M p d1 d2 S/\S.ws.length<=100/\match a30 S o with |some n=>Q (.str n) M |none=>E (.ref (EC .noWheel)) M
theorem a7s{f C:Addr}{fd:FuncData}{EC:Rk->Addr}(Fn:Fun K "wheel_meant" "wheel_meant" a2z f fd)(T:Txt K mg)(XK:ExK K mg EC)(h_wheels:HasM P w K mg base (CXE P w) 1 C "wheels" ["self"] (a0k K (a2y C)))
   (h_refuse_unknown:Has P w K mg base (CXE P w) 1 "refuse_unknown" ["names","name"] (a0k K (a8i EC))):FnOk P w K mg base (CXE P w) 2 f fd ["train","name"] (a0k K (b01 C EC)):=by
 refine Fn.okA sc_wheel_meant (fun ds M Q E h=> ?_) ?_
 . obtain⟨_,_,_,_,_,rfl,_⟩:=h;rfl
 intro cdv A outer s H E F0 ds M Q Ea hr ct hsp
 obtain⟨p,d1,d2,S,o,rfl,tr,hw,q⟩:=hsp
 have X_NoWheel:=XK.noWheel
 refine⟨_,(a0b (b2q (i:=2) sc_wheel_meant.nd rfl rfl (Nc:=["wheel"]) (n:=1) (fs:=[]) b0j rfl (a1z (paFz (a3m h_wheels (hr.mono (by decide)) ct (paV (pv 0))))) (fun _ _ _ _ _=>(a0r (i:=0) (show List.Nodup (["wheel"]:List Str)by decide+kernel) rfl (Or.inl rfl))) (fun _ _ _ _ _=>a9b) (fun _ _ _ _ _=>(paIx a0i lIx (paV (pv 0)) paI (fun _ _=>rfl))) (by rfl))
     (a0b (sIf (a0v a9z lIs (paV (pv 1)) paN (a0m _))
       (a0b (sIf (a0v (a1g (un64 ct)) lEq (a0z a0s lLen (by rfl) T.len PySem.boot_len (a0a (paV (pv 2)) a0f)) paI (a0m _))
         (a0h (a2f ct X_NoWheel (by rfl) (a0a paS a0f)))
         a0w)
       (a0h (sRet (paIx a0i lIx (paV (pv 2)) paI (fun _ _=>rfl)))))
       a0w)
     (a0b (a1y (a04 h_refuse_unknown (hr.mono (by decide)) (by rfl) ct (a0a (paV (pv 2)) (a0a (paV (pv 1)) a0f))))
     (a0h (sRet (paV (pv 1))))))),?_⟩
 refine seqV (.lst ((S.ws.map Prod.fst).map D.str)) M (fun R h=>b9j (S.ws.map eW) row0 (fun R h=>a4n tr (fun R h=>h) h) (by rw[List.length_map];omega) (fun x hx M' R h=>by
   obtain⟨w',_,rfl⟩:=List.mem_map.mp hx
   exact⟨trivial,h⟩) (by rw[b83 S];exact h)) ?_
 cases o with
 |none=>
   refine a3b (fun R h=>h) ?_
   unfold a30 at q
   cases hws:S.ws with
   |nil=>
     rw[hws]at q
     refine a3b (fun R h=> ?_) ?_
     . simp! only[];exact h
     . exact⟨Nat.le_of_ble_eq_true rfl,q⟩
   |cons w0 ws=>
     rw[hws]at q
     refine a1f (fun R h=> ?_) ?_
     . have e:decide (((((w0::ws).map Prod.fst).map D.str).length:Int)=0)=false:=decide_eq_false (by simp only[List.length_map,List.length_cons];omega)
       simp! only[]at e |-
       rw[e];exact h
     . simp! only[]
       exact .now q
 |some x=>
   refine a1f (fun R h=>h) ?_
   simp! only[a8i,encN]
   refine⟨_,x,rfl,?_⟩
   unfold a30 at q
   dsimp only at q
   by_cases hx:x∈S.ws.map Prod.fst
   . rw[if_pos hx]at q |-
     exact .now q
   . rw[if_neg hx]at q |-
     exact q
theorem b2y(ws:List (Str×Int)):a76 (ws.map eW)=some (dW ws):=by
 induction ws with
 |nil=>rfl
 |cons w ws ih=>
   show(match keyD (.str w.1),a76 (ws.map eW)with |some k',some r'=>some ((k',D.int w.2)::r') |_,_=>none)=_
   rw[ih];rfl
theorem b7t{ws:List (Str×Int)}(h:(ws.map Prod.fst).Nodup):((dW ws).map (·.1)).Nodup:=by
 have e:(dW ws).map (·.1)=(ws.map Prod.fst).map Sum.inr:=by unfold dW;rw[List.map_map,List.map_map];rfl
 rw[e]
 exact List.pairwise_map.mpr (h.imp fun hne z=>hne (Sum.inr.inj z))
theorem a3y{ws:List (Str×Int)}{n:Str}(h:n∈ws.map Prod.fst):getK (dW ws) (Sum.inr n)=some (.int (a0j ws n)):=by
 induction ws with
 |nil=>cases h
 |cons w ws ih=>
   unfold dW getK a0j at ih |-
   simp only[List.map_cons,List.find?_cons,Sum.inr.injEq]
   by_cases e:w.1=n
   . simp[e]
   . rw[decide_eq_false e]
     have hn:n∈ws.map Prod.fst:=by
       rcases List.mem_cons.mp h with h |h
       . exact absurd h.symm e
       . exact h
     exact ih hn
noncomputable def a2o(sh:Sh):List (Key×D):=sh.map fun e=>(Sum.inr e.1,eF e.2)
theorem a5q{sh:Sh}{n:Str}(h:n∈sh.map Prod.fst):getK (a2o sh) (Sum.inr n)=some (eF (lk sh n)):=by
 induction sh with
 |nil=>cases h
 |cons w ws ih=>
   unfold a2o getK lk at ih |-
   simp only[List.map_cons,List.find?_cons,Sum.inr.injEq]
   by_cases e:w.1=n
   . simp[e]
   . rw[decide_eq_false e]
     have hn:n∈ws.map Prod.fst:=by
       rcases List.mem_cons.mp h with h |h
       . exact absurd h.symm e
       . exact h
     exact ih hn
theorem a5p{sh:Sh}{n:Str}(h:n∉sh.map Prod.fst):getK (a2o sh) (Sum.inr n)=none:=by
 induction sh with
 |nil=>rfl
 |cons w ws ih=>
   rw[List.map_cons,List.mem_cons,not_or]at h
   unfold a2o getK at ih |-
   simp only[List.map_cons,List.find?_cons,Sum.inr.injEq]
   rw[decide_eq_false (fun e=>h.1 e.symm)]
   exact ih h.2
theorem put_sh{sh:Sh}{n:Str}{x:Fr}(h:n∉sh.map Prod.fst):a53 (a2o sh) (Sum.inr n) (eF x)=a2o (sh++[(n,x)]):=by
 rw[a2q (by rw[a5p h];rfl)]
 simp[a2o]
theorem Grown.at{js:List Jn}{s:Str}{t:TT}(g:Grown js s t): ∀(i:Nat) (h:i<t.length),(t[i]).1∉names (t.take i)/\ ∀l,(t[i]).2=some l->l.2.2∈names (t.take i):=by
 induction g with
 |root=>
   intro i h
   have:i=0:=by simpa using h
   subst this
   exact⟨fun z=>by simp[names]at z,fun l z=>by cases z⟩
 |more t n e g new old by_ ih=>
   intro i h
   rw[List.length_append]at h
   by_cases hi:i<t.length
   . rw[List.getElem_append_left hi,List.take_append_of_le_length (by omega)]
     exact ih i hi
   . have hi2:i=t.length:=by simp at h;omega
     subst hi2
     rw[List.getElem_append_right (by omega),List.take_left]
     simp only[Nat.sub_self,List.getElem_cons_zero]
     exact⟨new,fun l z=>by cases z;exact old⟩
theorem Grown.inn{js:List Jn}{s:Str}{t:TT}(g:Grown js s t){ns:List Str}(hs:s∈ns)(he: ∀j∈js,j.2.2.1∈ns/\j.2.2.2∈ns): ∀n∈names t,n∈ns:=by
 induction g with
 | root => intro n hn; have : n = s := by simpa [names] using hn
           rw[this];exact hs
 |more t n e g new old by_ ih=>
   intro m hm
   rw[a08]at hm
   rcases List.mem_append.mp hm with hm |hm
   . exact ih m hm
   . rw[List.mem_singleton.mp hm]
     obtain⟨j,hj,_,h2⟩:=b86 by_
     rcases h2 with⟨_,h3⟩ | ⟨_,h3⟩
     . rw[<-show j.2.2.2=n from h3];exact(he j hj).2
     . rw[<-show j.2.2.1=n from h3];exact(he j hj).1
theorem a97{α:Type}[DecidableEq α]: ∀{l l':List α},l.Nodup->(∀x∈l,x∈l')->l.length<=l'.length
 | [],_,_,_=>Nat.zero_le _
 |a::l,l',nd,h=>by
   obtain⟨h1,h2⟩:=List.nodup_cons.mp nd
   have ha:=h a List.mem_cons_self
   have ih:=a97 (l:=l) (l':=l'.erase a) h2 fun x hx=>(List.mem_erase_of_ne (fun e=>h1 (by rw[<-e];exact hx))).mpr (h x (List.mem_cons_of_mem _ hx))
   rw[List.length_erase_of_mem ha]at ih
   have:0<l'.length:=List.length_pos_of_mem ha
   simp only[List.length_cons];omega
theorem b4c(ws:List (Str×Int))(a b:TT): ∀e∈a0e ws a,e∈a0e ws (a++b):=by
 intro e he
 unfold a0e at he |-
 rw[List.foldl_append]
 generalize a.foldl (fun sh e=>sh++[(e.1,a4j ws sh e)]) []=sh at he |-
 induction b generalizing sh with
 |nil=>exact he
 |cons x b ih=>exact ih _ (List.mem_append_left _ he)
theorem forIk{td:AE}{gt:AGt}{tb rest:AS}{E:AEnds}{Γ:G}{M:Mem}{p:Addr}{kvs:List (Key×D)}(htd: ∀R:AK,R (.obj p) M->td Γ M R)(hp:M p=some (.dic kvs))(h: ∀u,LoopP ⟨kvs.length,itemAt kvs,fun M=>M p=some (.raw u)⟩ gt tb {E with nx:=fun Γ' M'=>M' p=some (.raw u)/\rest E Γ' (put M' p (.dic kvs))} Γ (put M p (.raw u))):aSeq (aForI td gt tb) rest E Γ M:=
 htd _ (by dsimp only;rw[hp];exact h)
theorem b5t{M:Mem}{p r s:Addr}{a b c:MO}(h1:r≠p)(h2:s≠p):put (put (put M r a) s b) p c=put (put (put M p c) r a) s b:=by
 rw[a25 h2,a25 h1]
def a4f(C:Addr):SpA:=fun ds M Q _=> ∃(p d1 d2 q:Addr) (S:TS) (t:TT) (n:Str),ds=[.obj p,.obj q]/\Tr C M p d1 d2 S/\Fit S/\M q=some (.dic (encT t))/\Grown S.js n t/\n∈S.ws.map Prod.fst/\t.length<=500/\ ∀r,M r=none->Q (.obj r) (put M r (.dic (a2o (a0e S.ws t))))
theorem a61{f C:Addr}{fd:FuncData}(Fn:Fun K "shares_along" "shares_along" a2k f fd)(T:Txt K mg)(h_wheels:HasM P w K mg base (CXE P w) 1 C "wheels" ["self"] (a0k K (a2y C)))
   (h_times:Has P w K mg base (CXE P w) 42 "times" ["one","other"] (a0k K a6l)) (h_factor:Has P w K mg base (CXE P w) 42 "factor" ["kind","one","other"] (a0k K a4h)):FnOk P w K mg base (CXE P w) 43 f fd ["train","tree"] (a0k K (a4f C)):=by
 refine Fn.okA sc_shares_along (fun ds M Q E h=> ?_) ?_
 . obtain⟨_,_,_,_,_,_,_,rfl,_⟩:=h;rfl
 intro cdv A outer s H E F0 ds M Q Ea hr ct hsp
 obtain⟨p,d1,d2,q',S,t,n,rfl,tr,fit,hq,gr,hn,hl,q⟩:=hsp
 refine⟨_,(a0b (sSet (i:=2) sc_shares_along.nd rfl (Or.inl rfl) (a4o (a50 ct.calm) b6w (by rfl) T.dict boot_dict (a0a (paFz (a3m h_wheels (hr.mono (by decide)) ct (paV (pv 0)))) a0f)))
     (a0b (sSet (i:=3) sc_shares_along.nd rfl (Or.inl rfl) b2z)
     (a0b (sForI ct (paV (pv 1)) (a6i rfl (a0u (a0r (i:=4) sc_shares_along.nd rfl (Or.inl rfl)) (a0u (a0r (i:=5) sc_shares_along.nd rfl (Or.inl rfl)) a2p)))
       (a0h (sIf (a0v a9z lIs (paV (pv 5)) paN (a0m _))
         (a0h (b06 (un1 ct) (paV (pv 3)) (paV (pv 4)) (a2b (a0a paI (a0a paI a0f))) rfl))
         (a0b (sSet (i:=6) sc_shares_along.nd rfl (Or.inl rfl) (paIx a0i lIx (paV (pv 5)) paI (fun _ _=>rfl)))
         (a0h (b06 (un1 ct) (paV (pv 3)) (paV (pv 4)) (a04 h_times (hr.mono (by decide)) (by rfl) ct (a0a (a3n (un1 ct) (paV (pv 3)) (paV (pv 6)) (fun _ _=>rfl)) (a0a (a04 h_factor (hr.mono (by decide)) (by rfl) ct (a0a (paIx a0i lIx (paV (pv 5)) paI (fun _ _=>rfl)) (a0a (a3n (un1 ct) (paV (pv 2)) (paV (pv 6)) (fun _ _=>rfl)) (a0a (a3n (un1 ct) (paV (pv 2)) (paV (pv 4)) (fun _ _=>rfl)) a0f)))) a0f))) rfl))))))
     (a0h (sRet (paV (pv 3))))))),?_⟩
 have hin:=gr.inn hn fit.ends
 have hsm:=a2j fit.teeth gr
 refine cut2 (fun Γ' M2=> ∃r1 r2,M r1=none/\M r2=none/\r1≠r2/\Γ'=[some (.obj p),some (.obj q'),some (.obj r1),some (.obj r2),none,none,none]/\M2=put (put M r1 (.dic (dW S.ws))) r2 (.dic [])) ?_ ?_
 . rintro Γ' M2 ⟨r1,r2,h1,h2,n12,rfl,rfl⟩
   have n1:=a5j hq h1
   have n2:=a5j hq h2
   refine forIk (p:=q') (kvs:=encT t) (fun R h=>h) (by rw[a0g n2.symm,a0g n1.symm];exact hq) fun u=> ?_
   rw[b5t n1 n2]
   have hu: ∀{a b:MO},put (put (put M q' (.raw u)) r1 a) r2 b q'=some (.raw u):=fun {a b}=>by rw[a0g n2.symm,a0g n1.symm,a0c]
   refine LoopP.by2 (fun i Γ M'=> ∃o4 o5 o6,Γ=[some (.obj p),some (.obj q'),some (.obj r1),some (.obj r2),o4,o5,o6]/\M'=put (put (put M q' (.raw u)) r1 (.dic (dW S.ws))) r2 (.dic (a2o (a0e S.ws (t.take i))))) ⟨_,_,_,rfl,rfl⟩ (fun _ _ _ ⟨_,_,_,_,e⟩=>by rw[e];exact hu) ?_ ?_
   . rintro E' i Γ M' hrt hi hnx ⟨o4,o5,o6,rfl,rfl⟩
     dsimp only at hi
     have hi':i<t.length:=by simpa[encT]using hi
     obtain⟨g1,g2⟩:=gr.at i hi'
     have eit:L2.itemAt (encT t) i= .tup [.str (t[i]).1,eE (t[i]).2]:=by
       unfold L2.itemAt encT
       rw[List.getElem?_map,List.getElem?_eq_getElem hi'];rfl
     have hws:(t[i]).1∈S.ws.map Prod.fst:=hin _ (List.mem_map.mpr ⟨_,List.getElem_mem hi',rfl⟩)
     have hsn:=a1l S.ws (t.take i) t[i]
     rw[<-List.take_succ_eq_append_getElem hi']at hsn
     have hnm:=a0n S.ws (t.take i)
     have hle:(a2o (a0e S.ws (t.take i))).length<1000:=by unfold a2o;rw[List.length_map,b4d,List.length_take];omega
     have hsub: ∀m∈names (t.take i),m∈S.ws.map Prod.fst:=fun m hm=>hin m (by
       unfold names at hm |-
       obtain⟨x,hx,e⟩:=List.mem_map.mp hm
       exact List.mem_map.mpr ⟨x,List.mem_of_mem_take hx,e⟩)
     have hsm': ∀e∈a0e S.ws (t.take i),1<=e.2.2:=fun e he=>(hsm e (by
       have:t=t.take i++t.drop i:=(List.take_append_drop ..).symm
       rw[this]
       exact b4c _ _ _ e he)).1
     show a5s _ _ (L2.itemAt (encT t) i) _ _ _
     rw[eit]
     generalize t[i]=en at g1 g2 hws hsn
     obtain⟨m,e⟩:=en
     dsimp only at g1 g2 hws hsn
     have hnew:m∉(a0e S.ws (t.take i)).map Prod.fst:=by rw[hnm];exact g1
     cases e with
     |none=>
       refine⟨rfl,rfl,ifV true (fun R h=>h) ?_⟩
       rw[if_pos rfl]
       simp! only[a0c,a1b]
       refine⟨by decide,hle,?_⟩
       rw[show D.tup [.int 1,.int 1]=eF (1,1)from rfl,put_sh hnew]
       exact hnx _ _ ⟨_,_,_,rfl,by rw[hsn];rfl⟩
     |some l=>
       have hpar:=g2 l rfl
       have t1:=a0q fit.teeth l.2.2
       have t2:=a0q fit.teeth m
       obtain⟨ex,hex,_,elk⟩:=b29 (sh:=a0e S.ws (t.take i)) (n:=l.2.2) (by rw[hnm];exact hpar)
       have hlk:1<=(lk (a0e S.ws (t.take i)) l.2.2).2:=by rw[elk];exact hsm' ex hex
       refine⟨rfl,rfl,ifV false (fun R h=>h) ?_⟩
       rw[if_neg Bool.false_ne_true]
       refine seqV (.str l.2.2) _ (fun R h=>⟨trivial,h⟩) ?_
       simp! only[eE,eL,a0c,a0g n12,a5q (show l.2.2∈(a0e S.ws (t.take i)).map Prod.fst by rw[hnm];exact hpar),a3y (hsub _ hpar),a3y hws,a4h,a6l]
       refine⟨l.2.1,_,_,rfl,t2.1,lk (a0e S.ws (t.take i)) l.2.2,fac l.2.1 (a0j S.ws l.2.2) (a0j S.ws m),rfl,hlk,a7f t1.1 t1.2 t2.1 t2.2,?_⟩
       refine⟨hle,?_⟩
       rw[put_sh hnew,a1b]
       exact hnx _ _ ⟨_,_,_,rfl,by rw[hsn];rfl⟩
   . rintro Γ M' ⟨o4,o5,o6,rfl,rfl⟩
     have el:(encT t).length=t.length:=List.length_map ..
     dsimp only
     rw[el,List.take_length]
     refine⟨hu,.sub (fun x o h=> ?_) (q r2 h2)⟩
     by_cases hq2:x=q'
     . rw[hq2]at h |-
       rw[a0g n2.symm,hq]at h
       rw[a0c];exact h
     . rw[a0g hq2]
       by_cases hx:x=r2
       . rw[hx]at h |-;rw[a0c]at h |-;exact h
       . rw[a0g hx]at h |-
         rw[a0g (fun z=>by rw[z,h1]at h;cases h),a0g hq2];exact h
 . intro rest hrest
   simp! only[]
   refine a4n tr (fun R h=>h) ?_
   refine⟨by rw[List.length_map];have:=fit.w;omega,?_⟩
   rw[b2y]
   refine⟨b7t fit.nd,fun r1 h1 r2 h2=> ?_⟩
   obtain⟨n12,h2'⟩:=none_of h2
   exact hrest _ _ ⟨r1,r2,h1,h2',n12.symm,rfl,rfl⟩
noncomputable def a1r(ws:List (Str×Int))(sh:Sh)(j:Jn):Bool:=decide (j.2.2.1∈sh.map Prod.fst)&& !eqD (eF (mulF (lk sh j.2.2.1) (fac j.2.1 (a0j ws j.2.2.1) (a0j ws j.2.2.2)))) (eF (lk sh j.2.2.2))
noncomputable def b0f(S:TS)(sh:Sh):D:=match S.js.find? (a1r S.ws sh)with |some j=>eJ j |none=> .non
theorem gd_f(x:Fr):Gd 1 (eF x):= .tup _ _ fun d hd=>by
 simp only[List.mem_cons,List.not_mem_nil,or_false]at hd
 rcases hd with rfl |rfl
 . exact .int _ _
 . exact .int _ _
theorem nes_f{x y:Fr}{M:Mem}{Q:AK}(h:Q (.bl (!eqD (eF x) (eF y))) M):oEq true (eF x) (eF y) M Q:=⟨.inr ⟨(gd_f x).sh,(gd_f y).sh⟩,h⟩
def b5i(C:Addr):SpA:=fun ds M Q _=> ∃(p d1 d2 r:Addr) (S:TS) (sh:Sh),ds=[.obj p,.obj r]/\Tr C M p d1 d2 S/\Fit S/\M r=some (.dic (a2o sh))/\(∀e∈sh,1<=e.2.2)/\(∀j∈S.js,j.2.2.1∈sh.map Prod.fst->j.2.2.2∈sh.map Prod.fst)/\Q (b0f S sh) M
theorem b7i{α:Type}{f:α->Bool}{l:List α}{i:Nat}(h:i<l.length)(hn:(l.take i).find? f=none)(hi:f l[i]=true):l.find? f=some l[i]:=by
 have e:l=l.take i++(l[i]::l.drop (i+1)):=by rw[<-List.drop_eq_getElem_cons h,List.take_append_drop]
 conv=>lhs;rw[e]
 rw[List.find?_append,hn,List.find?_cons,hi];rfl
theorem a64{f C:Addr}{fd:FuncData}(Fn:Fun K "jamming_join" "jamming_join" a2n f fd)(T:Txt K mg)(h_wheels:HasM P w K mg base (CXE P w) 1 C "wheels" ["self"] (a0k K (a2y C)))(h_joins:HasM P w K mg base (CXE P w) 1 C "joins" ["self"] (a0k K (a44 C)))
   (h_times:Has P w K mg base (CXE P w) 42 "times" ["one","other"] (a0k K a6l)) (h_factor:Has P w K mg base (CXE P w) 42 "factor" ["kind","one","other"] (a0k K a4h)):FnOk P w K mg base (CXE P w) 43 f fd ["train","shares"] (a0k K (b5i C)):=by
 refine Fn.okA sc_jamming_join (fun ds M Q E h=> ?_) ?_
 . obtain⟨_,_,_,_,_,_,rfl,_⟩:=h;rfl
 intro cdv A outer s H E F0 ds M Q Ea hr ct hsp
 obtain⟨p,d1,d2,r,S,sh,rfl,tr,fit,hrr,h1,hcl,q⟩:=hsp
 refine⟨_,(a0b (sSet (i:=2) sc_jamming_join.nd rfl (Or.inl rfl) (a4o (a50 ct.calm) b6w (by rfl) T.dict boot_dict (a0a (paFz (a3m h_wheels (hr.mono (by decide)) ct (paV (pv 0)))) a0f)))
     (a0b (sFor ct (a1z (paFz (a3m h_joins (hr.mono (by decide)) ct (paV (pv 0))))) (a0r (i:=3) sc_jamming_join.nd rfl (Or.inl rfl))
       (a0b (sSet (i:=4) sc_jamming_join.nd rfl (Or.inl rfl) (paIx a0i lIx (paV (pv 3)) paI (fun _ _=>rfl)))
       (a0b (sSet (i:=5) sc_jamming_join.nd rfl (Or.inl rfl) (paIx a0i lIx (paV (pv 3)) paI (fun _ _=>rfl)))
       (a0h (sIf (ptPC (pcDIn (un1 ct) (paV (pv 4)) (paV (pv 1))))
         (a0b (sSet (i:=6) sc_jamming_join.nd rfl (Or.inl rfl) (a04 h_times (hr.mono (by decide)) (by rfl) ct (a0a (a3n (un1 ct) (paV (pv 1)) (paV (pv 4)) (fun _ _=>rfl)) (a0a (a04 h_factor (hr.mono (by decide)) (by rfl) ct (a0a (paIx a0i lIx (paV (pv 3)) paI (fun _ _=>rfl)) (a0a (a3n (un1 ct) (paV (pv 2)) (paV (pv 4)) (fun _ _=>rfl)) (a0a (a3n (un1 ct) (paV (pv 2)) (paV (pv 5)) (fun _ _=>rfl)) a0f)))) a0f))))
         (a0h (sIf (a0v (a2r (un64 ct)) lNe (paV (pv 6)) (a3n (un1 ct) (paV (pv 1)) (paV (pv 5)) (fun _ _=>rfl)) (a0m _))
           (a0h (sRet (paV (pv 3))))
           a0w)))
         a0w)))))
     (a0h (sRet paN)))),?_⟩
 refine cut1 (fun Γ' M2=> ∃r1,M r1=none/\Γ'=[some (.obj p),some (.obj r),some (.obj r1),none,none,none,none]/\M2=put M r1 (.dic (dW S.ws))) ?_ ?_
 . rintro Γ' M2 ⟨r1,hr1,rfl,rfl⟩
   have nr:=a5j hrr hr1
   have hr2:put M r1 (.dic (dW S.ws)) r=some (.dic (a2o sh)):=by rw[a0g nr.symm];exact hrr
   refine b4w (d:= .lst (S.js.map eJ)) (fun R h=>a6b (tr.sub (.put hr1)) (fun R h=>h) h) rfl ?_
   refine LoopP.by2 (fun i Γ M'=>M'=put M r1 (.dic (dW S.ws))/\(S.js.take i).find? (a1r S.ws sh)=none/\ ∃o3 o4 o5 o6,Γ=[some (.obj p),some (.obj r),some (.obj r1),o3,o4,o5,o6]) ⟨rfl,rfl,_,_,_,_,rfl⟩ (fun _ _ _ _=>rfl) ?_ ?_
   . rintro E' i Γ M' hrt hi hnx ⟨rfl,hno,o3,o4,o5,o6,rfl⟩
     dsimp only at hi
     have hi':i<S.js.length:=by simpa using hi
     have hft:=b7i (f:=a1r S.ws sh) hi' hno
     have hmem:=List.getElem_mem hi'
     obtain⟨e1,e2⟩:=fit.ends _ hmem
     have hc2:=hcl _ hmem
     have hsn:(S.js.take (i+1)).find? (a1r S.ws sh)=if a1r S.ws sh S.js[i]=true then some S.js[i]else none:=by
       rw[List.take_succ_eq_append_getElem hi',List.find?_append,hno]
       simp[List.find?_cons]
       split<;>simp_all
     simp only[a1t S.js eJ i hi',gaN,List.set_cons_zero,List.set_cons_succ]
     generalize S.js[i]=j at hft e1 e2 hc2 hsn
     have t1:=a0q fit.teeth j.2.2.1
     have t2:=a0q fit.teeth j.2.2.2
     refine seqV (.str j.2.2.1) _ (fun R h=>⟨trivial,h⟩) (seqV (.str j.2.2.2) _ (fun R h=>⟨trivial,h⟩) ?_)
     simp only[List.set_cons_zero,List.set_cons_succ]
     by_cases hin:j.2.2.1∈sh.map Prod.fst
     . have hin2:=hc2 hin
       obtain⟨ex,hex,_,elk⟩:=b29 hin
       have hlk:1<=(lk sh j.2.2.1).2:=by rw[elk];exact h1 ex hex
       refine ifV true (fun R h=>by
         simp! only[hr2,a5q hin,Option.isSome_some]
         exact h) ?_
       rw[if_pos rfl]
       refine seqV (eF (mulF (lk sh j.2.2.1) (fac j.2.1 (a0j S.ws j.2.2.1) (a0j S.ws j.2.2.2)))) (put M r1 (.dic (dW S.ws))) (fun R h=>by
         simp! only[eJ,hr2,a0c,a5q hin,a3y e1,a3y e2,a4h,a6l]
         exact⟨_,_,_,rfl,t2.1,_,_,rfl,hlk,a7f t1.1 t1.2 t2.1 t2.2,h⟩) ?_
       simp only[List.set_cons_zero,List.set_cons_succ]
       cases hj:a1r S.ws sh j with
       |true=>
         have ev:(!eqD (eF (mulF (lk sh j.2.2.1) (fac j.2.1 (a0j S.ws j.2.2.1) (a0j S.ws j.2.2.2)))) (eF (lk sh j.2.2.2)))=true:=by
           unfold a1r at hj;rw[Bool.and_eq_true]at hj;exact hj.2
         refine ifV true (fun R h=>by
           simp! only[hr2,a5q hin2]
           refine nes_f ?_
           rw[ev];exact h) ?_
         rw[if_pos rfl]
         refine retV (eJ j) _ (fun R h=>h) ?_
         rw[hrt]
         have e:b0f S sh=eJ j:=by unfold b0f;rw[hft hj]
         rw[e]at q
         exact .sub (.put hr1) q
       |false=>
         have ev:(!eqD (eF (mulF (lk sh j.2.2.1) (fac j.2.1 (a0j S.ws j.2.2.1) (a0j S.ws j.2.2.2)))) (eF (lk sh j.2.2.2)))=false:=by
           unfold a1r at hj;rw[decide_eq_true hin,Bool.true_and]at hj;exact hj
         refine ifV false (fun R h=>by
           simp! only[hr2,a5q hin2]
           refine nes_f ?_
           rw[ev];exact h) ?_
         rw[if_neg Bool.false_ne_true]
         exact hnx _ _ ⟨rfl,by rw[hsn,hj];rfl,_,_,_,_,rfl⟩
     . have hj:a1r S.ws sh j=false:=by unfold a1r;rw[decide_eq_false hin];rfl
       refine ifV false (fun R h=>by
         simp! only[hr2,a5p hin,Option.isSome_none]
         exact h) ?_
       rw[if_neg Bool.false_ne_true]
       exact hnx _ _ ⟨rfl,by rw[hsn,hj];rfl,_,_,_,_,rfl⟩
   . rintro Γ M' ⟨rfl,hno,o3,o4,o5,o6,rfl⟩
     have el:(S.js.map eJ).length=S.js.length:=List.length_map ..
     dsimp only at hno
     rw[el,List.take_length]at hno
     have e:b0f S sh= .non:=by unfold b0f;rw[hno]
     rw[e]at q
     exact .sub (.put hr1) q
 . intro rest hrest
   simp! only[]
   refine a4n tr (fun R h=>h) ?_
   refine⟨by rw[List.length_map];have:=fit.w;omega,?_⟩
   rw[b2y]
   exact⟨b7t fit.nd,fun r1 h1=>hrest _ _ ⟨r1,h1,rfl,rfl⟩⟩
def spFree(C:Addr)(EC:Rk->Addr)(EJ:Addr):SpA:=fun ds M Q E=> ∃(p d1 d2:Addr) (S:TS) (o:Option Str),ds=[.obj p,encN o]/\Tr C M p d1 d2 S/\Fit S/\match a30 S o with
 |none=>E (.ref (EC .noWheel)) M
 |some n=> ∀t,IsTree S.js n t->Grown S.js n t->Closed S.js t->t.length<=100->match S.js.find? (a1r S.ws (a0e S.ws t))with
   |some _=> ∀M',L2.Sub M M'->E (.ref EJ) M'
   |none=> ∀r,M r=none->Q (.obj r) (put M r (.dic (a2o (a0e S.ws t))))
theorem b25{S:TS}{o:Option Str}{n:Str}(h:a30 S o=some n):n∈S.ws.map Prod.fst:=by
 cases o with
 |none=>exact List.mem_of_mem_head? h
 |some x=>
   unfold a30 at h
   dsimp only at h
   split at h
   . cases h;assumption
   . cases h
theorem a83{js:List Jn}{j:Jn}(h:j∈js):(j.1,j.2.1,j.2.2.2)∈lead js j.2.2.1:=by
 unfold lead
 refine List.mem_flatMap.mpr ⟨j,h,?_⟩
 unfold a7w
 rw[if_pos rfl]
 exact List.mem_append_left _ List.mem_cons_self
theorem Grown.short{S:TS}{n:Str}{t:TT}(g:Grown S.js n t)(fit:Fit S)(hn:n∈S.ws.map Prod.fst):t.length<=100:=by
 have h:=a97 g.nodup (g.inn hn fit.ends)
 rw[List.length_map]at h
 have e:(names t).length=t.length:=by simp[names]
 have:=fit.w
 omega
theorem a7u{f C EJ:Addr}{fd:FuncData}{EC:Rk->Addr}(Fn:Fun K "free_shares" "free_shares" a24 f fd)(X_Jams:ExCls K mg "Jams" EJ)(h_joins:HasM P w K mg base (CXE P w) 1 C "joins" ["self"] (a0k K (a44 C)))
   (h_wheel_meant:Has P w K mg base (CXE P w) 2 "wheel_meant" ["train","name"] (a0k K (b01 C EC))) (h_tree_from:Has P w K mg base (CXE P w) 2 "tree_from" ["joins","start"] (a0k K b2i))
   (h_shares_along:Has P w K mg base (CXE P w) 43 "shares_along" ["train","tree"] (a0k K (a4f C))) (h_jamming_join:Has P w K mg base (CXE P w) 43 "jamming_join" ["train","shares"] (a0k K (b5i C))):FnOk P w K mg base (CXE P w) 44 f fd ["train","name"] (a0k K (spFree C EC EJ)):=by
 refine Fn.okA sc_free_shares (fun ds M Q E h=> ?_) ?_
 . obtain⟨_,_,_,_,_,rfl,_⟩:=h;rfl
 intro cdv A outer s H E F0 ds M Q Ea hr ct hsp
 obtain⟨p,d1,d2,S,o,rfl,tr,fit,q⟩:=hsp
 refine⟨_,(a0b (sSet (i:=2) sc_free_shares.nd rfl (Or.inl rfl) (a04 h_tree_from (hr.mono (by decide)) (by rfl) ct (a0a (paFz (a3m h_joins (hr.mono (by decide)) ct (paV (pv 0)))) (a0a (a04 h_wheel_meant (hr.mono (by decide)) (by rfl) ct (a0a (paV (pv 0)) (a0a (paV (pv 1)) a0f))) a0f))))
     (a0b (sSet (i:=3) sc_free_shares.nd rfl (Or.inl rfl) (a04 h_shares_along (hr.mono (by decide)) (by rfl) ct (a0a (paV (pv 0)) (a0a (paV (pv 2)) a0f))))
     (a0b (sIf (a0v a8v b3e (a04 h_jamming_join (hr.mono (by decide)) (by rfl) ct (a0a (paV (pv 0)) (a0a (paV (pv 3)) a0f))) paN (a0m _))
       (a0h (a2f ct X_Jams (by rfl) (a0a paS a0f)))
       a0w)
     (a0h (sRet (paV (pv 3))))))),?_⟩
 have hjl:S.js.length<=300:=by have:=fit.j;omega
 refine cut1 (fun Γ' M2=> ∃(n:Str) (t:TT) (r0:Addr),a30 S o=some n/\IsTree S.js n t/\Grown S.js n t/\Closed S.js t/\M r0=none/\Γ'=[some (.obj p),some (encN o),some (.obj r0),none]/\M2=put M r0 (.dic (encT t))) ?_ ?_
 . rintro Γ' M2 ⟨n,t,r0,hm,ist,gr,cl,h0,rfl,rfl⟩
   have hn:=b25 hm
   have hsh:=gr.short fit hn
   have hsm:=a2j fit.teeth gr
   rw[hm]at q
   have q:=q t ist gr cl hsh
   have hnm:=a0n S.ws t
   refine cut1 (fun Γ' M2=> ∃(r:Addr),M r=none/\r≠r0/\Γ'=[some (.obj p),some (encN o),some (.obj r0),some (.obj r)]/\M2=put (put M r0 (.dic (encT t))) r (.dic (a2o (a0e S.ws t)))) ?_ ?_
   . rintro Γ' M2 ⟨r,hr0,nr0,rfl,rfl⟩
     have hr9:put M r0 (.dic (encT t)) r=none:=by rw[a0g nr0];exact hr0
     have sb9:L2.Sub M (put (put M r0 (.dic (encT t))) r (.dic (a2o (a0e S.ws t)))):=L2.Sub.trans (.put h0) (.put hr9)
     refine seqIfB (S.js.find? (a1r S.ws (a0e S.ws t))).isSome (fun R h=> ?_) ?_
     . simp! only[b5i]
       refine⟨p,d1,d2,r,S,a0e S.ws t,rfl,tr.sub sb9,fit,a0c,fun e he=>(hsm e he).1,fun j hj=> ?_,?_⟩
       . rw[hnm]
         intro h1
         exact cl _ h1 (j.1,j.2.1,j.2.2.2) (a83 hj)
       . unfold b0f
         cases hf:S.js.find? (a1r S.ws (a0e S.ws t))with
         |none=>rw[hf]at h;exact h
         |some j=>rw[hf]at h;exact h
     . cases hf:S.js.find? (a1r S.ws (a0e S.ws t))with
       |none=>
         rw[hf]at q
         rw[if_neg (by decide)]
         refine .sub (fun x o h=> ?_) (q r hr0)
         by_cases hx:x=r
         . rw[hx]at h |-;rw[a0c]at h |-;exact h
         . rw[a0g hx]at h |-
           rw[a0g (fun z=>by rw[z,h0]at h;cases h)];exact h
       |some j=>
         rw[hf]at q
         rw[if_pos (by rfl)]
         exact⟨Nat.le_of_ble_eq_true rfl,q _ sb9⟩
   . intro rest hrest
     simp! only[a4f]
     refine⟨p,d1,d2,r0,S,t,n,rfl,tr.sub (.put h0),fit,a0c,gr,hn,by omega,fun r h=> ?_⟩
     obtain⟨n1,h2⟩:=none_of h
     exact hrest _ _ ⟨r,h2,n1,rfl,rfl⟩
 . intro rest hrest
   simp! only[]
   refine a6b tr (fun R h=>h) ?_
   refine⟨p,d1,d2,S,o,rfl,tr,fit.w,?_⟩
   cases hm:a30 S o with
   |none=>rw[hm]at q;exact q
   |some n=>
     exact⟨S.js,n,rfl,hjl,fun t ist gr cl _ r0 h0=>hrest _ _ ⟨n,t,r0,hm,ist,gr,cl,h0,rfl,rfl⟩⟩
theorem compLO{fs:List Nat}{tl te:AE}{Γ:G}{M:Mem}{Q:AK}(ds:List D)(f:D->D)(htl: ∀R:AK,R (.lst ds) M->tl Γ M R)(hn:ds.length<=1000)(he: ∀x∈ds,∀(M':Mem),L2.Sub M M'-> ∀(R:AK),R (f x) M'->te (some x::frG fs Γ) M' R)
   (q: ∀p,M p=none->Q (.obj p) (put M p (.lst (ds.map f)))):a3d 1 fs (iaL tl) (gaN 0) aYes te Γ M Q:=by
 refine htl _ ?_
 refine⟨fun i=>some (f (ds.getD i .non)),hn,fun M' hs=>⟨rfl,fun i hi own ho=> ?_⟩,fun p hp=> ?_⟩
 . obtain⟨o,rfl⟩: ∃o,own=[o]:=by
     cases own with
     |nil=>cases ho
     |cons o l=>cases l with
       |nil=>exact⟨o,rfl⟩
       |cons _ _=>simp at ho
   refine⟨rfl,⟨[some _],rfl,rfl⟩,rfl,?_⟩
   rw[if_pos rfl]
   have hi':i<ds.length:=hi
   have e:ds.getD i .non=ds[i]:=by simp[List.getD,List.getElem?_eq_getElem hi']
   show te (some (ds.getD i .non)::frG fs Γ) M' _
   rw[e]
   exact he _ (List.getElem_mem hi') M' hs _ ⟨rfl,by dsimp only;rw[e]⟩
 . have e:outs (fun i=>some (f (ds.getD i .non))) ds.length=ds.map f:=by
     apply List.ext_getElem?
     intro i
     have:outs (fun i=>some (f (ds.getD i .non))) ds.length=(List.range ds.length).map fun i=>f (ds.getD i .non):=by
       unfold outs
       induction List.range ds.length with
       |nil=>rfl
       |cons a l ih=>simp only[List.filterMap_cons,List.map_cons,ih]
     rw[this]
     simp only[List.getElem?_map]
     by_cases hi:i<ds.length
     . simp[List.getElem?_range hi,List.getElem?_eq_getElem hi,List.getD]
     . simp[List.getElem?_eq_none (show(List.range ds.length).length<=i by simp;omega),List.getElem?_eq_none (show ds.length<=i by omega)]
   rw[e]
   exact q p hp
noncomputable def told1(sh:Sh):D->D | .tup (.str n::_)=>(getK (a2o sh) (Sum.inr n)).getD .non |d=>d
noncomputable def told(ws:List (Str×Int))(sh:Sh):List D:=(ws.map eW).map (told1 sh)
def a3f(C:Addr)(EC:Rk->Addr)(EJ:Addr):SpA:=fun ds M Q E=> ∃(p d1 d2:Addr) (S:TS) (o:Option Str),ds=[.obj p,encN o]/\Tr C M p d1 d2 S/\Fit S/\match a30 S o with
 |none=>E (.ref (EC .noWheel)) M
 |some n=> ∀t,IsTree S.js n t->Grown S.js n t->Closed S.js t->t.length<=100->match S.js.find? (a1r S.ws (a0e S.ws t))with
   |some _=> ∀M',L2.Sub M M'->E (.ref EJ) M'
   |none=> ∀q,M q=none->Q (.obj q) (put M q (.lst (told S.ws (a0e S.ws t))))
theorem b8z{f C EJ:Addr}{fd:FuncData}{EC:Rk->Addr}(Fn:FunD K "turns" "turns" a10 f fd)(T:Txt K mg)(h_wheels:HasM P w K mg base (CXE P w) 1 C "wheels" ["self"] (a0k K (a2y C)))
   (h_free_shares:Has P w K mg base (CXE P w) 44 "free_shares" ["train","name"] (a0k K (spFree C EC EJ))):FnOk P w K mg base (CXE P w) 45 f fd ["train","name"] (a0k K (a3f C EC EJ)):=by
 refine Fn.okA sc_turns (fun ds M Q E h=> ?_) ?_
 . obtain⟨_,_,_,_,_,rfl,_⟩:=h;rfl
 intro cdv A outer s H E F0 ds M Q Ea hr ct hsp
 obtain⟨p,d1,d2,S,o,rfl,tr,fit,q⟩:=hsp
 have hu1:=un1 ct
 refine⟨_,(a0b (sSet (i:=2) sc_turns.nd rfl (Or.inr rfl) (a04 h_free_shares (hr.mono (by decide)) (by rfl) ct (a0a (paV (pv 0)) (a0a (paV (pv 1)) a0f))))
     (a0h (sRet (a6z (Nc:=["wheel","shares"]) (n:=1) (fs:=[2]) comp1 rfl (a1z (paFz (a3m h_wheels (hr.mono (by decide)) ct (paV (pv 0))))) (fun _ _ _ _ _=>(a0r (i:=0) (show List.Nodup (["wheel","shares"]:List Str)by decide+kernel) rfl (Or.inl rfl))) (fun _ _ _ _ _=>a9b) (fun _ _ _ _ _=>(paDGet1 hu1 (paV (pv 1)) (paIx a0i lIx (paV (pv 0)) paI (fun _ _=>rfl)) ⟨by rfl,by rfl,by rfl,by rfl⟩)))))),?_⟩
 refine⟨p,d1,d2,S,o,rfl,tr,fit,?_⟩
 cases hm:a30 S o with
 |none=>rw[hm]at q;exact q
 |some n=>
   rw[hm]at q
   intro t ist gr cl hl
   have q:=q t ist gr cl hl
   cases hf:S.js.find? (a1r S.ws (a0e S.ws t))with
   |some j=>rw[hf]at q;exact q
   |none=>
     rw[hf]at q
     intro r hr0
     dsimp only
     refine compLO (S.ws.map eW) (told1 (a0e S.ws t)) (fun R h=>a4n (tr.sub (.put hr0)) (fun R h=>h) h) (by rw[List.length_map];have:=fit.w;omega) (fun x hx M' hs R h=> ?_) fun p' hp'=> ?_
     rotate_left
     . obtain⟨n1,h2⟩:=none_of hp'
       refine Rt.sub (fun x o h=> ?_) (q p' h2)
       by_cases hx:x=p'
       . rw[hx]at h |-;rw[a0c]at h |-;exact h
       . rw[a0g hx]at h |-
         rw[a0g (fun z=>by rw[z,hr0]at h;cases h)];exact h
     obtain⟨w',_,rfl⟩:=List.mem_map.mp hx
     have hr1:=hs _ _ (a0c (M:=M) (p:=r) (o:= .dic (a2o (a0e S.ws t))))
     simp! only[frG,Option.join_some,hr1,eW]
     exact⟨rfl,h⟩
noncomputable def eSt(s:Int×Str):D:= .tup [.int s.1,.str s.2]
def b2j:SpA:=fun ds M Q _=> ∃(js:List Jn) (a b:Str),ds=[.lst (js.map eJ),.str a,.str b]/\js.length<=300/\(¬ Reach js a b->Q .non M)/\
 ∀st,Way js a st b->(a::st.map Prod.snd).Nodup->st.length<=2 *js.length-> ∀p,M p=none->Q (.obj p) (put M p (.lst (st.map eSt)))
theorem b4j{f:Addr}{fd:FuncData}(Fn:Fun K "road_by" "road_by" a6q f fd)(h_tree_from:Has P w K mg base (CXE P w) 2 "tree_from" ["joins","start"] (a0k K b2i)):FnOk P w K mg base (CXE P w) 3 f fd ["joins","one","other"] (a0k K b2j):=by
 refine Fn.okA sc_road_by (fun ds M Q E h=> ?_) ?_
 . obtain⟨a,b,c,rfl,_⟩:=h;rfl
 intro cdv A outer s H E F0 ds M Q Ea hr ct hsp
 obtain⟨js,a,b,rfl,hl,qn,q⟩:=hsp
 refine⟨_,(a0b (sSet (i:=3) sc_road_by.nd rfl (Or.inl rfl) (a04 h_tree_from (hr.mono (by decide)) (by rfl) ct (a0a (paV (pv 0)) (a0a (paV (pv 1)) a0f))))
     (a0b (sIf (ptPC (a3u (un1 ct) (paV (pv 2)) (paV (pv 3))))
       (a0h (sRet paN))
       a0w)
     (a0b (sSet (i:=4) sc_road_by.nd rfl (Or.inl rfl) (a31 a0f))
     (a0b (sSet (i:=5) sc_road_by.nd rfl (Or.inl rfl) (paV (pv 2)))
     (a0b (b2p ct (a0v (a2r (un64 ct)) lNe (paV (pv 5)) (paV (pv 1)) (a0m _))
       (a0b (sSet (i:=6) sc_road_by.nd rfl (Or.inl rfl) (a3n (un1 ct) (paV (pv 3)) (paV (pv 5)) (fun _ _=>rfl)))
       (a0b (a1y (paBM PySem.F.plainAttrs_list PySem.F.slot_list_append PySem.F.type_list_append a03 a1n (paV (pv 4)) (a0a (a2b (a0a (paIx a0i lIx (paV (pv 6)) paI (fun _ _=>rfl)) (a0a (paV (pv 5)) a0f))) a0f)))
       (a0h (sSet (i:=5) sc_road_by.nd rfl (Or.inl rfl) (paIx a0i lIx (paV (pv 6)) paI (fun _ _=>rfl)))))))
     (a0b (a1y (paBM0 PySem.F.plainAttrs_list PySem.F.slot_list_reverse PySem.F.type_list_reverse b4o b89 (paV (pv 4))))
     (a0h (sRet (paV (pv 4)))))))))),?_⟩
 simp only[aSeq,aSet,aFun,b0r,aNil,aV,a72,List.map_cons,List.map_nil,List.length_cons,List.length_nil,List.replicate,List.cons_append,List.nil_append,Nat.reduceAdd,Nat.reduceSub,List.set_cons_zero,List.set_cons_succ,List.getElem?_cons_zero,List.getElem?_cons_succ,a1e]
 refine⟨js,a,rfl,hl,fun t _ gr cl hlen p hp=> ?_⟩
 simp only[aIf,aT,aOp,aV,oDIn,L2.dd,keyD,a3s,a0c,a5r,if_true,List.getElem?_cons_zero,List.getElem?_cons_succ,a1e]
 by_cases hin:b∈names t
 . simp only[hin,decide_true,Bool.not_true,Bool.false_eq_true,if_false,aNext,aSeq,aSet,aLstM,aNil,aV,List.length_nil,List.set_cons_zero,List.set_cons_succ,List.getElem?_cons_zero,List.getElem?_cons_succ,a1e]
   refine⟨Nat.zero_le _,fun r hr'=> ?_⟩
   have nrp:r≠p:=by rintro rfl;rw[a0c]at hr';cases hr'
   rw[a0g nrp]at hr'
   refine⟨fun m Γ M'=> ∃(x:Str) (acc:List (Int×Str)) (t1 t2:TT) (o6:Option D),Γ=[some (.lst (js.map eJ)),some (.str a),some (.str b),some (.obj p),some (.obj r),some (.str x),o6]/\M'=put (put M p (.dic (encT t))) r (.lst (acc.reverse.map eSt))/\t=t1++t2/\Grown js a t1/\x∈names t1/\t1.length<=m/\acc.length+t1.length<=t.length/\Way js x acc b/\(acc.map Prod.snd).Nodup/\ ∀y∈acc.map Prod.snd,y∉names t1,
     ⟨t.length,b,[],t,[],none,rfl,rfl,by simp,gr,hin,Nat.le_refl _,by simp,.nil b,by simp,fun y hy=>(List.not_mem_nil hy).elim⟩,?_⟩
   rintro m Γ M' ⟨x,acc,t1,t2,o6,rfl,rfl,et,g1,hx,hm,hb,wy,nd,dj⟩
   simp only[aT,aOp,aV,b6c,List.getElem?_cons_zero,List.getElem?_cons_succ,a1e]
   by_cases hxa:x=a
   . subst hxa
     simp only[decide_true,Bool.not_true,Bool.false_eq_true,if_false]
     have hpos:0<t1.length:=by cases t1 with |nil=>cases hx |cons _ _=>simp
     simp only[aSeq,b19,aBM0,aV,a2c,a0c,oReverse,a1b,true_and,aRet,List.getElem?_cons_zero,List.getElem?_cons_succ,a1e,<-List.map_reverse,List.reverse_reverse]
     rw[a25 nrp.symm]
     have npr:(put M r (.lst (acc.map eSt))) p=none:=by rw[a0g nrp.symm];exact hp
     exact .sub (.put npr) (q acc wy (List.nodup_cons.mpr ⟨fun z=>dj x z hx,nd⟩) (by omega) r hr')
   . simp only[hxa,decide_false,Bool.not_false,if_true]
     obtain⟨t0,e,t3,g0,e1,h1,h2,h3⟩:=g1.came hx hxa
     have eg:getK (encT t) (Sum.inr x)=some (eL e):=by
       have e2:t=t0++(x,some e)::(t3++t2):=by rw[et,e1];simp
       rw[e2];exact b7e t0 _ x (some e) h1
     have l1:t1.length=t0.length+1+t3.length:=by rw[e1];simp;omega
     simp only[aSeq,aSet,aDGet,aV,L2.dd,keyD,a3s,a0c,a0g nrp.symm,eg,a1e,List.set_cons_zero,List.set_cons_succ,List.getElem?_cons_zero,List.getElem?_cons_succ]
     simp only[eL,b19,aBM,aV,aC,aTup,b0r,aNil,aOp,oIx,ixC,ixF,L2.dq,at0,at2,a2c,a0c,oAppend,a1b,true_and,aSet,Option.bind_some,a1e,List.length_map,List.length_reverse,List.set_cons_zero,List.set_cons_succ,List.getElem?_cons_zero,List.getElem?_cons_succ]
     refine⟨Nat.le_of_ble_eq_true rfl,by omega,t0.length,by omega,e.2.2,(e.1,x)::acc,t0,(x,some e)::(t3++t2),_,rfl,by simp[eSt],by rw[et,e1];simp,g0,h2,Nat.le_refl _,by simp only[List.length_cons];omega,.cons (l:=(e.1,e.2.1,x)) h3 wy,?_,?_⟩
     . simp only[List.map_cons]
       exact List.nodup_cons.mpr ⟨fun z=>dj x z hx,nd⟩
     . intro y hy hy0
       simp only[List.map_cons]at hy
       rcases List.mem_cons.mp hy with h |h
       . subst h;exact h1 hy0
       . refine dj y h ?_
         rw[e1]
         unfold names at hy0 |-
         rw[List.map_append]
         exact List.mem_append_left _ hy0
 . simp only[hin,decide_false,Bool.not_false,if_true,aRet,aC]
   exact .sub (.put hp) (qn fun z=>hin (gr.all cl z))
theorem a87(ns:List Int)(n:Int):inD (.int n) (ns.map D.int)=decide (n∈ns):=by
 unfold inD
 induction ns with
 |nil=>rfl
 |cons a ns ih=>
   simp only[List.map_cons,List.any_cons,List.mem_cons,Bool.decide_or]
   rw[ih]
   congr 1
   by_cases h:a=n
   . subst h;simp[eqF]
   . have h': ¬ n=a:=fun z=>h z.symm
     simp[eqF,h,h']
theorem eqD_f(x y:Fr):eqD (eF x) (eF y)=decide (x=y):=by
 obtain⟨a,b⟩:=x
 obtain⟨c,d⟩:=y
 have e:eqD (eF (a,b)) (eF (c,d))=(a==c&&(b==d&&true)):=rfl
 rw[e,Bool.and_true,Bool.eq_iff_iff,Bool.and_eq_true,beq_iff_eq,beq_iff_eq,decide_eq_true_eq,Prod.mk.injEq]
theorem compV{fs:List Nat}{td te:AE}{ti:AT}{Γ:G}{M:Mem}{Q:AK}{p:Addr}{kvs:List (Key×D)}(g:D->Option D)(htd: ∀R:AK,R (.obj p) M->td Γ M R)(hp:M p=some (.dic kvs))(hn:kvs.length<=1000)
   (hi: ∀kv∈kvs,∀(M':Mem) (R:Bool->Mem->Prop),R (g kv.2).isSome M'->ti (some kv.2::frG fs Γ) M' R) (he: ∀kv∈kvs,∀y,g kv.2=some y-> ∀(M':Mem) (R:AK),R y M'->te (some kv.2::frG fs Γ) M' R)
   (q:Q (.lst (kvs.filterMap fun kv=>g kv.2)) (del M p)):aFz (a3d 1 fs (iaV td) (gaN 0) ti te) Γ M Q:=by
 refine htd _ ?_
 dsimp only
 rw[hp]
 have hv: ∀i (h:i<kvs.length),L2.valAt kvs i=(kvs[i]).2:=fun i h=>by unfold L2.valAt;rw[List.getElem?_eq_getElem h]
 refine⟨fun i=>g (L2.valAt kvs i),hn,fun M' _=>⟨trivial,fun i hi' own ho=> ?_⟩,fun l hl=> ?_⟩
 . obtain⟨o,rfl⟩: ∃o,own=[o]:=by
     cases own with
     |nil=>cases ho
     |cons o l=>cases l with
       |nil=>exact⟨o,rfl⟩
       |cons _ _=>simp at ho
   refine⟨rfl,⟨[some _],rfl,rfl⟩,?_⟩
   have hi'':i<kvs.length:=hi'
   show ti (some (L2.valAt kvs i)::frG fs Γ) M' _
   rw[hv i hi'']
   refine hi _ (List.getElem_mem hi'') M' _ ⟨rfl,?_⟩
   cases hg:g (kvs[i]).2 with
   |some y=>
     rw[Option.isSome_some,if_pos rfl]
     refine he _ (List.getElem_mem hi'') y hg M' _ ⟨rfl,?_⟩
     dsimp only
     rw[hv i hi'',hg]
   |none=>
     rw[Option.isSome_none,if_neg Bool.false_ne_true]
     dsimp only
     rw[hv i hi'',hg]
 . rw[a0c]
   dsimp only
   rw[a1w hl]
   have e: ∀n,n<=kvs.length->outs (fun i=>g (L2.valAt kvs i)) n=(kvs.take n).filterMap fun kv=>g kv.2:=by
     intro n
     induction n with
     |zero=>intro _;rfl
     |succ n ih=>
       intro hn'
       have hlt:n<kvs.length:=by omega
       rw[a4p,ih (by omega),List.take_succ_eq_append_getElem hlt,List.filterMap_append,hv n hlt]
       cases hg:g (kvs[n]).2<;>simp[hg]
   rw[e kvs.length (Nat.le_refl _),List.take_length]
   exact q
noncomputable def num0:D->Option D
 | .tup (d::_)=>some d
 |_=>none
theorem nums_of(t:TT):(encT t).filterMap (fun kv=>num0 kv.2)=(nums t).map D.int:=by
 unfold encT nums
 rw[List.filterMap_map,List.map_filterMap]
 congr 1
 funext e
 obtain⟨n,e⟩:=e
 cases e<;>rfl
def b2n:SpA:=fun ds M Q _=> ∃(q:Addr) (js:List Jn) (j:Jn) (t:TT) (x:Str),ds=[eJ j,.lst (js.map eJ),.obj q]/\M q=some (.dic (encT t))/\js.length<=300/\t.length<=500/\Grown js x t/\j.2.2.1∈names t/\j.2.2.2∈names t/\
 ∀st,Way (a15 js t) j.2.2.1 st j.2.2.2->(j.2.2.1::st.map Prod.snd).Nodup->st.length<=2 *js.length-> ∀r,del M q r=none->Q (.obj r) (put (del M q) r (.lst ((st++[(j.1,j.2.2.1)]).map eSt)))
theorem tree_js(js:List Jn)(t:TT):(js.map eJ).filter (fun d=>inD (row0 d) ((nums t).map D.int))=(a15 js t).map eJ:=by
 unfold a15
 rw[List.filter_map]
 congr 1
 apply List.filter_congr
 intro j _
 exact a87 (nums t) j.1
theorem a5h{f:Addr}{fd:FuncData}(Fn:Fun K "ring_closed_by" "ring_closed_by" a11 f fd)(h_road_by:Has P w K mg base (CXE P w) 3 "road_by" ["joins","one","other"] (a0k K b2j)):FnOk P w K mg base (CXE P w) 4 f fd ["join","joins","tree"] (a0k K b2n):=by
 refine Fn.okA sc_ring_closed_by (fun ds M Q E h=> ?_) ?_
 . obtain⟨_,_,_,_,_,rfl,_⟩:=h;rfl
 intro cdv A outer s H E F0 ds M Q Ea hr ct hsp
 obtain⟨q',js,j,t,x,rfl,hq,hjl,htl,gr,h1,h2,q⟩:=hsp
 refine⟨_,(a0b (sSet (i:=3) sc_ring_closed_by.nd rfl (Or.inr rfl) (paFz (a6z (Nc:=["entry"]) (n:=1) (fs:=[]) b0j rfl (iValues (paV (pv 2))) (fun _ _ _ _ _=>(a0r (i:=0) (show List.Nodup (["entry"]:List Str)by decide+kernel) rfl (Or.inl rfl))) (fun _ _ _ _ _=>(fiOne (a0v a8v b3e (paV (pv 0)) paN (a0m _)))) (fun _ _ _ _ _=>(paIx a0i lIx (paV (pv 0)) paI (fun _ _=>rfl))))))
     (a0b (b2q (i:=4) sc_ring_closed_by.nd rfl rfl (Nc:=["standing","numbers"]) (n:=1) (fs:=[3]) comp1 rfl (a1z (paV (pv 1))) (fun _ _ _ _ _=>(a0r (i:=0) (show List.Nodup (["standing","numbers"]:List Str)by decide+kernel) rfl (Or.inl rfl))) (fun _ _ _ _ _=>(fiOne (a0v a90 lIn (paIx a0i lIx (paV (pv 0)) paI (fun _ _=>rfl)) (paV (pv 1)) (by with_unfolding_all rfl)))) (fun _ _ _ _ _=>(paV (pv 0))) (by rfl))
     (a0b (sSet (i:=5) sc_ring_closed_by.nd rfl (Or.inl rfl) (a04 h_road_by (hr.mono (by decide)) (by rfl) ct (a0a (paV (pv 4)) (a0a (paIx a0i lIx (paV (pv 0)) paI (fun _ _=>rfl)) (a0a (paIx a0i lIx (paV (pv 0)) paI (fun _ _=>rfl)) a0f)))))
     (a0b (a1y (paBM PySem.F.plainAttrs_list PySem.F.slot_list_append PySem.F.type_list_append a03 a1n (paV (pv 5)) (a0a (a2b (a0a (paIx a0i lIx (paV (pv 0)) paI (fun _ _=>rfl)) (a0a (paIx a0i lIx (paV (pv 0)) paI (fun _ _=>rfl)) a0f))) a0f)))
     (a0h (sRet (paV (pv 5)))))))),?_⟩
 have htj:(a15 js t).length<=js.length:=List.length_filter_le ..
 refine seqV (.lst ((nums t).map D.int)) (del M q') (fun R h=> ?_) ?_
 . rw[<-nums_of]at h
   refine compV (p:=q') (kvs:=encT t) num0 (fun R h=>h) hq (by unfold encT;rw[List.length_map];omega) (fun kv hkv M' R h=> ?_) (fun kv hkv y hy M' R h=> ?_) h
   . obtain⟨e,_,rfl⟩:=List.mem_map.mp hkv
     obtain⟨n,e⟩:=e
     cases e with
     |none=>exact h
     |some l=>exact h
   . obtain⟨e,_,rfl⟩:=List.mem_map.mp hkv
     obtain⟨n,e⟩:=e
     cases e with
     |none=>cases hy
     |some l=>
       cases hy
       exact⟨trivial,h⟩
 refine seqV (.lst ((a15 js t).map eJ)) (del M q') (fun R h=> ?_) ?_
 . rw[<-tree_js]at h
   refine compF (js.map eJ) (fun d=>inD (row0 d) ((nums t).map D.int)) (fun R h=>h) (by rw[List.length_map];omega) (fun y hy M' R h=> ?_) h
   obtain⟨i,_,rfl⟩:=List.mem_map.mp hy
   simp! only[eJ,frG,Option.join_some]
   have ef:(flD (D.int i.1)&&((nums t).map D.int).all flD)=true:=by rw[List.all_map];exact List.all_eq_true.mpr fun _ _=>rfl
   rw[if_pos ef]
   exact h
 refine⟨trivial,trivial,a15 js t,j.2.2.1,j.2.2.2,rfl,by omega,fun hn=>absurd (b35 gr h1 h2) hn,fun st wy nd hl r hr'=> ?_⟩
 dsimp only
 refine b4y .non (put (del M q') r (.lst ((st++[(j.1,j.2.2.1)]).map eSt))) (fun R h=> ?_) ?_
 . simp! only[eJ,aBM,a2c,a0c,oAppend,a1b,List.length_map]
   rw[List.map_append]at h
   exact⟨by decide,by omega,h⟩
 . exact .now (q st wy nd (by omega) r hr')
def a5t(C:Addr)(EC:Rk->Addr):SpA:=fun ds M Q E=> ∃(p d1 d2:Addr) (S:TS) (o:Option Str),ds=[.obj p,encN o]/\Tr C M p d1 d2 S/\Fit S/\(S.js.map Prod.fst).Nodup/\(∀j∈S.js,j.2.2.1≠j.2.2.2)/\match a30 S o with
 |none=>E (.ref (EC .noWheel)) M
 |some n=> ∀t,IsTree S.js n t->Grown S.js n t->Closed S.js t->t.length<=100->match S.js.find? (a1r S.ws (a0e S.ws t))with
   |some _=> ∀a rs,Ring S.ws S.js n a rs->rs.length<=500-> ∀r,M r=none->Q (.obj r) (put M r (.lst (rs.map eSt)))
   |none=>Q .non M
theorem b3i{ws:List (Str×Int)}{sh:Sh}{j:Jn}(h:a1r ws sh j=true):j.2.2.1∈sh.map Prod.fst/\ ¬ mulF (lk sh j.2.2.1) (fac j.2.1 (a0j ws j.2.2.1) (a0j ws j.2.2.2))=lk sh j.2.2.2:=by
 unfold a1r at h
 rw[Bool.and_eq_true]at h
 refine⟨of_decide_eq_true h.1,fun e=> ?_⟩
 have h2:=h.2
 rw[e]at h2
 rw[eqD_f,decide_eq_true rfl]at h2
 cases h2
theorem ok_ring{f C:Addr}{fd:FuncData}{EC:Rk->Addr}(Fn:FunD K "ring" "ring" a3c f fd)(h_joins:HasM P w K mg base (CXE P w) 1 C "joins" ["self"] (a0k K (a44 C)))
   (h_wheel_meant:Has P w K mg base (CXE P w) 2 "wheel_meant" ["train","name"] (a0k K (b01 C EC))) (h_tree_from:Has P w K mg base (CXE P w) 2 "tree_from" ["joins","start"] (a0k K b2i))
   (h_shares_along:Has P w K mg base (CXE P w) 43 "shares_along" ["train","tree"] (a0k K (a4f C))) (h_jamming_join:Has P w K mg base (CXE P w) 43 "jamming_join" ["train","shares"] (a0k K (b5i C)))
   (h_ring_closed_by:Has P w K mg base (CXE P w) 4 "ring_closed_by" ["join","joins","tree"] (a0k K b2n)):FnOk P w K mg base (CXE P w) 44 f fd ["train","name"] (a0k K (a5t C EC)):=by
 refine Fn.okA sc_ring (fun ds M Q E h=> ?_) ?_
 . obtain⟨_,_,_,_,_,rfl,_⟩:=h;rfl
 intro cdv A outer s H E F0 ds M Q Ea hr ct hsp
 obtain⟨p,d1,d2,S,o,rfl,tr,fit,nd,une,q⟩:=hsp
 refine⟨_,(a0b (sSet (i:=2) sc_ring.nd rfl (Or.inl rfl) (a04 h_tree_from (hr.mono (by decide)) (by rfl) ct (a0a (paFz (a3m h_joins (hr.mono (by decide)) ct (paV (pv 0)))) (a0a (a04 h_wheel_meant (hr.mono (by decide)) (by rfl) ct (a0a (paV (pv 0)) (a0a (paV (pv 1)) a0f))) a0f))))
     (a0b (sSet (i:=3) sc_ring.nd rfl (Or.inl rfl) (a04 h_jamming_join (hr.mono (by decide)) (by rfl) ct (a0a (paV (pv 0)) (a0a (a04 h_shares_along (hr.mono (by decide)) (by rfl) ct (a0a (paV (pv 0)) (a0a (paV (pv 2)) a0f))) a0f))))
     (a0b (sIf (a0v a9z lIs (paV (pv 3)) paN (a0m _))
       (a0h (sRet paN))
       a0w)
     (a0h (sRet (a04 h_ring_closed_by (hr.mono (by decide)) (by rfl) ct (a0a (paV (pv 3)) (a0a (paFz (a3m h_joins (hr.mono (by decide)) ct (paV (pv 0)))) (a0a (paV (pv 2)) a0f))))))))),?_⟩
 have hjl:S.js.length<=300:=by have:=fit.j;omega
 have hjl2:=fit.j
 refine cut1 (fun Γ' M2=> ∃(n:Str) (t:TT) (r0:Addr),a30 S o=some n/\IsTree S.js n t/\Grown S.js n t/\Closed S.js t/\M r0=none/\Γ'=[some (.obj p),some (encN o),some (.obj r0),none]/\M2=put M r0 (.dic (encT t))) ?_ ?_
 . rintro Γ' M2 ⟨n,t,r0,hm,ist,gr,cl,h0,rfl,rfl⟩
   have hn:=b25 hm
   have hsh:=gr.short fit hn
   have hsm:=a2j fit.teeth gr
   rw[hm]at q
   have q:=q t ist gr cl hsh
   have hnm:=a0n S.ws t
   refine cut1 (fun Γ' M2=> ∃(r:Addr),M r=none/\r≠r0/\Γ'=[some (.obj p),some (encN o),some (.obj r0),some (b0f S (a0e S.ws t))]/\M2=put (put M r0 (.dic (encT t))) r (.dic (a2o (a0e S.ws t)))) ?_ ?_
   . rintro Γ' M2 ⟨r,hr0,nr0,rfl,rfl⟩
     have hr9:put M r0 (.dic (encT t)) r=none:=by rw[a0g nr0];exact hr0
     have sb9:L2.Sub M (put (put M r0 (.dic (encT t))) r (.dic (a2o (a0e S.ws t)))):=L2.Sub.trans (.put h0) (.put hr9)
     unfold b0f
     cases hf:S.js.find? (a1r S.ws (a0e S.ws t))with
     |none=>
       rw[hf]at q
       refine a3b (fun R h=>h) (retV .non _ (fun R h=>h) (.sub sb9 q))
     |some j=>
       rw[hf]at q
       have hj:=List.mem_of_find?_eq_some hf
       obtain⟨j1,jam⟩:=b3i (List.find?_some hf)
       rw[hnm]at j1
       have j2:=cl _ j1 (j.1,j.2.1,j.2.2.2) (a83 hj)
       refine a1f (fun R h=>h) ?_
       simp! only[]
       refine a6b (tr.sub sb9) (fun R h=>h) ?_
       refine⟨r0,S.js,j,t,n,rfl,by rw[a0g nr0.symm,a0c],hjl,by omega,gr,j1,j2,fun st wy nds hl r' hr'=> ?_⟩
       have rg:=ring_ok fit.teeth nd gr hj j1 j2 (une j hj) jam wy nds
       have nq:r'≠r/\M r'=none:=by
         by_cases hz:r'=r
         . rw[hz,a33 nr0,a0c]at hr';cases hr'
         . refine⟨hz,?_⟩
           by_cases hz0:r'=r0
           . rw[hz0];exact h0
           . rw[a33 hz0,a0g hz,a0g hz0]at hr';exact hr'
       refine .sub (fun x o h=> ?_) (q j.2.2.1 _ rg (by rw[List.length_append];simp;omega) r' nq.2)
       by_cases hx:x=r'
       . rw[hx]at h |-;rw[a0c]at h |-;exact h
       . rw[a0g hx]at h |-
         have x0:x≠r0:=fun z=>by rw[z,h0]at h;cases h
         have x1:x≠r:=fun z=>by rw[z,hr0]at h;cases h
         rw[a33 x0,a0g x1,a0g x0];exact h
   . intro rest hrest
     simp! only[a4f,b5i]
     refine⟨p,d1,d2,r0,S,t,n,rfl,tr.sub (.put h0),fit,a0c,gr,hn,by omega,fun r h=> ?_⟩
     obtain⟨n1,h2⟩:=none_of h
     refine⟨p,d1,d2,r,S,a0e S.ws t,rfl,tr.sub (L2.Sub.trans (.put h0) (.put h)),fit,a0c,fun e he=>(hsm e he).1,fun j hj=> ?_,hrest _ _ ⟨r,h2,n1,rfl,rfl⟩⟩
     rw[hnm]
     intro h1
     exact cl _ h1 (j.1,j.2.1,j.2.2.2) (a83 hj)
 . intro rest hrest
   simp! only[]
   refine a6b tr (fun R h=>h) ?_
   refine⟨p,d1,d2,S,o,rfl,tr,fit.w,?_⟩
   cases hm:a30 S o with
   |none=>rw[hm]at q;exact q
   |some n=>
     exact⟨S.js,n,rfl,hjl,fun t ist gr cl _ r0 h0=>hrest _ _ ⟨n,t,r0,hm,ist,gr,cl,h0,rfl,rfl⟩⟩
open PySem.Builtin.Str PySem.StrLaws in
theorem b1g(s sub:Str)(hi limit:Nat)(hno: ∀i j,At s sub hi i->At s sub hi j->i<j->i+sub.length<=j): ∀(l:List Nat) (found:Array Nat) (free:Nat),l.Pairwise (· < ·)->(∀i∈l,At s sub hi i->free<=i)->found.size+l.length<=limit->
   (forIn l (found,free) (occBody s sub hi limit)).run.fst.toList=found.toList++l.filter (fun i=>decide (i+sub.length<=hi/\subAt s sub i=true))
 | [],found,free,_,_,_=>by rw[List.filter_nil,List.append_nil];rfl
 |a::l,found,free,pw,hf,hl=>by
   rw[List.forIn_cons]
   unfold occBody
   rw[List.pairwise_cons]at pw
   rw[List.length_cons]at hl
   by_cases hc:a+sub.length<=hi/\subAt s sub a=true
   . have c1:(((found,free).fst.size<limit/\(found,free).snd<=a)/\a+sub.length<=hi)/\subAt s sub a=true:=⟨⟨⟨by show found.size<limit;omega,hf a List.mem_cons_self hc⟩,hc.1⟩,hc.2⟩
     rw[if_pos c1]
     have:=b1g s sub hi limit hno l (found.push a) (a+sub.length) pw.2 (fun i hi' h=>hno a i hc h (pw.1 i hi')) (by rw[Array.size_push];omega)
     rw[List.filter_cons,if_pos (show decide (a+sub.length<=hi/\subAt s sub a=true)=true from decide_eq_true hc)]
     refine Eq.trans this ?_
     rw[Array.toList_push,List.append_assoc];rfl
   . rw[if_neg (fun z=>hc ⟨z.1.2,z.2⟩)]
     rw[List.filter_cons,if_neg (show ¬ decide (a+sub.length<=hi/\subAt s sub a=true)=true from fun z=>hc (of_decide_eq_true z))]
     exact b1g s sub hi limit hno l found free pw.2 (fun i hi'=>hf i (List.mem_cons_of_mem _ hi')) (by omega)
noncomputable def jn(y:List Nat):List (List Nat)->List Nat
 | []=>[]
 | [p]=>p
 |p::q::r=>p++y++jn y (q::r)
noncomputable def a5z(w:Nat):Nat->List (List Nat)->List Nat
 |_,[]=>[]
 |_,[_]=>[]
 |a,p::q::r=>(a+p.length)::a5z w (a+p.length+w) (q::r)
theorem a40(s sub:Str)(i:Nat):PySem.Builtin.Str.subAt s sub i=decide ((s.cps.toList.drop i).take sub.length=sub.cps.toList):=by
 unfold PySem.Builtin.Str.subAt
 rw[PySem.StrLaws.beq_toList,Array.toList_extract,List.extract_eq_drop_take,show i+sub.length- i=sub.length by omega]
 by_cases h:(s.cps.toList.drop i).take sub.length=sub.cps.toList
 . rw[h];simp
 . rw[decide_eq_false h];simpa using h
theorem b30{s sub:Str}{c:Nat}{r:List Nat}(hy:sub.cps.toList=c::r){i:Nat}(h:PySem.Builtin.Str.subAt s sub i=true):s.cps.toList[i]? =some c:=by
 rw[a40]at h
 have h:=of_decide_eq_true h
 rw[hy]at h
 have e:((s.cps.toList.drop i).take sub.length)[0]? =some c:=by rw[h];rfl
 have hl:0<sub.length:=by
   have:sub.length=sub.cps.toList.length:=by simp[Str.length]
   rw[this,hy];simp
 rw[List.getElem?_take_of_lt hl,List.getElem?_drop]at e
 exact e
theorem filt{P:Nat->Prop}[DecidablePred P]{c:Nat}{y L:List Nat}{r:List Nat}(hy:y=c::r)(hr:c∉r)(hP: ∀i,P i->i+y.length<=L.length/\L[i]? =some c)(hQ: ∀pre post,L=pre++y++post->P pre.length): ∀(ps:List (List Nat)) (pre:List Nat),(∀p∈ps,c∉p)->ps≠[]->L=pre++jn y ps->
   (List.range' pre.length ((jn y ps).length+1)).filter (fun i=>decide (P i))=a5z y.length pre.length ps
 | [],_,_,h,_=>absurd rfl h
 | [p],pre,hp,_,e=>by
   have hc:=hp p List.mem_cons_self
   show _=[]
   refine List.filter_eq_nil_iff.mpr fun i hi=> ?_
   rw[List.mem_range'_1]at hi
   intro z
   obtain⟨z1,z2⟩:=hP i (of_decide_eq_true z)
   have e:L=pre++p:=e
   have hy1:1<=y.length:=by rw[hy];simp
   rw[e,List.length_append]at z1
   rw[e,List.getElem?_append_right hi.1]at z2
   exact hc (List.mem_of_getElem? z2)
 |p::q::ps,pre,hp,_,e=>by
   have hc:=hp p List.mem_cons_self
   have e:L=pre++(p++y++jn y (q::ps)):=e
   have hjl:(jn y (p::q::ps)).length=p.length+y.length+(jn y (q::ps)).length:=by
     show(p++y++jn y (q::ps)).length=_
     rw[List.length_append,List.length_append]
   have hy1:y.length=r.length+1:=by rw[hy];simp
   have e2:L=(pre++p++y)++jn y (q::ps):=by rw[e];simp[List.append_assoc]
   have ih:=filt hy hr hP hQ (q::ps) (pre++p++y) (fun p' h'=>hp p' (List.mem_cons_of_mem _ h')) (by simp) e2
   have l2:(pre++p++y).length=pre.length+p.length+y.length:=by rw[List.length_append,List.length_append]
   rw[l2]at ih
   show _=(pre.length+p.length)::a5z y.length (pre.length+p.length+y.length) (q::ps)
   rw[<-ih,hjl,show p.length+y.length+(jn y (q::ps)).length+1=p.length+(1+(r.length+((jn y (q::ps)).length+1)))by omega]
   rw[<-List.range'_append_1,<-List.range'_append_1,<-List.range'_append_1,List.filter_append,List.filter_append,List.filter_append]
   have none1:(List.range' pre.length p.length).filter (fun i=>decide (P i))=[]:=List.filter_eq_nil_iff.mpr fun i hi z=>by
     rw[List.mem_range'_1]at hi
     have z2:=(hP i (of_decide_eq_true z)).2
     rw[e,List.getElem?_append_right hi.1,List.append_assoc,List.getElem?_append_left (by omega)]at z2
     exact hc (List.mem_of_getElem? z2)
   have one:(List.range' (pre.length+p.length) 1).filter (fun i=>decide (P i))=[pre.length+p.length]:=by
     have:=hQ (pre++p) (jn y (q::ps)) e2
     rw[List.length_append]at this
     show([pre.length+p.length]:List Nat).filter _=_
     rw[List.filter_cons,if_pos (show decide (P (pre.length+p.length))=true from decide_eq_true this)];rfl
   have none2:(List.range' (pre.length+p.length+1) r.length).filter (fun i=>decide (P i))=[]:=List.filter_eq_nil_iff.mpr fun i hi z=>by
     rw[List.mem_range'_1]at hi
     have z2:=(hP i (of_decide_eq_true z)).2
     rw[e2,List.append_assoc,List.getElem?_append_right (by rw[List.length_append];omega),List.length_append,List.getElem?_append_left (by omega),hy]at z2
     obtain⟨k,hk⟩: ∃k,i- (pre.length+p.length)=k+1:=⟨i- (pre.length+p.length)- 1,by omega⟩
     rw[hk,List.getElem?_cons_succ]at z2
     exact hr (List.mem_of_getElem? z2)
   rw[none1,one,none2,List.nil_append,List.nil_append,hy1,show pre.length+p.length+1+r.length=pre.length+p.length+(r.length+1)by omega]
   rfl
theorem a2h(y:Str): ∀ps:List Str,(a4v y ps).cps.toList=jn y.cps.toList (ps.map fun p=>p.cps.toList):=by
 intro ps
 unfold a4v
 rw[PySem.StrLaws.glued_eq_join]
 induction ps with
 |nil=>rfl
 |cons p ps ih=>
   cases ps with
   |nil=>rfl
   |cons q r=>
     show((p.cps++y.cps)++(Str.join y (q::r)).cps).toList=p.cps.toList++y.cps.toList++jn y.cps.toList _
     rw[Array.toList_append,Array.toList_append,ih];rfl
theorem b5a{x p:Str}{pre post:List Nat}(h:x.cps.toList=pre++p.cps.toList++post):PySem.Builtin.Str.strSub x pre.length (pre.length+p.length)=p:=by
 unfold PySem.Builtin.Str.strSub
 obtain⟨pc⟩:=p
 congr 1
 rw[<-Array.toList_inj,Array.toList_extract,List.extract_eq_drop_take,h,List.append_assoc,List.drop_left,show pre.length+Str.length ⟨pc⟩- pre.length=pc.toList.length by simp[Str.length],List.take_left]
theorem a75(x y:Str): ∀(ps:List Str) (pre:List Nat),ps≠[]->x.cps.toList=pre++jn y.cps.toList (ps.map fun p=>p.cps.toList)->PySem.StrLaws.partsFrom x y.length pre.length (a5z y.length pre.length (ps.map fun p=>p.cps.toList))=ps
 | [],_,h,_=>absurd rfl h
 | [p],pre,_,e=>by
   show[PySem.Builtin.Str.strSub x pre.length x.length]=[p]
   have e:x.cps.toList=pre++p.cps.toList:=e
   have hl:x.length=pre.length+p.length:=by
     have:=congrArg List.length e
     rw[List.length_append,Array.length_toList,Array.length_toList]at this
     exact this
   rw[hl,b5a (post:=[]) (by rw[List.append_nil];exact e)]
 |p::q::ps,pre,_,e=>by
   have e:x.cps.toList=pre++(p.cps.toList++y.cps.toList++jn y.cps.toList ((q::ps).map fun p=>p.cps.toList)):=e
   have e2:x.cps.toList=(pre++p.cps.toList++y.cps.toList)++jn y.cps.toList ((q::ps).map fun p=>p.cps.toList):=by rw[e];simp[List.append_assoc]
   have ih:=a75 x y (q::ps) (pre++p.cps.toList++y.cps.toList) (by simp) e2
   have hl:(pre++p.cps.toList++y.cps.toList).length=pre.length+p.length+y.length:=by rw[List.length_append,List.length_append];rfl
   have hp:p.cps.toList.length=p.length:=rfl
   rw[hl]at ih
   show PySem.Builtin.Str.strSub x pre.length (pre.length+p.cps.toList.length)::PySem.StrLaws.partsFrom x y.length (pre.length+p.cps.toList.length+y.length) (a5z y.length (pre.length+p.cps.toList.length+y.length) ((q::ps).map fun p=>p.cps.toList))=_
   rw[hp,ih,b5a (post:=y.cps.toList++jn y.cps.toList ((q::ps).map fun p=>p.cps.toList)) (by rw[e];simp[List.append_assoc])]
theorem a73{y:Str}{c:Nat}{r:List Nat}(hy:y.cps.toList=c::r)(hr:c∉r)(hk:PySem.Builtin.Str.strKind y=1){ps:List Str}(hps:ps≠[])(hp: ∀p∈ps,c∉p.cps.toList):PySem.Txt.split (a4v y ps) y=ps:=by
 have hL:=a2h y ps
 generalize a4v y ps=x at hL |-
 have hyl:y.cps.toList.length=y.length:=rfl
 have hxl:x.cps.toList.length=x.length:=rfl
 have hP: ∀i,(i+y.length<=x.length/\PySem.Builtin.Str.subAt x y i=true)->i+y.cps.toList.length<=x.cps.toList.length/\x.cps.toList[i]? =some c:=fun i h=>⟨by rw[hyl,hxl];exact h.1,b30 hy h.2⟩
 have hQ: ∀pre post,x.cps.toList=pre++y.cps.toList++post->(pre.length+y.length<=x.length/\PySem.Builtin.Str.subAt x y pre.length=true):=fun pre post e=>by
   refine⟨?_,?_⟩
   . rw[<-hxl,e,List.length_append,List.length_append,hyl];omega
   . rw[a40]
     refine decide_eq_true ?_
     rw[e,List.append_assoc,List.drop_left,<-hyl,List.take_left]
 have fl:=filt (P:=fun i=>i+y.length<=x.length/\PySem.Builtin.Str.subAt x y i=true) hy hr hP hQ (ps.map fun p=>p.cps.toList) [] (fun p h=>by
   obtain⟨q,hq,rfl⟩:=List.mem_map.mp h
   exact hp q hq) (by simpa using hps) (by rw[List.nil_append];exact hL)
 have occ:PySem.Builtin.Str.occurrences x y 0 x.length (x.length+1)=a5z y.length 0 (ps.map fun p=>p.cps.toList):=by
   rw[PySem.StrLaws.occ_eq]
   rw[b1g x y x.length (x.length+1) (fun i j hi hj hij=> ?_) _ _ _ List.pairwise_lt_range' (fun i _ _=>Nat.zero_le _) (by simp)]
   . show[]++_=_
     rw[List.nil_append,Nat.sub_zero]
     have e3:(jn y.cps.toList (ps.map fun p=>p.cps.toList)).length=x.length:=by rw[<-hL];rfl
     rw[List.length_nil,e3,hyl]at fl
     exact fl
   . refine Nat.le_of_not_lt fun z=> ?_
     have s1:=hi.2
     have s2:=b30 hy hj.2
     rw[a40]at s1
     have s1:=of_decide_eq_true s1
     have s3:((x.cps.toList.drop i).take y.length)[j- i]? =some c:=by
       rw[List.getElem?_take_of_lt (by omega),List.getElem?_drop,show i+(j- i)=j by omega];exact s2
     rw[s1,hy]at s3
     obtain⟨k,hk⟩: ∃k,j- i=k+1:=⟨j- i- 1,by omega⟩
     rw[hk,List.getElem?_cons_succ]at s3
     exact hr (List.mem_of_getElem? s3)
 have hkk: ¬ PySem.Builtin.Str.strKind x<PySem.Builtin.Str.strKind y:=by
   rw[hk]
   unfold PySem.Builtin.Str.strKind
   split
   . omega
   . split<;>omega
 have back:PySem.Builtin.Str.partsBetween x (a5z y.length 0 (ps.map fun p=>p.cps.toList)) y.length=ps:=by
   rw[PySem.StrLaws.partsBetween_eq]
   exact a75 x y ps [] hps (by rw[List.nil_append];exact hL)
 have lone:a5z y.length 0 (ps.map fun p=>p.cps.toList)=[]->ps=[x]:=fun h=>by
   rw[h,PySem.StrLaws.partsBetween_eq]at back
   rw[<-back]
   show[_]=[_]
   rw[PySem.StrLaws.sub_whole]
 unfold PySem.Txt.split
 split
 . rename_i h
   refine(lone ?_).symm
   rw[decide_eq_false hkk,Bool.or_false,decide_eq_true_eq]at h
   cases ps with
   |nil=>exact absurd rfl hps
   |cons p ps=>
     cases ps with
     |nil=>rfl
     |cons q ps=>
       exfalso
       have:=congrArg List.length hL
       rw[hxl]at this
       have e:(jn y.cps.toList ((p::q::ps).map fun p=>p.cps.toList)).length=(p.cps.toList++y.cps.toList++jn y.cps.toList ((q::ps).map fun p=>p.cps.toList)).length:=rfl
       rw[e,List.length_append,List.length_append,hyl]at this
       omega
 . split
   . rename_i h
     rw[occ]at h
     exact(lone (List.isEmpty_iff.mp h)).symm
   . rw[occ];exact back
theorem b9i: ∀m:Nat,1<=m-> ∃c cs,Nat.toDigits 10 m=c::cs/\c≠ '0':=by
 intro m
 induction m using Nat.strongRecOn with
 |ind m ih=>
   intro h
   by_cases hm:m<10
   . rw[Nat.toDigits_of_lt_base hm]
     refine⟨_,_,rfl,?_⟩
     have: ∀k:Fin 10,1<=k.val->Nat.digitChar k.val≠ '0':=by decide
     exact this ⟨m,hm⟩ h
   . have t:Nat.toDigits 10 (m/10)++Nat.toDigits 10 (m % 10)=Nat.toDigits 10 (10 * (m/10)+m % 10):=Nat.toDigits_append_toDigits (by decide) (by omega) (by omega)
     rw[Nat.div_add_mod]at t
     obtain⟨c,cs,e,hc⟩:=ih (m/10) (by omega) (by omega)
     rw[<-t,e]
     exact⟨c,_,rfl,hc⟩
noncomputable def figures:List Nat:=("0123456789":Str).cps.toList
structure NumT(x:Str)(n:Int):Prop where
 len1:1<=x.length
 len9:x.length<=9
 head: ∃c,atI x.cps.toList 0=some c/\c≠48
 digs: ∀c∈x.cps.toList,48<=c/\c<=57
 read:PySem.intText? x=some n
theorem a4r{v:Int}(h1:1<=v)(h2:v<1000000000):NumT (intS v) v:=by
 obtain⟨m,rfl⟩:=Int.eq_ofNat_of_zero_le (show 0<=v by omega)
 have es:(intS (m:Int)).cps.toList=(Nat.toDigits 10 m).map Char.toNat:=PySem.W.KIN.signs_num m
 obtain⟨c,cs,e,hc⟩:=b9i m (by omega)
 rw[e]at es
 have hl:(intS (m:Int)).length=(intS (m:Int)).cps.toList.length:=rfl
 have dg: ∀c∈(intS (m:Int)).cps.toList,48<=c/\c<=57:=fun x hx=>by
   have hx:x∈(PySem.Str.ofString (toString ((m:Nat):Int))).cps.toList:=hx
   rw[PySem.W.KIN.signs_num m]at hx
   obtain⟨ch,hch,e⟩:=List.mem_map.mp hx
   have r:=PyProof.Rows.digit_range (Nat.isDigit_of_mem_toDigits (by decide) (by decide) hch)
   rw[<-e]
   exact r
 refine⟨by rw[hl,es];simp,PyProof.Rows.toString_length_le (by omega) (by decide) (by omega),⟨c.toNat,?_,?_⟩,dg,PySem.W.KIN.num_reads (by omega) (by omega)⟩
 . rw[es,List.map_cons];exact a29 (j:=0) rfl
 . intro z
   refine hc ?_
   have:Char.ofNat c.toNat=Char.ofNat 48:=by rw[z]
   rw[Char.ofNat_toNat]at this
   exact this
theorem dig_fig{x:Str}(h: ∀c∈x.cps.toList,48<=c/\c<=57):(x.cps.toList.all fun c=>decide (c∈figures))=true:=by
 refine List.all_eq_true.mpr fun c hc=>decide_eq_true ?_
 have:=h c hc
 have key: ∀k:Fin 10,48+k.val∈figures:=by decide+kernel
 have:=key ⟨c- 48,by omega⟩
 rwa [show 48+(c- 48)=c by omega]at this
def b0y:SpA:=fun ds M Q _=> ∃(x:Str) (n:Int),ds=[.str x]/\NumT x n/\Q (.int n) M
theorem b9m(x:Str):((List.range x.cps.size).map fun i=>decide (x.cps.getD i 0∈figures)).all id=x.cps.toList.all fun c=>decide (c∈figures):=by
 rw[Bool.eq_iff_iff,List.all_eq_true,List.all_eq_true]
 constructor
 . intro h c hc
   obtain⟨i,hi,rfl⟩:=List.getElem_of_mem hc
   have hi':i<x.cps.size:=by simpa using hi
   have:=h _ (List.mem_map.mpr ⟨i,List.mem_range.mpr hi',rfl⟩)
   simpa[Array.getD,hi']using this
 . intro h b hb
   obtain⟨i,hi,rfl⟩:=List.mem_map.mp hb
   have hi':=List.mem_range.mp hi
   have:=h (x.cps.toList[i]'(by simpa using hi')) (List.getElem_mem _)
   simpa[Array.getD,hi']using this
theorem a8w{f CT:Addr}{fd:FuncData}(Fn:Fun K "told_teeth" "told_teeth" a3g f fd)(T:Txt K mg)(X_NoText:ExCls K mg "NoText" CT):FnOk P w K mg base (CXE P w) 1 f fd ["word"] (a0k K b0y):=by
 refine Fn.okA a8l (fun ds M Q E h=> ?_) ?_
 . obtain⟨x,n,rfl,_⟩:=h;rfl
 intro cdv A outer s H E F0 ds M Q Ea hr ct hsp
 obtain⟨x,n,rfl,nt,q⟩:=hsp
 refine⟨_,(a0b (sIf ((pwOr (a0v a7r lLt (a0z a0s lLen (by rfl) T.len PySem.boot_len (a0a (paV (pv 0)) a0f)) paI (a0m _)) (pwOr (a0v b56 lGt (a0z a0s lLen (by rfl) T.len PySem.boot_len (a0a (paV (pv 0)) a0f)) (a6v T) (a0m _)) (a52 (a0v (a1g (un64 ct)) lEq (paIx a0i lIx (paV (pv 0)) paI (fun _ _=>rfl)) paS (a0m _)))))).pt
       (a0h (a2f ct X_NoText (by rfl) (a0a paS a0f)))
       a0w)
     (a0b (sIf (a5f (ptV (paAll (by rfl) T.all rfl (a0a (paFz (a6z (Nc:=["sign"]) (n:=1) (fs:=[]) b0j rfl (iStr' (paV (pv 0))) (fun _ _ _ _ _=>(a0r (i:=0) (show List.Nodup (["sign"]:List Str)by decide+kernel) rfl (Or.inl rfl))) (fun _ _ _ _ _=>a9b) (fun _ _ _ _ _=>(a8u a90 lIn (paV (pv 0)) (b4h T) (by with_unfolding_all rfl))))) a0f))))
       (a0h (a2f ct X_NoText (by rfl) (a0a paS a0f)))
       a0w)
     (a0h (sRet (a4o b7z lIntT (by rfl) T.int boot_int (a0a (paV (pv 0)) a0f)))))),?_⟩
 have l1:=nt.len1
 have l9:=nt.len9
 have hl:x.length<=sizeLine:=a5n (by omega)
 obtain⟨c,hc,hc2⟩:=nt.head
 refine a1f (fun R h=> ?_) ?_
 . simp! only[decide_eq_false (show ¬ (x.length:Int)<1 by omega),decide_eq_false (show ¬ (x.length:Int)>9 by omega),hc]
   have e:decide ((⟨#[c]⟩:Str)="0")=false:=decide_eq_false fun z=>hc2 (by
     have e1:(⟨#[c]⟩:Str)=⟨#[48]⟩:=z.trans (by decide+kernel)
     have:=congrArg (fun s:Str=>s.cps.toList) e1
     simpa using this)
   rw[e]
   exact⟨hl,hl,hl,h⟩
 refine a1f (fun R h=> ?_) ?_
 . simp! only[aFz,a3d,frG,oIn]
   refine⟨fun i=>some (.bl (decide (x.cps.getD i 0∈figures))),by show x.cps.size<=1000;exact Nat.le_trans l9 (by decide),fun M' _ i hi own ho=> ?_,fun p hp=> ?_⟩
   . obtain⟨o,rfl⟩:=own1 ho
     refine⟨⟨[some _],rfl,rfl⟩,?_⟩
     simp! only[]
     exact(congrArg (fun b=>some (D.bl b)) (PySem.StrLaws.found_one ("0123456789":Str) (x.cps.getD i 0)).symm)
   . simp only[a0c,a1w hp,oAll,L2.dr]
     refine⟨_,by rw[a6d,List.map_map];rfl,?_⟩
     rw[b9m,dig_fig nt.digs]
     exact h
 simp! only[oIntT,nt.read]
 exact⟨by omega,.now q⟩
def b2l(C:Addr):SpA:=fun ds M Q _=> ∃(p d1 d2:Addr) (S:TS) (us:List Str),ds=[.obj p,.lst (us.map D.str)]/\Tr C M p d1 d2 S/\
 ((∃n t,us=[n,intS t]/\n.length<=1000/\NumT (intS t) t/\refW S n t=none/\Q .non (put M d1 (.dic (dW (S.ws++[(n,t)])))))\/
  ∃k a b,us=[a,k,b]/\refJ S k a b=none/\Q .non (put (put M d2 (.dic (dJ (S.js++[(S.nx,k,a,b)])))) p (.ins C (fsT d1 d2 (S.nx+1)))))
theorem b08{f C CT:Addr}{fd:FuncData}{EC:Rk->Addr}(Fn:Fun K "put_part" "put_part" a48 f fd)(T:Txt K mg)(X_NoText:ExCls K mg "NoText" CT)(h_put_wheel:HasM P w K mg base (CXE P w) 2 C "put_wheel" ["self","name","teeth"] (a0k K (b2k C EC)))
   (h_put_join:HasM P w K mg base (CXE P w) 2 C "put_join" ["self","kind","one","other"] (a0k K (a74 C EC))) (h_told_teeth:Has P w K mg base (CXE P w) 1 "told_teeth" ["word"] (a0k K b0y)):FnOk P w K mg base (CXE P w) 3 f fd ["train","words"] (a0k K (b2l C)):=by
 refine Fn.okA b03 (fun ds M Q E h=> ?_) ?_
 . obtain⟨_,_,_,_,_,rfl,_⟩:=h;rfl
 intro cdv A outer s H E F0 ds M Q Ea hr ct hsp
 obtain⟨p,d1,d2,S,us,rfl,tr,hc⟩:=hsp
 refine⟨_,(a0h (sIf (a0v (a1g (un64 ct)) lEq (a0z a0s lLen (by rfl) T.len PySem.boot_len (a0a (paV (pv 1)) a0f)) paI (a0m _))
       (a0h (a1y (a9x h_put_wheel (hr.mono (by decide)) ct (paV (pv 0)) (a0a (paIx a0i lIx (paV (pv 1)) paI (fun _ _=>rfl)) (a0a (a04 h_told_teeth (hr.mono (by decide)) (by rfl) ct (a0a (paIx a0i lIx (paV (pv 1)) paI (fun _ _=>rfl)) a0f)) a0f)))))
       (a0h (sIf (a0v (a1g (un64 ct)) lEq (a0z a0s lLen (by rfl) T.len PySem.boot_len (a0a (paV (pv 1)) a0f)) paI (a0m _))
         (a0h (a1y (a9x h_put_join (hr.mono (by decide)) ct (paV (pv 0)) (a0a (paIx a0i lIx (paV (pv 1)) paI (fun _ _=>rfl)) (a0a (paIx a0i lIx (paV (pv 1)) paI (fun _ _=>rfl)) (a0a (paIx a0i lIx (paV (pv 1)) paI (fun _ _=>rfl)) a0f))))))
         (a0h (a2f ct X_NoText (by rfl) (a0a paS a0f))))))),?_⟩
 have np: ∀{d1 d2:Addr}{n:Int},(fsT d1 d2 n).lookup ("put_wheel":Str)=none:=rfl
 have nq: ∀{d1 d2:Addr}{n:Int},(fsT d1 d2 n).lookup ("put_join":Str)=none:=rfl
 rcases hc with⟨n,t,rfl,hn,nt,rf,q⟩ | ⟨k,a,b,rfl,rf,q⟩
 . refine ifV true (fun R h=>by simp! only[];exact h) ?_
   rw[if_pos rfl]
   simp! only[tr.self,np,b0y,b2k]
   refine⟨_,t,rfl,nt,p,d1,d2,S,n,t,rfl,tr,hn,?_⟩
   rw[rf]
   exact .now q
 . refine ifV false (fun R h=>by simp! only[];exact h) ?_
   rw[if_neg Bool.false_ne_true]
   refine ifV true (fun R h=>by simp! only[];exact h) ?_
   rw[if_pos rfl]
   simp! only[tr.self,nq,a74]
   refine⟨p,d1,d2,S,k,a,b,rfl,tr,?_⟩
   rw[rf]
   exact .now q
theorem Tr.n1{C:Addr}{M:Mem}{p d1 d2:Addr}{S:TS}(tr:Tr C M p d1 d2 S):p≠d1:=by rintro rfl;have:=tr.self;rw[tr.teeth]at this;cases this
theorem Tr.n2{C:Addr}{M:Mem}{p d1 d2:Addr}{S:TS}(tr:Tr C M p d1 d2 S):p≠d2:=by rintro rfl;have:=tr.self;rw[tr.join]at this;cases this
theorem Tr.wheel{C:Addr}{M:Mem}{p d1 d2:Addr}{ws:List (Str×Int)}{js:List Jn}{nx:Int}(tr:Tr C M p d1 d2 ⟨ws,js,nx⟩)(w':Str×Int):Tr C (put M d1 (.dic (dW (ws++[w'])))) p d1 d2 ⟨ws++[w'],js,nx⟩:=
 ⟨by rw[a0g tr.n1];exact tr.self,a0c,by rw[a0g tr.ne.symm];exact tr.join,tr.ne,tr.lt⟩
theorem Tr.pin{C:Addr}{M:Mem}{p d1 d2:Addr}{S:TS}(tr:Tr C M p d1 d2 S)(k a b:Str):Tr C (put (put M d2 (.dic (dJ (S.js++[(S.nx,k,a,b)])))) p (.ins C (fsT d1 d2 (S.nx+1)))) p d1 d2 ⟨S.ws,S.js++[(S.nx,k,a,b)],S.nx+1⟩:=
 ⟨a0c,by rw[a0g tr.n1.symm,a0g tr.ne];exact tr.teeth,by rw[a0g tr.n2.symm,a0c],tr.ne,fun j hj=>by
   rcases List.mem_append.mp hj with hj |hj
   . have:=tr.lt j hj
     show j.1<S.nx+1
     omega
   . rw[List.mem_singleton.mp hj]
     show S.nx<S.nx+1
     omega⟩
theorem b1t(S:TS)(n:Str):S.has n=decide (n∈S.ws.map Prod.fst):=by
 unfold TS.has
 rw[Bool.eq_iff_iff,List.any_eq_true,decide_eq_true_eq,List.mem_map]
 constructor
 . rintro⟨x,hx,e⟩;exact⟨x,hx,of_decide_eq_true e⟩
 . rintro⟨x,hx,e⟩;exact⟨x,hx,decide_eq_true e⟩
theorem refW_ok{S:TS}{n:Str}{t:Int}(h1:a1s n=true)(h2:n∉S.ws.map Prod.fst)(h3:1<=t)(h4:t<1000000000)(h5:S.ws.length<100):refW S n t=none:=by
 unfold refW
 rw[b1t,decide_eq_false h2,h1,if_neg (by decide),if_neg (by decide),if_neg (by omega),if_neg (by omega)]
theorem b5q{S:TS}{k a b:Str}(h1:a2u k=true)(h2:a∈S.ws.map Prod.fst)(h3:b∈S.ws.map Prod.fst)(h4:a≠b)(h5:S.js.length<200):refJ S k a b=none:=by
 unfold refJ
 rw[b1t,b1t,decide_eq_true h2,decide_eq_true h3,h1,if_neg (by decide),if_neg (by decide),if_neg h4,if_neg (by omega)]
theorem a1u{ns:List Str}{i:Nat}(h:i<ns.length):at_ ns i∈ns:=by
 unfold at_;rw[List.getD_eq_getElem?_getD,List.getElem?_eq_getElem h];exact List.getElem_mem h
noncomputable def tsOf(ws:List (Str×Int))(js:List (Str×Nat×Nat)):TS:=⟨ws,b1n (ws.map Prod.fst) js,js.length⟩
noncomputable def a5g(w':Str×Int):Str:=a4v " " [w'.1,intS w'.2]
noncomputable def a7o(ns:List Str)(j:Str×Nat×Nat):Str:=a4v " " [at_ ns j.2.1,j.1,at_ ns j.2.2]
noncomputable def a0x(ws:List (Str×Int))(js:List (Str×Nat×Nat)):List Str:=ws.map a5g++js.map (a7o (ws.map Prod.fst))
noncomputable def a3a(ws:List (Str×Int))(js:List (Str×Nat×Nat)):Str:=a4v "; " (a0x ws js)
theorem b4t: ∀c∈letters,97<=c/\c<=122:=by decide+kernel
theorem a3v{x:Str}(h:a1s x=true): ∀c∈x.cps.toList,97<=c/\c<=122:=by
 unfold a1s at h
 rw[Bool.and_eq_true]at h
 exact fun c hc=>b4t c (of_decide_eq_true (List.all_eq_true.mp h.2 c hc))
theorem a27{x:Str}(h:a1s x=true):1<=x.length/\x.length<=8:=by
 unfold a1s at h
 rw[Bool.and_eq_true]at h
 have h1:=h.1
 simp only[Bool.not_eq_true',Bool.or_eq_false_iff,decide_eq_false_iff_not]at h1
 omega
theorem a6g{k:Str}(h:a2u k=true):(∀c∈k.cps.toList,97<=c/\c<=122)/\k.length<=5:=by
 unfold a2u at h
 simp only[Bool.or_eq_true,decide_eq_true_eq]at h
 rcases h with((rfl |rfl) |rfl) |rfl<;>decide+kernel
theorem a2w:(" ":Str).cps.toList=32::[]:=by decide+kernel
theorem a6o:("; ":Str).cps.toList=59::[32]:=by decide+kernel
theorem a6j{ps:List Str}(hps:ps≠[])(hp: ∀p∈ps,32∉p.cps.toList):PySem.Txt.split (a4v " " ps) " "=ps:=a73 a2w (by simp) (by decide+kernel) hps hp
theorem b38{ps:List Str}(hps:ps≠[])(hp: ∀p∈ps,59∉p.cps.toList):PySem.Txt.split (a4v "; " ps) "; "=ps:=a73 a6o (by simp) (by decide+kernel) hps hp
section
variable {s:Nat}{ws:List (Str×Int)}{js:List (Str×Nat×Nat)}
theorem Rw.isN(r:Rw s ws js){x:Str}(h:x∈ws.map Prod.fst):a1s x=true:=by
 obtain⟨k,_,rfl⟩:=r.name h
 exact a5w s k
theorem splitW(r:Rw s ws js){w':Str×Int}(h:w'∈ws):PySem.Txt.split (a5g w') " "=[w'.1,intS w'.2]:=by
 refine a6j (by simp) fun p hp z=> ?_
 simp only[List.mem_cons,List.not_mem_nil,or_false]at hp
 rcases hp with rfl |rfl
 . have:=a3v (r.isN (List.mem_map.mpr ⟨_,h,rfl⟩)) _ z
   omega
 . have:=(a4r (r.teeth _ h).1 (r.teeth _ h).2).digs _ z
   omega
theorem splitJ(r:Rw s ws js){j:Str×Nat×Nat}(h:j∈js):PySem.Txt.split (a7o (ws.map Prod.fst) j) " "=[at_ (ws.map Prod.fst) j.2.1,j.1,at_ (ws.map Prod.fst) j.2.2]:=by
 obtain⟨h1,h2,h3,_⟩:=r.kinds j h
 refine a6j (by simp) fun p hp z=> ?_
 simp only[List.mem_cons,List.not_mem_nil,or_false]at hp
 rcases hp with rfl |rfl |rfl
 . have:=a3v (r.isN (a1u (by rw[List.length_map];exact h2))) _ z
   omega
 . have:=(a6g h1).1 _ z
   omega
 . have:=a3v (r.isN (a1u (by rw[List.length_map];exact h3))) _ z
   omega
theorem b53(r:Rw s ws js): ∀p∈a0x ws js,59∉p.cps.toList:=by
 intro p hp z
 rcases List.mem_append.mp hp with hp |hp
 . obtain⟨w',hw,rfl⟩:=List.mem_map.mp hp
   unfold a5g at z
   rw[a2h,a2w]at z
   simp only[List.map_cons,List.map_nil,jn,List.mem_append,List.mem_singleton]at z
   rcases z with(z |z) |z
   . have:=a3v (r.isN (List.mem_map.mpr ⟨_,hw,rfl⟩)) _ z
     omega
   . omega
   . have:=(a4r (r.teeth _ hw).1 (r.teeth _ hw).2).digs _ z
     omega
 . obtain⟨j,hj,rfl⟩:=List.mem_map.mp hp
   obtain⟨h1,h2,h3,_⟩:=r.kinds j hj
   unfold a7o at z
   rw[a2h,a2w]at z
   simp only[List.map_cons,List.map_nil,jn,List.mem_append,List.mem_singleton]at z
   rcases z with(z |z) | (z |z) |z
   . have:=a3v (r.isN (a1u (by rw[List.length_map];exact h2))) _ z
     omega
   . omega
   . have:=(a6g h1).1 _ z
     omega
   . omega
   . have:=a3v (r.isN (a1u (by rw[List.length_map];exact h3))) _ z
     omega
theorem slen(x:Str):x.length=x.cps.toList.length:=rfl
theorem a6c(r:Rw s ws js): ∀p∈a0x ws js,1<=p.length/\p.length<=30:=by
 intro p hp
 rcases List.mem_append.mp hp with hp |hp
 . obtain⟨w',hw,rfl⟩:=List.mem_map.mp hp
   have a:=a27 (r.isN (List.mem_map.mpr ⟨_,hw,rfl⟩))
   have b:=(a4r (r.teeth _ hw).1 (r.teeth _ hw).2).len9
   unfold a5g
   rw[slen,a2h,a2w]
   simp only[List.map_cons,List.map_nil,jn,List.length_append,List.length_cons,List.length_nil]
   rw[<-slen,<-slen]
   omega
 . obtain⟨j,hj,rfl⟩:=List.mem_map.mp hp
   obtain⟨h1,h2,h3,_⟩:=r.kinds j hj
   have a:=a27 (r.isN (a1u (ns:=ws.map Prod.fst) (i:=j.2.1) (by rw[List.length_map];exact h2)))
   have b:=a27 (r.isN (a1u (ns:=ws.map Prod.fst) (i:=j.2.2) (by rw[List.length_map];exact h3)))
   have c:=(a6g h1).2
   unfold a7o
   rw[slen,a2h,a2w]
   simp only[List.map_cons,List.map_nil,jn,List.length_append,List.length_cons,List.length_nil]
   rw[<-slen,<-slen,<-slen]
   omega
theorem jn_len(y:List Nat)(b:Nat): ∀ps:List (List Nat),(∀p∈ps,p.length<=b)->(jn y ps).length<=ps.length * (b+y.length)
 | [],_=>by simp[jn]
 | [p],h=>by
   have:=h p List.mem_cons_self
   show p.length<=1 * (b+y.length)
   omega
 |p::q::r,h=>by
   have h1:=h p List.mem_cons_self
   have h2:=jn_len y b (q::r) fun x hx=>h x (List.mem_cons_of_mem _ hx)
   show(p++y++jn y (q::r)).length<=((q::r).length+1) * (b+y.length)
   rw[List.length_append,List.length_append,Nat.succ_mul]
   omega
theorem b2d(r:Rw s ws js)(hw:ws.length<=80)(hj:js.length<=80):(a3a ws js).length<=6000:=by
 unfold a3a
 rw[slen,a2h]
 have:=jn_len ("; ":Str).cps.toList 30 ((a0x ws js).map fun p=>p.cps.toList) fun p hp=>by
   obtain⟨q,hq,rfl⟩:=List.mem_map.mp hp
   exact(a6c r q hq).2
 have e:((a0x ws js).map fun p=>p.cps.toList).length=ws.length+js.length:=by
   unfold a0x
   rw[List.length_map,List.length_append,List.length_map,List.length_map]
 rw[e,a6o]at this
 simp only[List.length_cons,List.length_nil]at this
 rw[a6o]
 have:(ws.length+js.length) * (30+(0+1+1))<=160 *32:=Nat.mul_le_mul (by omega) (by decide)
 omega
theorem b3m(k:Nat): ∀(ps:List Str) (a b:Nat),(∀p∈ps,p.length<=b)->ps.foldl (fun n p=>n+p.length+k) a<=a+ps.length * (b+k)
 | [],a,b,_=>by simp
 |p::ps,a,b,h=>by
   rw[List.foldl_cons]
   refine Nat.le_trans (b3m k ps _ b fun q hq=>h q (List.mem_cons_of_mem _ hq)) ?_
   have:=h p List.mem_cons_self
   rw[List.length_cons,Nat.succ_mul]
   omega
theorem b78(r:Rw s ws js)(hw:ws.length<=80)(hj:js.length<=80):b65 "; " (a0x ws js)<=6000:=by
 unfold b65
 have h:=b3m ("; ":Str).length (a0x ws js) 0 30 fun p hp=>(a6c r p hp).2
 have e:(a0x ws js).length=ws.length+js.length:=by
   unfold a0x
   rw[List.length_append,List.length_map,List.length_map]
 have e2:("; ":Str).length=2:=by decide+kernel
 rw[e,e2]at h
 have:(ws.length+js.length) * (30+2)<=160 *32:=Nat.mul_le_mul (by omega) (by decide)
 rw[<-Array.foldl_toList,e2]
 show(a0x ws js).foldl _ 0<=6000
 omega
end
theorem haDead{X:Cx}{F0:Hp}{hs:List ExceptHandler}:PHA X F0 hs (fun _ _ _ _=>False):=⟨fun _ _ _ _ _ _ _ _ _ _ _ h=>h.elim⟩
noncomputable def tsAt(ws:List (Str×Int))(js:List (Str×Nat×Nat))(i:Nat):TS:=if i<ws.length then⟨ws.take i,[],0⟩else tsOf ws (js.take (i- ws.length))
theorem b0u{ws:List (Str×Int)}{js:List (Str×Nat×Nat)}{i:Nat}(h:i<=ws.length):tsAt ws js i=⟨ws.take i,[],0⟩:=by
 unfold tsAt
 by_cases h1:i<ws.length
 . rw[if_pos h1]
 . have:i=ws.length:=by omega
   subst this
   rw[if_neg h1,Nat.sub_self,List.take_length];rfl
theorem b0v{ws:List (Str×Int)}{js:List (Str×Nat×Nat)}{i:Nat}(h:ws.length<=i):tsAt ws js i=tsOf ws (js.take (i- ws.length)):=by
 unfold tsAt
 rw[if_neg (by omega)]
theorem b8u{ws:List (Str×Int)}{js:List (Str×Nat×Nat)}{i:Nat}(h:i<ws.length)(h':i< (a0x ws js).length):(a0x ws js)[i]=a5g ws[i]:=by
 have e:(a0x ws js)[i]? =some (a5g ws[i]):=by
   unfold a0x
   rw[List.getElem?_append_left (by rw[List.length_map];exact h),List.getElem?_map,List.getElem?_eq_getElem h];rfl
 rw[List.getElem?_eq_getElem h']at e
 exact Option.some.inj e
theorem b8v{ws:List (Str×Int)}{js:List (Str×Nat×Nat)}{k:Nat}(h:k<js.length)(h':ws.length+k< (a0x ws js).length):(a0x ws js)[ws.length+k]=a7o (ws.map Prod.fst) js[k]:=by
 have e:(a0x ws js)[ws.length+k]? =some (a7o (ws.map Prod.fst) js[k]):=by
   unfold a0x
   rw[List.getElem?_append_right (by rw[List.length_map];omega),List.length_map,Nat.add_sub_cancel_left,List.getElem?_map,List.getElem?_eq_getElem h];rfl
 rw[List.getElem?_eq_getElem h']at e
 exact Option.some.inj e
def b5f(C:Addr):SpA:=fun ds M Q _=> ∃(s:Nat) (ws:List (Str×Int)) (js:List (Str×Nat×Nat)),ds=[.str (a3a ws js)]/\Rw s ws js/\ws.length<=80/\js.length<=80/\ ∀p d1 d2 M',L2.Sub M M'->Tr C M' p d1 d2 (tsOf ws js)->Q (.obj p) M'
theorem ok_read{f C:Addr}{fd:FuncData}(Fn:Fun K "read" "read" b5o f fd)(h_Train:HasC P w K mg base 1 "Train" C (b2m C))(h_put_part:Has P w K mg base (CXE P w) 3 "put_part" ["train","words"] (a0k K (b2l C))):
   FnOk P w K mg base (CXE P w) 4 f fd ["text"] (a0k K (b5f C)):=by
 refine Fn.okA sc_read (fun ds M Q E h=> ?_) ?_
 . obtain⟨_,_,_,rfl,_⟩:=h;rfl
 intro cdv A outer s H E F0 ds M Q Ea hr ct hsp
 obtain⟨sp,ws,js,rfl,rw',hw,hj,q⟩:=hsp
 refine⟨_,(a0b (sSet (i:=1) sc_read.nd rfl (Or.inl rfl) (paMake h_Train (hr.mono (by decide)) (by rfl)))
     (a0b (sIf (a0v (a1g (un64 ct)) lEq (paV (pv 0)) paS (a0m _))
       (a0h (sRet (paV (pv 1))))
       a0w)
     (a0b (sTry ct (fun _ _ _ ct=>(a0h (sFor ct (a1z (paBM PySem.F.plainAttrs_str PySem.F.slot_str_split PySem.F.type_str_split b23 lSplit (paV (pv 0)) (a0a paS a0f))) (a0r (i:=2) sc_read.nd rfl (Or.inl rfl))
           (a0h (a1y (a04 h_put_part (hr.mono (by decide)) (by rfl) ct (a0a (paV (pv 1)) (a0a (paBM PySem.F.plainAttrs_str PySem.F.slot_str_split PySem.F.type_str_split b23 lSplit (paV (pv 2)) (a0a paS a0f)) a0f))))))))
       (fun pn=>haDead) a0w)
     (a0h (sRet (paV (pv 1))))))),?_⟩
 have nd:=rw'.nodup (by omega)
 refine cut1 (fun Γ' M0=> ∃p d1 d2,Γ'=[some (.str (a3a ws js)),some (.obj p),none,none]/\Tr C M0 p d1 d2 ⟨[],[],0⟩/\L2.Sub M M0/\ ∀x o,M x=some o->x≠p/\x≠d1/\x≠d2) ?_ ?_
 rotate_left
 . intro rest hrest
   simp! only[aMake,b2m]
   intro p hp
   refine⟨p,rfl,a0c,fun d1 d2 h1 h2 n12 n1 n2=> ?_⟩
   rw[a0g n1]at h1
   rw[a0g n2]at h2
   have far: ∀x o,M x=some o->x≠p/\x≠d1/\x≠d2:=by
     intro x o h
     refine⟨fun z=> ?_,fun z=> ?_,fun z=> ?_⟩
     . rw[z,hp]at h;cases h
     . rw[z,h1]at h;cases h
     . rw[z,h2]at h;cases h
   refine hrest _ _ ⟨p,d1,d2,rfl,⟨a0c,by rw[a0g n1,a0g n12,a0c];rfl,by rw[a0g n2,a0c];rfl,n12,fun _ h=>(List.not_mem_nil h).elim⟩,?_,far⟩
   intro x o h
   obtain⟨a,b,c⟩:=far x o h
   rw[a0g a,a0g c,a0g b,a0g a];exact h
 rintro Γ' M0 ⟨p,d1,d2,rfl,tr0,sb0,far⟩
 have sbW: ∀{M1:Mem}{o:MO},L2.Sub M M1->L2.Sub M (put M1 d1 o):=fun sb x o h=>by rw[a0g (far x o h).2.1];exact sb x o h
 have sbJ: ∀{M1:Mem}{o o':MO},L2.Sub M M1->L2.Sub M (put (put M1 d2 o) p o'):=fun sb x o h=>by rw[a0g (far x o h).1,a0g (far x o h).2.2];exact sb x o h
 by_cases h0:a0x ws js=[]
 . have hw0:ws=[]:=by
     unfold a0x at h0
     exact List.map_eq_nil_iff.mp (List.append_eq_nil_iff.mp h0).1
   have hj0:js=[]:=by
     unfold a0x at h0
     exact List.map_eq_nil_iff.mp (List.append_eq_nil_iff.mp h0).2
   subst hw0 hj0
   refine a3b (fun R h=> ?_) ?_
   . have e:decide (a3a [] []=("":Str))=true:=by decide+kernel
     simp! only[e]
     exact h
   simp! only[]
   exact .now (q p d1 d2 M0 sb0 tr0)
 have hne: ¬ a3a ws js=("":Str):=fun z=>by
   have e1:(a3a ws js).cps.toList=[]:=by rw[z];decide+kernel
   unfold a3a at e1
   rw[a2h]at e1
   cases hp:a0x ws js with
   |nil=>exact h0 hp
   |cons a l=>
     have ha:=(a6c rw' a (by rw[hp];exact List.mem_cons_self)).1
     rw[slen]at ha
     rw[hp,List.map_cons]at e1
     cases hl:l.map (fun p=>p.cps.toList)with
     |nil=>
       rw[hl]at e1
       have e1:a.cps.toList=[]:=e1
       rw[e1]at ha
       exact absurd ha (by decide)
     |cons b l'=>
       rw[hl]at e1
       have e1:a.cps.toList++("; ":Str).cps.toList++jn ("; ":Str).cps.toList (b::l')=[]:=e1
       have:=congrArg List.length e1
       rw[List.length_append,List.length_append,List.length_nil]at this
       omega
 refine a1f (fun R h=>by
   simp! only[decide_eq_false hne]
   exact h) ?_
 have ht:=b2d rw' hw hj
 refine cut1 (fun Γ' M1=> ∃o2,Γ'=[some (.str (a3a ws js)),some (.obj p),o2,none]/\L2.Sub M M1/\Tr C M1 p d1 d2 (tsOf ws js)) ?_ ?_
 rotate_left
 . intro rest hrest
   simp! only[aTry,aBM,a2c,oSplit]
   have es:PySem.Txt.split (a3a ws js) "; "=a0x ws js:=b38 h0 (b53 rw')
   have el:(a0x ws js).length=ws.length+js.length:=by
     unfold a0x
     rw[List.length_append,List.length_map,List.length_map]
   rw[es]
   refine⟨by decide+kernel,by omega,?_⟩
   refine LoopP.by2 (fun i Γ M'=> ∃o2,Γ=[some (.str (a3a ws js)),some (.obj p),o2,none]/\L2.Sub M M'/\Tr C M' p d1 d2 (tsAt ws js i)) ⟨_,rfl,sb0,by rw[b0u (Nat.zero_le _)];exact tr0⟩ (fun _ _ _ _=>trivial) ?_ ?_
   . rintro E' i Γ M' hrt hi hnx ⟨o2,rfl,sb,tr⟩
     dsimp only at hi
     have hi':i< (a0x ws js).length:=by simpa using hi
     have hpl:=(a6c rw' _ (List.getElem_mem hi')).2
     simp only[a1t (a0x ws js) D.str i hi',gaN,List.set_cons_zero,List.set_cons_succ]
     by_cases hlo:i<ws.length
     . have ep:=b8u hlo hi'
       rw[b0u (Nat.le_of_lt hlo)]at tr
       rw[ep]at hpl |-
       have hm:=List.getElem_mem hlo
       refine a7x .non (put M' d1 (.dic (dW (ws.take i++[(ws[i])])))) (fun R' h=> ?_) (hnx _ _ ⟨_,rfl,sbW sb,?_⟩)
       . simp! only[aBM,a2c,oSplit,splitW rw' hm,b2l]
         have ht:=rw'.teeth _ hm
         have hn:(ws[i]).1∉(ws.take i).map Prod.fst:=by
           intro z
           obtain⟨x,hx,ex⟩:=List.mem_map.mp z
           obtain⟨j,hj',ej⟩:=List.getElem_of_mem hx
           rw[List.length_take]at hj'
           rw[List.getElem_take]at ej
           have P1:=List.pairwise_iff_getElem.mp nd j i (by simp;omega) (by simpa using hlo) (by omega)
           rw[List.getElem_map,List.getElem_map]at P1
           exact P1 (by rw[ej,ex])
         have hN:=rw'.isN (List.mem_map.mpr ⟨_,hm,rfl⟩)
         refine⟨by decide+kernel,by omega,p,d1,d2,⟨ws.take i,[],0⟩,[(ws[i]).1,intS (ws[i]).2],rfl,tr,.inl ⟨(ws[i]).1,(ws[i]).2,rfl,by have:=(a27 hN).2;omega,a4r ht.1 ht.2,refW_ok hN hn ht.1 ht.2 (by show(ws.take i).length<100;rw[List.length_take];omega),h⟩⟩
       . rw[b0u hlo,List.take_succ_eq_append_getElem hlo]
         exact tr.wheel _
     . have hhi:ws.length<=i:=Nat.le_of_not_lt hlo
       obtain⟨k,rfl⟩: ∃k,i=ws.length+k:=⟨i- ws.length,by omega⟩
       have hk:k<js.length:=by omega
       have ep:=b8v hk hi'
       rw[b0v hhi,Nat.add_sub_cancel_left]at tr
       rw[ep]at hpl |-
       have hm:=List.getElem_mem hk
       obtain⟨k1,k2,k3,k4⟩:=rw'.kinds _ hm
       have hl:(ws.map Prod.fst).length=ws.length:=List.length_map ..
       have m1:at_ (ws.map Prod.fst) (js[k]).2.1∈(tsOf ws (js.take k)).ws.map Prod.fst:=by show _∈ws.map Prod.fst;exact a1u (by rw[hl];exact k2)
       have m2:at_ (ws.map Prod.fst) (js[k]).2.2∈(tsOf ws (js.take k)).ws.map Prod.fst:=by show _∈ws.map Prod.fst;exact a1u (by rw[hl];exact k3)
       have rf:=b5q (S:=tsOf ws (js.take k)) k1 m1 m2 (fun z=>k4 (a34 nd (by rw[hl];exact k2) (by rw[hl];exact k3) z)) (by show(b1n _ (js.take k)).length<200;unfold b1n;rw[List.length_mapIdx,List.length_take];omega)
       refine a7x .non (put (put M' d2 (.dic (dJ ((tsOf ws (js.take k)).js++[((tsOf ws (js.take k)).nx,(js[k]).1,at_ (ws.map Prod.fst) (js[k]).2.1,at_ (ws.map Prod.fst) (js[k]).2.2)])))) p (.ins C (fsT d1 d2 ((tsOf ws (js.take k)).nx+1)))) (fun R' h=> ?_) (hnx _ _ ⟨_,rfl,sbJ sb,?_⟩)
       . simp! only[aBM,a2c,oSplit,splitJ rw' hm,b2l]
         exact⟨by decide+kernel,by omega,p,d1,d2,tsOf ws (js.take k),[at_ (ws.map Prod.fst) (js[k]).2.1,(js[k]).1,at_ (ws.map Prod.fst) (js[k]).2.2],rfl,tr,.inr ⟨_,_,_,rfl,rf,h⟩⟩
       . rw[b0v (by omega),show ws.length+k+1- ws.length=k+1 by omega]
         have e1:tsOf ws (js.take (k+1))=⟨(tsOf ws (js.take k)).ws,(tsOf ws (js.take k)).js++[((tsOf ws (js.take k)).nx,(js[k]).1,at_ (ws.map Prod.fst) (js[k]).2.1,at_ (ws.map Prod.fst) (js[k]).2.2)],(tsOf ws (js.take k)).nx+1⟩:=by
           unfold tsOf
           rw[List.take_succ_eq_append_getElem hk,b64]
           simp[jsRow]
           omega
         rw[e1]
         exact tr.pin _ _ _
   . rintro Γ M' ⟨o2,rfl,sb,tr⟩
     dsimp only at tr
     rw[List.length_map,el,b0v (by omega),Nat.add_sub_cancel_left,List.take_length]at tr
     exact hrest _ _ ⟨_,rfl,sb,tr⟩
 rintro Γ' M1 ⟨o2,rfl,sb,tr⟩
 simp! only[]
 exact .now (q p d1 d2 M1 sb tr)
theorem a2x(a b:Str):(a++b).length=a.length+b.length:=PySem.Str.length_append a b
theorem a9e(l m:List Nat):(⟨l.toArray⟩:Str)++⟨m.toArray⟩=⟨(l++m).toArray⟩:=by
 show Str.mk (l.toArray++m.toArray)=_
 simp
theorem a26(c:Nat):(⟨#[c]⟩:Str).length=1:=rfl
theorem a4t(k:Nat)(h:k<26):atI ("abcdefghijklmnopqrstuvwxyz":Str).cps.toList (k:Int)=some (97+k):=by
 have e: ∀k,k<26->("abcdefghijklmnopqrstuvwxyz":Str).cps.toList[k]? =some (97+k):=by decide+kernel
 exact a29 (e k h)
theorem sl_a(j:Nat)(h:j<7):Txt.slice "aaaaaa" none (some (j:Int))=⟨(List.replicate j 97).toArray⟩:=by
 have: ∀j:Nat,j<7->Txt.slice "aaaaaa" none (some (j:Int))=⟨(List.replicate j 97).toArray⟩:=by decide+kernel
 exact this j h
theorem sl_q(j:Nat)(h:j<7):Txt.slice "qqqqqq" none (some (j:Int))=⟨(List.replicate j 113).toArray⟩:=by
 have: ∀j:Nat,j<7->Txt.slice "qqqqqq" none (some (j:Int))=⟨(List.replicate j 113).toArray⟩:=by decide+kernel
 exact this j h
def b5h:SpA:=fun ds M Q _=> ∃k s:Nat,ds=[.int k,.int s]/\Q (.str (a2i s k)) M
theorem b1e{f:Addr}{fd:FuncData}(Fn:Fun K "_law_name" "_law_name" a5d f fd):FnOk P w K mg base (CXE P w) 1 f fd ["_law_k","_law_spin"] (a0k K b5h):=by
 refine Fn.okA sc_law_name (fun ds M Q E h=> ?_) ?_
 . obtain⟨a,b,rfl,_⟩:=h;rfl
 intro cdv A outer s H E F0 ds M Q Ea hr ct hsp
 obtain⟨k,sp,rfl,q⟩:=hsp
 refine⟨_,(a0b (sSet (i:=2) sc_law_name.nd rfl (Or.inl rfl) paS)
     (a0b (sSet (i:=3) sc_law_name.nd rfl (Or.inl rfl) (paIx a0i lIx (paV (pv 2)) (paOp a1k lMod (paOp a01 lAdd (paOp a60 lDiv (paV (pv 0)) paI) (paV (pv 1))) paI) (fun _ _=>rfl)))
     (a0b (sSet (i:=4) sc_law_name.nd rfl (Or.inl rfl) (paIx a0i lIx (paV (pv 2)) (paOp a1k lMod (paOp a01 lAdd (paV (pv 0)) (paV (pv 1))) paI) (fun _ _=>rfl)))
     (a0b (sIf ((b8h (a0v (a1g (un64 ct)) lEq (paOp a1k lMod (paV (pv 1)) paI) paI (a0m _)) (b2u (a0v a7r lLt (paV (pv 0)) paI (a0m _))))).pt
       (a0h (sRet (paV (pv 4))))
       a0w)
     (a0b (sIf (a0v (a1g (un64 ct)) lEq (paOp a1k lMod (paV (pv 1)) paI) paI (a0m _))
       (a0h (sRet (paOp a01 lAdd (paV (pv 3)) (paV (pv 4)))))
       a0w)
     (a0b (sIf (a0v (a1g (un64 ct)) lEq (paOp a1k lMod (paV (pv 1)) paI) paI (a0m _))
       (a0h (sRet (paOp a01 lAdd (paOp a01 lAdd (paSl a9q lSl paS poN (poS (paOp a1k lMod (paV (pv 1)) paI))) (paV (pv 3))) (paV (pv 4)))))
       a0w)
     (a0h (sRet (paOp a01 lAdd (paOp a01 lAdd (paV (pv 3)) (paV (pv 4))) (paSl a9q lSl paS poN (poS (paOp a1k lMod (paOp a01 lAdd (paV (pv 1)) (paV (pv 0))) paI)))))))))))),?_⟩
 have e1:((k:Int)/26+(sp:Int)) % 26=(((k/26+sp) % 26:Nat):Int):=by omega
 have e2:((k:Int)+(sp:Int)) % 26=(((k+sp) % 26:Nat):Int):=by omega
 have e3:(sp:Int) % 7=((sp % 7:Nat):Int):=by omega
 have e4:((sp:Int)+(k:Int)) % 7=(((sp+k) % 7:Nat):Int):=by omega
 have hl: ∀n,n<=100->n<=sizeLine:=fun n h=>a5n (by omega)
 have h26:("abcdefghijklmnopqrstuvwxyz":Str).length<=sizeLine:=by decide+kernel
 have ha:("aaaaaa":Str).length<=sizeLine:=by decide+kernel
 have hq:("qqqqqq":Str).length<=sizeLine:=by decide+kernel
 by_cases h0:sp % 3=0
 . have d0:decide ((sp:Int) % 3=0)=true:=decide_eq_true (by omega)
   by_cases hk:k<26
   . have dk:decide ((k:Int)<26)=true:=decide_eq_true (by omega)
     simp! only[e1,e2,a4t _ (Nat.mod_lt _ (show 0<26 by decide)),d0,dk]
     have e:a2i sp k=⟨#[97+(k+sp) % 26]⟩:=by unfold a2i a2e chL;rw[if_pos h0,if_pos hk]
     rw[e]at q
     exact⟨⟨by decide,by decide⟩,by decide,h26,by decide,h26,by decide,.now q⟩
   . have dk:decide ((k:Int)<26)=false:=decide_eq_false (by omega)
     simp! only[e1,e2,a4t _ (Nat.mod_lt _ (show 0<26 by decide)),d0,dk]
     have e:a2i sp k=⟨#[97+(k/26+sp) % 26]⟩++⟨#[97+(k+sp) % 26]⟩:=by unfold a2i a2e chL chF;rw[if_pos h0,if_neg hk];rfl
     rw[e]at q
     exact⟨⟨by decide,by decide⟩,by decide,h26,by decide,h26,by decide,by decide,by rw[a26,a26];exact hl _ (by decide),.now q⟩
 . have d0:decide ((sp:Int) % 3=0)=false:=decide_eq_false (by omega)
   by_cases h1:sp % 3=1
   . have d1:decide ((sp:Int) % 3=1)=true:=decide_eq_true (by omega)
     simp! only[e1,e2,e3,a4t _ (Nat.mod_lt _ (show 0<26 by decide)),sl_a _ (Nat.mod_lt _ (show 0<7 by decide)),d0,d1]
     have e:a2i sp k=⟨(List.replicate (sp % 7) 97).toArray⟩++⟨#[97+(k/26+sp) % 26]⟩++⟨#[97+(k+sp) % 26]⟩:=by
       unfold a2i a2e chL chF;rw[if_neg h0,if_pos h1,a9e,a9e,List.append_assoc];rfl
     rw[e]at q
     have hr1:(⟨(List.replicate (sp % 7) 97).toArray⟩:Str).length=sp % 7:=by simp[Str.length]
     exact⟨⟨by decide,by decide⟩,by decide,h26,by decide,h26,by decide,by decide,by decide,by decide,ha,by rw[a26,hr1];exact hl _ (by omega),by rw[a2x,a26,hr1,a26];exact hl _ (by omega),.now q⟩
   . have d1:decide ((sp:Int) % 3=1)=false:=decide_eq_false (by omega)
     simp! only[e1,e2,e4,a4t _ (Nat.mod_lt _ (show 0<26 by decide)),sl_q _ (Nat.mod_lt _ (show 0<7 by decide)),d0,d1]
     have e:a2i sp k=⟨#[97+(k/26+sp) % 26]⟩++⟨#[97+(k+sp) % 26]⟩++⟨(List.replicate ((sp+k) % 7) 113).toArray⟩:=by
       unfold a2i a2e chL chF;rw[if_neg h0,if_neg h1,a9e,a9e];rfl
     rw[e]at q
     have hr1:(⟨(List.replicate ((sp+k) % 7) 113).toArray⟩:Str).length=(sp+k) % 7:=by simp[Str.length]
     exact⟨⟨by decide,by decide⟩,by decide,h26,by decide,h26,by decide,by decide,by decide,by rw[a26,a26];exact hl _ (by decide),by decide,hq,by rw[a2x,a26,a26,hr1];exact hl _ (by omega),.now q⟩
def b00:SpA:=fun ds M Q _=> ∃a b:Int,ds=[.int a,.int b]/\ ∀t:Int,1<=t->t<1000000000->Q (.int t) M
theorem a94{f:Addr}{fd:FuncData}(Fn:Fun K "_law_teeth" "_law_teeth" a37 f fd):FnOk P w K mg base (CXE P w) 1 f fd ["_law_number","_law_way"] (a0k K b00):=by
 refine Fn.okA a9s (fun ds M Q E h=> ?_) ?_
 . obtain⟨a,b,rfl,_⟩:=h;rfl
 intro cdv A outer s H E F0 ds M Q Ea hr ct hsp
 obtain⟨a,b,rfl,q⟩:=hsp
 refine⟨_,(a0b (sIf (a0v (a1g (un64 ct)) lEq (paV (pv 1)) paI (a0m _))
       (a0h (sRet (paOp a01 lAdd paI (paOp a1k lMod (paOp a2g lMul (paV (pv 0)) paI) paI))))
       a0w)
     (a0b (sIf (a0v (a1g (un64 ct)) lEq (paV (pv 1)) paI (a0m _))
       (a0h (sRet (paOp a01 lAdd paI (paOp a1k lMod (paOp a1k lMod (paOp a2g lMul (paV (pv 0)) paI) paI) paI))))
       a0w)
     (a0b (sIf (a0v (a1g (un64 ct)) lEq (paV (pv 1)) paI (a0m _))
       (a0h (sRet (paOp a01 lAdd paI (paOp a1k lMod (paV (pv 0)) (paOp op_sub lSub (paOp op_pow lPow paI paI) paI)))))
       a0w)
     (a0h (sRet (paOp a01 lAdd paI (paOp a1k lMod (paV (pv 0)) paI))))))),?_⟩
 have e9:(10:Int)^Int.toNat 9- 1=999999999:=by decide
 simp! only[e9]
 exact ite2 (fun _=>⟨CMul.ok (.inr ⟨by decide,by decide⟩),by decide,.now (q _ (by omega) (by omega))⟩) fun _=>ite2 (fun _=>⟨CMul.ok (.inr ⟨by decide,by decide⟩),by decide,by decide,.now (q _ (by omega) (by omega))⟩) fun _=>
   ite2 (fun _=>⟨⟨by decide,by decide,by decide⟩,by decide,.now (q _ (by omega) (by omega))⟩) fun _=>⟨by decide,.now (q _ (by omega) (by omega))⟩
theorem kind_at(x:Int): ∃kd:Str,atI [D.str "mesh",.str "pin",.str "band",.str "cross"] (x % 4)=some (.str kd)/\a2u kd=true:=by
 have h1:=Int.emod_nonneg x (show(4:Int)≠0 by decide)
 have h2:=Int.emod_lt_of_pos x (show(0:Int)<4 by decide)
 obtain⟨t,ht,hm⟩:=at_map D.str ["mesh","pin","band","cross"] (x % 4) h1 (by simpa using h2)
 refine⟨t,ht,?_⟩
 simp only[List.mem_cons,List.not_mem_nil,or_false]at hm
 rcases hm with rfl |rfl |rfl |rfl<;>decide+kernel
theorem a51(l:List D)(i:Nat)(h:i<l.length):atI l (i:Int)=some l[i]:=a29 (List.getElem?_eq_getElem h)
noncomputable def eK(j:Str×Nat×Nat):D:= .tup [.str j.1,.int j.2.1,.int j.2.2]
theorem b26(l:List (Str×Nat×Nat))(x:Str×Nat×Nat):(l++[x]).map eK=l.map eK++[eK x]:=by rw[List.map_append];rfl
def Bg(n:Nat)(x:Int):Prop:=x.natAbs<2^n
theorem Bg.mul{m n:Nat}{x y:Int}(hx:Bg m x)(hy:Bg n y):Bg (m+n) (x *y):=by
 unfold Bg at *
 rw[Int.natAbs_mul,Nat.pow_add]
 exact Nat.mul_lt_mul'' hx hy
theorem Bg.up{m n:Nat}{x:Int}(h:Bg m x)(hm:m<=n):Bg n x:=Nat.lt_of_lt_of_le h (Nat.pow_le_pow_right (by decide) hm)
theorem Bg.ok{m n:Nat}{x y:Int}(hx:Bg m x)(hy:Bg n y)(hm:m<=10000)(hn:n<=10000):IntMulOk x y:=
 IntMulOk.of_bits (intBits_le_iff.mpr (hx.up (Nat.le_trans hm (by decide)))) (intBits_le_iff.mpr (hy.up (Nat.le_trans hn (by decide))))
theorem byF_bg{k:Str}{a b:Int}(ha:1<=a)(ha2:a<1000000000)(hb:1<=b)(hb2:b<1000000000):Bg 30 (byF k a b).1/\Bg 30 (byF k a b).2:=by
 have e30:(2:Nat)^30=1073741824:=by decide
 unfold Bg byF
 rw[e30]
 split
 . exact⟨by decide,by decide⟩
 . split
   . exact⟨by show a.natAbs<_;omega,by show b.natAbs<_;omega⟩
   . exact⟨by show(-a).natAbs<_;omega,by show b.natAbs<_;omega⟩
def spBy:SpA:=fun ds M Q _=> ∃(k:Str) (a b:Int),ds=[.str k,.int a,.int b]/\Q (eF (byF k a b)) M
theorem b58{f:Addr}{fd:FuncData}(Fn:Fun K "_law_by" "_law_by" a8m f fd):FnOk P w K mg base (CXE P w) 1 f fd ["_law_kind","_law_one","_law_other"] (a0k K spBy):=by
 refine Fn.okA b5m (fun ds M Q E h=> ?_) ?_
 . obtain⟨a,b,c,rfl,_⟩:=h;rfl
 intro cdv A outer s H E F0 ds M Q Ea hr ct hsp
 obtain⟨k,a,b,rfl,q⟩:=hsp
 refine⟨_,(a0b (sIf (a0v (a1g (un64 ct)) lEq (paV (pv 0)) paS (a0m _))
       (a0h (sRet (a2b (a0a paI (a0a paI a0f)))))
       a0w)
     (a0b (sIf (a0v (a1g (un64 ct)) lEq (paV (pv 0)) paS (a0m _))
       (a0h (sRet (a2b (a0a (paV (pv 1)) (a0a (paV (pv 2)) a0f)))))
       a0w)
     (a0h (sRet (a2b (a0a (paUn a9j lNeg (paV (pv 1))) (a0a (paV (pv 2)) a0f))))))),?_⟩
 unfold byF at q
 by_cases h1:k="pin"
 . rw[if_pos h1]at q
   refine a3b (fun R h=>by simp! only[decide_eq_true h1];exact h) ?_
   simp! only[]
   exact⟨by decide,.now q⟩
 . rw[if_neg h1]at q
   refine a1f (fun R h=>by simp! only[decide_eq_false h1];exact h) ?_
   by_cases h2:k="band"
   . rw[if_pos h2]at q
     refine a3b (fun R h=>by simp! only[decide_eq_true h2];exact h) ?_
     simp! only[]
     exact⟨by decide,.now q⟩
   . rw[if_neg h2]at q
     refine a1f (fun R h=>by simp! only[decide_eq_false h2];exact h) ?_
     simp! only[]
     exact⟨by decide,.now q⟩
theorem w_at{ws:List (Str×Int)}{i:Nat}(h:i<ws.length):atI (ws.map eW) (i:Int)=some (eW ws[i]):=by rw[a51 _ _ (by simpa using h),List.getElem_map]
theorem b2r{ws:List (Str×Int)}{i:Nat}(h:i<ws.length):atI (ws.map eW) (i:Int)=some (.tup [.str (at_ (ws.map Prod.fst) i),.int (ws[i]).2]):=by
 rw[a51 _ _ (by simpa using h),List.getElem_map]
 unfold at_ eW
 rw[List.getD_eq_getElem?_getD,List.getElem?_map,List.getElem?_eq_getElem h];rfl
def spRows:SpA:=fun ds M Q _=> ∃ns:List Int,ds=[.scr (ns.map D.int)]/\ns.length<=100/\ ∀s ws js,Rw s ws js->ws.length<=40->js.length<=40->Q (.lst [.lst (ws.map eW),.lst (js.map eK)]) M
theorem b7u(ds:List D):(cut ds none (some 41)).length=min 41 ds.length:=by
 unfold cut
 have e1:HT.sIx ds.length 0 none=0:=rfl
 have e2:HT.sIx ds.length ds.length (some 41)=min 41 ds.length:=by
   unfold HT.sIx
   simp
   try omega
 rw[e1,e2]
 simp
theorem b1c{f:Addr}{fd:FuncData}(Fn:Fun K "_law_rows" "_law_rows" a5b f fd)(T:Txt K mg)(h_law_cell_at:Has P w K mg base (CXE P w) 1 "_law_cell_at" ["_law_script","_law_k"] (a0k K a9o))
   (h_law_name:Has P w K mg base (CXE P w) 1 "_law_name" ["_law_k","_law_spin"] (a0k K b5h)) (h_law_teeth:Has P w K mg base (CXE P w) 1 "_law_teeth" ["_law_number","_law_way"] (a0k K b00)):
   FnOk P w K mg base (CXE P w) 2 f fd ["_law_script"] (a0k K spRows):=by
 refine Fn.okA sc_law_rows (fun ds M Q E h=> ?_) ?_
 . obtain⟨a,rfl,_⟩:=h;rfl
 intro cdv A outer s H E F0 ds M Q Ea hr ct hsp
 obtain⟨ns,rfl,hns,q⟩:=hsp
 refine⟨_,(a0b (sSet (i:=1) sc_law_rows.nd rfl (Or.inl rfl) (a31 a0f))
     (a0b (sSet (i:=2) sc_law_rows.nd rfl (Or.inl rfl) (a31 a0f))
     (a0b (sSet (i:=3) sc_law_rows.nd rfl (Or.inl rfl) (a04 h_law_cell_at (hr.mono (by decide)) (by rfl) ct (a0a (paV (pv 0)) (a0a paI a0f))))
     (a0b (sSet (i:=4) sc_law_rows.nd rfl (Or.inl rfl) (a6x (a0a paS (a0a paS (a0a paS (a0a paS a0f))))))
     (a0b (sFor ct (iRange2 rfl T.range (a0a paI (a0a (a0z a0s lLen (by rfl) T.len PySem.boot_len (a0a (paSl a9q lSl (paV (pv 0)) poN (poS paI)) a0f)) a0f))) (a0r (i:=5) sc_law_rows.nd rfl (Or.inl rfl))
       (a0b (sSet (i:=6) sc_law_rows.nd rfl (Or.inl rfl) (paOp a1k lMod (paIx a0i lIx (paV (pv 0)) (paV (pv 5)) (fun _ _=>rfl)) paI))
       (a0b (sSet (i:=7) sc_law_rows.nd rfl (Or.inl rfl) (paOp a60 lDiv (paIx a0i lIx (paV (pv 0)) (paV (pv 5)) (fun _ _=>rfl)) paI))
       (a0b (sSet (i:=8) sc_law_rows.nd rfl (Or.inl rfl) (paIx a0i lIx (paV (pv 4)) (paOp a1k lMod (paOp a01 lAdd (paIx a0i lIx (paV (pv 0)) (paV (pv 5)) (fun _ _=>rfl)) (paV (pv 5))) paI) (fun _ _=>rfl)))
       (a0b (sSet (i:=9) sc_law_rows.nd rfl (Or.inl rfl) (a0z a0s lLen (by rfl) T.len PySem.boot_len (a0a (paV (pv 1)) a0f)))
       (a0h (sIf ((pwOr (a0v a7r lLt (paV (pv 9)) paI (a0m _)) (a52 (a0v a7r lLt (paV (pv 6)) paI (a0m _))))).pt
         (a0b (a1y (paBM PySem.F.plainAttrs_list PySem.F.slot_list_append PySem.F.type_list_append a03 a1n (paV (pv 1)) (a0a (a2b (a0a (a04 h_law_name (hr.mono (by decide)) (by rfl) ct (a0a (paV (pv 9)) (a0a (paOp a1k lMod (paV (pv 3)) paI) a0f))) (a0a (a04 h_law_teeth (hr.mono (by decide)) (by rfl) ct (a0a (paV (pv 7)) (a0a (paOp a1k lMod (paOp a60 lDiv (paV (pv 3)) paI) paI) a0f))) a0f))) a0f)))
         (a0b (sSet (i:=10) sc_law_rows.nd rfl (Or.inl rfl) (paOp a1k lMod (paOp a01 lAdd (paV (pv 7)) (paOp a2g lMul (paV (pv 5)) (paV (pv 5)))) (a0z (b7x rfl) lMax (by rfl) T.max boot_max (a0a paI (a0a (paV (pv 9)) a0f)))))
         (a0h (sIf ((b8h (a0v b56 lGt (paV (pv 9)) paI (a0m _)) (b2u (a0v a7r lLt (paV (pv 6)) paI (a0m _))))).pt
           (a0h (a1y (paBM PySem.F.plainAttrs_list PySem.F.slot_list_append PySem.F.type_list_append a03 a1n (paV (pv 2)) (a0a (paIx a0i lIx (a6x (a0a (a2b (a0a (paV (pv 8)) (a0a (paV (pv 10)) (a0a (paV (pv 9)) a0f)))) (a0a (a2b (a0a (paV (pv 8)) (a0a (paV (pv 9)) (a0a (paV (pv 10)) a0f)))) a0f))) (paOp a1k lMod (paV (pv 7)) paI) (fun _ _=>rfl)) a0f))))
           a0w))))
         (a0b (sSet (i:=10) sc_law_rows.nd rfl (Or.inl rfl) (paOp a1k lMod (paV (pv 7)) (paV (pv 9))))
         (a0b (sSet (i:=11) sc_law_rows.nd rfl (Or.inl rfl) (paOp a1k lMod (paOp a01 lAdd (paOp a01 lAdd (paV (pv 10)) paI) (paOp a1k lMod (paOp a01 lAdd (paOp a60 lDiv (paV (pv 7)) (paV (pv 9))) (paV (pv 5))) (paOp op_sub lSub (paV (pv 9)) paI))) (paV (pv 9))))
         (a0h (a1y (paBM PySem.F.plainAttrs_list PySem.F.slot_list_append PySem.F.type_list_append a03 a1n (paV (pv 2)) (a0a (a2b (a0a (paV (pv 8)) (a0a (paV (pv 10)) (a0a (paV (pv 11)) a0f)))) a0f)))))))))))))
     (a0h (sRet (a6x (a0a (paFz (paV (pv 1))) (a0a (paFz (paV (pv 2))) a0f)))))))))),?_⟩
 simp! only[]
 refine⟨Nat.zero_le _,fun p hp=>⟨Nat.zero_le _,fun r hr'=> ?_⟩⟩
 have nrp:r≠p:=by rintro rfl;rw[a0c]at hr';cases hr'
 rw[a0g nrp]at hr'
 simp only[a9o]
 refine⟨ns,0,rfl,by decide,?_⟩
 generalize cell ns 0=st
 obtain⟨sp,hsp⟩:=Int.eq_ofNat_of_zero_le (Int.emod_nonneg st (show(78:Int)≠0 by decide))
 simp only[b7u,List.length_map]
 refine⟨by decide,⟨by decide,by decide,by omega,by omega⟩,?_⟩
 refine LoopP.by2 (fun i Γ M'=> ∃(ws:List (Str×Int)) (js:List (Str×Nat×Nat)) (o5 o6 o7 o8 o9 o10 o11:Option D),Γ=[some (.scr (ns.map D.int)),some (.obj p),some (.obj r),some (.int st),some (.lst [.str "mesh",.str "pin",.str "band",.str "cross"]),o5,o6,o7,o8,o9,o10,o11]/\M'=put (put M p (.lst (ws.map eW))) r (.lst (js.map eK))/\Rw sp ws js/\ws.length<=i/\js.length<=i)
   ⟨[],[],_,_,_,_,_,_,_,rfl,rfl,Rw.nil sp,Nat.zero_le _,Nat.zero_le _⟩ (fun _ _ _ _=>trivial) ?_ ?_
 . rintro E' i Γ M' hrt hi hnx ⟨ws,js,o5,o6,o7,o8,o9,o10,o11,rfl,rfl,rw',hw,hj⟩
   dsimp only at hi
   have hi2:1+i<ns.length:=by omega
   have ex: ∃x,atI (ns.map D.int) (1+(i:Int))=some (.int x):=by
     have ek:(1:Int)+(i:Int)=((1+i:Nat):Int):=by omega
     rw[ek,a51 _ _ (by simpa using hi2)]
     exact⟨_,by rw[List.getElem_map]⟩
   obtain⟨x,ex⟩:=ex
   have np:p≠r:=nrp.symm
   obtain⟨kd,hkd,hkd2⟩:=kind_at (x+(1+(i:Int)))
   refine seqV (.int (x % 12)) _ (fun R h=>by simp! only[ex];exact⟨by decide,h⟩) (seqV (.int (x/12)) _ (fun R h=>by simp! only[ex];exact⟨⟨by decide,by decide⟩,h⟩) (seqV (.str kd) _ (fun R h=>by simp! only[ex,hkd];exact⟨by decide,h⟩) (seqV (.int ws.length) _ (fun R h=>by simp! only[a0g np,a0c,List.length_map];exact h) ?_)))
   simp only[List.set_cons_zero,List.set_cons_succ]
   by_cases hc:ws.length<2\/x % 12<9
   . refine ifV true (fun R h=> ?_) ?_
     . simp! only[]
       refine ite2 (fun _=>h) fun h1=> ?_
       rw[decide_eq_true (hc.resolve_left fun z=>h1 (decide_eq_true (by omega)))];exact h
     rw[if_pos rfl]
     refine cut1 (fun Γ' M1=>Γ'=[some (.scr (ns.map D.int)),some (.obj p),some (.obj r),some (.int st),some (.lst [.str "mesh",.str "pin",.str "band",.str "cross"]),some (.int (1+(i:Int))),some (.int (x % 12)),some (.int (x/12)),some (.str kd),some (.int ws.length),o10,o11]/\ ∃t,M1=put (put M p (.lst ((ws++[(a2i sp ws.length,t)]).map eW))) r (.lst (js.map eK))/\Rw sp (ws++[(a2i sp ws.length,t)]) js) ?_ ?_
     . rintro Γ M1 ⟨rfl,t,rfl,rw2⟩
       have hlen:(ws++[(a2i sp ws.length,t)]).length=ws.length+1:=by simp
       have hmx: ∃m:Nat,(if(ws.length:Int)>1 then(ws.length:Int)else 1)=(m:Int)/\0<m/\(0<ws.length->m=ws.length):=by
         by_cases h:ws.length<=1
         . exact⟨1,by rw[if_neg (by omega)];rfl,by decide,fun _=>by omega⟩
         . exact⟨ws.length,by rw[if_pos (by omega)],by omega,fun _=>rfl⟩
       obtain⟨mx,emx,mx0,mx1⟩:=hmx
       obtain⟨at',hat⟩:=Int.eq_ofNat_of_zero_le (Int.emod_nonneg (x/12+(1+(i:Int)) * (1+(i:Int))) (show(mx:Int)≠0 by omega))
       have hat2:=Int.emod_lt_of_pos (x/12+(1+(i:Int)) * (1+(i:Int))) (show(0:Int)< (mx:Int)by omega)
       rw[hat]at hat2
       refine seqV (.int (at':Int)) _ (fun R h=>by
         simp! only[oMax,emx,hat]
         exact⟨CMul.ok (.inr ⟨by omega,by omega⟩),by omega,h⟩) ?_
       simp only[List.set_cons_zero,List.set_cons_succ]
       by_cases hj2:0<ws.length/\x % 12<8
       . refine ifV true (fun R h=> ?_) ?_
         . simp! only[decide_eq_true (show(0:Int)< (ws.length:Int)by omega),decide_eq_true hj2.2]
           exact h
         rw[if_pos rfl]
         have hk: ∃j:Str×Nat×Nat,atI [D.tup [.str kd,.int (at':Int),.int (ws.length:Int)],.tup [.str kd,.int (ws.length:Int),.int (at':Int)]] (x/12 % 2)=some (eK j)/\Rw sp (ws++[(a2i sp ws.length,t)]) (js++[j]):=by
           rcases Int.emod_two_eq (x/12)with h0 |h0
           . exact⟨(kd,at',ws.length),by rw[h0];exact at0,rw2.join hkd2 (by omega) (by omega) (by omega)⟩
           . exact⟨(kd,ws.length,at'),by rw[h0];exact at1,rw2.join hkd2 (by omega) (by omega) (by omega)⟩
         obtain⟨j,ej,rj⟩:=hk
         refine a7x .non (put (put M p (.lst ((ws++[(a2i sp ws.length,t)]).map eW))) r (.lst ((js++[j]).map eK))) (fun R h=> ?_) (hnx _ _ ⟨_,_,_,_,_,_,_,_,_,rfl,rfl,rj,by omega,by rw[List.length_append];simp;omega⟩)
         simp! only[aBM,a2c,a0c,oAppend,ej,a1b,List.length_map]
         refine⟨by decide,by decide,by decide,by decide,by omega,?_⟩
         rw[b26]at h;exact h
       . refine ifV false (fun R h=> ?_) ?_
         . simp! only[]
           refine ite2 (fun h1=> ?_) fun _=>h
           have h1:=of_decide_eq_true h1
           rw[decide_eq_false fun z=>hj2 ⟨by omega,z⟩];exact h
         rw[if_neg Bool.false_ne_true]
         exact hnx _ _ ⟨_,_,_,_,_,_,_,_,_,rfl,rfl,rw2,by omega,by omega⟩
     . intro rest hrest
       simp! only[aBM,a2c,a0g np,a0c,oAppend,b5h,b00]
       refine⟨by decide,ws.length,sp,by rw[hsp],⟨by decide,by decide⟩,by decide,_,_,rfl,fun t h1 h2=>⟨by decide,by rw[List.length_map];omega,hrest _ _ ⟨rfl,t,?_,rw'.wheel h1 h2⟩⟩⟩
       rw[b2v nrp,List.map_append];rfl
   . have hc1:2<=ws.length:=Nat.le_of_not_lt fun z=>hc (.inl z)
     refine ifV false (fun R h=> ?_) ?_
     . simp! only[decide_eq_false (show ¬ (ws.length:Int)<2 by omega),decide_eq_false fun z=>hc (.inr z)]
       exact h
     rw[if_neg Bool.false_ne_true]
     obtain⟨at',hat⟩:=Int.eq_ofNat_of_zero_le (Int.emod_nonneg (x/12) (show(ws.length:Int)≠0 by omega))
     have hat2:=Int.emod_lt_of_pos (x/12) (show(0:Int)< (ws.length:Int)by omega)
     rw[hat]at hat2
     obtain⟨u,hu⟩:=Int.eq_ofNat_of_zero_le (Int.emod_nonneg (x/12/(ws.length:Int)+(1+(i:Int))) (show(ws.length:Int)- 1≠0 by omega))
     have hu2:=Int.emod_lt_of_pos (x/12/(ws.length:Int)+(1+(i:Int))) (show(0:Int)< (ws.length:Int)- 1 by omega)
     rw[hu]at hu2
     have hto:((at':Int)+1+(u:Int)) % (ws.length:Int)=(((at'+1+u) % ws.length:Nat):Int):=by rw[Int.natCast_emod];rfl
     have hne:at'≠(at'+1+u) % ws.length:=by
       intro z
       by_cases hlt:at'+1+u<ws.length
       . rw[Nat.mod_eq_of_lt hlt]at z;omega
       . rw[Nat.mod_eq_sub_mod (by omega),Nat.mod_eq_of_lt (by omega)]at z;omega
     have hlt:=Nat.mod_lt (at'+1+u) (show 0<ws.length by omega)
     refine seqV (.int (at':Int)) _ (fun R h=>by
       simp! only[hat]
       exact⟨by omega,h⟩) (seqV (.int (((at'+1+u) % ws.length:Nat):Int)) _ (fun R h=>by
       simp! only[hu,hto]
       exact⟨⟨by omega,by omega⟩,by omega,by omega,h⟩) ?_)
     simp only[List.set_cons_zero,List.set_cons_succ]
     refine a7x .non (put (put M p (.lst (ws.map eW))) r (.lst ((js++[(kd,at',(at'+1+u) % ws.length)]).map eK))) (fun R h=> ?_) (hnx _ _ ⟨_,_,_,_,_,_,_,_,_,rfl,rfl,rw'.join hkd2 (by omega) hlt hne,by omega,by rw[List.length_append];simp;omega⟩)
     simp! only[aBM,a2c,a0c,oAppend,a1b,List.length_map]
     refine⟨by decide,by omega,?_⟩
     rw[b26]at h;exact h
 . rintro Γ M' ⟨ws,js,o5,o6,o7,o8,o9,o10,o11,rfl,rfl,rw',hw,hj⟩
   have e1:put (put M p (.lst (ws.map eW))) r (.lst (js.map eK)) p=some (.lst (ws.map eW)):=by rw[a0g nrp.symm,a0c]
   have e2:del (put (put M p (.lst (ws.map eW))) r (.lst (js.map eK))) p r=some (.lst (js.map eK)):=by rw[a33 nrp,a0c]
   have e3:del (del (put (put M p (.lst (ws.map eW))) r (.lst (js.map eK))) p) r=M:=by
     funext y
     by_cases hy:y=r
     . subst hy;rw[a3z,hr']
     . rw[a33 hy]
       by_cases hy2:y=p
       . subst hy2;rw[a3z,hp]
       . rw[a33 hy2,a0g hy,a0g hy2]
   simp! only[aFz,e1,e2,e3]
   dsimp only at hw hj
   exact⟨by decide,.now (q sp ws js rw' (by omega) (by omega))⟩
theorem b1o(n i:Nat)(h:i<n):ixN n (i:Int)=some i:=by
 unfold ixN
 simp
 omega
theorem idx_at{ns:List Str}(nd:ns.Nodup){i:Nat}(h:i<ns.length):idxD (.str (at_ ns i)) (ns.map D.str)=some i:=by
 induction ns generalizing i with
 |nil=>cases h
 |cons x ns ih=>
   obtain⟨n1,n2⟩:=List.nodup_cons.mp nd
   cases i with
   |zero=>
     have e:at_ (x::ns) 0=x:=rfl
     rw[e]
     simp[idxD,eqF]
   |succ i=>
     have hi:i<ns.length:=by simpa using h
     have e:at_ (x::ns) (i+1)=at_ ns i:=rfl
     rw[e,List.map_cons]
     unfold idxD
     have ne: ¬ x=at_ ns i:=fun z=>n1 (by rw[z];exact a1u hi)
     have e2:eqF (.str x) (.str (at_ ns i))=false:=by simp[eqF,ne]
     rw[e2,if_neg Bool.false_ne_true,ih n2 hi];rfl
theorem b3n(ns:List Str):(ns.map D.str).all flD=true:=by
 rw[List.all_map,List.all_eq_true];intros;rfl
noncomputable def iN(k:Nat):D:= .int k
theorem b9e(ns:List Nat):(ns.map iN).all flD=true:=by
 rw[List.all_map,List.all_eq_true];intros;rfl
theorem in_nats(ns:List Nat)(k:Nat):inD (.int k) (ns.map iN)=decide (k∈ns):=by
 unfold inD
 induction ns with
 |nil=>rfl
 |cons a ns ih=>
   simp only[List.map_cons,List.any_cons,List.mem_cons,Bool.decide_or]
   rw[ih]
   congr 1
   by_cases h:a=k
   . subst h;simp[eqF,iN]
   . have h': ¬ k=a:=fun z=>h z.symm
     have h2: ¬ ((a:Int)=(k:Int)):=by omega
     simp[eqF,iN,h',h2]
theorem a7c(a b:Int):Gd 1 (.tup [.int a,.int b]):= .tup _ _ fun d hd=>by
 simp only[List.mem_cons,List.not_mem_nil,or_false]at hd
 rcases hd with rfl |rfl
 . exact .int _ _
 . exact .int _ _
theorem b4z(bs:List Bool)(i:Nat)(h:i<bs.length):atI (bs.map D.bl) (i:Int)=some (.bl (bs.getD i false)):=by
 rw[a51 _ _ (by simpa using h),List.getElem_map,List.getD_eq_getElem?_getD,List.getElem?_eq_getElem h];rfl
theorem set_bl(bs:List Bool)(i:Nat):(bs.map D.bl).set i (.bl true)=(bs.set i true).map D.bl:=by rw[List.map_set]
noncomputable def ent(j:Str×Nat×Nat):En:=(0,j.2.1,j.2.2)
theorem Hung.of{es es':List En}(h: ∀e∈es,∃e'∈es',e'.2=e.2){a b:Nat}(hb:Hung es a b):Hung es' a b:=by
 induction hb with
 |refl=>exact .refl
 |to _ he ih=>
   obtain⟨e',h1,h2⟩:=h _ he
   rw[<-h2]at ih |-;exact .to ih h1
 |fro _ he ih=>
   obtain⟨e',h1,h2⟩:=h _ he
   rw[<-h2]at ih |-;exact .fro ih h1
theorem b1s(js:List (Str×Nat×Nat))(a b:Nat):Hung (js.map ent) a b↔Hung (esOf js) a b:=by
 constructor
 . refine Hung.of fun e he=> ?_
   obtain⟨j,hj,rfl⟩:=List.mem_map.mp he
   obtain⟨k,hk,rfl⟩:=List.getElem_of_mem hj
   exact⟨esRow k js[k],by unfold esOf;exact List.mem_mapIdx.mpr ⟨k,hk,rfl⟩,rfl⟩
 . refine Hung.of fun e he=> ?_
   unfold esOf at he
   obtain⟨k,hk,rfl⟩:=List.mem_mapIdx.mp he
   exact⟨ent js[k],List.mem_map.mpr ⟨_,List.getElem_mem hk,rfl⟩,rfl⟩
def b5j:SpA:=fun ds M Q _=> ∃(n:Nat) (js:List (Str×Nat×Nat)) (a:Nat),ds=[.int n,.lst (js.map eK),.int a]/\n<=1000/\a<n/\(∀j∈js,j.2.1<n/\j.2.2<n)/\
 ∀bs:List Bool,bs.length=n->(∀b,bs.getD b false=true↔Hung (esOf js) a b)->Q (.lst (bs.map D.bl)) M
theorem b1f{f:Addr}{fd:FuncData}(Fn:Fun K "_law_hung" "_law_hung" a5e f fd)(T:Txt K mg):FnOk P w K mg base (CXE P w) 1 f fd ["_law_many","_law_joins","_law_start"] (a0k K b5j):=by
 refine Fn.okA sc_law_hung (fun ds M Q E h=> ?_) ?_
 . obtain⟨_,_,_,rfl,_⟩:=h;rfl
 intro cdv A outer s H E F0 ds M Q Ea hr ct hsp
 obtain⟨n,js,a,rfl,hn,ha,he,q⟩:=hsp
 have hu64:=un64 ct
 refine⟨_,(a0b (sCompM (i:=3) sc_law_hung.nd rfl rfl (Nc:=["_law_k","_law_start"]) (n:=1) (fs:=[2]) comp1 rfl (a88 rfl T.range (a0a (paV (pv 0)) a0f)) (fun _ _ _ _ _=>(a0r (i:=0) (show List.Nodup (["_law_k","_law_start"]:List Str)by decide+kernel) rfl (Or.inl rfl))) (fun _ _ _ _ _=>a9b) (fun _ _ _ _ _=>(a8u (a1g hu64) lEq (paV (pv 0)) (paV (pv 1)) (a0m _))) (by rfl))
     (a0b (sSet (i:=4) sc_law_hung.nd rfl (Or.inl rfl) paB)
     (a0b (b2p ct (ptV (paV (pv 4)))
       (a0b (sSet (i:=4) sc_law_hung.nd rfl (Or.inl rfl) paB)
       (a0h (sFor ct (a1z (paV (pv 1))) (a6i rfl (a0u (a0r (i:=5) sc_law_hung.nd rfl (Or.inl rfl)) (a0u (a0r (i:=6) sc_law_hung.nd rfl (Or.inl rfl)) (a0u (a0r (i:=7) sc_law_hung.nd rfl (Or.inl rfl)) a2p))))
         (a0h (sIf (a0v (a2r (un64 ct)) lNe (paIx a0i lIx (paV (pv 3)) (paV (pv 6)) (fun _ _=>rfl)) (paIx a0i lIx (paV (pv 3)) (paV (pv 7)) (fun _ _=>rfl)) (a0m _))
           (a0b (sAsg paB (tgSub (paV (pv 3)) (paV (pv 6))))
           (a0b (sAsg paB (tgSub (paV (pv 3)) (paV (pv 7))))
           (a0h (sSet (i:=4) sc_law_hung.nd rfl (Or.inl rfl) paB))))
           a0w))))))
     (a0h (sRet (paV (pv 3))))))),?_⟩
 simp! only[a3d,frG]
 refine⟨by omega,by omega,fun i=>some (.bl (decide ((i:Int)=(a:Int)))),by omega,fun M' _ i hi own ho=> ?_,fun p hp=> ?_⟩
 . obtain⟨o,rfl⟩:=own1 ho
   refine⟨⟨[some _],rfl,rfl⟩,?_⟩
   show oEq false (.int i) (.int a) M' _
   rw[b7k]
   exact⟨rfl,rfl⟩
 have e0:outs (fun i=>some (.bl (decide ((i:Int)=(a:Int))))) (n:Int).toNat=((List.range n).map fun i=>decide (i=a)).map D.bl:=by
   rw[a6d,List.map_map]
   show(List.range n).map _=_
   congr 1
   funext i
   have e:((i:Int)=(a:Int))↔i=a:=by omega
   simp[e]
 rw[e0]
 have g0: ∀b,((List.range n).map fun i=>decide (i=a)).getD b false=decide (b<n/\b=a):=by
   intro b
   rw[List.getD_eq_getElem?_getD,List.getElem?_map]
   by_cases h:b<n
   . rw[List.getElem?_range h];simp[h]
   . rw[List.getElem?_eq_none (by simpa using h)];simp[h]
 have hg0:Hg (js.map ent) a n ((List.range n).map fun i=>decide (i=a)):=by
   refine⟨by simp,fun b hb=> ?_,?_⟩
   . rw[g0]at hb
     have hb:=of_decide_eq_true hb
     rw[hb.2];exact .refl
   . rw[g0];exact decide_eq_true ⟨ha,rfl⟩
 generalize ((List.range n).map fun i=>decide (i=a))=bs0 at hg0
 refine⟨fun m Γ M'=> ∃(bs:List Bool) (ag:Bool) (o5 o6 o7:Option D),Γ=[some (.int n),some (.lst (js.map eK)),some (.int a),some (.obj p),some (.bl ag),o5,o6,o7]/\M'=put M p (.lst (bs.map D.bl))/\Hg (js.map ent) a n bs/\(ag=false-> ∀e∈js,bs.getD e.2.1 false=bs.getD e.2.2 false)/\a2t bs+(if ag=true then 1 else 0)<=m,
   ⟨_,bs0,true,none,none,none,rfl,rfl,hg0,fun h=>(by cases h),Nat.le_refl _⟩,?_⟩
 rintro m Γ M' ⟨bs,ag,o5,o6,o7,rfl,rfl,hg,hcl,hm⟩
 cases ag with
 |false=>
   refine Rt.fz hp (q bs hg.len fun b=>⟨(fun h=>(b1s js a b).mp (hg.sound b h)),fun h=>hg.all (fun e he'=>by obtain⟨j,hj,rfl⟩:=List.mem_map.mp he';exact hcl rfl j hj) ((b1s js a b).mpr h)⟩)
 |true=>
   rw[if_pos rfl]at hm
   refine cT (fun R h=>h) (seqV (.bl false) (put M p (.lst (bs.map D.bl))) (fun R h=>h) ?_)
   refine LoopP.by2 (fun i Γ M'=> ∃(bs':List Bool) (ag':Bool) (o5 o6 o7:Option D),Γ=[some (.int n),some (.lst (js.map eK)),some (.int a),some (.obj p),some (.bl ag'),o5,o6,o7]/\M'=put M p (.lst (bs'.map D.bl))/\Hg (js.map ent) a n bs'/\(ag'=true->a2t bs'<a2t bs)/\(ag'=false->bs'=bs/\ ∀(k:Nat) (h:k<js.length),k<i->bs.getD (js[k]).2.1 false=bs.getD (js[k]).2.2 false))
     ⟨bs,false,o5,o6,o7,rfl,rfl,hg,fun h=>(by cases h),fun _=>⟨rfl,fun k _ hk=>absurd hk (Nat.not_lt_zero _)⟩⟩ (fun _ _ _ _=>rfl) ?_ ?_
   . rintro E' i Γ M' hrt hi hnx ⟨bs',ag',o5,o6,o7,rfl,rfl,hg',ht,hf⟩
     dsimp only at hi
     have hi':i<js.length:=by simpa using hi
     obtain⟨j1,j2⟩:=he _ (List.getElem_mem hi')
     have hmem:ent js[i]∈js.map ent:=List.mem_map.mpr ⟨_,List.getElem_mem hi',rfl⟩
     have last: ∀k (h:k<js.length),k<i+1->k<i\/js[k]=js[i]:=fun k h hk=>by
       by_cases e:k=i
       . subst e;exact .inr rfl
       . exact .inl (by omega)
     simp only[a1t js eK i hi']
     generalize js[i]=e at j1 j2 hmem last |-
     simp only[eK,a5s,a3q,gaNil,gaN,List.set_cons_zero,List.set_cons_succ,true_and]
     refine⟨rfl,?_⟩
     have l1:e.2.1<bs'.length:=by rw[hg'.len];exact j1
     have l2:e.2.2<bs'.length:=by rw[hg'.len];exact j2
     by_cases hd:bs'.getD e.2.1 false=bs'.getD e.2.2 false
     . refine ifV false (fun R h=>by
         simp! only[a0c,b4z _ _ l1,b4z _ _ l2,hd,decide_true,Bool.not_true]
         exact h) ?_
       rw[if_neg Bool.false_ne_true]
       refine hnx _ _ ⟨bs',ag',_,_,_,rfl,rfl,hg',ht,fun h=> ?_⟩
       obtain⟨rfl,hk⟩:=hf h
       refine⟨rfl,fun k hk1 hk2=> ?_⟩
       rcases last k hk1 hk2 with h' |h'
       . exact hk k hk1 h'
       . rw[h'];exact hd
     . refine ifV true (fun R h=>by
         simp! only[a0c,b4z _ _ l1,b4z _ _ l2,decide_eq_false hd,Bool.not_false]
         exact h) ?_
       rw[if_pos rfl]
       have l2':e.2.2< (bs'.set e.2.1 true).length:=by simpa using l2
       simp! only[gaSub,a0c,a1b,List.length_map,b1o _ _ l1,b1o _ _ l2',set_bl]
       obtain⟨hg2,hl⟩:=hg'.edge hmem j1 j2 hd
       have hl:a2t ((bs'.set e.2.1 true).set e.2.2 true)+1=a2t bs':=hl
       refine hnx _ _ ⟨_,true,_,_,_,rfl,rfl,hg2,fun _=> ?_,fun h=>(by cases h)⟩
       cases ag' with
       |true=>have:=ht rfl;omega
       |false=>obtain⟨rfl,_⟩:=hf rfl;omega
   . rintro Γ M' ⟨bs',ag',o5,o6,o7,rfl,rfl,hg',ht,hf⟩
     refine⟨a2t bs'+(if ag'=true then 1 else 0),?_,bs',ag',_,_,_,rfl,rfl,hg',fun h e he'=> ?_,Nat.le_refl _⟩
     . cases ag' with
       |true=>have:=ht rfl;rw[if_pos rfl];omega
       |false=>obtain⟨rfl,_⟩:=hf rfl;rw[if_neg Bool.false_ne_true];omega
     . obtain⟨rfl,hk⟩:=hf h
       obtain⟨k,hk1,rfl⟩:=List.getElem_of_mem he'
       exact hk k hk1 (by simpa using hk1)
theorem bl1:(" ":Str).length=1:=by decide+kernel
def b5d:SpA:=fun ds M Q _=> ∃(s:Nat) (ws:List (Str×Int)) (js:List (Str×Nat×Nat)),ds=[.lst (ws.map eW),.lst (js.map eK)]/\Rw s ws js/\ws.length<=80/\js.length<=80/\ ∀M',L2.Sub M M'->Q (.str (a3a ws js)) M'
theorem b1b{f:Addr}{fd:FuncData}(Fn:Fun K "_law_text" "_law_text" a5a f fd)(T:Txt K mg):FnOk P w K mg base (CXE P w) 1 f fd ["_law_wheels","_law_joins"] (a0k K b5d):=by
 refine Fn.okA sc_law_text (fun ds M Q E h=> ?_) ?_
 . obtain⟨_,_,_,rfl,_⟩:=h;rfl
 intro cdv A outer s H E F0 ds M Q Ea hr ct hsp
 obtain⟨sp,ws,js,rfl,rw',hw,hj,q⟩:=hsp
 refine⟨_,(a0b (sCompM (i:=2) sc_law_text.nd rfl rfl (Nc:=["_law_name_here","_law_teeth_here"]) (n:=2) (fs:=[]) b0j rfl (a1z (paV (pv 0))) (fun _ _ _ _ _=>(a6i (n:=2) rfl (a0u (a0r (i:=0) (show List.Nodup (["_law_name_here","_law_teeth_here"]:List Str)by decide+kernel) rfl (Or.inl rfl)) (a0u (a0r (i:=1) (show List.Nodup (["_law_name_here","_law_teeth_here"]:List Str)by decide+kernel) rfl (Or.inl rfl)) a2p)))) (fun _ _ _ _ _=>a9b) (fun _ _ _ _ _=>(paOp a01 lAdd (paOp a01 lAdd (paV (pv 0)) paS) (a4o b7w lStrI (by rfl) T.str boot_str (a0a (paV (pv 1)) a0f)))) (by rfl))
     (a0b (sFor ct (a1z (paV (pv 1))) (a6i rfl (a0u (a0r (i:=3) sc_law_text.nd rfl (Or.inl rfl)) (a0u (a0r (i:=4) sc_law_text.nd rfl (Or.inl rfl)) (a0u (a0r (i:=5) sc_law_text.nd rfl (Or.inl rfl)) a2p))))
       (a0h (a1y (paBM PySem.F.plainAttrs_list PySem.F.slot_list_append PySem.F.type_list_append a03 a1n (paV (pv 2)) (a0a (paOp a01 lAdd (paOp a01 lAdd (paOp a01 lAdd (paOp a01 lAdd (paIx a0i lIx (paIx a0i lIx (paV (pv 0)) (paV (pv 4)) (fun _ _=>rfl)) paI (fun _ _=>rfl)) paS) (paV (pv 3))) paS) (paIx a0i lIx (paIx a0i lIx (paV (pv 0)) (paV (pv 5)) (fun _ _=>rfl)) paI (fun _ _=>rfl))) a0f)))))
     (a0h (sRet (paBM PySem.F.plainAttrs_str PySem.F.slot_str_join PySem.F.type_str_join mt_join lJoin paS (a0a (paV (pv 2)) a0f)))))),?_⟩
 have hl:(ws.map Prod.fst).length=ws.length:=List.length_map ..
 refine cut1 (fun Γ' M1=> ∃p,M p=none/\M1=put M p (.lst ((ws.map a5g).map D.str))/\Γ'=[some (.lst (ws.map eW)),some (.lst (js.map eK)),some (.obj p),none,none,none]) ?_ ?_
 rotate_left
 . intro rest hrest
   simp! only[a3d,frG]
   refine⟨fun i=>some (.str (a5g (ws.getD i (Str.empty,0)))),by rw[List.length_map];omega,fun M' _ i hi own ho=> ?_,fun p hp=> ?_⟩
   . obtain⟨x,y,rfl⟩: ∃x y,own=[x,y]:=by
       cases own with
       |nil=>cases ho
       |cons x l=>cases l with
         |nil=>cases ho
         |cons y l=>cases l with
           |nil=>exact⟨x,y,rfl⟩
           |cons _ _=>simp at ho
     have hi':i<ws.length:=by simpa using hi
     have hm:=List.getElem_mem hi'
     have a:=a27 (rw'.isN (List.mem_map.mpr ⟨_,hm,rfl⟩))
     have ht:=rw'.teeth _ hm
     have b:=(a4r ht.1 ht.2).len9
     have eg:ws.getD i (Str.empty,0)=ws[i]:=by rw[List.getD_eq_getElem?_getD,List.getElem?_eq_getElem hi'];rfl
     rw[a1t ws eW i hi']
     simp! only[eW,a5s,a3q,gaNil,gaN,List.cons_append,List.nil_append,oStrI,eg]
     exact⟨⟨[some _,some _],rfl,rfl⟩,a5n (by rw[bl1];omega),by omega,a5n (by rw[a2x,bl1];omega),rfl⟩
   . refine hrest _ _ ⟨p,hp,?_,rfl⟩
     congr 2
     rw[a6d,List.length_map,List.map_map]
     refine List.ext_getElem (by simp) fun i h1 h2=> ?_
     have h3:i<ws.length:=by simpa using h1
     rw[List.getElem_map,List.getElem_map,List.getElem_range]
     show D.str (a5g (ws.getD i (Str.empty,0)))=_
     rw[List.getD_eq_getElem?_getD,List.getElem?_eq_getElem h3];rfl
 rintro Γ' M1 ⟨p,hp,rfl,rfl⟩
 refine cut1 (fun Γ' M2=>M2=put M p (.lst ((a0x ws js).map D.str))/\ ∃o3 o4 o5,Γ'=[some (.lst (ws.map eW)),some (.lst (js.map eK)),some (.obj p),o3,o4,o5]) ?_ ?_
 rotate_left
 . intro rest hrest
   refine b4w (d:= .lst (js.map eK)) (ds:=js.map eK) (fun R h=>h) rfl ?_
   refine LoopP.by2 (fun i Γ M'=>M'=put M p (.lst ((ws.map a5g++(js.take i).map (a7o (ws.map Prod.fst))).map D.str))/\ ∃o3 o4 o5,Γ=[some (.lst (ws.map eW)),some (.lst (js.map eK)),some (.obj p),o3,o4,o5]) ⟨by rw[List.take_zero,List.map_nil,List.append_nil],_,_,_,rfl⟩ (fun _ _ _ _=>rfl) ?_ ?_
   . rintro E' i Γ M' hrt hi hnx ⟨rfl,o3,o4,o5,rfl⟩
     dsimp only at hi
     have hi':i<js.length:=by simpa using hi
     obtain⟨h1,h2,h3,_⟩:=rw'.kinds _ (List.getElem_mem hi')
     have a:=a27 (rw'.isN (a1u (ns:=ws.map Prod.fst) (i:=(js[i]).2.1) (by rw[hl];exact h2)))
     have b:=a27 (rw'.isN (a1u (ns:=ws.map Prod.fst) (i:=(js[i]).2.2) (by rw[hl];exact h3)))
     have c:=(a6g h1).2
     simp only[a1t js eK i hi',eK,a5s,a3q,gaNil,gaN,List.set_cons_zero,List.set_cons_succ,true_and]
     refine⟨rfl,?_⟩
     refine a7x .non _ (fun R' h=> ?_) (hnx _ _ ⟨rfl,_,_,_,rfl⟩)
     simp! only[aBM,a2c,a0c,a1b,oAppend,List.length_map,b2r h2,b2r h3]
     have e5:(ws.map a5g++(js.take (i+1)).map (a7o (ws.map Prod.fst))).map D.str=(ws.map a5g++(js.take i).map (a7o (ws.map Prod.fst))).map D.str++[D.str (a7o (ws.map Prod.fst) js[i])]:=by
       rw[List.take_succ_eq_append_getElem hi',List.map_append (l₁:=js.take i),<-List.append_assoc,List.map_append (l₁:=ws.map a5g++_)];rfl
     rw[e5]at h
     exact⟨a5n (by rw[bl1];omega),a5n (by rw[a2x,bl1];omega),a5n (by rw[a2x,a2x,bl1];omega),a5n (by rw[a2x,a2x,a2x,bl1];omega),by rw[List.length_append,List.length_map,List.length_map,List.length_take];omega,h⟩
   . rintro Γ M' ⟨rfl,o3,o4,o5,rfl⟩
     dsimp only
     rw[List.length_map,List.take_length]
     exact hrest _ _ ⟨rfl,_,_,_,rfl⟩
 rintro Γ' M2 ⟨rfl,o3,o4,o5,rfl⟩
 have h1:=b2d rw' hw hj
 have h2:=b78 rw' hw hj
 simp! only[aBM,a2c,oJoin,a0c,b5c]
 exact⟨by omega,Nat.le_trans h1 (by decide),.now (q _ (.put hp))⟩
theorem b5b{M M':Mem}(h:L2.Sub M M'){p:Addr}(hp:M p=none){o:MO}:L2.Sub M (put M' p o):=fun x u e=>by
 rw[a0g (by rintro rfl;rw[hp]at e;cases e)];exact h x u e
theorem b4s: ∀c∈letters,c<128:=by decide+kernel
theorem name_ok{x:Str}(h:a1s x=true):PySem.PyData.strOk x=true:=by
 unfold a1s at h
 rw[Bool.and_eq_true]at h
 have h2:=List.all_eq_true.mp h.2
 unfold PySem.PyData.strOk
 rw[<-Array.all_toList]
 refine List.all_eq_true.mpr fun c hc=> ?_
 have h3:=b4s c (of_decide_eq_true (h2 c hc))
 exact decide_eq_true (by omega)
noncomputable abbrev Kn:=Int×Str×Nat×Nat
noncomputable def eKn(k:Kn):Key×D:=(Sum.inl k.1,eK k.2)
noncomputable def jnK(ns:List Str)(k:Kn):Jn:=(k.1,k.2.1,at_ ns k.2.2.1,at_ ns k.2.2.2)
noncomputable def tsK(ws:List (Str×Int))(ks:List Kn)(nx:Int):TS:=⟨ws,ks.map (jnK (ws.map Prod.fst)),nx⟩
theorem b1u(ks:List Kn)(i:Int):(getK (ks.map eKn) (Sum.inl i)).isSome=decide (i∈ks.map Prod.fst):=by
 induction ks with
 |nil=>rfl
 |cons k ks ih=>
   unfold getK at ih |-
   simp only[List.map_cons,List.find?_cons,eKn,Sum.inl.injEq,List.mem_cons]
   by_cases h:k.1=i
   . simp[h]
   . have h': ¬ i=k.1:=fun z=>h z.symm
     simp only[h,h',decide_false,false_or];exact ih
theorem b0i(ks:List Kn)(i:Int):a5y (ks.map eKn) (Sum.inl i)=(ks.filter fun k=>decide (k.1≠i)).map eKn:=by
 unfold a5y
 rw[List.filter_map]
 congr 1
 apply List.filter_congr
 intro j _
 simp[Function.comp,eKn]
theorem a5u{d1 d2:Addr}{n:Int}:(fsT d1 d2 n).lookup ("take_join":Str)=none:=rfl
theorem b7c{ws:List (Str×Int)}{ks:List Kn}{nx i:Int}(h:i∈ks.map Prod.fst):(tsK ws ks nx).hasJ i=true:=by
 obtain⟨k,hk,rfl⟩:=List.mem_map.mp h
 exact List.any_eq_true.mpr ⟨_,List.mem_map.mpr ⟨k,hk,rfl⟩,decide_eq_true rfl⟩
structure Sound(S:TS):Prop where
 fit:Fit S
 nd:(S.js.map Prod.fst).Nodup
 une: ∀j∈S.js,j.2.2.1≠j.2.2.2
noncomputable def eO:Option Fr->D |none=> .non |some x=>eF x
noncomputable def tsO(ws:List (Str×Int))(sh:Sh):List (Option Fr):=ws.map fun w=>if w.1∈sh.map Prod.fst then some (lk sh w.1)else none
theorem b0x(ws:List (Str×Int))(sh:Sh):told ws sh=(tsO ws sh).map eO:=by
 unfold told tsO
 rw[List.map_map,List.map_map]
 refine List.map_congr_left fun w _=> ?_
 show(getK (a2o sh) (Sum.inr w.1)).getD .non=eO (if w.1∈sh.map Prod.fst then some (lk sh w.1)else none)
 by_cases h:w.1∈sh.map Prod.fst
 . rw[a5q h,if_pos h];rfl
 . rw[a5p h,if_neg h];rfl
theorem o_at{ts:List (Option Fr)}{i:Nat}(h:i<ts.length):atI (ts.map eO) (i:Int)=some (eO (ts.getD i none)):=by
 rw[a51 _ _ (by simpa using h),List.getElem_map,List.getD_eq_getElem?_getD,List.getElem?_eq_getElem h];rfl
noncomputable def encL:Option (List (Option Fr))->D |none=> .non |some l=> .lst (l.map eO)
theorem gd_o(o:Option Fr):Gd 1 (eO o):=by
 cases o with
 |none=>exact .non _
 |some x=>exact gd_f x
theorem gd_os(l:List (Option Fr)):Gd 2 (.lst (l.map eO)):= .lst _ _ fun d hd=>by
 obtain⟨o,_,rfl⟩:=List.mem_map.mp hd
 exact gd_o o
noncomputable def encR:Option (List (Int×Str))->D |none=> .non |some rs=> .lst (rs.map eSt)
noncomputable def a7v(S:TS)(t:TT):Option (List (Option Fr)):=match S.js.find? (a1r S.ws (a0e S.ws t))with |some _=>none |none=>some (tsO S.ws (a0e S.ws t))
theorem jam_iff{ws:List (Str×Int)}{js:List Jn}{t:TT}:js.find? (a1r ws (a0e ws t))=none↔a4d ws js t:=by
 rw[List.find?_eq_none]
 constructor
 . intro h j hj h1
   refine Decidable.byContradiction fun ne=>h j hj ?_
   unfold a1r
   rw[a0n,decide_eq_true h1,eqD_f,decide_eq_false ne];rfl
 . intro h j hj z
   have:=b3i z
   rw[a0n]at this
   exact this.2 (h j hj this.1)
theorem b6l{S:TS}{t:TT}:a7v S t=none↔ ¬ a4d S.ws S.js t:=by
 rw[<-jam_iff]
 unfold a7v
 cases S.js.find? (a1r S.ws (a0e S.ws t))<;>simp
theorem b6k{S:TS}{t:TT}(h:a4d S.ws S.js t):a7v S t=some (tsO S.ws (a0e S.ws t)):=by
 unfold a7v
 rw[jam_iff.mpr h]
theorem b48(ws:List (Str×Int))(sh:Sh):(tsO ws sh).length=ws.length:=List.length_map ..
theorem a9k{ws:List (Str×Int)}{t:TT}{k:Nat}(h:k<ws.length):(tsO ws (a0e ws t)).getD k none=if at_ (ws.map Prod.fst) k∈names t then some (lk (a0e ws t) (at_ (ws.map Prod.fst) k))else none:=by
 have e:at_ (ws.map Prod.fst) k=(ws[k]).1:=by
   unfold at_
   rw[List.getD_eq_getElem?_getD,List.getElem?_map,List.getElem?_eq_getElem h];rfl
 unfold tsO
 rw[List.getD_eq_getElem?_getD,List.getElem?_map,List.getElem?_eq_getElem h,e,a0n];rfl
theorem knet{spn:Nat}{ws:List (Str×Int)}{ks:List Kn}{nx:Int}(r:Rw spn ws (ks.map Prod.snd)){a b:Nat}(ha:a<ws.length)(hw:ws.length<=676)(hb:b<ws.length):Reach (tsK ws ks nx).js (at_ (ws.map Prod.fst) a) (at_ (ws.map Prod.fst) b)↔Hung (esOf (ks.map Prod.snd)) a b:=by
 have nd:=r.nodup hw
 have hl:(ws.map Prod.fst).length=ws.length:=List.length_map ..
 have kin: ∀k∈ks,k.2.2.1<ws.length/\k.2.2.2<ws.length:=fun k hk=>by
   obtain⟨_,h1,h2,_⟩:=r.kinds k.2 (List.mem_map.mpr ⟨k,hk,rfl⟩)
   exact⟨h1,h2⟩
 rw[<-b1s]
 constructor
 . intro R
   have key: ∀x,Reach (tsK ws ks nx).js (at_ (ws.map Prod.fst) a) x-> ∃c,c<ws.length/\x=at_ (ws.map Prod.fst) c/\Hung ((ks.map Prod.snd).map ent) a c:=by
     intro x R
     induction R with
     |refl=>exact⟨a,ha,rfl,.refl⟩
     |step _ hl' ih=>
       obtain⟨c,hc,rfl,hh⟩:=ih
       obtain⟨j,hj,_,_,e3⟩:=a09 hl'
       obtain⟨k,hk,rfl⟩:=List.mem_map.mp hj
       obtain⟨k1,k2⟩:=kin k hk
       have me:ent k.2∈(ks.map Prod.snd).map ent:=List.mem_map.mpr ⟨k.2,List.mem_map.mpr ⟨k,hk,rfl⟩,rfl⟩
       rcases e3 with⟨e3,e4⟩ | ⟨e3,e4⟩
       . have e3:at_ (ws.map Prod.fst) k.2.2.1=at_ (ws.map Prod.fst) c:=e3
         have:=a34 nd (by rw[hl];exact k1) (by rw[hl];exact hc) e3
         subst this
         exact⟨k.2.2.2,k2,e4.symm,.to (e:=ent k.2) hh me⟩
       . have e3:at_ (ws.map Prod.fst) k.2.2.2=at_ (ws.map Prod.fst) c:=e3
         have:=a34 nd (by rw[hl];exact k2) (by rw[hl];exact hc) e3
         subst this
         exact⟨k.2.2.1,k1,e4.symm,.fro (e:=ent k.2) hh me⟩
   obtain⟨c,hc,e,hh⟩:=key _ R
   rw[a34 nd (by rw[hl];exact hb) (by rw[hl];exact hc) e];exact hh
 . intro hh
   clear hb
   induction hh with
   |refl=>exact .refl
   | @to e _ he ih=>
     obtain⟨k',hk',rfl⟩:=List.mem_map.mp he
     obtain⟨k,hk,rfl⟩:=List.mem_map.mp hk'
     exact .step (l:=(k.1,k.2.1,at_ (ws.map Prod.fst) k.2.2.2)) ih (a1i (j:=jnK (ws.map Prod.fst) k) (List.mem_map.mpr ⟨k,hk,rfl⟩)).1
   | @fro e _ he ih=>
     obtain⟨k',hk',rfl⟩:=List.mem_map.mp he
     obtain⟨k,hk,rfl⟩:=List.mem_map.mp hk'
     exact .step (l:=(k.1,k.2.1,at_ (ws.map Prod.fst) k.2.2.1)) ih (a1i (j:=jnK (ws.map Prod.fst) k) (List.mem_map.mpr ⟨k,hk,rfl⟩)).2
theorem b76{ws:List (Str×Int)}{t t':TT}(hn: ∀n,n∈names t'↔n∈names t)(hs: ∀n∈names t,lk (a0e ws t') n=lk (a0e ws t) n):tsO ws (a0e ws t')=tsO ws (a0e ws t):=by
 unfold tsO
 refine List.map_congr_left fun w _=> ?_
 rw[a0n,a0n]
 by_cases h:w.1∈names t
 . rw[if_pos h,if_pos ((hn _).mpr h),hs _ h]
 . rw[if_neg h,if_neg fun z=>h ((hn _).mp z)]
theorem b6e{ws:List (Str×Int)}(ht:a3e ws){js:List Jn}{j:Jn}{x:Str}{t t':TT}(g:Grown js x t)(c:Closed js t)(g':Grown (js++[j]) x t')(c':Closed (js++[j]) t')(h:j.2.2.1∈names t↔j.2.2.2∈names t)(nj':a4d ws (js++[j]) t'):tsO ws (a0e ws t')=tsO ws (a0e ws t):=
 b76 (b4m g c g' c' h) fun n hn=>((b88 ht (fun i hi=>List.mem_append_left _ hi) g c g' c' nj').2 n hn).symm
theorem lk_bg{ws:List (Str×Int)}(ht:a3e ws){js:List Jn}{x:Str}{t:TT}(g:Grown js x t)(hl:t.length<=100){n:Str}(hn:n∈names t):Bg 3000 (lk (a0e ws t) n).1/\Bg 3000 (lk (a0e ws t) n).2:=by
 obtain⟨e,he,_,h2⟩:=b29 (sh:=a0e ws t) (n:=n) (by rw[a0n];exact hn)
 obtain⟨k1,k2,k3⟩:=(a2j ht g e he).up hl
 rw[h2]
 refine⟨k3,?_⟩
 unfold Bg
 have e1:((e.2.2.natAbs:Nat):Int)=e.2.2:=by omega
 have k2:((e.2.2.natAbs:Nat):Int)< ((2^(30 *100):Nat):Int):=by rw[e1,Int.natCast_pow];exact k2
 exact Int.ofNat_lt.mp k2
theorem a3t{ws:List (Str×Int)}(nd:(ws.map Prod.fst).Nodup){c:Nat}(h:c<ws.length):a0j ws (at_ (ws.map Prod.fst) c)=(ws[c]).2:=by
 induction ws generalizing c with
 |nil=>cases h
 |cons x ws ih=>
   rw[List.map_cons,List.nodup_cons]at nd
   cases c with
   |zero=>simp[a0j,at_]
   |succ c=>
     have hc:c<ws.length:=by simpa using h
     have e:at_ ((x::ws).map Prod.fst) (c+1)=at_ (ws.map Prod.fst) c:=rfl
     have hne:x.1≠at_ (ws.map Prod.fst) c:=fun z=>nd.1 (by rw[z];exact a1u (by simpa using hc))
     rw[e]
     have:=ih nd.2 hc
     unfold a0j at this |-
     rw[List.find?_cons,decide_eq_false hne]
     exact this
noncomputable def knOf(js:List (Str×Nat×Nat)):List Kn:=js.mapIdx fun i j=>((i:Int),j)
theorem b3g(js:List (Str×Nat×Nat)):(knOf js).length=js.length:=List.length_mapIdx
theorem b6y(js:List (Str×Nat×Nat))(j:Str×Nat×Nat):knOf (js++[j])=knOf js++[((js.length:Int),j)]:=by
 unfold knOf;rw[List.mapIdx_append];simp
theorem b3f(js:List (Str×Nat×Nat)):(knOf js).map Prod.snd=js:=by
 unfold knOf
 refine List.ext_getElem (by rw[List.length_map,List.length_mapIdx]) fun i h1 h2=> ?_
 rw[List.getElem_map,List.getElem_mapIdx]
theorem knOf_lt{js:List (Str×Nat×Nat)}{k:Kn}(h:k∈knOf js):k.1< (js.length:Int):=by
 unfold knOf at h
 obtain⟨i,hi,rfl⟩:=List.mem_mapIdx.mp h
 exact Int.ofNat_lt.mpr hi
theorem knOf_nd(js:List (Str×Nat×Nat)):((knOf js).map Prod.fst).Nodup:=by
 unfold knOf
 refine List.pairwise_iff_getElem.mpr fun i j hi hj hij=> ?_
 rw[List.getElem_map,List.getElem_map,List.getElem_mapIdx,List.getElem_mapIdx]
 intro z
 have z:(i:Int)=(j:Int):=z
 omega
theorem tsK_of(ws:List (Str×Int))(js:List (Str×Nat×Nat)):tsOf ws js=tsK ws (knOf js) js.length:=by
 unfold tsOf tsK
 congr 1
 unfold b1n knOf
 refine List.ext_getElem (by simp) fun i h1 h2=> ?_
 rw[List.getElem_map,List.getElem_mapIdx,List.getElem_mapIdx]
 rfl
theorem b8i{M:Mem}{p q:Addr}{a o u:MO}(h:p≠q)(hp:M p=some a):put (put (put M p o) q u) p a=put M q u:=by
 rw[a25 (Ne.symm h),a1b]
 funext x
 by_cases hq:x=q
 . subst hq;rw[a0c,a0c]
 . rw[a0g hq,a0g hq]
   by_cases hx:x=p
   . subst hx;rw[a0c,hp]
   . rw[a0g hx]
theorem b63(ws:List (Str×Int))(ks:List Kn)(nx nx':Int)(k:Kn):(tsK ws (ks++[k]) nx').js=(tsK ws ks nx).js++[jnK (ws.map Prod.fst) k]:=by
 unfold tsK
 show List.map _ _=List.map _ _++_
 rw[List.map_append];rfl
noncomputable def eQ(x:Int×Nat):D:= .tup [.int x.1,.int x.2]
noncomputable def stOf(ns:List Str)(x:Int×Nat):Int×Str:=(x.1,at_ ns x.2)
theorem at_of{ns:List Str}{x:Str}(h:x∈ns): ∃i,i<ns.length/\at_ ns i=x:=by
 obtain⟨i,hi,rfl⟩:=List.getElem_of_mem h
 exact⟨i,hi,by unfold at_;rw[List.getD_eq_getElem?_getD,List.getElem?_eq_getElem hi];rfl⟩
def b5e:SpA:=fun ds M Q _=> ∃(pd:Addr) (rs:List (Int×Str)) (ws:List (Str×Int)) (ks:List Kn),ds=[.lst (rs.map eSt),.lst (ws.map eW),.obj pd]/\M pd=some (.dic (ks.map eKn))/\ws.length<=100/\rs.length<=500/\(ws.map Prod.fst).Nodup/\(∀s∈rs,s.1∈ks.map Prod.fst/\s.2∈ws.map Prod.fst)/\
 ∀qs:List (Int×Nat),qs.map (stOf (ws.map Prod.fst))=rs->(∀q∈qs,q.1∈ks.map Prod.fst/\q.2<ws.length)-> ∀x,M x=none->Q (.obj x) (put M x (.lst (qs.map eQ)))
theorem a95{f:Addr}{fd:FuncData}(Fn:Fun K "_law_steps" "_law_steps" a38 f fd)(T:Txt K mg)(h_law_whole:Has P w K mg base (CXE P w) 1 "_law_whole" ["_law_found"] (a0k K a6k)):FnOk P w K mg base (CXE P w) 2 f fd ["_law_way","_law_wheels","_law_left"] (a0k K b5e):=by
 refine Fn.okA sc_law_steps (fun ds M Q E h=> ?_) ?_
 . obtain⟨_,_,_,_,rfl,_⟩:=h;rfl
 intro cdv A outer s H E F0 ds M Q Ea hr ct hsp
 obtain⟨pd,rs,ws,ks,rfl,hpd,hwl,hrl,nd,hin,q⟩:=hsp
 refine⟨_,(a0b (b2q (i:=3) sc_law_steps.nd rfl rfl (Nc:=["_law_row"]) (n:=1) (fs:=[]) b0j rfl (a1z (paV (pv 1))) (fun _ _ _ _ _=>(a0r (i:=0) (show List.Nodup (["_law_row"]:List Str)by decide+kernel) rfl (Or.inl rfl))) (fun _ _ _ _ _=>a9b) (fun _ _ _ _ _=>(paIx a0i lIx (paV (pv 0)) paI (fun _ _=>rfl))) (by rfl))
     (a0b (sIf (a5f (ptV (a6y (T:="list") (x:="list") (by decide) (by rfl) T.isinstance (by rfl) T.list boot_list (paV (pv 0)))))
       (a0h (sRet (a6x a0f)))
       a0w)
     (a0b (sSet (i:=4) sc_law_steps.nd rfl (Or.inl rfl) (a31 a0f))
     (a0b (sFor ct (a1z (paV (pv 0))) (a0r (i:=5) sc_law_steps.nd rfl (Or.inl rfl))
       (a0b (sIf ((pwOr (a5f (ptV (a6y (T:="tuple") (x:="tuple") (by decide) (by rfl) T.isinstance (by rfl) T.tuple boot_tuple (paV (pv 5))))) (pwOr (a0v (a2r (un64 ct)) lNe (a0z a0s lLen (by rfl) T.len PySem.boot_len (a0a (paV (pv 5)) a0f)) paI (a0m _)) (pwOr (a5f (ptV (a04 h_law_whole (hr.mono (by decide)) (by rfl) ct (a0a (paIx a0i lIx (paV (pv 5)) paI (fun _ _=>rfl)) a0f)))) (a52 (a5f (ptV (a6y (T:="str") (x:="str") (by decide) (by rfl) T.isinstance (by rfl) T.str boot_str (paIx a0i lIx (paV (pv 5)) paI (fun _ _=>rfl)))))))))).pt
         (a0h (sRet (a6x a0f)))
         a0w)
       (a0b (sIf ((pwOr (ptPC (a3u (un1 ct) (paIx a0i lIx (paV (pv 5)) paI (fun _ _=>rfl)) (paV (pv 2)))) (a52 (a0v a4q b3d (paIx a0i lIx (paV (pv 5)) paI (fun _ _=>rfl)) (paV (pv 3)) (by with_unfolding_all rfl))))).pt
         (a0h (sRet (a6x a0f)))
         a0w)
       (a0h (a1y (paBM PySem.F.plainAttrs_list PySem.F.slot_list_append PySem.F.type_list_append a03 a1n (paV (pv 4)) (a0a (a2b (a0a (paIx a0i lIx (paV (pv 5)) paI (fun _ _=>rfl)) (a0a (paBM PySem.F.plainAttrs_list PySem.F.slot_list_index PySem.F.type_list_index b85 lIndex (paV (pv 3)) (a0a (paIx a0i lIx (paV (pv 5)) paI (fun _ _=>rfl)) a0f)) a0f))) a0f)))))))
     (a0h (sRet (paV (pv 4)))))))),?_⟩
 have hnl:(ws.map Prod.fst).length=ws.length:=List.length_map ..
 have hnames:(ws.map eW).map row0=(ws.map Prod.fst).map D.str:=by rw[List.map_map,List.map_map];rfl
 refine seqV (.lst ((ws.map Prod.fst).map D.str)) M (fun R h=>b9j (ws.map eW) row0 (fun R h=>h) (by rw[List.length_map];omega) (fun x hx M' R h=>by
   obtain⟨w',_,rfl⟩:=List.mem_map.mp hx
   exact⟨trivial,h⟩) (by rw[hnames];exact h)) ?_
 have e0:(!("list":String)== "list")=false:=by decide
 refine a1f (fun R h=>by
   simp! only[b40,a85,a4w,e0]
   exact h) ?_
 generalize hns:ws.map Prod.fst=ns at *
 refine cut1 (fun Γ' M1=> ∃x,M x=none/\Γ'=[some (.lst (rs.map eSt)),some (.lst (ws.map eW)),some (.obj pd),some (.lst (ns.map D.str)),some (.obj x),none]/\M1=put M x (.lst [])) ?_ ?_
 . rintro Γ' M1 ⟨x,hx,rfl,rfl⟩
   have hpx: ∀o,put M x o pd=some (.dic (ks.map eKn)):=fun o=>by rw[a0g (a5j hpd hx).symm];exact hpd
   refine b4w (d:= .lst (rs.map eSt)) (ds:=rs.map eSt) (fun R h=>h) rfl ?_
   refine LoopP.by2 (fun i Γ M'=> ∃(qs:List (Int×Nat)) (o5:Option D),Γ=[some (.lst (rs.map eSt)),some (.lst (ws.map eW)),some (.obj pd),some (.lst (ns.map D.str)),some (.obj x),o5]/\M'=put M x (.lst (qs.map eQ))/\qs.map (stOf ns)=rs.take i/\ ∀q∈qs,q.1∈ks.map Prod.fst/\q.2<ns.length)
     ⟨[],_,rfl,rfl,rfl,fun _ h=>(List.not_mem_nil h).elim⟩ (fun _ _ _ _=>rfl) ?_ ?_
   . rintro E' i Γ M' hrt hi hnx ⟨qs,o5,rfl,rfl,hq,hqs⟩
     dsimp only at hi
     have hi':i<rs.length:=by simpa using hi
     obtain⟨g1,g3⟩:=hin _ (List.getElem_mem hi')
     have htk:=List.take_succ_eq_append_getElem hi'
     have hql:qs.length=i:=by
       have:=congrArg List.length hq
       rw[List.length_map,List.length_take]at this
       omega
     simp only[a1t rs eSt i hi',gaN,List.set_cons_zero,List.set_cons_succ]
     generalize rs[i]=sx at g1 g3 htk
     obtain⟨n,y⟩:=sx
     dsimp only at g1 g3
     obtain⟨t,ht,ety⟩:=at_of g3
     have e3:(!("tuple":String)== "tuple")=false:=by decide
     have e4:(!("str":String)== "str")=false:=by decide
     have e5:(!decide ((2:Int)=2))=false:=by decide
     have fl:(flD (.str y)&&(ns.map D.str).all flD)=true:=by rw[b3n];rfl
     have eix:idxD (.str y) (ns.map D.str)=some t:=by rw[<-ety];exact idx_at nd ht
     simp only[eSt]
     refine a1f (fun R h=>by
       simp! only[b40,a85,a4w,e3,e4,e5,a6k]
       exact⟨_,rfl,rfl,h⟩) ?_
     refine a1f (fun R h=>by
       simp! only[fl,b3k,hpx,b1u,decide_eq_true g1,decide_eq_true g3,Bool.not_true]
       exact h) ?_
     refine a7x .non (put M x (.lst ((qs++[(n,t)]).map eQ))) (fun R h=>by
       simp! only[aBM,a2c,a0c,oAppend,a1b,oIndex,eix,List.length_map]
       rw[List.map_append]at h
       exact⟨b3n ns,rfl,by decide,by omega,h⟩) ?_
     refine hnx _ _ ⟨_,_,rfl,rfl,?_,fun q hq'=> ?_⟩
     . rw[List.map_append,hq,htk,<-ety];rfl
     . rcases List.mem_append.mp hq' with hq' |hq'
       . exact hqs q hq'
       . rw[List.mem_singleton.mp hq'];exact⟨g1,ht⟩
   . rintro Γ M' ⟨qs,o5,rfl,rfl,hq,hqs⟩
     have el:(rs.map eSt).length=rs.length:=List.length_map ..
     dsimp only at hq
     rw[el,List.take_length]at hq
     rw[hnl]at hqs
     exact .now (q qs hq hqs x hx)
 . intro rest hrest
   simp! only[]
   exact⟨Nat.zero_le _,fun x hx=>hrest _ _ ⟨x,hx,rfl,rfl⟩⟩
structure Th(M M':Mem)(p r z:Addr)(a b c:MO):Prop where
 p1:M' p=some a
 r1:M' r=some b
 z1:M' z=some c
 pr:p≠r
 pz:p≠z
 rz:r≠z
 sub:L2.Sub M M'
 p0:M p=none
 r0:M r=none
 z0:M z=none
section
variable {M M':Mem}{p r z:Addr}{a b c:MO}
theorem Th.s2(R:Th M M' p r z a b c)(b':MO):Th M (put M' r b') p r z a b' c:=
 ⟨by rw[a0g R.pr];exact R.p1,a0c,by rw[a0g R.rz.symm];exact R.z1,R.pr,R.pz,R.rz,b5b R.sub R.r0,R.p0,R.r0,R.z0⟩
theorem Th.s3(R:Th M M' p r z a b c)(c':MO):Th M (put M' z c') p r z a b c':=
 ⟨by rw[a0g R.pz];exact R.p1,by rw[a0g R.rz];exact R.r1,a0c,R.pr,R.pz,R.rz,b5b R.sub R.z0,R.p0,R.r0,R.z0⟩
end
theorem a8e{js:List Jn}{a b:Str}{s:Int×Str}{st:List (Int×Str)}(h:Way js a (s::st) b): ∃l∈lead js a,l.1=s.1/\l.2.2=s.2/\Way js s.2 st b:=by
 generalize e:s::st=rs at h
 cases h with
 |nil=>cases e
 |cons hl h=>
   cases e
   exact⟨_,hl,rfl,rfl,h⟩
theorem at_last(l:List D)(d:D):atI (l++[d]) (-1)=some d:=by
 have e:ixN (l++[d]).length (-1)=some l.length:=by
   unfold ixN
   rw[if_neg (by decide),if_pos (by simp;omega)]
   congr 1
   simp
   omega
 unfold atI
 rw[e]
 simp
theorem Bg.right{x y:Int}(h:Bg 30 y):IntMulOk x y:=IntMulOk.of_right (intBits_le_iff.mpr (h.up (by decide)))
theorem b3o(ns:List Int):(ns.map D.int).all flD=true:=by
 rw[List.all_map,List.all_eq_true];intros;rfl
theorem b42(ws:List (Str×Int))(js:List Jn)(a:Str)(s:Int×Str)(st:List (Int×Str))(f:Fr):wayF ws js a (s::st) f=wayF ws js s.2 st (f.1 * (byF (kindOf js s.1) (a0j ws a) (a0j ws s.2)).1,f.2 * (byF (kindOf js s.1) (a0j ws a) (a0j ws s.2)).2):=rfl
theorem a89{ks:List Kn}(nd:(ks.map Prod.fst).Nodup){k:Kn}(hk:k∈ks):getK (ks.map eKn) (Sum.inl k.1)=some (eK k.2):=by
 induction ks with
 |nil=>cases hk
 |cons x ks ih=>
   rw[List.map_cons,List.nodup_cons]at nd
   unfold getK at ih |-
   simp only[List.map_cons,List.find?_cons,eKn,Sum.inl.injEq]
   rcases List.mem_cons.mp hk with rfl |hk
   . simp
   . have hne: ¬ x.1=k.1:=fun z=>nd.1 (by rw[z];exact List.mem_map.mpr ⟨k,hk,rfl⟩)
     simp only[hne,decide_false]
     exact ih nd.2 hk
theorem kat{s:Nat}{ws:List (Str×Int)}{ks:List Kn}{nx:Int}(r:Rw s ws (ks.map Prod.snd))(hw:ws.length<=676){c t:Nat}{n:Int}(hc:c<ws.length)(ht:t<ws.length){l:Ld}(hl:l∈lead (tsK ws ks nx).js (at_ (ws.map Prod.fst) c))(h1:l.1=n)(h2:l.2.2=at_ (ws.map Prod.fst) t):
   ∃k∈ks,k.1=n/\l.2.1=k.2.1/\((k.2.2.1=c/\k.2.2.2=t)\/(k.2.2.1=t/\k.2.2.2=c)):=by
 have hnl:(ws.map Prod.fst).length=ws.length:=List.length_map ..
 have nd:=r.nodup hw
 obtain⟨j,hj,e1,e2,e3⟩:=a09 hl
 obtain⟨k,hk,rfl⟩:=List.mem_map.mp hj
 obtain⟨_,k1,k2,_⟩:=r.kinds k.2 (List.mem_map.mpr ⟨k,hk,rfl⟩)
 refine⟨k,hk,by rw[<-h1,<-e1];rfl,e2.symm,?_⟩
 rw[h2]at e3
 rcases e3 with⟨e3,e4⟩ | ⟨e3,e4⟩
 . exact .inl ⟨a34 nd (by omega) (by omega) e3,a34 nd (by omega) (by omega) e4⟩
 . exact .inr ⟨a34 nd (by omega) (by omega) e4,a34 nd (by omega) (by omega) e3⟩
theorem b6x{s:Nat}{ws:List (Str×Int)}{ks:List Kn}{nx:Int}(r:Rw s ws (ks.map Prod.snd)){a b:Str}{st:List (Int×Str)}(h:Way (tsK ws ks nx).js a st b): ∀x∈st,x.1∈ks.map Prod.fst/\x.2∈ws.map Prod.fst:=by
 induction h with
 |nil=>intro x hx;cases hx
 |cons hl _ ih=>
   intro x hx
   rcases List.mem_cons.mp hx with rfl |hx
   . obtain⟨j,hj,e1,_,e3⟩:=a09 hl
     obtain⟨k,hk,rfl⟩:=List.mem_map.mp hj
     obtain⟨_,k1,k2,_⟩:=r.kinds k.2 (List.mem_map.mpr ⟨k,hk,rfl⟩)
     refine⟨List.mem_map.mpr ⟨k,hk,e1⟩,?_⟩
     rcases e3 with⟨_,e3⟩ | ⟨_,e3⟩
     . rw[<-e3];exact a1u (by simpa using k2)
     . rw[<-e3];exact a1u (by simpa using k1)
   . exact ih x hx
theorem b2b{ws:List (Str×Int)}{ks:List Kn}{nx:Int}(nd:(ks.map Prod.fst).Nodup):((tsK ws ks nx).js.map Prod.fst).Nodup:=by
 show((ks.map (jnK (ws.map Prod.fst))).map Prod.fst).Nodup
 rw[List.map_map]
 exact nd
def a4g:SpA:=fun ds M Q _=> ∃(pd:Addr) (rs:List (Int×Str)) (s:Nat) (ws:List (Str×Int)) (ks:List Kn) (nx:Int) (bs:List Bool) (x a:Str),ds=[.lst (rs.map eSt),.lst (ws.map eW),.obj pd,.lst (bs.map D.bl)]/\M pd=some (.dic (ks.map eKn))/\Rw s ws (ks.map Prod.snd)/\(ks.map Prod.fst).Nodup/\ws.length<=80/\rs.length<=500/\Ring ws (tsK ws ks nx).js x a rs/\bs.length=ws.length/\
 (∀b,b<ws.length->Reach (tsK ws ks nx).js x (at_ (ws.map Prod.fst) b)->bs.getD b false=true)/\ ∀M',L2.Sub M M'->Q (.bl true) M'
theorem a8y{f:Addr}{fd:FuncData}(Fn:Fun K "_law_jammed" "_law_jammed" a3i f fd)(T:Txt K mg)(h_law_steps:Has P w K mg base (CXE P w) 2 "_law_steps" ["_law_way","_law_wheels","_law_left"] (a0k K b5e))(h_law_by:Has P w K mg base (CXE P w) 1 "_law_by" ["_law_kind","_law_one","_law_other"] (a0k K spBy)):FnOk P w K mg base (CXE P w) 3 f fd ["_law_way","_law_wheels","_law_left","_law_hung_here"] (a0k K a4g):=by
 refine Fn.okA sc_law_jammed (fun ds M Q E h=> ?_) ?_
 . obtain⟨_,_,_,_,_,_,_,_,_,rfl,_⟩:=h;rfl
 intro cdv A outer s H E F0 ds M Q Ea hr ct hsp
 obtain⟨pd,rs,sn0,ws,ks,nx,bs,x,a,rfl,hpd,rw',knd,hwl,hrl,ring,hbl,hbs,q⟩:=hsp
 refine⟨_,(a0b (sSet (i:=4) sc_law_jammed.nd rfl (Or.inl rfl) (a04 h_law_steps (hr.mono (by decide)) (by rfl) ct (a0a (paV (pv 0)) (a0a (paV (pv 1)) (a0a (paV (pv 2)) a0f)))))
     (a0b (sIf ((pwOr (a0v a7r lLt (a0z a0s lLen (by rfl) T.len PySem.boot_len (a0a (paV (pv 4)) a0f)) paI (a0m _)) (a52 (a5f (ptV (paIx a0i lIx (paV (pv 3)) (paIx a0i lIx (paIx a0i lIx (paV (pv 4)) (paUn a9j lNeg paI) (fun _ _=>rfl)) paI (fun _ _=>rfl)) (fun _ _=>rfl))))))).pt
       (a0h (sRet paB))
       a0w)
     (a0b (sSet (i:=5) sc_law_jammed.nd rfl (Or.inl rfl) (paIx a0i lIx (paIx a0i lIx (paV (pv 4)) (paUn a9j lNeg paI) (fun _ _=>rfl)) paI (fun _ _=>rfl)))
     (a0b (sSet (i:=6) sc_law_jammed.nd rfl (Or.inl rfl) paI)
     (a0b (sSet (i:=7) sc_law_jammed.nd rfl (Or.inl rfl) paI)
     (a0b (sSet (i:=8) sc_law_jammed.nd rfl (Or.inl rfl) (a31 a0f))
     (a0b (sSet (i:=9) sc_law_jammed.nd rfl (Or.inl rfl) (a31 a0f))
     (a0b (sFor ct (a1z (paV (pv 4))) (a6i rfl (a0u (a0r (i:=10) sc_law_jammed.nd rfl (Or.inl rfl)) (a0u (a0r (i:=11) sc_law_jammed.nd rfl (Or.inl rfl)) a2p)))
       (a0b (sAsg (a3n (un1 ct) (paV (pv 2)) (paV (pv 10)) (fun _ _=>rfl)) (a6i rfl (a0u (a0r (i:=12) sc_law_jammed.nd rfl (Or.inl rfl)) (a0u (a0r (i:=13) sc_law_jammed.nd rfl (Or.inl rfl)) (a0u (a0r (i:=14) sc_law_jammed.nd rfl (Or.inl rfl)) a2p)))))
       (a0b (sIf ((pwOr (a0v a90 lIn (paV (pv 10)) (paV (pv 8)) (by with_unfolding_all rfl)) (pwOr (a0v a90 lIn (paV (pv 11)) (paV (pv 9)) (by with_unfolding_all rfl)) (a52 ((b8h (a0v (a2r (un64 ct)) lNe (a2b (a0a (paV (pv 13)) (a0a (paV (pv 14)) a0f))) (a2b (a0a (paV (pv 5)) (a0a (paV (pv 11)) a0f))) (a0m _)) (b2u (a0v (a2r (un64 ct)) lNe (a2b (a0a (paV (pv 13)) (a0a (paV (pv 14)) a0f))) (a2b (a0a (paV (pv 11)) (a0a (paV (pv 5)) a0f))) (a0m _))))).pt)))).pt
         (a0h (sRet paB))
         a0w)
       (a0b (sSet (i:=15) sc_law_jammed.nd rfl (Or.inl rfl) (a04 h_law_by (hr.mono (by decide)) (by rfl) ct (a0a (paV (pv 12)) (a0a (paIx a0i lIx (paIx a0i lIx (paV (pv 1)) (paV (pv 5)) (fun _ _=>rfl)) paI (fun _ _=>rfl)) (a0a (paIx a0i lIx (paIx a0i lIx (paV (pv 1)) (paV (pv 11)) (fun _ _=>rfl)) paI (fun _ _=>rfl)) a0f)))))
       (a0b (sSet (i:=6) sc_law_jammed.nd rfl (Or.inl rfl) (paOp a2g lMul (paV (pv 6)) (paIx a0i lIx (paV (pv 15)) paI (fun _ _=>rfl))))
       (a0b (sSet (i:=7) sc_law_jammed.nd rfl (Or.inl rfl) (paOp a2g lMul (paV (pv 7)) (paIx a0i lIx (paV (pv 15)) paI (fun _ _=>rfl))))
       (a0b (a1y (paBM PySem.F.plainAttrs_list PySem.F.slot_list_append PySem.F.type_list_append a03 a1n (paV (pv 8)) (a0a (paV (pv 10)) a0f)))
       (a0b (a1y (paBM PySem.F.plainAttrs_list PySem.F.slot_list_append PySem.F.type_list_append a03 a1n (paV (pv 9)) (a0a (paV (pv 11)) a0f)))
       (a0h (sSet (i:=5) sc_law_jammed.nd rfl (Or.inl rfl) (paV (pv 11))))))))))))
     (a0h (sRet (a8u (a2r (un64 ct)) lNe (paV (pv 6)) (paV (pv 7)) (a0m _)))))))))))),?_⟩
 have nd:=rw'.nodup (by omega)
 have hnl:(ws.map Prod.fst).length=ws.length:=List.length_map ..
 refine⟨pd,rs,ws,ks,rfl,hpd,by omega,hrl,nd,b6x rw' ring.way,fun qs hq hqs y hy=> ?_⟩
 obtain⟨st0,n0,er⟩:=ring.last
 have hlen:qs.length=rs.length:=by rw[<-hq,List.length_map]
 obtain⟨q0,ql,eq0,eql⟩: ∃q0 ql,qs=q0++[ql]/\at_ (ws.map Prod.fst) ql.2=a:=by
   have hne:qs≠[]:=by
     intro z
     have:=ring.two
     rw[z]at hlen
     simp at hlen
     omega
   refine⟨qs.dropLast,qs.getLast hne,(List.dropLast_concat_getLast hne).symm,?_⟩
   have h1:(qs.map (stOf (ws.map Prod.fst))).getLast? =some (n0,a):=by rw[hq,er];simp
   rw[List.getLast?_map,List.getLast?_eq_some_getLast hne]at h1
   have h2:=Option.some.inj h1
   exact congrArg Prod.snd h2
 have hqlm:ql∈qs:=by rw[eq0];simp
 have hql:=(hqs ql hqlm).2
 have eal:atI (qs.map eQ) (-1)=some (eQ ql):=by rw[eq0,List.map_append];exact at_last _ _
 have hbt:bs.getD ql.2 false=true:=hbs _ hql (by
   rw[eql]
   obtain⟨z,hz,ez⟩: ∃z∈rs,z.2=a:=⟨(n0,a),by rw[er];simp,rfl⟩
   rw[<-ez];exact ring.hang z hz)
 have htwo:=ring.two
 dsimp only
 refine a1f (fun R h=>by
   simp! only[a0c,eal,eQ,b4z bs ql.2 (by omega),hbt,List.length_map,decide_eq_false (show ¬ (qs.length:Int)<2 by omega),Bool.not_true]
   exact h) ?_
 refine seqV (.int ql.2) _ (fun R h=>by
   simp! only[a0c,eal,eQ]
   exact h) (seqV (.int 1) _ (fun R h=>h) (seqV (.int 1) _ (fun R h=>h) ?_))
 refine cut2 (fun Γ' M1=> ∃g z,Γ'=[some (.lst (rs.map eSt)),some (.lst (ws.map eW)),some (.obj pd),some (.lst (bs.map D.bl)),some (.obj y),some (.int ql.2),some (.int 1),some (.int 1),some (.obj g),some (.obj z),none,none,none,none,none,none]/\Th M M1 y g z (.lst (qs.map eQ)) (.lst []) (.lst [])) ?_ ?_
 . rintro Γ' M1 ⟨g,z,rfl,th⟩
   refine b4w (d:= .obj y) (ds:=qs.map eQ) (fun R h=>h) (by simp only[dr,th.p1]) ?_
   refine LoopP.by2 (fun i Γ M'=> ∃(c:Nat) (top bot:Int) (sn:List Nat) (o10 o11 o12 o13 o14 o15:Option D),Γ=[some (.lst (rs.map eSt)),some (.lst (ws.map eW)),some (.obj pd),some (.lst (bs.map D.bl)),some (.obj y),some (.int c),some (.int top),some (.int bot),some (.obj g),some (.obj z),o10,o11,o12,o13,o14,o15]/\
       Th M M' y g z (.lst (qs.map eQ)) (.lst (((rs.take i).map Prod.fst).map D.int)) (.lst (sn.map iN))/\c<ws.length/\sn.map (at_ (ws.map Prod.fst))=(rs.take i).map Prod.snd/\sn.length<=i/\Way (tsK ws ks nx).js (at_ (ws.map Prod.fst) c) (rs.drop i) a/\wayF ws (tsK ws ks nx).js (at_ (ws.map Prod.fst) c) (rs.drop i) (top,bot)=wayF ws (tsK ws ks nx).js a rs (1,1))
     ⟨ql.2,1,1,[],_,_,_,_,_,_,rfl,th,hql,rfl,Nat.zero_le _,by rw[eql];exact ring.way,by rw[eql];rfl⟩ (fun _ _ _ ⟨_,_,_,_,_,_,_,_,_,_,_,th',_⟩=>by simp only[dr,th'.p1]) ?_ ?_
   . rintro E' i Γ M' hrt hi hnx ⟨c,top,bot,sn,o10,o11,o12,o13,o14,o15,rfl,th',hc,esn,hsl,wy,hF⟩
     dsimp only at hi
     have hi':i<qs.length:=by simpa using hi
     have hir:i<rs.length:=by omega
     have erq:rs[i]=stOf (ws.map Prod.fst) qs[i]:=by
       have h1:rs[i]? =(qs.map (stOf (ws.map Prod.fst)))[i]? :=by rw[hq]
       rw[List.getElem?_map,List.getElem?_eq_getElem hi',List.getElem?_eq_getElem hir]at h1
       exact Option.some.inj h1
     have ed:rs.drop i=rs[i]::rs.drop (i+1):=List.drop_eq_getElem_cons hir
     have htk:=List.take_succ_eq_append_getElem hir
     have hqb:=hqs _ (List.getElem_mem hi')
     rw[ed]at wy hF
     have nj:=ring.joins
     have nw:=ring.wheels
     rw[<-List.take_append_drop i rs,ed,List.map_append,List.map_cons]at nj nw
     rw[erq]at wy hF htk nj nw
     simp only[a1t qs eQ i hi']
     generalize qs[i]=qx at *
     obtain⟨n,t⟩:=qx
     obtain⟨_,ht⟩:=hqb
     dsimp only at ht
     obtain⟨l,hl,l1,l2,wy2⟩:=a8e wy
     have l1:l.1=n:=l1
     have l2:l.2.2=at_ (ws.map Prod.fst) t:=l2
     obtain⟨kk,hkk,rfl,ek,ends⟩:=kat rw' (by omega) hc ht hl l1 l2
     have jm2:kindOf (tsK ws ks nx).js kk.1=kk.2.1:=a5m (j:=jnK (ws.map Prod.fst) kk) (b2b knd) (List.mem_map.mpr ⟨kk,hkk,rfl⟩)
     have hng:kk.1∉(rs.take i).map Prod.fst:=fun h=>(List.nodup_append.mp nj).2.2 _ h _ List.mem_cons_self rfl
     have hts:t∉sn:=by
       intro h
       have h1:at_ (ws.map Prod.fst) t∈sn.map (at_ (ws.map Prod.fst)):=List.mem_map.mpr ⟨t,h,rfl⟩
       rw[esn]at h1
       exact(List.nodup_append.mp nw).2.2 _ h1 _ List.mem_cons_self rfl
     have ekn:=a89 knd hkk
     have e1:=w_at hc
     have e2:=w_at ht
     have t1:=rw'.teeth _ (List.getElem_mem hc)
     have t2:=rw'.teeth _ (List.getElem_mem ht)
     rw[b42]at hF
     have hs1:(stOf (ws.map Prod.fst) (kk.1,t)).1=kk.1:=rfl
     have hs2:(stOf (ws.map Prod.fst) (kk.1,t)).2=at_ (ws.map Prod.fst) t:=rfl
     rw[hs1,hs2,jm2,a3t nd hc,a3t nd ht]at hF
     rw[hs2]at wy2
     obtain⟨y1,y2⟩:=byF_bg (k:=kk.2.1) t1.1 t1.2 t2.1 t2.2
     obtain⟨n,kd,one,other⟩:=kk
     dsimp only at ends hF y1 y2 hng ekn
     have fl1:(flD (.int n)&&(((rs.take i).map Prod.fst).map D.int).all flD)=true:=by rw[b3o];rfl
     have fl2:(flD (.int (t:Int))&&(sn.map iN).all flD)=true:=by rw[b9e];rfl
     simp only[eQ,a5s,a3q,gaNil,gaN,List.set_cons_zero,List.set_cons_succ]
     refine⟨rfl,trivial,?_⟩
     refine cut1 (fun Γ' M2=>M2=M'/\Γ'=[some (.lst (rs.map eSt)),some (.lst (ws.map eW)),some (.obj pd),some (.lst (bs.map D.bl)),some (.obj y),some (.int c),some (.int top),some (.int bot),some (.obj g),some (.obj z),some (.int n),some (.int t),some (.str kd),some (.int one),some (.int other),o15]) ?_ ?_
     . rintro Γ2 M2 ⟨rfl,rfl⟩
       refine a1f (fun R h=>by
         simp! only[th'.r1,th'.z1,fl1,fl2,a87,in_nats,decide_eq_false hts,decide_eq_false hng]
         rcases ends with⟨e1,e2⟩ | ⟨e1,e2⟩
         . rw[e1,e2]
           exact⟨by decide,by decide,a82 (a7c _ _).sh h⟩
         . rw[e1,e2]
           refine⟨by decide,by decide,.inr ⟨(a7c _ _).sh,(a7c _ _).sh⟩,?_⟩
           dsimp only
           refine ite2 (fun _=> ?_) fun _=>h
           exact⟨by decide,by decide,a82 (a7c _ _).sh h⟩) ?_
       refine seqV (eF (byF kd (ws[c]).2 (ws[t]).2)) _ (fun R h=>by
         simp! only[e1,e2,eW,spBy]
         exact⟨_,_,_,rfl,h⟩) ?_
       generalize byF kd (ws[c]).2 (ws[t]).2=yy at *
       refine seqV (.int (top *yy.1)) _ (fun R h=>by simp! only[eF];exact⟨y1.right,h⟩) (seqV (.int (bot *yy.2)) _ (fun R h=>by simp! only[eF];exact⟨y2.right,h⟩) ?_)
       refine b4y .non _ (fun R h=>by
         simp! only[aBM,a2c,th'.r1,oAppend,List.length_map,List.length_take]
         exact⟨by omega,h⟩) ?_
       have th2:=th'.s2 (.lst (((rs.take i).map Prod.fst).map D.int++[.int n]))
       refine b4y .non _ (fun R h=>by
         simp! only[aBM,a2c,th2.z1,oAppend,List.length_map]
         exact⟨by omega,h⟩) ?_
       have th3:=th2.s3 (.lst (sn.map iN++[.int t]))
       refine setV (.int t) _ (fun R h=>h) ?_
       refine hnx _ _ ⟨t,_,_,sn++[t],_,_,_,_,_,_,rfl,?_,ht,?_,by simp;omega,wy2,hF⟩
       . rw[htk,List.map_append,List.map_append,List.map_append]
         exact th3
       . rw[List.map_append,esn,htk,List.map_append];rfl
     . intro rest hrest
       simp! only[th'.sub _ _ hpd,ekn,eK,a5s,a3q,gaNil]
       exact⟨rfl,hrest _ _ ⟨rfl,rfl⟩⟩
   . rintro Γ M' ⟨c,top,bot,sn,o10,o11,o12,o13,o14,o15,rfl,th',hc,esn,hsl,wy,hF⟩
     have el:(qs.map eQ).length=rs.length:=by rw[List.length_map];exact hlen
     dsimp only at hF
     rw[el,List.drop_length]at hF
     have hne:=ring.ne
     rw[<-hF]at hne
     simp! only[]
     have hne: ¬ top=bot:=hne
     rw[decide_eq_false hne,Bool.not_false]
     exact .now (q _ th'.sub)
 . intro rest hrest
   simp! only[]
   refine⟨Nat.zero_le _,fun g hg=>⟨Nat.zero_le _,fun z hz=> ?_⟩⟩
   obtain⟨n1,hg2⟩:=none_of hg
   obtain⟨n2,hz2⟩:=none_of hz
   obtain⟨n3,hz3⟩:=none_of hz2
   refine hrest _ _ ⟨g,z,rfl,by rw[a0g n3.symm,a0g n1.symm,a0c],by rw[a0g n2.symm,a0c],a0c,n1.symm,n3.symm,n2.symm,L2.Sub.trans (.put hy) (L2.Sub.trans (.put hg) (.put hz)),hy,hg2,hz3⟩
theorem a9f{js:List Jn}: ∀{st1 st2:List (Int×Str)}{a c:Str},Way js a (st1++st2) c-> ∃b,Way js a st1 b/\Way js b st2 c
 | [],_,a,_,h=>⟨a,.nil _,h⟩
 |s::st1,st2,a,c,h=>by
   obtain⟨l,hl,e1,e2,h'⟩:=a8e (s:=s) (st:=st1++st2) h
   obtain⟨b,h1,h2⟩:=a9f h'
   refine⟨b,?_,h2⟩
   have:s=(l.1,l.2.2):=by rw[e1,e2]
   rw[this]
   exact .cons hl (by rw[e2];exact h1)
theorem b2a{js:List Jn}{n:Int}{a b:Str}{st:List (Int×Str)}(h:Way js a st b):n∉st.map Prod.fst->Reach (js.filter fun j=>decide (j.1≠n)) a b:=by
 induction h with
 |nil=>intro _;exact .refl
 | @cons a b l st hl h ih=>
   intro hn
   rw[List.map_cons,List.mem_cons,not_or]at hn
   refine Reach.trans (.step .refl (a28 hl fun j hj e=>List.mem_filter.mpr ⟨hj,decide_eq_true fun z=>hn.1 ?_⟩)) (ih hn.2)
   rw[<-z,e]
theorem b5p{ws:List (Str×Int)}{js:List Jn}{x a:Str}{rs:List (Int×Str)}(nd:(js.map Prod.fst).Nodup)(R:Ring ws js x a rs){n:Int}(hn:n∈rs.map Prod.fst){u v:Str}(h:Reach js u v):Reach (js.filter fun j=>decide (j.1≠n)) u v:=by
 obtain⟨s,hs,rfl⟩:=List.mem_map.mp hn
 obtain⟨st1,st2,e⟩:=List.append_of_mem hs
 have nj:=R.joins
 rw[e,List.map_append,List.map_cons,List.nodup_append,List.nodup_cons]at nj
 have hw:=R.way
 rw[e]at hw
 obtain⟨b,w1,w2⟩:=a9f hw
 obtain⟨l,hl,l1,l2,w3⟩:=a8e w2
 have r1:=b2a (n:=s.1) w1 fun z=>nj.2.2 _ z _ List.mem_cons_self rfl
 have r2:=b2a (n:=s.1) w3 nj.2.1.1
 have back:Reach (js.filter fun j=>decide (j.1≠s.1)) s.2 b:=r2.trans r1
 obtain⟨j,hj,e1,_,e3⟩:=a09 hl
 rw[l2]at e3
 induction h with
 |refl=>exact .refl
 | @step c l' _ hl' ih=>
   refine ih.trans ?_
   by_cases hne:l'.1=s.1
   . obtain⟨j',hj',e1',_,e3'⟩:=a09 hl'
     have:j'=j:=uniq nd hj' hj (by rw[e1',hne,e1,l1])
     subst this
     rcases e3 with⟨a1,a2⟩ | ⟨a1,a2⟩<;>rcases e3' with⟨b1,b2⟩ | ⟨b1,b2⟩
     . rw[<-b1,<-b2,a1,a2];exact back.symm
     . rw[<-b1,<-b2,a1,a2];exact back
     . rw[<-b1,<-b2,a1,a2];exact back
     . rw[<-b1,<-b2,a1,a2];exact back.symm
   . exact .step .refl (a28 hl' fun j' hj' e=>List.mem_filter.mpr ⟨hj',decide_eq_true fun z=>hne (by rw[<-e,z])⟩)
structure Sta8(C:Addr)(M:Mem)(p d1 d2 pd:Addr)(spn:Nat)(ws:List (Str×Int))(ks:List Kn)(nx:Int)(n:Nat):Prop where
 tr:Tr C M p d1 d2 (tsK ws ks nx)
 k1:M pd=some (.dic (ks.map eKn))
 kd1:pd≠d1
 kd2:pd≠d2
 rw':Rw spn ws (ks.map Prod.snd)
 nd:(ks.map Prod.fst).Nodup
 wl:ws.length<=40
 kl:ks.length<=n
section
variable {C:Addr}{M M':Mem}{p d1 d2 pd:Addr}{spn:Nat}{ws:List (Str×Int)}{ks:List Kn}{nx:Int}{n:Nat}
theorem Sta8.kp(S:Sta8 C M p d1 d2 pd spn ws ks nx n):pd≠p:=by
 have a:=S.tr.self
 have b:=S.k1
 rintro rfl;rw[b]at a;cases a
theorem Sta8.sub(S:Sta8 C M p d1 d2 pd spn ws ks nx n)(sb:L2.Sub M M'):Sta8 C M' p d1 d2 pd spn ws ks nx n:=
 ⟨S.tr.sub sb,sb _ _ S.k1,S.kd1,S.kd2,S.rw',S.nd,S.wl,S.kl⟩
theorem Sta8.sound(S:Sta8 C M p d1 d2 pd spn ws ks nx n)(hn:n<=200):Sound (tsK ws ks nx):=by
 have hw:=S.wl
 have hk:=S.kl
 have hl:(ws.map Prod.fst).length=ws.length:=List.length_map ..
 have nd:=S.rw'.nodup (by omega)
 refine⟨⟨nd,S.rw'.teeth,fun j hj=> ?_,by show ws.length<=100;omega,by show(ks.map _).length<=200;rw[List.length_map];omega⟩,b2b S.nd,fun j hj=> ?_⟩
 . obtain⟨k,hk',rfl⟩:=List.mem_map.mp hj
   obtain⟨_,h1,h2,_⟩:=S.rw'.kinds k.2 (List.mem_map.mpr ⟨k,hk',rfl⟩)
   exact⟨a1u (show _< (ws.map Prod.fst).length by rw[hl];exact h1),a1u (show _< (ws.map Prod.fst).length by rw[hl];exact h2)⟩
 . obtain⟨k,hk',rfl⟩:=List.mem_map.mp hj
   obtain⟨_,h1,h2,h3⟩:=S.rw'.kinds k.2 (List.mem_map.mpr ⟨k,hk',rfl⟩)
   exact fun z=>h3 (a34 nd (by rw[hl];exact h1) (by rw[hl];exact h2) z)
theorem a69(i:Int):(tsK ws ks nx).js.filter (fun j=>decide (j.1≠i))=(tsK ws (ks.filter fun k=>decide (k.1≠i)) nx).js:=by
 unfold tsK
 show(ks.map _).filter _=_
 rw[List.filter_map];rfl
theorem Sta8.less(S:Sta8 C M p d1 d2 pd spn ws ks nx n)(i:Int):Sta8 C (put (put M d2 (.dic (dJ ((tsK ws ks nx).js.filter fun j=>decide (j.1≠i))))) pd (.dic ((ks.filter fun k=>decide (k.1≠i)).map eKn))) p d1 d2 pd spn ws (ks.filter fun k=>decide (k.1≠i)) nx n:=by
 have c1:=S.kp
 have sub: ∀k∈ks.filter (fun k=>decide (k.1≠i)),k∈ks:=fun k hk=>(List.mem_filter.mp hk).1
 refine⟨⟨by rw[a0g c1.symm,a0g S.tr.n2];exact S.tr.self,by rw[a0g S.kd1.symm,a0g S.tr.ne];exact S.tr.teeth,by rw[a0g S.kd2.symm,a0c,a69],S.tr.ne,fun j hj=> ?_⟩,a0c,S.kd1,S.kd2,⟨S.rw'.names,S.rw'.teeth,fun j hj=> ?_⟩,?_,S.wl,Nat.le_trans (List.length_filter_le _ _) S.kl⟩
 . obtain⟨k,hk,rfl⟩:=List.mem_map.mp hj
   exact S.tr.lt _ (List.mem_map.mpr ⟨k,sub k hk,rfl⟩)
 . obtain⟨k,hk,rfl⟩:=List.mem_map.mp hj
   exact S.rw'.kinds _ (List.mem_map.mpr ⟨k,sub k hk,rfl⟩)
 . exact List.Nodup.sublist (List.Sublist.map _ (List.filter_sublist ..)) S.nd
theorem Sta8.join(S:Sta8 C M p d1 d2 pd spn ws ks nx n){kd:Str}{a b:Nat}(hk:a2u kd=true)(ha:a<ws.length)(hb:b<ws.length)(ne:a≠b):
   Sta8 C (put (put (put M d2 (.dic (dJ ((tsK ws ks nx).js++[(nx,kd,at_ (ws.map Prod.fst) a,at_ (ws.map Prod.fst) b)])))) p (.ins C (fsT d1 d2 (nx+1)))) pd (.dic ((ks++[(nx,kd,a,b)]).map eKn))) p d1 d2 pd spn ws (ks++[(nx,kd,a,b)]) (nx+1) (n+1):=by
 have c1:=S.kp
 have hl:=S.kl
 have T:=S.tr.pin kd (at_ (ws.map Prod.fst) a) (at_ (ws.map Prod.fst) b)
 have ej:tsK ws (ks++[(nx,kd,a,b)]) (nx+1)=⟨ws,(tsK ws ks nx).js++[(nx,kd,at_ (ws.map Prod.fst) a,at_ (ws.map Prod.fst) b)],nx+1⟩:=by
   unfold tsK
   rw[List.map_append];rfl
 refine⟨?_,a0c,S.kd1,S.kd2,?_,?_,S.wl,by rw[List.length_append];exact Nat.succ_le_succ hl⟩
 . rw[ej]
   exact⟨by rw[a0g c1.symm];exact T.self,by rw[a0g S.kd1.symm];exact T.teeth,by rw[a0g S.kd2.symm];exact T.join,T.ne,T.lt⟩
 . rw[List.map_append];exact S.rw'.join hk ha hb ne
 . rw[List.map_append,List.nodup_append]
   refine⟨S.nd,by simp,fun x hx y hy=> ?_⟩
   obtain⟨k,hk',rfl⟩:=List.mem_map.mp hx
   have:y=nx:=by simpa using hy
   subst this
   have:=S.tr.lt (jnK (ws.map Prod.fst) k) (List.mem_map.mpr ⟨k,hk',rfl⟩)
   have:k.1<y:=this
   omega
theorem b0a(h:0<ws.length):a30 (tsK ws ks nx) none=some (at_ (ws.map Prod.fst) 0):=by
 show(ws.map Prod.fst).head? =some ((ws.map Prod.fst).getD 0 "")
 cases ws with
 |nil=>cases h
 |cons _ _=>rfl
end
def Flags(ws:List (Str×Int))(ks:List Kn)(nx:Int)(bs:List Bool):Prop:=bs.length=ws.length/\ ∀b,b<ws.length->(bs.getD b false=true↔Reach (tsK ws ks nx).js (at_ (ws.map Prod.fst) 0) (at_ (ws.map Prod.fst) b))
theorem Flags.less{ws:List (Str×Int)}{ks:List Kn}{nx:Int}{bs:List Bool}(F:Flags ws ks nx bs)(nd:(ks.map Prod.fst).Nodup){x a:Str}{rs:List (Int×Str)}(R:Ring ws (tsK ws ks nx).js x a rs){i:Int}(hi:i∈rs.map Prod.fst):Flags ws (ks.filter fun k=>decide (k.1≠i)) nx bs:=by
 refine⟨F.1,fun b hb=>(F.2 b hb).trans ⟨fun h=> ?_,fun h=> ?_⟩⟩
 . rw[<-a69];exact b5p (b2b nd) R hi h
 . rw[<-a69]at h;exact h.mono fun j hj=>(List.mem_filter.mp hj).1
theorem Flags.ends{ws:List (Str×Int)}{ks:List Kn}{nx:Int}{bs:List Bool}{s:Nat}(F:Flags ws ks nx bs)(r:Rw s ws (ks.map Prod.snd)){k:Kn}(hk:k∈ks):bs.getD k.2.2.1 false=bs.getD k.2.2.2 false:=by
 obtain⟨_,h1,h2,_⟩:=r.kinds k.2 (List.mem_map.mpr ⟨k,hk,rfl⟩)
 have hm:jnK (ws.map Prod.fst) k∈(tsK ws ks nx).js:=List.mem_map.mpr ⟨k,hk,rfl⟩
 obtain⟨l1,l2⟩:=a1i hm
 have:bs.getD k.2.2.1 false=true↔bs.getD k.2.2.2 false=true:=by
   rw[F.2 _ h1,F.2 _ h2]
   exact⟨fun h=> .step (l:=(k.1,k.2.1,at_ (ws.map Prod.fst) k.2.2.2)) h l1,fun h=> .step (l:=(k.1,k.2.1,at_ (ws.map Prod.fst) k.2.2.1)) h l2⟩
 rw[Bool.eq_iff_iff];exact this
section
variable {C:Addr}{M M':Mem}{p d1 d2 pd:Addr}{spn:Nat}{ws:List (Str×Int)}{ks:List Kn}{nx:Int}{n:Nat}
def Off4(x p d1 d2 pd:Addr):Prop:=x≠p/\x≠d1/\x≠d2/\x≠pd
theorem Sta8.off(S:Sta8 C M p d1 d2 pd spn ws ks nx n){x:Addr}(h:M x=none):Off4 x p d1 d2 pd:=⟨a5j S.tr.self h,a5j S.tr.teeth h,a5j S.tr.join h,a5j S.k1 h⟩
theorem Sta8.held(S:Sta8 C M p d1 d2 pd spn ws ks nx n){q:Addr}(h:Off4 q p d1 d2 pd)(o:MO):Sta8 C (put M q o) p d1 d2 pd spn ws ks nx n:=by
 obtain⟨h1,h2,h3,h4⟩:=h
 exact⟨⟨by rw[a0g h1.symm];exact S.tr.self,by rw[a0g h2.symm];exact S.tr.teeth,by rw[a0g h3.symm];exact S.tr.join,S.tr.ne,S.tr.lt⟩,by rw[a0g h4.symm];exact S.k1,S.kd1,S.kd2,S.rw',S.nd,S.wl,S.kl⟩
end
def Outs(ws:List (Str×Int))(bs:List Bool)(out:List (Str×Nat×Nat)):Prop:= ∀j∈out,a2u j.1=true/\j.2.1<ws.length/\j.2.2<ws.length/\j.2.1≠j.2.2/\bs.getD j.2.1 false=bs.getD j.2.2 false
def a42(C:Addr):SpA:=fun ds M Q _=> ∃(p d1 d2 pd:Addr) (s:Nat) (ws:List (Str×Int)) (ks:List Kn) (nx:Int) (n:Nat) (bs:List Bool) (cell:Int),ds=[.obj p,.lst (ws.map eW),.obj pd,.lst (bs.map D.bl),.int cell]/\Sta8 C M p d1 d2 pd s ws ks nx n/\n<=80/\0<ws.length/\Flags ws ks nx bs/\
 ∀M' lo ks' (out:List (Str×Nat×Nat)),Sta8 C M' p d1 d2 pd s ws ks' nx n->Flags ws ks' nx bs->(∀t,IsTree (tsK ws ks' nx).js (at_ (ws.map Prod.fst) 0) t->a4d ws (tsK ws ks' nx).js t)->M' lo=some (.lst (out.map eK))->out.length<=80->Outs ws bs out->Q (.obj lo) M'
theorem a63{f C:Addr}{fd:FuncData}{EC:Rk->Addr}(Fn:Fun K "_law_loosened" "_law_loosened" a2m f fd)(T:Txt K mg)(h_ring:HasD P w K mg base 44 "ring" ["train","name"] (a0k K (a5t C EC)))
   (h_law_jammed:Has P w K mg base (CXE P w) 3 "_law_jammed" ["_law_way","_law_wheels","_law_left","_law_hung_here"] (a0k K a4g)) (h_take_join:HasM P w K mg base (CXE P w) 2 C "take_join" ["self","number"] (a0k K (a41 C EC))):
   FnOk P w K mg base (CXE P w) 45 f fd ["_law_train","_law_wheels","_law_left","_law_hung_here","_law_cell"] (a0k K (a42 C)):=by
 refine Fn.okA sc_law_loosened (fun ds M Q E h=> ?_) ?_
 . obtain⟨_,_,_,_,_,_,_,_,_,_,_,rfl,_⟩:=h;rfl
 intro cdv A outer s H E F0 ds M Q Ea hr ct hsp
 obtain⟨p,d1,d2,pd,sp,ws,ks,nx,n,bs,cell,rfl,S,hn,h0,F,q⟩:=hsp
 refine⟨_,(a0b (sSet (i:=5) sc_law_loosened.nd rfl (Or.inl rfl) (a31 a0f))
     (a0b (sFor ct (a88 rfl T.range (a0a (paOp a01 lAdd (a0z a0s lLen (by rfl) T.len PySem.boot_len (a0a (paV (pv 2)) a0f)) paI) a0f)) (a0r (i:=6) sc_law_loosened.nd rfl (Or.inl rfl))
       (a0b (sSet (i:=7) sc_law_loosened.nd rfl (Or.inl rfl) (paFzN (a77 h_ring (hr.mono (by decide)) (by rfl) ct (a0a (paV (pv 0)) a0f))))
       (a0b (sIf (a0v a9z lIs (paV (pv 7)) paN (a0m _))
         (a0h (sRet (paV (pv 5))))
         a0w)
       (a0b (sIf (a5f (ptV (a04 h_law_jammed (hr.mono (by decide)) (by rfl) ct (a0a (paV (pv 7)) (a0a (paV (pv 1)) (a0a (paV (pv 2)) (a0a (paV (pv 3)) a0f)))))))
         (a0h (sRet paN))
         a0w)
       (a0b (sSet (i:=8) sc_law_loosened.nd rfl (Or.inl rfl) (paIx a0i lIx (paIx a0i lIx (paV (pv 7)) (paOp a1k lMod (paOp a60 lDiv (paV (pv 4)) (paOp a01 lAdd (paV (pv 6)) paI)) (a0z a0s lLen (by rfl) T.len PySem.boot_len (a0a (paV (pv 7)) a0f))) (fun _ _=>rfl)) paI (fun _ _=>rfl)))
       (a0b (a1y (a9x h_take_join (hr.mono (by decide)) ct (paV (pv 0)) (a0a (paV (pv 8)) a0f)))
       (a0b (a1y (paBM PySem.F.plainAttrs_list PySem.F.slot_list_append PySem.F.type_list_append a03 a1n (paV (pv 5)) (a0a (a3n (un1 ct) (paV (pv 2)) (paV (pv 8)) (fun _ _=>rfl)) a0f)))
       (a0h (a1y (b54 (paV (pv 2)) (paV (pv 8)) ⟨by rfl,by rfl,by rfl,by rfl⟩))))))))))
     (a0h (sRet paN)))),?_⟩
 have hkl:=S.kl
 have hwl:=S.wl
 refine cut1 (fun Γ' M1=> ∃lo,M lo=none/\M1=put M lo (.lst [])/\Γ'=[some (.obj p),some (.lst (ws.map eW)),some (.obj pd),some (.lst (bs.map D.bl)),some (.int cell),some (.obj lo),none,none,none]) ?_ ?_
 rotate_left
 . intro rest hrest
   simp! only[]
   exact⟨Nat.zero_le _,fun lo h=>hrest _ _ ⟨lo,h,rfl,rfl⟩⟩
 rintro Γ' M1 ⟨lo,hlo,rfl,rfl⟩
 have off:=S.off hlo
 have S1:=S.held off (.lst [])
 have hl1:put M lo (.lst []) lo=some (.lst (([]:List (Str×Nat×Nat)).map eK)):=a0c
 generalize put M lo (.lst [])=M1 at S1 hl1 |-
 simp! only[S1.k1,List.length_map]
 refine⟨by omega,by omega,?_⟩
 refine LoopP.by2 (fun i Γ M'=> ∃(ks':List Kn) (out:List (Str×Nat×Nat)) (o6 o7 o8:Option D),Γ=[some (.obj p),some (.lst (ws.map eW)),some (.obj pd),some (.lst (bs.map D.bl)),some (.int cell),some (.obj lo),o6,o7,o8]/\Sta8 C M' p d1 d2 pd sp ws ks' nx n/\Flags ws ks' nx bs/\M' lo=some (.lst (out.map eK))/\ks'.length+i<=ks.length/\out.length<=i/\Outs ws bs out)
   ⟨ks,[],_,_,_,rfl,S1,F,hl1,Nat.le_refl _,Nat.le_refl _,fun _ h=>(List.not_mem_nil h).elim⟩ (fun _ _ _ _=>trivial) ?_ ?_
 . clear S S1 F hl1
   rintro E' i Γ M' hrt hi hnx ⟨ks',out,o6,o7,o8,rfl,S,F,hl,hkk,hol,ho⟩
   dsimp only at hi
   simp only[gaN,List.set_cons_zero,List.set_cons_succ]
   have sd:=S.sound (by omega)
   refine cut1 (fun Γ' M2=>M2=M'/\ ∃wy:Option (List (Int×Str)),((wy=none/\ ∀t,IsTree (tsK ws ks' nx).js (at_ (ws.map Prod.fst) 0) t->a4d ws (tsK ws ks' nx).js t)\/ ∃a rs,wy=some rs/\Ring ws (tsK ws ks' nx).js (at_ (ws.map Prod.fst) 0) a rs/\rs.length<=500)/\Γ'=[some (.obj p),some (.lst (ws.map eW)),some (.obj pd),some (.lst (bs.map D.bl)),some (.int cell),some (.obj lo),some (.int (i:Int)),some (encR wy),o8]) ?_ ?_
   rotate_left
   . intro rest hrest
     simp! only[aFzN,b18,a5t]
     refine⟨p,d1,d2,_,none,rfl,S.tr,sd.fit,sd.nd,sd.une,?_⟩
     rw[b0a h0]
     intro t ist gr cl tl
     cases hf:(tsK ws ks' nx).js.find? (a1r (tsK ws ks' nx).ws (a0e (tsK ws ks' nx).ws t))with
     |none=>exact hrest _ _ ⟨rfl,none,.inl ⟨rfl,fun t' ist'=>by obtain rfl:=ist.one ist';exact jam_iff.mp hf⟩,rfl⟩
     |some j=>
       intro a rs R hrl r hr'
       simp only[a0c,a1w hr']
       exact hrest _ _ ⟨rfl,some rs,.inr ⟨a,rs,rfl,R,hrl⟩,rfl⟩
   rintro Γ' M2 ⟨rfl,wy,hwy,rfl⟩
   rcases hwy with⟨rfl,nj⟩ | ⟨a,rs,rfl,R,hrl⟩
   . refine a3b (fun R h=>by simp! only[encR];exact h) ?_
     simp! only[]
     rw[hrt]
     exact .now (q M2 lo ks' out S F nj hl (by omega) ho)
   . refine a1f (fun R h=>by simp! only[encR];exact h) ?_
     refine cut1 (fun Γ' M3=>L2.Sub M2 M3/\Γ'=[some (.obj p),some (.lst (ws.map eW)),some (.obj pd),some (.lst (bs.map D.bl)),some (.int cell),some (.obj lo),some (.int (i:Int)),some (.lst (rs.map eSt)),o8]) ?_ ?_
     rotate_left
     . intro rest hrest
       simp! only[encR,a4g]
       refine⟨pd,rs,sp,ws,ks',nx,bs,_,a,rfl,S.k1,S.rw',S.nd,by omega,hrl,R,F.1,fun b hb=>(F.2 b hb).mpr,fun M3 sb=> ?_⟩
       rw[if_neg (show ¬ (!true)=true by decide)]
       exact hrest _ _ ⟨sb,rfl⟩
     rintro Γ' M3 ⟨sb,rfl⟩
     have S3:=S.sub sb
     have hl3:=sb _ _ hl
     clear S hl
     have r2:=R.two
     obtain⟨i0,hi0⟩:=Int.eq_ofNat_of_zero_le (Int.emod_nonneg (cell/((i:Int)+1)) (show(rs.length:Int)≠0 by omega))
     have hi1:=Int.emod_lt_of_pos (cell/((i:Int)+1)) (show(0:Int)< (rs.length:Int)by omega)
     rw[hi0]at hi1
     have hi2:i0<rs.length:=by omega
     have e1:atI (rs.map eSt) (i0:Int)=some (eSt rs[i0]):=by rw[a51 _ _ (by simpa using hi2),List.getElem_map]
     have hin:(rs[i0]).1∈rs.map Prod.fst:=List.mem_map.mpr ⟨_,List.getElem_mem hi2,rfl⟩
     have hik:=(b6x S3.rw' R.way _ (List.getElem_mem hi2)).1
     generalize rs[i0]=si at *
     refine cut1 (fun Γ' M4=>M4=M3/\Γ'=[some (.obj p),some (.lst (ws.map eW)),some (.obj pd),some (.lst (bs.map D.bl)),some (.int cell),some (.obj lo),some (.int (i:Int)),some (.lst (rs.map eSt)),some (.int si.1)]) ?_ ?_
     rotate_left
     . intro rest hrest
       simp! only[List.length_map,hi0,e1,eSt]
       exact⟨⟨by omega,by omega⟩,by omega,hrest _ _ ⟨rfl,rfl⟩⟩
     rintro Γ' M4 ⟨rfl,rfl⟩
     obtain⟨k,hk,ek⟩:=List.mem_map.mp hik
     have hg:=a89 S3.nd hk
     rw[ek]at hg
     have kd2:=S3.kd2
     have hlo2:lo≠d2:=off.2.2.1
     have hlop:lo≠pd:=off.2.2.2
     refine b4y .non (put M4 d2 (.dic (dJ ((tsK ws ks' nx).js.filter fun j=>decide (j.1≠si.1))))) (fun R h=>by
       simp! only[S3.tr.self,a5u,a41]
       refine⟨p,d1,d2,_,_,rfl,S3.tr,?_⟩
       rw[show refL (tsK ws ks' nx) si.1=none by unfold refL;rw[b7c hik];rfl]
       exact h) ?_
     refine b4y .non (put (put M4 d2 (.dic (dJ ((tsK ws ks' nx).js.filter fun j=>decide (j.1≠si.1))))) lo (.lst ((out++[k.2]).map eK))) (fun R h=>by
       simp! only[aBM,a2c,a0g hlo2,a0g S3.kd2,hl3,S3.k1,hg,oAppend,List.length_map]
       rw[List.map_append]at h
       exact⟨by omega,h⟩) ?_
     refine a7x (eK k.2) (put (put (put M4 d2 (.dic (dJ ((tsK ws ks' nx).js.filter fun j=>decide (j.1≠si.1))))) lo (.lst ((out++[k.2]).map eK))) pd (.dic ((ks'.filter fun k=>decide (k.1≠si.1)).map eKn))) (fun R' h=>by
       simp! only[a0g hlop.symm,a0g S3.kd2,S3.k1,hg,b0i]
       exact⟨rfl,h⟩) ?_
     rw[a25 hlop]
     have hlt:(ks'.filter fun k=>decide (k.1≠si.1)).length<ks'.length:=by
       refine Nat.lt_of_le_of_ne (List.length_filter_le _ _) fun z=> ?_
       have:=List.length_filter_eq_length_iff.mp z k hk
       exact(of_decide_eq_true this) ek
     refine hnx _ _ ⟨_,out++[k.2],_,_,_,rfl,(S3.less si.1).held off _,F.less S3.nd R hin,a0c,by omega,by rw[List.length_append];simp;omega,fun j hj=> ?_⟩
     rcases List.mem_append.mp hj with hj |hj
     . exact ho j hj
     . rw[List.mem_singleton.mp hj]
       obtain⟨a1,a2,a3,a4⟩:=S3.rw'.kinds k.2 (List.mem_map.mpr ⟨k,hk,rfl⟩)
       exact⟨a1,a2,a3,a4,F.ends S3.rw' hk⟩
 . rintro Γ M' ⟨ks',out,o6,o7,o8,rfl,S,F,hl,hkk,hol,ho⟩
   exfalso
   dsimp only at hkk
   omega
def b9n(ks:List Kn)(c:Nat)(f:Int×Nat):Prop:= ∃k∈ks,k.1=f.1/\((k.2.2.1=c/\k.2.2.2=f.2)\/(k.2.2.2=c/\k.2.2.1=f.2))
def b02:SpA:=fun ds M Q _=> ∃(pd:Addr) (ks:List Kn) (c:Nat),ds=[.obj pd,.int c]/\M pd=some (.dic (ks.map eKn))/\ks.length<=200/\ ∀found:List (Int×Nat),(∀f∈found,b9n ks c f)->Q (.lst (found.map eQ)) M
theorem a96{f:Addr}{fd:FuncData}(Fn:Fun K "_law_leads" "_law_leads" a39 f fd)(T:Txt K mg):FnOk P w K mg base (CXE P w) 1 f fd ["_law_left","_law_at"] (a0k K b02):=by
 refine Fn.okA sc_law_leads (fun ds M Q E h=> ?_) ?_
 . obtain⟨_,_,_,rfl,_⟩:=h;rfl
 intro cdv A outer s H E F0 ds M Q Ea hr ct hsp
 obtain⟨pd,ks,c,rfl,hpd,hkl,q⟩:=hsp
 refine⟨_,(a0b (sSet (i:=2) sc_law_leads.nd rfl (Or.inl rfl) (a31 a0f))
     (a0b (sForI ct (paV (pv 0)) (a6i rfl (a0u (a0r (i:=3) sc_law_leads.nd rfl (Or.inl rfl)) (a0u (a0r (i:=4) sc_law_leads.nd rfl (Or.inl rfl)) a2p)))
       (a0b (sIf (a0v (a1g (un64 ct)) lEq (paIx a0i lIx (paV (pv 4)) paI (fun _ _=>rfl)) (paV (pv 1)) (a0m _))
         (a0h (a1y (paBM PySem.F.plainAttrs_list PySem.F.slot_list_append PySem.F.type_list_append a03 a1n (paV (pv 2)) (a0a (a2b (a0a (paV (pv 3)) (a0a (paIx a0i lIx (paV (pv 4)) paI (fun _ _=>rfl)) a0f))) a0f))))
         a0w)
       (a0h (sIf (a0v (a1g (un64 ct)) lEq (paIx a0i lIx (paV (pv 4)) paI (fun _ _=>rfl)) (paV (pv 1)) (a0m _))
         (a0h (a1y (paBM PySem.F.plainAttrs_list PySem.F.slot_list_append PySem.F.type_list_append a03 a1n (paV (pv 2)) (a0a (a2b (a0a (paV (pv 3)) (a0a (paIx a0i lIx (paV (pv 4)) paI (fun _ _=>rfl)) a0f))) a0f))))
         a0w))))
     (a0h (sRet (paV (pv 2)))))),?_⟩
 refine cut1 (fun Γ' M1=> ∃x,M x=none/\M1=put M x (.lst [])/\Γ'=[some (.obj pd),some (.int c),some (.obj x),none,none]) ?_ ?_
 rotate_left
 . intro rest hrest
   simp! only[]
   exact⟨Nat.zero_le _,fun x h=>hrest _ _ ⟨x,h,rfl,rfl⟩⟩
 rintro Γ' M1 ⟨x,hx,rfl,rfl⟩
 have nxp:=a5j hpd hx
 refine forIk (p:=pd) (kvs:=ks.map eKn) (fun R h=>h) (by rw[a0g nxp.symm];exact hpd) fun u=> ?_
 rw[a25 nxp]
 refine LoopP.by2 (fun i Γ M'=> ∃(found:List (Int×Nat)) (o3 o4:Option D),Γ=[some (.obj pd),some (.int c),some (.obj x),o3,o4]/\M'=put (put M pd (.raw u)) x (.lst (found.map eQ))/\found.length<=2 *i/\ ∀f∈found,b9n ks c f) ⟨[],_,_,rfl,rfl,Nat.le_refl _,fun _ h=>(List.not_mem_nil h).elim⟩ (fun _ _ _ ⟨_,_,_,_,e,_⟩=>by rw[e];show put _ _ _ pd=_;rw[a0g nxp.symm,a0c]) ?_ ?_
 . rintro E' i Γ M' hrt hi hnx ⟨found,o3,o4,rfl,rfl,hfl,hf⟩
   dsimp only at hi
   have hi':i<ks.length:=by simpa using hi
   have eit:L2.itemAt (ks.map eKn) i= .tup [.int (ks[i]).1,eK (ks[i]).2]:=by
     unfold L2.itemAt
     rw[List.getElem?_map,List.getElem?_eq_getElem hi'];rfl
   have hm:=List.getElem_mem hi'
   show a5s _ _ (L2.itemAt (ks.map eKn) i) _ _ _
   rw[eit]
   generalize ks[i]=k at *
   simp only[a5s,a3q,gaNil,gaN,List.set_cons_zero,List.set_cons_succ,true_and]
   refine⟨rfl,?_⟩
   refine cut1 (fun Γ' M2=> ∃found:List (Int×Nat),M2=put (put M pd (.raw u)) x (.lst (found.map eQ))/\found.length<=2 *i+1/\(∀f∈found,b9n ks c f)/\Γ'=[some (.obj pd),some (.int c),some (.obj x),some (.int k.1),some (eK k.2)]) ?_ ?_
   rotate_left
   . intro rest hrest
     by_cases h1:k.2.2.1=c
     . refine a3b (fun R h=>by
         simp! only[eK,decide_eq_true (show(k.2.2.1:Int)=(c:Int)by omega)]
         exact h) ?_
       refine a7x .non (put (put M pd (.raw u)) x (.lst ((found++[(k.1,k.2.2.2)]).map eQ))) (fun R' h=>by
         simp! only[aBM,a2c,eK,a0c,a1b,oAppend,List.length_map]
         rw[List.map_append]at h
         exact⟨by decide,by omega,h⟩) (hrest _ _ ⟨_,rfl,by rw[List.length_append];simp;omega,fun f hf'=> ?_,rfl⟩)
       rcases List.mem_append.mp hf' with hf' |hf'
       . exact hf f hf'
       . rw[List.mem_singleton.mp hf'];exact⟨k,hm,rfl,.inl ⟨h1,rfl⟩⟩
     . refine a1f (fun R h=>by
         simp! only[eK,decide_eq_false (show ¬ (k.2.2.1:Int)=(c:Int)by omega)]
         exact h) ?_
       exact hrest _ _ ⟨found,rfl,by omega,hf,rfl⟩
   rintro Γ' M2 ⟨found,rfl,hfl2,hf,rfl⟩
   by_cases h1:k.2.2.2=c
   . refine ifV true (fun R h=>by
       simp! only[eK,decide_eq_true (show(k.2.2.2:Int)=(c:Int)by omega)]
       exact h) ?_
     rw[if_pos rfl]
     refine a7x .non (put (put M pd (.raw u)) x (.lst ((found++[(k.1,k.2.2.1)]).map eQ))) (fun R' h=>by
       simp! only[aBM,a2c,eK,a0c,a1b,oAppend,List.length_map]
       rw[List.map_append]at h
       exact⟨by decide,by omega,h⟩) (hnx _ _ ⟨_,_,_,rfl,rfl,by rw[List.length_append];simp;omega,fun f hf'=> ?_⟩)
     rcases List.mem_append.mp hf' with hf' |hf'
     . exact hf f hf'
     . rw[List.mem_singleton.mp hf'];exact⟨k,hm,rfl,.inr ⟨h1,rfl⟩⟩
   . refine ifV false (fun R h=>by
       simp! only[eK,decide_eq_false (show ¬ (k.2.2.2:Int)=(c:Int)by omega)]
       exact h) ?_
     rw[if_neg Bool.false_ne_true]
     exact hnx _ _ ⟨found,_,_,rfl,rfl,by omega,hf⟩
 . rintro Γ M' ⟨found,o3,o4,rfl,rfl,hfl,hf⟩
   dsimp only
   refine⟨by rw[a0g nxp.symm,a0c],?_⟩
   rw[b8i nxp.symm hpd]
   exact .fz hx (q found hf)
def Along(ws:List (Str×Int))(ks:List Kn)(ts:List (Option Fr)):Prop:= ∀k∈ks,∀(c t:Nat) (hc:c<ws.length) (ht:t<ws.length),((k.2.2.1=c/\k.2.2.2=t)\/(k.2.2.2=c/\k.2.2.1=t))-> ∀x,ts.getD c none=some x->
 x.2≠0/\ ∃y,ts.getD t none=some y/\(Bg 3000 y.1/\Bg 3000 y.2)/\x.1 * (byF k.2.1 (ws[c]).2 (ws[t]).2).1 *y.2=y.1 *x.2 * (byF k.2.1 (ws[c]).2 (ws[t]).2).2
def a8h:SpA:=fun ds M Q _=> ∃(pd:Addr) (s:Nat) (ts:List (Option Fr)) (ws:List (Str×Int)) (ks:List Kn) (cs:List Int),ds=[.lst (ts.map eO),.lst (ws.map eW),.obj pd,.lst (cs.map D.int)]/\M pd=some (.dic (ks.map eKn))/\Rw s ws (ks.map Prod.snd)/\(ks.map Prod.fst).Nodup/\ks.length<=200/\cs.length<=100/\ts.length=ws.length/\0<ws.length/\ts.getD 0 none=some (1,1)/\Along ws ks ts/\Q (.bl true) M
theorem b43{x y b:Fr}{top bot:Int}(hx:x.2≠0)(h1:x.1 *bot=x.2 *top)(h2:x.1 *b.1 *y.2=y.1 *x.2 *b.2):y.1 * (bot *b.2)=y.2 * (top *b.1):=by
 refine Int.eq_of_mul_eq_mul_right hx ?_
 rw[show y.1 * (bot *b.2) *x.2=bot * (y.1 *x.2 *b.2)by ac_rfl,<-h2,show bot * (x.1 *b.1 *y.2)=(x.1 *bot) *b.1 *y.2 by ac_rfl,h1]
 ac_rfl
theorem a8x{f:Addr}{fd:FuncData}(Fn:Fun K "_law_walked" "_law_walked" a3h f fd)(T:Txt K mg)(h_law_leads:Has P w K mg base (CXE P w) 1 "_law_leads" ["_law_left","_law_at"] (a0k K b02))(h_law_by:Has P w K mg base (CXE P w) 1 "_law_by" ["_law_kind","_law_one","_law_other"] (a0k K spBy)):
   FnOk P w K mg base (CXE P w) 2 f fd ["_law_told_here","_law_wheels","_law_left","_law_cells"] (a0k K a8h):=by
 refine Fn.okA sc_law_walked (fun ds M Q E h=> ?_) ?_
 . obtain⟨_,_,_,_,_,_,rfl,_⟩:=h;rfl
 intro cdv A outer s H E F0 ds M Q Ea hr ct hsp
 obtain⟨pd,sp,ts,ws,ks,cs,rfl,hpd,rw',knd,hkl,hcl,htl,h0,ht0,al,q⟩:=hsp
 refine⟨_,(a0b (sSet (i:=4) sc_law_walked.nd rfl (Or.inl rfl) paI)
     (a0b (sSet (i:=5) sc_law_walked.nd rfl (Or.inl rfl) paI)
     (a0b (sSet (i:=6) sc_law_walked.nd rfl (Or.inl rfl) paI)
     (a0b (sFor ct (a1z (paV (pv 3))) (a0r (i:=7) sc_law_walked.nd rfl (Or.inl rfl))
       (a0b (sSet (i:=8) sc_law_walked.nd rfl (Or.inl rfl) (a04 h_law_leads (hr.mono (by decide)) (by rfl) ct (a0a (paV (pv 2)) (a0a (paV (pv 4)) a0f))))
       (a0b (sIf (a0v (a1g (un64 ct)) lEq (paV (pv 8)) (a6x a0f) (a0m _))
         (a0h (sRet paB))
         a0w)
       (a0b (sAsg (paIx a0i lIx (paV (pv 8)) (paOp a1k lMod (paV (pv 7)) (a0z a0s lLen (by rfl) T.len PySem.boot_len (a0a (paV (pv 8)) a0f))) (fun _ _=>rfl)) (a6i rfl (a0u (a0r (i:=9) sc_law_walked.nd rfl (Or.inl rfl)) (a0u (a0r (i:=10) sc_law_walked.nd rfl (Or.inl rfl)) a2p))))
       (a0b (sSet (i:=11) sc_law_walked.nd rfl (Or.inl rfl) (a04 h_law_by (hr.mono (by decide)) (by rfl) ct (a0a (paIx a0i lIx (a3n (un1 ct) (paV (pv 2)) (paV (pv 9)) (fun _ _=>rfl)) paI (fun _ _=>rfl)) (a0a (paIx a0i lIx (paIx a0i lIx (paV (pv 1)) (paV (pv 4)) (fun _ _=>rfl)) paI (fun _ _=>rfl)) (a0a (paIx a0i lIx (paIx a0i lIx (paV (pv 1)) (paV (pv 10)) (fun _ _=>rfl)) paI (fun _ _=>rfl)) a0f)))))
       (a0b (sSet (i:=5) sc_law_walked.nd rfl (Or.inl rfl) (paOp a2g lMul (paV (pv 5)) (paIx a0i lIx (paV (pv 11)) paI (fun _ _=>rfl))))
       (a0b (sSet (i:=6) sc_law_walked.nd rfl (Or.inl rfl) (paOp a2g lMul (paV (pv 6)) (paIx a0i lIx (paV (pv 11)) paI (fun _ _=>rfl))))
       (a0b (sSet (i:=4) sc_law_walked.nd rfl (Or.inl rfl) (paV (pv 10)))
       (a0h (sIf (a0v (a2r (un64 ct)) lNe (paOp a2g lMul (paIx a0i lIx (paIx a0i lIx (paV (pv 0)) (paV (pv 4)) (fun _ _=>rfl)) paI (fun _ _=>rfl)) (paV (pv 6))) (paOp a2g lMul (paIx a0i lIx (paIx a0i lIx (paV (pv 0)) (paV (pv 4)) (fun _ _=>rfl)) paI (fun _ _=>rfl)) (paV (pv 5))) (a0m _))
         (a0h (sRet paB))
         a0w))))))))))
     (a0h (sRet paB)))))),?_⟩
 refine seqV (.int (0:Nat)) M (fun R h=>h) (seqV (.int 1) M (fun R h=>h) (seqV (.int 1) M (fun R h=>h) ?_))
 refine b4w (d:= .lst (cs.map D.int)) (ds:=cs.map D.int) (fun R h=>h) rfl ?_
 refine LoopP.by2 (fun i Γ M'=>M'=M/\ ∃(c:Nat) (top bot:Int) (x:Fr) (o7 o8 o9 o10 o11:Option D),Γ=[some (.lst (ts.map eO)),some (.lst (ws.map eW)),some (.obj pd),some (.lst (cs.map D.int)),some (.int c),some (.int top),some (.int bot),o7,o8,o9,o10,o11]/\c<ws.length/\ts.getD c none=some x/\x.1 *bot=x.2 *top/\Bg (30 *i+1) top/\Bg (30 *i+1) bot)
   ⟨rfl,0,1,1,(1,1),_,_,_,_,_,rfl,h0,ht0,by decide,show(1:Int).natAbs<2^1 by decide,show(1:Int).natAbs<2^1 by decide⟩ (fun _ _ _ _=>rfl) ?_ ?_
 . rintro E' i Γ M' hrt hi hnx ⟨rfl,c,top,bot,x,o7,o8,o9,o10,o11,rfl,hc,hx,hxx,bt,bb⟩
   dsimp only at hi
   have hi':i<cs.length:=by simpa using hi
   simp only[a1t cs D.int i hi',gaN,List.set_cons_zero,List.set_cons_succ]
   refine cut1 (fun Γ' M1=>M1=M'/\ ∃found:List (Int×Nat),(∀f∈found,b9n ks c f)/\Γ'=[some (.lst (ts.map eO)),some (.lst (ws.map eW)),some (.obj pd),some (.lst (cs.map D.int)),some (.int c),some (.int top),some (.int bot),some (.int cs[i]),some (.lst (found.map eQ)),o9,o10,o11]) ?_ ?_
   rotate_left
   . intro rest hrest
     simp! only[b02]
     exact⟨pd,ks,c,rfl,hpd,hkl,fun found hf=>hrest _ _ ⟨rfl,found,hf,rfl⟩⟩
   rintro Γ' M1 ⟨rfl,found,hf,rfl⟩
   have gf:shD (.lst (found.map eQ))=true:=(Gd.lst 1 _ fun d hd=>by
     obtain⟨f,_,rfl⟩:=List.mem_map.mp hd
     exact a7c _ _:Gd 2 (.lst (found.map eQ))).sh
   cases found with
   |nil=>
     refine a3b (fun R h=>by
       simp! only[]
       exact⟨by decide,a6h (d:= .lst []) gf h⟩) ?_
     simp! only[]
     rw[hrt]
     exact .now q
   |cons f0 fs=>
     refine a1f (fun R h=>by
       simp! only[]
       refine⟨by decide,.inr ⟨gf,show shD (.lst [])=true by decide+kernel⟩,?_⟩
       exact h) ?_
     generalize hff:f0::fs=found at *
     have hfl:0<found.length:=by rw[<-hff];simp
     obtain⟨i0,hi0⟩:=Int.eq_ofNat_of_zero_le (Int.emod_nonneg cs[i] (show(found.length:Int)≠0 by omega))
     have hi1:=Int.emod_lt_of_pos cs[i] (show(0:Int)< (found.length:Int)by omega)
     rw[hi0]at hi1
     have hi2:i0<found.length:=by omega
     have e1:atI (found.map eQ) (i0:Int)=some (eQ found[i0]):=by rw[a51 _ _ (by simpa using hi2),List.getElem_map]
     obtain⟨k,hk,ek,ends⟩:=hf _ (List.getElem_mem hi2)
     obtain⟨_,k1,k2,_⟩:=rw'.kinds k.2 (List.mem_map.mpr ⟨k,hk,rfl⟩)
     generalize found[i0]=ff at *
     obtain⟨fn,t⟩:=ff
     dsimp only at ek ends
     have htl2:t<ws.length:=by rcases ends with⟨_,e⟩ | ⟨_,e⟩<;>omega
     obtain⟨hx2,y,hy,⟨by1,by2⟩,heq⟩:=al k hk c t hc htl2 ends x hx
     have hg:=a89 knd hk
     rw[ek]at hg
     have e2:=w_at hc
     have e3:=w_at htl2
     have t1:=rw'.teeth _ (List.getElem_mem hc)
     have t2:=rw'.teeth _ (List.getElem_mem htl2)
     obtain⟨y1,y2⟩:=byF_bg (k:=k.2.1) t1.1 t1.2 t2.1 t2.2
     have e4:=o_at (ts:=ts) (i:=t) (by omega)
     rw[hy]at e4
     refine cut1 (fun Γ' M2=>M2=M1/\Γ'=[some (.lst (ts.map eO)),some (.lst (ws.map eW)),some (.obj pd),some (.lst (cs.map D.int)),some (.int c),some (.int top),some (.int bot),some (.int cs[i]),some (.lst (found.map eQ)),some (.int fn),some (.int t),o11]) ?_ ?_
     rotate_left
     . intro rest hrest
       simp! only[List.length_map,hi0,e1,eQ,a5s,a3q,gaNil]
       exact⟨by omega,rfl,hrest _ _ ⟨rfl,rfl⟩⟩
     rintro Γ' M2 ⟨rfl,rfl⟩
     generalize ws[c]=wc at *
     generalize ws[t]=wt at *
     generalize hb:byF k.2.1 wc.2 wt.2=b at *
     refine cut1 (fun Γ' M3=>M3=M2/\Γ'=[some (.lst (ts.map eO)),some (.lst (ws.map eW)),some (.obj pd),some (.lst (cs.map D.int)),some (.int c),some (.int top),some (.int bot),some (.int cs[i]),some (.lst (found.map eQ)),some (.int fn),some (.int t),some (eF b)]) ?_ ?_
     rotate_left
     . intro rest hrest
       simp! only[hpd,hg,eK,e2,e3,eW,spBy]
       exact⟨_,_,_,rfl,hrest _ _ ⟨rfl,by rw[hb]⟩⟩
     rintro Γ' M3 ⟨rfl,rfl⟩
     have m1:=bt.mul y1
     have m2:=bb.mul y2
     refine seqV (.int (top *b.1)) _ (fun R h=>by simp! only[eF];exact⟨y1.right,h⟩) (seqV (.int (bot *b.2)) _ (fun R h=>by simp! only[eF];exact⟨y2.right,h⟩) (seqV (.int t) _ (fun R h=>h) ?_))
     simp only[List.set_cons_zero,List.set_cons_succ]
     have fin:=b43 hx2 hxx heq
     refine ifV false (fun R h=>by
       simp! only[e4,eO,eF,fin,decide_true,Bool.not_true]
       exact⟨by1.ok m2 (by decide) (by omega),by2.ok m1 (by decide) (by omega),h⟩) ?_
     rw[if_neg Bool.false_ne_true]
     exact hnx _ _ ⟨rfl,t,_,_,y,_,_,_,_,_,rfl,htl2,hy,fin,m1.up (by omega),m2.up (by omega)⟩
 . rintro Γ M' ⟨rfl,c,top,bot,x,o7,o8,o9,o10,o11,rfl,hc,hx,hxx,bt,bb⟩
   simp! only[]
   exact .now q
def b5g:SpA:=fun ds M Q _=> ∃x:Fr,ds=[eF x]/\0<x.2/\Q (.bl true) M
theorem b1d{f:Addr}{fd:FuncData}(Fn:Fun K "_law_pair" "_law_pair" a5c f fd)(T:Txt K mg)(h_law_whole:Has P w K mg base (CXE P w) 1 "_law_whole" ["_law_found"] (a0k K a6k)):FnOk P w K mg base (CXE P w) 2 f fd ["_law_found"] (a0k K b5g):=by
 refine Fn.okA b04 (fun ds M Q E h=> ?_) ?_
 . obtain⟨_,rfl,_⟩:=h;rfl
 intro cdv A outer s H E F0 ds M Q Ea hr ct hsp
 obtain⟨x,rfl,hx,q⟩:=hsp
 refine⟨_,(a0b (sIf ((pwOr (a5f (ptV (a6y (T:="tuple") (x:="tuple") (by decide) (by rfl) T.isinstance (by rfl) T.tuple boot_tuple (paV (pv 0))))) (a52 (a0v (a2r (un64 ct)) lNe (a0z a0s lLen (by rfl) T.len PySem.boot_len (a0a (paV (pv 0)) a0f)) paI (a0m _))))).pt
       (a0h (sRet paB))
       a0w)
     (a0h (sRet (b8x (a04 h_law_whole (hr.mono (by decide)) (by rfl) ct (a0a (paIx a0i lIx (paV (pv 0)) paI (fun _ _=>rfl)) a0f)) (b8x (a04 h_law_whole (hr.mono (by decide)) (by rfl) ct (a0a (paIx a0i lIx (paV (pv 0)) paI (fun _ _=>rfl)) a0f)) (paOne (a8u b56 lGt (paIx a0i lIx (paV (pv 0)) paI (fun _ _=>rfl)) paI (a0m _)))))))),?_⟩
 have e3:(!("tuple":String)== "tuple")=false:=by decide
 have e5:(!decide ((2:Int)=2))=false:=by decide
 refine a1f (fun R h=>by
   simp! only[b40,a85,a4w,eF,e3,e5]
   exact h) ?_
 simp! only[eF,a6k,decide_eq_true (show x.2>0 from hx)]
 refine⟨_,rfl,rfl,?_⟩
 rw[if_pos (show isInt (.int x.1)=true from rfl)]
 refine⟨_,rfl,rfl,?_⟩
 rw[if_pos (show isInt (.int x.2)=true from rfl)]
 exact .now q
def b0z:SpA:=fun ds M Q _=> ∃(ts:List (Option Fr)) (bs:List Bool),ds=[.lst (ts.map eO),.lst (bs.map D.bl)]/\ts.length=bs.length/\bs.length<=100/\(∀k,k<bs.length->bs.getD k false=(ts.getD k none).isSome)/\(∀k x,ts.getD k none=some x->0<x.2)/\Q (.bl true) M
theorem b1a{f:Addr}{fd:FuncData}(Fn:Fun K "_law_told" "_law_told" a49 f fd)(T:Txt K mg)(h_law_pair:Has P w K mg base (CXE P w) 2 "_law_pair" ["_law_found"] (a0k K b5g)):FnOk P w K mg base (CXE P w) 3 f fd ["_law_told_here","_law_hung_here"] (a0k K b0z):=by
 refine Fn.okA sc_law_told (fun ds M Q E h=> ?_) ?_
 . obtain⟨_,_,rfl,_⟩:=h;rfl
 intro cdv A outer s H E F0 ds M Q Ea hr ct hsp
 obtain⟨ts,bs,rfl,hl,hbl,hb,hp,q⟩:=hsp
 refine⟨_,(a0b (sIf ((pwOr (a5f (ptV (a6y (T:="list") (x:="list") (by decide) (by rfl) T.isinstance (by rfl) T.list boot_list (paV (pv 0))))) (a52 (a0v (a2r (un64 ct)) lNe (a0z a0s lLen (by rfl) T.len PySem.boot_len (a0a (paV (pv 0)) a0f)) (a0z a0s lLen (by rfl) T.len PySem.boot_len (a0a (paV (pv 1)) a0f)) (a0m _))))).pt
       (a0h (sRet paB))
       a0w)
     (a0b (sFor ct (a88 rfl T.range (a0a (a0z a0s lLen (by rfl) T.len PySem.boot_len (a0a (paV (pv 1)) a0f)) a0f)) (a0r (i:=2) sc_law_told.nd rfl (Or.inl rfl))
       (a0b (sIf (a0v (a2r (un64 ct)) lNe (paIx a0i lIx (paV (pv 1)) (paV (pv 2)) (fun _ _=>rfl)) (a8u a8v b3e (paIx a0i lIx (paV (pv 0)) (paV (pv 2)) (fun _ _=>rfl)) paN (a0m _)) (a0m _))
         (a0h (sRet paB))
         a0w)
       (a0h (sIf ((b8h (ptV (paIx a0i lIx (paV (pv 1)) (paV (pv 2)) (fun _ _=>rfl))) (b2u (a5f (ptV (a04 h_law_pair (hr.mono (by decide)) (by rfl) ct (a0a (paIx a0i lIx (paV (pv 0)) (paV (pv 2)) (fun _ _=>rfl)) a0f))))))).pt
         (a0h (sRet paB))
         a0w))))
     (a0h (sRet paB)))),?_⟩
 have e0:(!("list":String)== "list")=false:=by decide
 refine a1f (fun R h=>by
   simp! only[b40,a85,a4w,e0,List.length_map,hl,decide_true,Bool.not_true]
   exact h) ?_
 simp! only[List.length_map]
 refine⟨by omega,by omega,?_⟩
 refine LoopP.by2 (fun i Γ M'=>M'=M/\ ∃o2,Γ=[some (.lst (ts.map eO)),some (.lst (bs.map D.bl)),o2]) ⟨rfl,_,rfl⟩ (fun _ _ _ _=>trivial) ?_ ?_
 . rintro E' i Γ M' hrt hi hnx ⟨rfl,o2,rfl⟩
   dsimp only at hi
   have hi':i<bs.length:=by simpa using hi
   have e1:=o_at (ts:=ts) (i:=i) (by omega)
   have e2:=b4z bs i hi'
   have h1:=hb i hi'
   simp only[gaN,List.set_cons_zero,List.set_cons_succ]
   cases ht:ts.getD i none with
   |none=>
     rw[ht]at e1 h1
     rw[h1]at e2
     refine a1f (fun R h=>by simp! only[e1,e2,eO,Option.isSome];exact h) ?_
     refine ifV false (fun R h=>by simp! only[e2,Option.isSome];exact h) ?_
     rw[if_neg Bool.false_ne_true]
     exact hnx _ _ ⟨rfl,_,rfl⟩
   |some x=>
     rw[ht]at e1 h1
     rw[h1]at e2
     refine a1f (fun R h=>by simp! only[e1,e2,eO,eF,Option.isSome];exact h) ?_
     refine ifV false (fun R h=>by
       simp! only[e1,e2,eO,Option.isSome,b5g]
       exact⟨x,rfl,hp i x ht,h⟩) ?_
     rw[if_neg Bool.false_ne_true]
     exact hnx _ _ ⟨rfl,_,rfl⟩
 . rintro Γ M' ⟨rfl,o2,rfl⟩
   simp! only[]
   exact .now q
def spNow(C:Addr):SpA:=fun ds M Q _=> ∃(p d1 d2:Addr) (S:TS) (x:Str),ds=[.obj p]/\Tr C M p d1 d2 S/\Sound S/\a30 S none=some x/\ ∀t,IsTree S.js x t->Grown S.js x t->Closed S.js t->t.length<=100-> ∀M',L2.Sub M M'->Q (.lst [.bl (a7v S t).isNone,encL (a7v S t)]) M'
theorem b4k{f C EJ:Addr}{fd:FuncData}{EC:Rk->Addr}(Fn:Fun K "_law_now" "_law_now" a6r f fd)(xm:PySem.W.exmOne K (.ref EJ) (.ref EJ)=some true)(bJ:mg "Jams"=some (.ref EJ))(h_turns:HasD P w K mg base 45 "turns" ["train","name"] (a0k K (a3f C EC EJ))):
   FnOk P w K mg base (CXE P w) 46 f fd ["_law_train"] (a0k K (spNow C)):=by
 refine Fn.okA sc_law_now (fun ds M Q E h=> ?_) ?_
 . obtain⟨_,_,_,_,_,rfl,_⟩:=h;rfl
 intro cdv A outer s H E F0 ds M Q Ea hr ct hsp
 obtain⟨p,d1,d2,S,x,rfl,tr,snd,ho,q⟩:=hsp
 refine⟨_,(a0b (sSet (i:=1) sc_law_now.nd rfl (Or.inl rfl) paN)
     (a0b (sSet (i:=2) sc_law_now.nd rfl (Or.inl rfl) paB)
     (a0b (sTry ct (fun _ _ _ ct=>(a0h (sSet (i:=1) sc_law_now.nd rfl (Or.inl rfl) (paFz (a77 h_turns (hr.mono (by decide)) (by rfl) ct (a0a (paV (pv 0)) a0f))))))
       (fun pn=>(haCons (K':=K) rfl (ct.pl.pin pn) bJ (by rfl) (fun _=>(a0h (sSet (i:=2) sc_law_now.nd rfl (Or.inl rfl) paB))) (haNil ct rfl pn))) a0w)
     (a0h (sRet (a6x (a0a (paV (pv 2)) (a0a (paV (pv 1)) a0f)))))))),?_⟩
 refine seqV .non M (fun R h=>h) (seqV (.bl false) M (fun R h=>h) ?_)
 simp! only[aTry,aFz,b18,a3f]
 refine⟨p,d1,d2,S,none,rfl,tr,snd.fit,?_⟩
 rw[ho]
 intro t ist gr cl tl
 have q:=q t ist gr cl tl
 unfold a7v at q
 revert q
 cases S.js.find? (a1r S.ws (a0e S.ws t))with
 |none=>
   intro q r hr'
   simp only[a0c,a1w hr']
   rw[b0x]
   exact⟨by decide,.now (q M fun _ _ h=>h)⟩
 |some _=>
   intro q M' sb
   refine⟨true,xm,?_⟩
   rw[if_pos rfl]
   intro a
   exact⟨by decide,.now (q M' sb)⟩
def a6m(C:Addr):SpA:=fun ds M Q _=> ∃(p d1 d2:Addr) (S:TS),ds=[.obj p]/\Tr C M p d1 d2 S/\Sound S/\a30 S none=none/\Q (.bl true) M
theorem a7t{f C:Addr}{fd:FuncData}{EC:Rk->Addr}(Fn:Fun K "_law_refused" "_law_refused" a22 f fd)(XK:ExK K mg EC)(xm:PySem.W.exmOne K (.ref (EC .noWheel)) (.ref (EC .noWheel))=some true)(h_ring:HasD P w K mg base 44 "ring" ["train","name"] (a0k K (a5t C EC))):
   FnOk P w K mg base (CXE P w) 45 f fd ["_law_train"] (a0k K (a6m C)):=by
 refine Fn.okA a7l (fun ds M Q E h=> ?_) ?_
 . obtain⟨_,_,_,_,rfl,_⟩:=h;rfl
 intro cdv A outer s H E F0 ds M Q Ea hr ct hsp
 obtain⟨p,d1,d2,S,rfl,tr,snd,ho,q⟩:=hsp
 have X_NoWheel:=XK.noWheel
 refine⟨_,(a0b (sTry ct (fun _ _ _ ct=>(a0h (a1y (paFzN (a77 h_ring (hr.mono (by decide)) (by rfl) ct (a0a (paV (pv 0)) a0f))))))
       (fun pn=>(haCons (K':=K) rfl (ct.pl.pin pn) X_NoWheel.bound (by rfl) (fun _=>(a0h (sRet paB))) (haNil ct rfl pn))) a0w)
     (a0h (sRet paB))),?_⟩
 simp! only[aTry,aFzN,b18,a5t]
 refine⟨p,d1,d2,S,none,rfl,tr,snd.fit,snd.nd,snd.une,?_⟩
 rw[ho]
 refine⟨true,xm,?_⟩
 rw[if_pos rfl]
 intro a
 exact .now q
def Now8(ws:List (Str×Int))(ks:List Kn)(nx:Int)(ts:List (Option Fr)):Prop:= ∃t,IsTree (tsK ws ks nx).js (at_ (ws.map Prod.fst) 0) t/\Grown (tsK ws ks nx).js (at_ (ws.map Prod.fst) 0) t/\Closed (tsK ws ks nx).js t/\a4d ws (tsK ws ks nx).js t/\tsO ws (a0e ws t)=ts
section
variable {C:Addr}{M M':Mem}{p d1 d2 pd:Addr}{spn:Nat}{ws:List (Str×Int)}{ks:List Kn}{nx:Int}{n:Nat}{bs:List Bool}{ts:List (Option Fr)}
theorem b4x(S:Sta8 C M p d1 d2 pd spn ws ks nx n)(k:Str×Nat×Nat):(ks++[(nx,k)]).filter (fun k=>decide (k.1≠nx))=ks:=by
 rw[List.filter_append]
 have e1:ks.filter (fun k=>decide (k.1≠nx))=ks:=List.filter_eq_self.mpr fun k hk=>decide_eq_true fun z=>by
   have:=S.tr.lt (jnK (ws.map Prod.fst) k) (List.mem_map.mpr ⟨k,hk,rfl⟩)
   have:k.1<nx:=this
   omega
 rw[e1,List.filter_cons,if_neg (by simp)];simp
theorem Flags.more(F:Flags ws ks nx bs){kd:Str}{a b:Nat}{nx':Int}(ha:a<ws.length)(hb:b<ws.length)(he:bs.getD a false=bs.getD b false):Flags ws (ks++[(nx,kd,a,b)]) nx' bs:=by
 have ej:=b63 ws ks nx nx' (nx,kd,a,b)
 refine⟨F.1,fun c hc=>(F.2 c hc).trans ⟨fun h=> ?_,fun h=> ?_⟩⟩
 . rw[ej];exact h.mono fun j hj=>List.mem_append_left _ hj
 . rw[ej]at h
   generalize at_ (ws.map Prod.fst) c=y at h
   clear hc
   induction h with
   |refl=>exact .refl
   | @step u l _ hl ih=>
     obtain⟨j,hj,e1,e2,e3⟩:=a09 hl
     rcases List.mem_append.mp hj with hj |hj
     . rcases e3 with⟨e3,e4⟩ | ⟨e3,e4⟩
       . rw[<-e4]
         exact .step (l:=(j.1,j.2.1,j.2.2.2)) ih (by rw[<-e3];exact(a1i hj).1)
       . rw[<-e4]
         exact .step (l:=(j.1,j.2.1,j.2.2.1)) ih (by rw[<-e3];exact(a1i hj).2)
     . have:j=jnK (ws.map Prod.fst) (nx,kd,a,b):=by simpa using hj
       subst this
       have e5:Reach (tsK ws ks nx).js (at_ (ws.map Prod.fst) 0) (at_ (ws.map Prod.fst) a)↔Reach (tsK ws ks nx).js (at_ (ws.map Prod.fst) 0) (at_ (ws.map Prod.fst) b):=by rw[<-F.2 a ha,<-F.2 b hb,he]
       rcases e3 with⟨e3,e4⟩ | ⟨e3,e4⟩
       . have e3:at_ (ws.map Prod.fst) a=u:=e3
         have e4:at_ (ws.map Prod.fst) b=l.2.2:=e4
         rw[<-e4];exact e5.mp (by rw[e3];exact ih)
       . have e3:at_ (ws.map Prod.fst) b=u:=e3
         have e4:at_ (ws.map Prod.fst) a=l.2.2:=e4
         rw[<-e4];exact e5.mpr (by rw[e3];exact ih)
theorem b6d(F:Flags ws ks nx bs){a b:Nat}(ha:a<ws.length)(hb:b<ws.length)(he:bs.getD a false=bs.getD b false){t:TT}(gr:Grown (tsK ws ks nx).js (at_ (ws.map Prod.fst) 0) t)(cl:Closed (tsK ws ks nx).js t):at_ (ws.map Prod.fst) a∈names t↔at_ (ws.map Prod.fst) b∈names t:=by
 have i1:at_ (ws.map Prod.fst) a∈names t↔bs.getD a false=true:=⟨fun h=>(F.2 a ha).mpr (gr.reach _ h),fun h=>gr.all cl ((F.2 a ha).mp h)⟩
 have i2:at_ (ws.map Prod.fst) b∈names t↔bs.getD b false=true:=⟨fun h=>(F.2 b hb).mpr (gr.reach _ h),fun h=>gr.all cl ((F.2 b hb).mp h)⟩
 rw[i1,i2,he]
end
def a6n(C:Addr):SpA:=fun ds M Q _=> ∃(p d1 d2 pd:Addr) (s:Nat) (ws:List (Str×Int)) (ks:List Kn) (nx:Int) (n:Nat) (bs:List Bool) (ts:List (Option Fr)) (out:List (Str×Nat×Nat)),ds=[.obj p,.lst (ws.map eW),.obj pd,.lst (out.map eK),.lst (ts.map eO)]/\Sta8 C M p d1 d2 pd s ws ks nx n/\n<=80/\out.length<=3/\0<ws.length/\Flags ws ks nx bs/\ts.length=ws.length/\(∀b,b<ws.length->bs.getD b false=(ts.getD b none).isSome)/\Outs ws bs out/\Now8 ws ks nx ts/\ ∀M',Q (.bl true) M'
theorem a62{f C EJ:Addr}{fd:FuncData}{EC:Rk->Addr}(Fn:Fun K "_law_put_back" "_law_put_back" a2l f fd)(T:Txt K mg)(h_ring:HasD P w K mg base 44 "ring" ["train","name"] (a0k K (a5t C EC)))(h_turns:HasD P w K mg base 45 "turns" ["train","name"] (a0k K (a3f C EC EJ)))
   (h_put_join:HasM P w K mg base (CXE P w) 2 C "put_join" ["self","kind","one","other"] (a0k K (a74 C EC))) (h_take_join:HasM P w K mg base (CXE P w) 2 C "take_join" ["self","number"] (a0k K (a41 C EC))) (h_law_now:Has P w K mg base (CXE P w) 46 "_law_now" ["_law_train"] (a0k K (spNow C)))
   (h_law_jammed:Has P w K mg base (CXE P w) 3 "_law_jammed" ["_law_way","_law_wheels","_law_left","_law_hung_here"] (a0k K a4g)):FnOk P w K mg base (CXE P w) 47 f fd ["_law_train","_law_wheels","_law_left","_law_out","_law_told_here"] (a0k K (a6n C)):=by
 refine Fn.okA sc_law_put_back (fun ds M Q E h=> ?_) ?_
 . obtain⟨_,_,_,_,_,_,_,_,_,_,_,_,rfl,_⟩:=h;rfl
 intro cdv A outer s H E F0 ds M Q Ea hr ct hsp
 obtain⟨p,d1,d2,pd,sp,ws,ks,nx,n,bs,ts,out,rfl,S,hn,hol,h0,F,htl,hbt,ho,now,q⟩:=hsp
 refine⟨_,(a0b (b2q (i:=5) sc_law_put_back.nd rfl rfl (Nc:=["_law_one"]) (n:=1) (fs:=[]) b0j rfl (a1z (paV (pv 4))) (fun _ _ _ _ _=>(a0r (i:=0) (show List.Nodup (["_law_one"]:List Str)by decide+kernel) rfl (Or.inl rfl))) (fun _ _ _ _ _=>a9b) (fun _ _ _ _ _=>(a8u a8v b3e (paV (pv 0)) paN (a0m _))) (by rfl))
     (a0b (sFor ct (a1z (paV (pv 3))) (a6i rfl (a0u (a0r (i:=6) sc_law_put_back.nd rfl (Or.inl rfl)) (a0u (a0r (i:=7) sc_law_put_back.nd rfl (Or.inl rfl)) (a0u (a0r (i:=8) sc_law_put_back.nd rfl (Or.inl rfl)) a2p))))
       (a0b (sSet (i:=9) sc_law_put_back.nd rfl (Or.inl rfl) (a9x h_put_join (hr.mono (by decide)) ct (paV (pv 0)) (a0a (paV (pv 6)) (a0a (paIx a0i lIx (paIx a0i lIx (paV (pv 1)) (paV (pv 7)) (fun _ _=>rfl)) paI (fun _ _=>rfl)) (a0a (paIx a0i lIx (paIx a0i lIx (paV (pv 1)) (paV (pv 8)) (fun _ _=>rfl)) paI (fun _ _=>rfl)) a0f)))))
       (a0b (b06 (un1 ct) (paV (pv 2)) (paV (pv 9)) (a2b (a0a (paV (pv 6)) (a0a (paV (pv 7)) (a0a (paV (pv 8)) a0f)))) rfl)
       (a0b (sAsg (a04 h_law_now (hr.mono (by decide)) (by rfl) ct (a0a (paV (pv 0)) a0f)) (tgLst rfl (a0u (a0r (i:=10) sc_law_put_back.nd rfl (Or.inl rfl)) (a0u (a0r (i:=11) sc_law_put_back.nd rfl (Or.inl rfl)) a2p))))
       (a0h (sIf (ptV (paV (pv 10)))
         (a0b (sSet (i:=12) sc_law_put_back.nd rfl (Or.inl rfl) (paFzN (a77 h_ring (hr.mono (by decide)) (by rfl) ct (a0a (paV (pv 0)) a0f))))
         (a0b (sIf (a5f (ptV (a04 h_law_jammed (hr.mono (by decide)) (by rfl) ct (a0a (paV (pv 12)) (a0a (paV (pv 1)) (a0a (paV (pv 2)) (a0a (paV (pv 5)) a0f)))))))
           (a0h (sRet paB))
           a0w)
         (a0b (sIf (a0v a4q b3d (paV (pv 9)) (paFz (a6z (Nc:=["_law_step"]) (n:=1) (fs:=[]) b0j rfl (a1z (paV (pv 12))) (fun _ _ _ _ _=>(a0r (i:=0) (show List.Nodup (["_law_step"]:List Str)by decide+kernel) rfl (Or.inl rfl))) (fun _ _ _ _ _=>a9b) (fun _ _ _ _ _=>(paIx a0i lIx (paV (pv 0)) paI (fun _ _=>rfl))))) (by with_unfolding_all rfl))
           (a0h (sRet paB))
           a0w)
         (a0b (a1y (a9x h_take_join (hr.mono (by decide)) ct (paV (pv 0)) (a0a (paV (pv 9)) a0f)))
         (a0h (a1y (b54 (paV (pv 2)) (paV (pv 9)) ⟨by rfl,by rfl,by rfl,by rfl⟩)))))))
         (a0h (sIf (a0v (a2r (un64 ct)) lNe (paV (pv 11)) (paV (pv 4)) (a0m _))
           (a0h (sRet paB))
           a0w))))))))
     (a0h (sRet (a8u (a1g (un64 ct)) lEq (paFz (a77 h_turns (hr.mono (by decide)) (by rfl) ct (a0a (paV (pv 0)) a0f))) (paV (pv 4)) (a0m _)))))),?_⟩
 have hwl:=S.wl
 have gts: ∀M:Mem,shD (drf M (.lst (ts.map eO)))=true:=fun M=>(gd_os ts).sh
 have ebs:(ts.map eO).map (fun d=>D.bl (!b1q d))=bs.map D.bl:=by
   refine List.ext_getElem (by rw[List.length_map,List.length_map,List.length_map,htl,F.1]) fun i h1 h2=> ?_
   have h3:i<ts.length:=by simpa using h1
   have h4:i<bs.length:=by simpa using h2
   rw[List.getElem_map,List.getElem_map,List.getElem_map]
   have:=hbt i (by omega)
   rw[List.getD_eq_getElem?_getD,List.getD_eq_getElem?_getD,List.getElem?_eq_getElem h3,List.getElem?_eq_getElem h4]at this
   have this:bs[i]=(ts[i]).isSome:=this
   rw[this]
   cases ts[i]<;>rfl
 refine cut1 (fun Γ' M1=>M1=M/\Γ'=[some (.obj p),some (.lst (ws.map eW)),some (.obj pd),some (.lst (out.map eK)),some (.lst (ts.map eO)),some (.lst (bs.map D.bl)),none,none,none,none,none,none,none]) ?_ ?_
 rotate_left
 . intro rest hrest
   refine seqV (.lst (bs.map D.bl)) M (fun R h=>b9j (ts.map eO) (fun d=>D.bl (!b1q d)) (fun R h=>h) (by rw[List.length_map];omega) (fun x hx M' R h=>by
     obtain⟨o,_,rfl⟩:=List.mem_map.mp hx
     cases o with
     |none=>exact h
     |some y=>exact h) (by rw[ebs];exact h)) ?_
   exact hrest _ _ ⟨rfl,rfl⟩
 rintro Γ' M1 ⟨rfl,rfl⟩
 refine b4w (d:= .lst (out.map eK)) (ds:=out.map eK) (fun R h=>h) rfl ?_
 refine LoopP.by2 (fun i Γ M'=> ∃(ks':List Kn) (nx':Int) (o6 o7 o8 o9 o10 o11 o12:Option D),Γ=[some (.obj p),some (.lst (ws.map eW)),some (.obj pd),some (.lst (out.map eK)),some (.lst (ts.map eO)),some (.lst (bs.map D.bl)),o6,o7,o8,o9,o10,o11,o12]/\Sta8 C M' p d1 d2 pd sp ws ks' nx' (n+i)/\Flags ws ks' nx' bs/\Now8 ws ks' nx' ts) ⟨ks,nx,_,_,_,_,_,_,_,rfl,S,F,now⟩ (fun _ _ _ _=>rfl) ?_ ?_
 . clear S F now
   rintro E' i Γ M' hrt hi hnx ⟨ks',nx',o6,o7,o8,o9,o10,o11,o12,rfl,S,F,now⟩
   dsimp only at hi
   have hi':i<out.length:=by simpa using hi
   have hkl:=S.kl
   obtain⟨j1,j2,j3,j4,j5⟩:=ho _ (List.getElem_mem hi')
   simp only[a1t out eK i hi',eK,a5s,a3q,gaNil,gaN,List.set_cons_zero,List.set_cons_succ,true_and]
   refine⟨rfl,?_⟩
   generalize out[i]=jj at *
   obtain⟨kd,a,b⟩:=jj
   dsimp only at j1 j2 j3 j4 j5
   have nd:=S.rw'.nodup (by omega)
   have hl:(ws.map Prod.fst).length=ws.length:=List.length_map ..
   have no_pj: ∀{d1 d2:Addr}{n:Int},(fsT d1 d2 n).lookup ("put_join":Str)=none:=rfl
   refine cut1 (fun Γ' M2=>M2=put (put M' d2 (.dic (dJ ((tsK ws ks' nx').js++[(nx',kd,at_ (ws.map Prod.fst) a,at_ (ws.map Prod.fst) b)])))) p (.ins C (fsT d1 d2 (nx'+1)))/\Γ'=[some (.obj p),some (.lst (ws.map eW)),some (.obj pd),some (.lst (out.map eK)),some (.lst (ts.map eO)),some (.lst (bs.map D.bl)),some (.str kd),some (.int a),some (.int b),some (.int nx'),o10,o11,o12]) ?_ ?_
   rotate_left
   . intro rest hrest
     simp! only[b2r j2,b2r j3,S.tr.self,no_pj,a74]
     refine⟨p,d1,d2,_,_,_,_,rfl,S.tr,?_⟩
     rw[show refJ (tsK ws ks' nx') kd (at_ (ws.map Prod.fst) a) (at_ (ws.map Prod.fst) b)=none from b5q (S:=tsK ws ks' nx') j1 (a1u (show a< (ws.map Prod.fst).length by rw[hl];exact j2)) (a1u (show b< (ws.map Prod.fst).length by rw[hl];exact j3)) (fun z=>j4 (a34 nd (by rw[hl];exact j2) (by rw[hl];exact j3) z)) (by show(ks'.map _).length<200;rw[List.length_map];omega)]
     exact hrest _ _ ⟨rfl,rfl⟩
   rintro Γ' M2 ⟨rfl,rfl⟩
   have hno:(getK (ks'.map eKn) (Sum.inl nx')).isSome=false:=by
     rw[b1u]
     refine decide_eq_false fun z=> ?_
     obtain⟨k,hk',e⟩:=List.mem_map.mp z
     have:=S.tr.lt (jnK (ws.map Prod.fst) k) (List.mem_map.mpr ⟨k,hk',rfl⟩)
     have:k.1<nx':=this
     omega
   have S2:=S.join j1 j2 j3 j4
   have F2:Flags ws (ks'++[(nx',kd,a,b)]) (nx'+1) bs:=F.more j2 j3 j5
   refine cut1 (fun Γ' M3=>Sta8 C M3 p d1 d2 pd sp ws (ks'++[(nx',kd,a,b)]) (nx'+1) (n+i+1)/\Γ'=[some (.obj p),some (.lst (ws.map eW)),some (.obj pd),some (.lst (out.map eK)),some (.lst (ts.map eO)),some (.lst (bs.map D.bl)),some (.str kd),some (.int a),some (.int b),some (.int nx'),o10,o11,o12]) ?_ ?_
   rotate_left
   . intro rest hrest
     simp! only[a0g S.kp,a0g S.kd2,S.k1,a2q hno]
     rw[List.map_append (l₁:=ks')]at S2
     exact⟨by decide,by rw[List.length_map];omega,hrest _ _ ⟨S2,rfl⟩⟩
   clear S2
   rintro Γ' M3 ⟨S2,rfl⟩
   have sd:=S2.sound (by omega)
   refine cut1 (fun Γ' M4=>L2.Sub M3 M4/\ ∃t,IsTree (tsK ws (ks'++[(nx',kd,a,b)]) (nx'+1)).js (at_ (ws.map Prod.fst) 0) t/\Grown (tsK ws (ks'++[(nx',kd,a,b)]) (nx'+1)).js (at_ (ws.map Prod.fst) 0) t/\Closed (tsK ws (ks'++[(nx',kd,a,b)]) (nx'+1)).js t/\Γ'=[some (.obj p),some (.lst (ws.map eW)),some (.obj pd),some (.lst (out.map eK)),some (.lst (ts.map eO)),some (.lst (bs.map D.bl)),some (.str kd),some (.int a),some (.int b),some (.int nx'),some (.bl (a7v (tsK ws (ks'++[(nx',kd,a,b)]) (nx'+1)) t).isNone),some (encL (a7v (tsK ws (ks'++[(nx',kd,a,b)]) (nx'+1)) t)),o12]) ?_ ?_
   rotate_left
   . intro rest hrest
     simp! only[spNow]
     refine⟨p,d1,d2,_,_,rfl,S2.tr,sd,b0a h0,fun t ist gr cl _ M4 sb=> ?_⟩
     refine⟨rfl,rfl,?_⟩
     exact hrest _ _ ⟨sb,t,ist,gr,cl,rfl⟩
   rintro Γ' M4 ⟨sb,t,ist,gr,cl,rfl⟩
   have S4:=S2.sub sb
   clear S2
   have ht:a3e ws:=S.rw'.teeth
   obtain⟨t0,ist0,gr0,cl0,nj0,et0⟩:=now
   have ej:=b63 ws ks' nx' (nx'+1) (nx',kd,a,b)
   have iff0:(jnK (ws.map Prod.fst) (nx',kd,a,b)).2.2.1∈names t0↔(jnK (ws.map Prod.fst) (nx',kd,a,b)).2.2.2∈names t0:=b6d F j2 j3 j5 gr0 cl0
   by_cases nj:a4d ws (tsK ws (ks'++[(nx',kd,a,b)]) (nx'+1)).js t
   . have et:tsO ws (a0e ws t)=ts:=by
       rw[<-et0]
       rw[ej]at gr cl nj
       exact b6e ht gr0 cl0 gr cl iff0 nj
     have el:a7v (tsK ws (ks'++[(nx',kd,a,b)]) (nx'+1)) t=some ts:=by
       rw[b6k (S:=tsK ws (ks'++[(nx',kd,a,b)]) (nx'+1)) nj]
       exact congrArg some et
     rw[el]
     refine ifV false (fun R h=>by simp! only[Option.isNone];exact h) ?_
     rw[if_neg Bool.false_ne_true]
     refine ifV false (fun R h=>by
       simp! only[encL]
       exact a82 (gts _) h) ?_
     rw[if_neg Bool.false_ne_true]
     exact hnx _ _ ⟨_,_,_,_,_,_,_,_,_,rfl,S4,F2,t,ist,gr,cl,nj,et⟩
   . rw[(b6l (S:=tsK ws (ks'++[(nx',kd,a,b)]) (nx'+1))).mpr nj]
     refine ifV true (fun R h=>by simp! only[Option.isNone];exact h) ?_
     rw[if_pos rfl]
     have sd4:=S4.sound (by omega)
     refine cut1 (fun Γ' M5=>M5=M4/\ ∃a' rs,Ring ws (tsK ws (ks'++[(nx',kd,a,b)]) (nx'+1)).js (at_ (ws.map Prod.fst) 0) a' rs/\rs.length<=500/\Γ'=[some (.obj p),some (.lst (ws.map eW)),some (.obj pd),some (.lst (out.map eK)),some (.lst (ts.map eO)),some (.lst (bs.map D.bl)),some (.str kd),some (.int a),some (.int b),some (.int nx'),some (.bl true),some .non,some (.lst (rs.map eSt))]) ?_ ?_
     rotate_left
     . intro rest hrest
       simp! only[aFzN,b18,a5t]
       refine⟨p,d1,d2,_,none,rfl,S4.tr,sd4.fit,sd4.nd,sd4.une,?_⟩
       rw[b0a h0]
       intro t' ist' gr' cl' tl'
       obtain rfl:=ist.one ist'
       cases hf:(tsK ws (ks'++[(nx',kd,a,b)]) (nx'+1)).js.find? (a1r (tsK ws (ks'++[(nx',kd,a,b)]) (nx'+1)).ws (a0e (tsK ws (ks'++[(nx',kd,a,b)]) (nx'+1)).ws t))with
       |none=>exact absurd (jam_iff.mp hf) nj
       |some j=>
         intro a' rs R hrl r hr'
         simp only[a0c,a1w hr']
         exact hrest _ _ ⟨rfl,a',rs,R,hrl,rfl⟩
     rintro Γ' M5 ⟨rfl,a',rs,R,hrl,rfl⟩
     have hin:nx'∈rs.map Prod.fst:=by
       have ndj:=b2b (ws:=ws) (nx:=nx'+1) S4.nd
       rw[ej]at R ndj
       exact b8f (j:=jnK (ws.map Prod.fst) (nx',kd,a,b)) ht ndj gr0 cl0 iff0 nj0 R
     refine cut1 (fun Γ' M6=>L2.Sub M5 M6/\Γ'=[some (.obj p),some (.lst (ws.map eW)),some (.obj pd),some (.lst (out.map eK)),some (.lst (ts.map eO)),some (.lst (bs.map D.bl)),some (.str kd),some (.int a),some (.int b),some (.int nx'),some (.bl true),some .non,some (.lst (rs.map eSt))]) ?_ ?_
     rotate_left
     . intro rest hrest
       simp! only[a4g]
       refine⟨pd,rs,sp,ws,_,_,bs,_,a',rfl,S4.k1,S4.rw',S4.nd,by omega,hrl,R,F2.1,fun b hb=>(F2.2 b hb).mpr,fun M6 sb=> ?_⟩
       rw[if_neg (show ¬ (!true)=true by decide)]
       exact hrest _ _ ⟨sb,rfl⟩
     rintro Γ' M6 ⟨sb6,rfl⟩
     have S6:=S4.sub sb6
     clear S4
     have e0:(rs.map eSt).map row0=(rs.map Prod.fst).map D.int:=by rw[List.map_map,List.map_map];rfl
     refine a1f (fun R h=>by
       simp! only[]
       refine b9j (rs.map eSt) row0 (fun R h=>h) (by rw[List.length_map];omega) (fun x hx M' R h=>by
         obtain⟨w',_,rfl⟩:=List.mem_map.mp hx
         exact⟨trivial,h⟩) ?_
       rw[e0]
       simp! only[b3o,a87,decide_eq_true hin]
       exact h) ?_
     have hik:nx'∈(ks'++[(nx',kd,a,b)]).map Prod.fst:=by simp
     have hg:=a89 S6.nd (k:=(nx',kd,a,b)) (by simp)
     refine b4y .non (put M6 d2 (.dic (dJ ((tsK ws (ks'++[(nx',kd,a,b)]) (nx'+1)).js.filter fun j=>decide (j.1≠nx'))))) (fun R h=>by
       simp! only[S6.tr.self,a5u,a41]
       refine⟨p,d1,d2,_,_,rfl,S6.tr,?_⟩
       rw[show refL (tsK ws (ks'++[(nx',kd,a,b)]) (nx'+1)) nx'=none by unfold refL;rw[b7c hik];rfl]
       exact h) ?_
     refine a7x (eK (kd,a,b)) (put (put M6 d2 (.dic (dJ ((tsK ws (ks'++[(nx',kd,a,b)]) (nx'+1)).js.filter fun j=>decide (j.1≠nx'))))) pd (.dic (((ks'++[(nx',kd,a,b)]).filter fun k=>decide (k.1≠nx')).map eKn))) (fun R' h=>by
       simp! only[a0g S6.kd2,S6.k1,hg,b0i]
       exact⟨rfl,h⟩) ?_
     have S7:=S6.less nx'
     rw[b4x S (kd,a,b)]at S7 |-
     exact hnx _ _ ⟨ks',nx'+1,_,_,_,_,_,_,_,rfl,⟨S7.tr,S7.k1,S7.kd1,S7.kd2,S7.rw',S7.nd,S7.wl,by omega⟩,F,t0,ist0,gr0,cl0,nj0,et0⟩
 . rintro Γ M' ⟨ks',nx',o6,o7,o8,o9,o10,o11,o12,rfl,S,F,now⟩
   dsimp only at S
   have e:(out.map eK).length=out.length:=List.length_map ..
   rw[e]at S
   have sd:=S.sound (by omega)
   simp! only[aFz,b18,a3f]
   refine⟨p,d1,d2,_,none,rfl,S.tr,sd.fit,?_⟩
   rw[b0a h0]
   intro t ist gr cl tl
   obtain⟨t0,ist0,_,_,nj,et⟩:=now
   obtain rfl:=ist.one ist0
   rw[show(tsK ws ks' nx').js.find? (a1r (tsK ws ks' nx').ws (a0e (tsK ws ks' nx').ws t))=none from jam_iff.mpr nj]
   intro r hr'
   simp only[a0c,a1w hr']
   rw[b0x,show tsO (tsK ws ks' nx').ws (a0e (tsK ws ks' nx').ws t)=ts from et]
   exact a6h (gts _) (.now (q _))
theorem cut_map(ns:List Int)(lo hi:Option Int):cut (ns.map D.int) lo hi=((ns.drop (HT.sIx ns.length 0 lo)).take (HT.sIx ns.length ns.length hi- HT.sIx ns.length 0 lo)).map D.int:=by
 unfold cut
 rw[List.length_map,<-List.map_drop,<-List.map_take]
theorem cut_81(ns:List Int): ∃ms:List Int,cut (ns.map D.int) none (some 81)=ms.map D.int/\ms.length<=81:=by
 refine⟨_,cut_map _ _ _,?_⟩
 have e2:HT.sIx ns.length ns.length (some 81)=min 81 ns.length:=HT.sIx_nat _ _ 81
 rw[e2,HT.sIx_none,List.length_take,List.length_drop]
 omega
theorem cut_3(out:List (Str×Nat×Nat)): ∃o3:List (Str×Nat×Nat),cut (out.map eK) none (some 3)=o3.map eK/\o3.length<=3/\ ∀j∈o3,j∈out:=by
 refine⟨out.take 3,?_,by rw[List.length_take];omega,fun j hj=>List.mem_of_mem_take hj⟩
 unfold cut
 have e2:HT.sIx (out.map eK).length (out.map eK).length (some 3)=min 3 (out.map eK).length:=HT.sIx_nat _ _ 3
 rw[e2,HT.sIx_none,List.drop_zero,List.map_take,Nat.sub_zero]
 by_cases h:3<=(out.map eK).length
 . rw[Nat.min_eq_left h]
 . rw[Nat.min_eq_right (by omega),List.take_length,List.take_of_length_le (by omega)]
section
variable {C:Addr}{M M':Mem}{p d1 d2 pd:Addr}{spn:Nat}{ws:List (Str×Int)}{ks:List Kn}{nx:Int}{n:Nat}{bs:List Bool}{t:TT}
theorem b37{js:List (Str×Nat×Nat)}(tr:Tr C M p d1 d2 (tsOf ws js))(hpd:M pd=none)(r:Rw spn ws js)(wl:ws.length<=40)(kl:js.length<=n):Sta8 C (put M pd (.dic ((knOf js).map eKn))) p d1 d2 pd spn ws (knOf js) js.length n:=by
 have sb:L2.Sub M (put M pd (.dic ((knOf js).map eKn))):= .put hpd
 have tr':=tr.sub sb
 rw[tsK_of]at tr'
 exact⟨tr',a0c,a5j tr.teeth hpd,a5j tr.join hpd,by rw[b3f];exact r,knOf_nd js,wl,by rw[b3g];exact kl⟩
theorem b9l(r:Rw spn ws (ks.map Prod.snd))(hw:ws.length<=676)(gr:Grown (tsK ws ks nx).js (at_ (ws.map Prod.fst) 0) t)(cl:Closed (tsK ws ks nx).js t)(nj:a4d ws (tsK ws ks nx).js t)(tl:t.length<=100):Along ws ks (tsO ws (a0e ws t)):=by
 have ht:a3e ws:=r.teeth
 have nd:=r.nodup hw
 intro k hk c t' hc ht' ends x hx
 rw[a9k hc]at hx
 by_cases m1:at_ (ws.map Prod.fst) c∈names t
 . rw[if_pos m1]at hx
   have hx:=Option.some.inj hx
   have hm:jnK (ws.map Prod.fst) k∈(tsK ws ks nx).js:=List.mem_map.mpr ⟨k,hk,rfl⟩
   have ce:=a2d cl hm
   have ag:=(b1y ht gr nj).agr _ hm
   have low:=(a1o ht gr _ m1).1
   have key:at_ (ws.map Prod.fst) t'∈names t/\AgreesG ws (lk (a0e ws t)) k.2.1 (at_ (ws.map Prod.fst) c) (at_ (ws.map Prod.fst) t'):=by
     rcases ends with⟨rfl,rfl⟩ | ⟨rfl,rfl⟩
     . have m2:=ce.mp m1
       exact⟨m2,ag m1 m2⟩
     . have m2:=ce.mpr m1
       exact⟨m2,(ag m2 m1).symm⟩
   obtain⟨m2,ag⟩:=key
   unfold AgreesG at ag
   rw[a3t nd hc,a3t nd ht']at ag
   subst hx
   exact⟨by omega,_,by rw[a9k ht',if_pos m2],lk_bg ht gr tl m2,ag⟩
 . rw[if_neg m1]at hx;cases hx
theorem b36(F:Flags ws ks nx bs)(gr:Grown (tsK ws ks nx).js (at_ (ws.map Prod.fst) 0) t)(cl:Closed (tsK ws ks nx).js t){b:Nat}(hb:b<ws.length):bs.getD b false=((tsO ws (a0e ws t)).getD b none).isSome:=by
 rw[a9k hb]
 by_cases m:at_ (ws.map Prod.fst) b∈names t
 . rw[if_pos m,(F.2 b hb).mpr (gr.reach _ m)];rfl
 . rw[if_neg m]
   cases h:bs.getD b false with
   |false=>rfl
   |true=>exact absurd (gr.all cl ((F.2 b hb).mp h)) m
theorem b77(ht:a3e ws)(gr:Grown (tsK ws ks nx).js (at_ (ws.map Prod.fst) 0) t): ∀k x,(tsO ws (a0e ws t)).getD k none=some x->0<x.2:=by
 intro k x hx
 by_cases hk:k<ws.length
 . rw[a9k hk]at hx
   by_cases m:at_ (ws.map Prod.fst) k∈names t
   . rw[if_pos m]at hx
     rw[<-Option.some.inj hx]
     have:=(a1o ht gr _ m).1
     omega
   . rw[if_neg m]at hx;cases hx
 . rw[List.getD_eq_getElem?_getD,List.getElem?_eq_none (by rw[b48];omega)]at hx;cases hx
end
theorem ok_law{f C EJ:Addr}{fd:FuncData}{EC:Rk->Addr}(Fn:Fun K "law" "law" a8n f fd)(T:Txt K mg)(h_law_cell_at:Has P w K mg base (CXE P w) 1 "_law_cell_at" ["_law_script","_law_k"] (a0k K a9o))
   (h_law_rows:Has P w K mg base (CXE P w) 2 "_law_rows" ["_law_script"] (a0k K spRows)) (h_law_text:Has P w K mg base (CXE P w) 1 "_law_text" ["_law_wheels","_law_joins"] (a0k K b5d)) (h_read:Has P w K mg base (CXE P w) 4 "read" ["text"] (a0k K (b5f C)))
   (h_law_refused:Has P w K mg base (CXE P w) 45 "_law_refused" ["_law_train"] (a0k K (a6m C))) (h_law_hung:Has P w K mg base (CXE P w) 1 "_law_hung" ["_law_many","_law_joins","_law_start"] (a0k K b5j))
   (h_law_loosened:Has P w K mg base (CXE P w) 45 "_law_loosened" ["_law_train","_law_wheels","_law_left","_law_hung_here","_law_cell"] (a0k K (a42 C))) (h_turns:HasD P w K mg base 45 "turns" ["train","name"] (a0k K (a3f C EC EJ)))
   (h_law_told:Has P w K mg base (CXE P w) 3 "_law_told" ["_law_told_here","_law_hung_here"] (a0k K b0z)) (h_law_walked:Has P w K mg base (CXE P w) 2 "_law_walked" ["_law_told_here","_law_wheels","_law_left","_law_cells"] (a0k K a8h))
   (h_law_put_back:Has P w K mg base (CXE P w) 47 "_law_put_back" ["_law_train","_law_wheels","_law_left","_law_out","_law_told_here"] (a0k K (a6n C))):FnOk P w K mg base (CXE P w) 48 f fd ["_law_script"] (a0k K spTrue):=by
 refine Fn.okA sc_law (fun ds M Q E h=> ?_) ?_
 . obtain⟨a,rfl,_⟩:=h;rfl
 intro cdv A outer s H E F0 ds M Q Ea hr ct hsp
 obtain⟨sc,rfl,hsc,q⟩:=hsp
 refine⟨_,(a0b (sAsg (a04 h_law_rows (hr.mono (by decide)) (by rfl) ct (a0a (paV (pv 0)) a0f)) (tgLst rfl (a0u (a0r (i:=1) sc_law.nd rfl (Or.inl rfl)) (a0u (a0r (i:=2) sc_law.nd rfl (Or.inl rfl)) a2p))))
     (a0b (sSet (i:=3) sc_law.nd rfl (Or.inl rfl) (a04 h_read (hr.mono (by decide)) (by rfl) ct (a0a (a04 h_law_text (hr.mono (by decide)) (by rfl) ct (a0a (paV (pv 1)) (a0a (paV (pv 2)) a0f))) a0f)))
     (a0b (sIf (a0v (a1g (un64 ct)) lEq (paV (pv 1)) (a6x a0f) (a0m _))
       (a0h (sRet (a04 h_law_refused (hr.mono (by decide)) (by rfl) ct (a0a (paV (pv 3)) a0f))))
       a0w)
     (a0b (sSet (i:=4) sc_law.nd rfl (Or.inl rfl) b2z)
     (a0b (sFor ct (a88 rfl T.range (a0a (a0z a0s lLen (by rfl) T.len PySem.boot_len (a0a (paV (pv 2)) a0f)) a0f)) (a0r (i:=5) sc_law.nd rfl (Or.inl rfl))
       (a0h (b06 (un1 ct) (paV (pv 4)) (paV (pv 5)) (paIx a0i lIx (paV (pv 2)) (paV (pv 5)) (fun _ _=>rfl)) rfl)))
     (a0b (sSet (i:=6) sc_law.nd rfl (Or.inl rfl) (a04 h_law_hung (hr.mono (by decide)) (by rfl) ct (a0a (a0z a0s lLen (by rfl) T.len PySem.boot_len (a0a (paV (pv 1)) a0f)) (a0a (paV (pv 2)) (a0a paI a0f)))))
     (a0b (sSet (i:=7) sc_law.nd rfl (Or.inl rfl) (a04 h_law_loosened (hr.mono (by decide)) (by rfl) ct (a0a (paV (pv 3)) (a0a (paV (pv 1)) (a0a (paV (pv 4)) (a0a (paV (pv 6)) (a0a (a04 h_law_cell_at (hr.mono (by decide)) (by rfl) ct (a0a (paV (pv 0)) (a0a paI a0f))) a0f)))))))
     (a0b (sIf (a0v a9z lIs (paV (pv 7)) paN (a0m _))
       (a0h (sRet paB))
       a0w)
     (a0b (sSet (i:=8) sc_law.nd rfl (Or.inl rfl) (paFz (a77 h_turns (hr.mono (by decide)) (by rfl) ct (a0a (paV (pv 3)) a0f))))
     (a0b (sSet (i:=9) sc_law.nd rfl (Or.inl rfl) (a6x a0f))
     (a0b (sIf (ptV (a04 h_law_told (hr.mono (by decide)) (by rfl) ct (a0a (paV (pv 8)) (a0a (paV (pv 6)) a0f))))
       (a0h (sSet (i:=9) sc_law.nd rfl (Or.inl rfl) (a4o b0k lList (by rfl) T.list boot_list (a0a (paV (pv 8)) a0f))))
       a0w)
     (a0b (sIf ((pwOr (a0v (a1g (un64 ct)) lEq (paV (pv 9)) (a6x a0f) (a0m _)) (a52 (a5f (ptV (a04 h_law_walked (hr.mono (by decide)) (by rfl) ct (a0a (paV (pv 8)) (a0a (paV (pv 1)) (a0a (paV (pv 4)) (a0a (paSl a9q lSl (paV (pv 0)) poN (poS paI)) a0f)))))))))).pt
       (a0h (sRet paB))
       a0w)
     (a0h (sRet (b8x (a04 h_law_put_back (hr.mono (by decide)) (by rfl) ct (a0a (paV (pv 3)) (a0a (paV (pv 1)) (a0a (paV (pv 4)) (a0a (paSl a9q lSl (paV (pv 7)) poN (poS paI)) (a0a (paV (pv 9)) a0f)))))) (paOne (a8u (a1g (un64 ct)) lEq (paV (pv 8)) (paV (pv 9)) (a0m _)))))))))))))))))),?_⟩
 refine cut1 (fun Γ' M1=>M1=M/\ ∃s ws js,Rw s ws js/\ws.length<=40/\js.length<=40/\Γ'=[some (.scr (sc.map D.int)),some (.lst (ws.map eW)),some (.lst (js.map eK)),none,none,none,none,none,none,none]) ?_ ?_
 rotate_left
 . intro rest hrest
   refine⟨sc,rfl,Nat.le_trans hsc.1 (by decide),fun s' ws js rw' hw hj=> ?_⟩
   refine⟨rfl,rfl,?_⟩
   exact hrest _ _ ⟨rfl,s',ws,js,rw',hw,hj,rfl⟩
 rintro Γ' M1 ⟨rfl,sp,ws,js,rw',hw,hj,rfl⟩
 refine cut1 (fun Γ' M2=> ∃p d1 d2,Tr C M2 p d1 d2 (tsOf ws js)/\Γ'=[some (.scr (sc.map D.int)),some (.lst (ws.map eW)),some (.lst (js.map eK)),some (.obj p),none,none,none,none,none,none]) ?_ ?_
 rotate_left
 . intro rest hrest
   simp! only[b5d,b5f]
   refine⟨sp,ws,js,rfl,rw',by omega,by omega,fun M2 _=>⟨sp,ws,js,rfl,rw',by omega,by omega,fun p d1 d2 M3 _ tr=>hrest _ _ ⟨p,d1,d2,tr,rfl⟩⟩⟩
 rintro Γ' M2 ⟨p,d1,d2,tr,rfl⟩
 have gw:shD (.lst (ws.map eW))=true:=(Gd.lst 1 _ fun d hd=>by
   obtain⟨x,hx,rfl⟩:=List.mem_map.mp hd
   refine .tup _ _ fun e he=> ?_
   simp only[List.mem_cons,List.not_mem_nil,or_false]at he
   rcases he with rfl |rfl
   . obtain⟨k,_,e⟩:=rw'.name (List.mem_map.mpr ⟨x,hx,rfl⟩)
     exact .str _ _ (by rw[e];exact name_ok (a5w _ _))
   . exact .int _ _:Gd 2 (.lst (ws.map eW))).sh
 by_cases h0:ws.length=0
 . have:ws=[]:=List.eq_nil_of_length_eq_zero h0
   subst this
   have ej:js=[]:=by
     cases js with
     |nil=>rfl
     |cons j l=>
       have:=(rw'.kinds j List.mem_cons_self).2.1
       exact absurd this (Nat.not_lt_zero _)
   subst ej
   refine a3b (fun R h=>⟨by decide,a6h (d:= .lst []) gw h⟩) ?_
   simp! only[a6m]
   exact⟨p,d1,d2,_,rfl,tr,⟨⟨by decide,fun _ h=>(List.not_mem_nil h).elim,fun _ h=>(List.not_mem_nil h).elim,by decide,by decide⟩,by decide,fun _ h=>(List.not_mem_nil h).elim⟩,rfl,.now (q _)⟩
 have h0:0<ws.length:=by omega
 refine a1f (fun R h=> ?_) ?_
 . refine⟨by decide,.inr ⟨gw,show shD (.lst [])=true by decide+kernel⟩,?_⟩
   cases ws with
   |nil=>cases h0
   |cons a l=>exact h
 refine cut1 (fun Γ' M3=> ∃pd,M2 pd=none/\M3=put M2 pd (.dic [])/\Γ'=[some (.scr (sc.map D.int)),some (.lst (ws.map eW)),some (.lst (js.map eK)),some (.obj p),some (.obj pd),none,none,none,none,none]) ?_ ?_
 rotate_left
 . intro rest hrest
   simp! only[]
   exact fun pd hpd=>hrest _ _ ⟨pd,hpd,rfl,rfl⟩
 rintro Γ' M3 ⟨pd,hpd,rfl,rfl⟩
 refine cut1 (fun Γ' M4=>M4=put M2 pd (.dic ((knOf js).map eKn))/\ ∃o5,Γ'=[some (.scr (sc.map D.int)),some (.lst (ws.map eW)),some (.lst (js.map eK)),some (.obj p),some (.obj pd),o5,none,none,none,none]) ?_ ?_
 rotate_left
 . intro rest hrest
   simp! only[List.length_map]
   refine⟨by omega,by omega,?_⟩
   refine LoopP.by2 (fun i Γ M'=>M'=put M2 pd (.dic ((knOf (js.take i)).map eKn))/\ ∃o5,Γ=[some (.scr (sc.map D.int)),some (.lst (ws.map eW)),some (.lst (js.map eK)),some (.obj p),some (.obj pd),o5,none,none,none,none]) ⟨rfl,_,rfl⟩ (fun _ _ _ _=>trivial) ?_ ?_
   . rintro E' i Γ M' hrt hi hnx ⟨rfl,o5,rfl⟩
     dsimp only at hi
     have hi':i<js.length:=by simpa using hi
     have hl:(js.take i).length=i:=by rw[List.length_take];omega
     have e1:atI (js.map eK) (i:Int)=some (eK js[i]):=by rw[a51 _ _ (by simpa using hi'),List.getElem_map]
     have hno:(getK ((knOf (js.take i)).map eKn) (Sum.inl (i:Int))).isSome=false:=by
       rw[b1u]
       refine decide_eq_false fun z=> ?_
       obtain⟨k,hk,e⟩:=List.mem_map.mp z
       have:=knOf_lt hk
       rw[hl]at this
       omega
     simp! only[gaN,e1,a0c,a1b,a2q hno,List.length_map,b3g,hl]
     refine⟨by omega,hnx _ _ ⟨?_,_,rfl⟩⟩
     rw[List.take_succ_eq_append_getElem hi',b6y,hl,List.map_append]
     rfl
   . rintro Γ M' ⟨rfl,o5,rfl⟩
     dsimp only
     have e:((js.length:Nat):Int).toNat=js.length:=by omega
     refine hrest _ _ ⟨?_,o5,rfl⟩
     rw[e,List.take_length]
 rintro Γ' M4 ⟨rfl,o5,rfl⟩
 have S0:=b37 tr hpd rw' hw hj
 generalize put M2 pd (.dic ((knOf js).map eKn))=M4 at S0 |-
 refine cut1 (fun Γ' M5=>M5=M4/\ ∃bs,Flags ws (knOf js) js.length bs/\Γ'=[some (.scr (sc.map D.int)),some (.lst (ws.map eW)),some (.lst (js.map eK)),some (.obj p),some (.obj pd),o5,some (.lst (bs.map D.bl)),none,none,none]) ?_ ?_
 rotate_left
 . intro rest hrest
   simp! only[List.length_map,b5j]
   refine⟨ws.length,js,0,rfl,by omega,h0,fun j hj'=>⟨(rw'.kinds j hj').2.1,(rw'.kinds j hj').2.2.1⟩,fun bs h1 h2=>hrest _ _ ⟨rfl,bs,⟨h1,fun b hb=> ?_⟩,rfl⟩⟩
   rw[h2 b,knet S0.rw' h0 (by omega) hb,b3f]
 rintro Γ' M5 ⟨rfl,bs,F0',rfl⟩
 refine cut1 (fun Γ' M6=> ∃(lo:Addr) (ks:List Kn) (out:List (Str×Nat×Nat)),Sta8 C M6 p d1 d2 pd sp ws ks js.length 40/\Flags ws ks js.length bs/\(∀t,IsTree (tsK ws ks js.length).js (at_ (ws.map Prod.fst) 0) t->a4d ws (tsK ws ks js.length).js t)/\M6 lo=some (.lst (out.map eK))/\Outs ws bs out/\Γ'=[some (.scr (sc.map D.int)),some (.lst (ws.map eW)),some (.lst (js.map eK)),some (.obj p),some (.obj pd),o5,some (.lst (bs.map D.bl)),some (.obj lo),none,none]) ?_ ?_
 rotate_left
 . intro rest hrest
   simp! only[a9o,a42]
   exact⟨sc,0,rfl,by decide,p,d1,d2,pd,sp,ws,knOf js,js.length,40,bs,_,rfl,S0,by decide,h0,F0',fun M' lo ks' out S' F' nj hlo _ ho=>hrest _ _ ⟨lo,ks',out,S',F',nj,hlo,ho,rfl⟩⟩
 clear S0 F0' tr hpd
 rintro Γ' M6 ⟨lo,ks,out,S,F,nj,hlo,ho,rfl⟩
 have hkl:=S.kl
 refine a1f (fun R h=>by simp! only[];exact h) ?_
 have sd:=S.sound (by decide)
 refine cut1 (fun Γ' M7=>M7=M6/\ ∃t,IsTree (tsK ws ks js.length).js (at_ (ws.map Prod.fst) 0) t/\Grown (tsK ws ks js.length).js (at_ (ws.map Prod.fst) 0) t/\Closed (tsK ws ks js.length).js t/\t.length<=100/\Γ'=[some (.scr (sc.map D.int)),some (.lst (ws.map eW)),some (.lst (js.map eK)),some (.obj p),some (.obj pd),o5,some (.lst (bs.map D.bl)),some (.obj lo),some (.lst ((tsO ws (a0e ws t)).map eO)),none]) ?_ ?_
 rotate_left
 . intro rest hrest
   simp! only[aFz,b18,a3f]
   refine⟨p,d1,d2,_,none,rfl,S.tr,sd.fit,?_⟩
   rw[b0a h0]
   intro t ist gr cl tl
   rw[show(tsK ws ks js.length).js.find? (a1r (tsK ws ks js.length).ws (a0e (tsK ws ks js.length).ws t))=none from jam_iff.mpr (nj t ist)]
   intro r hr'
   simp only[a0c,a1w hr']
   rw[b0x]
   exact hrest _ _ ⟨rfl,t,ist,gr,cl,tl,rfl⟩
 rintro Γ' M7 ⟨rfl,t,ist,gr,cl,tl,rfl⟩
 have nj:=nj t ist
 have htl:=b48 ws (a0e ws t)
 have al:=b9l S.rw' (by omega) gr cl nj tl
 have hbt: ∀b,b<ws.length->bs.getD b false=((tsO ws (a0e ws t)).getD b none).isSome:=fun b hb=>b36 F gr cl hb
 have hpos:=b77 S.rw'.teeth gr
 have hone:(tsO ws (a0e ws t)).getD 0 none=some (1,1):=by rw[a9k h0,if_pos gr.start,b3a gr]
 have now:Now8 ws ks js.length (tsO ws (a0e ws t)):=⟨t,ist,gr,cl,nj,rfl⟩
 generalize tsO ws (a0e ws t)=ts at *
 have gts: ∀M:Mem,shD (drf M (.lst (ts.map eO)))=true:=fun M=>(gd_os ts).sh
 refine seqV (.lst []) M7 (fun R h=>⟨Nat.zero_le _,h⟩) ?_
 simp only[List.set_cons_zero,List.set_cons_succ]
 refine cut1 (fun Γ' M8=>M8=M7/\Γ'=[some (.scr (sc.map D.int)),some (.lst (ws.map eW)),some (.lst (js.map eK)),some (.obj p),some (.obj pd),o5,some (.lst (bs.map D.bl)),some (.obj lo),some (.lst (ts.map eO)),some (.lst (ts.map eO))]) ?_ ?_
 rotate_left
 . intro rest hrest
   simp! only[b0z]
   refine⟨ts,bs,rfl,by rw[htl,F.1],by rw[F.1];omega,fun k hk=>hbt k (by rw[<-F.1];exact hk),hpos,?_⟩
   simp only[oList,dr,a1e,List.length_map]
   first
     |exact hrest _ _ ⟨rfl,rfl⟩
     |exact⟨by omega,hrest _ _ ⟨rfl,rfl⟩⟩
 rintro Γ' M8 ⟨rfl,rfl⟩
 obtain⟨cs,ecs,hcs⟩:=cut_81 sc
 obtain⟨o3,eo3,ho3,ho4⟩:=cut_3 out
 refine a1f (fun R h=> ?_) ?_
 . simp! only[ecs,a8h]
   refine⟨by decide,.inr ⟨gts _,show shD (.lst [])=true by decide+kernel⟩,?_⟩
   have e9:eqB M8 (.lst (ts.map eO)) (.lst [])=false:=by
     cases ts with
     |nil=>rw[List.length_nil]at htl;omega
     |cons a l=>rfl
   rw[if_neg Bool.false_ne_true,e9]
   dsimp only
   rw[if_neg Bool.false_ne_true]
   exact⟨pd,sp,ts,ws,ks,cs,rfl,S.k1,S.rw',S.nd,by omega,by omega,htl,h0,hone,al,h⟩
 simp! only[hlo,eo3,a6n]
 exact⟨p,d1,d2,pd,sp,ws,ks,_,40,bs,ts,o3,rfl,S,by decide,ho3,h0,F,htl,hbt,fun j hj=>ho j (ho4 j hj),now,fun M'=>a6h (gts _) (.now (q _))⟩
end
theorem b1m{α:Type}(us:List α)(h:us.length=1): ∃a,us=[a]:=List.length_eq_one_iff.mp h
theorem b6r{α:Type}(us:List α)(h:us.length=2): ∃a b,us=[a,b]:=by
 cases us with
 |nil=>cases h
 |cons a us=>
   obtain⟨b,rfl⟩:=b1m us (by simpa using h)
   exact⟨a,b,rfl⟩
theorem len_3{α:Type}(us:List α)(h:us.length=3): ∃a b c,us=[a,b,c]:=by
 cases us with
 |nil=>cases h
 |cons a us=>
   obtain⟨b,c,rfl⟩:=b6r us (by simpa using h)
   exact⟨a,b,c,rfl⟩
theorem len_4{α:Type}(us:List α)(h:us.length=4): ∃a b c d,us=[a,b,c,d]:=by
 cases us with
 |nil=>cases h
 |cons a us=>
   obtain⟨b,c,d,rfl⟩:=len_3 us (by simpa using h)
   exact⟨a,b,c,d,rfl⟩
theorem len_5{α:Type}(us:List α)(h:us.length=5): ∃a b c d e,us=[a,b,c,d,e]:=by
 cases us with
 |nil=>cases h
 |cons a us=>
   obtain⟨b,c,d,e,rfl⟩:=len_4 us (by simpa using h)
   exact⟨a,b,c,d,e,rfl⟩
def DAt(K:PySem.W.Frag)(x:Str)(st:Stmt)(f:Addr):Prop:=PySem.W.nsIn K mainGlobals x=some (some (.ref f))/\ ∃fd,Fun K x x st f fd
theorem DAt.mk{K:PySem.W.Frag}{x:Str}{st:Stmt}{f:Addr}{oc:Value}{od an:Option Addr}{sl:Array (Option Value)}{kV dc pm cd ct:Value}(a:PySem.W.nsIn K mainGlobals x=some (some (.ref f)))(l:K.lookup f=some ⟨oc,od,.func (PySem.W.fnOf x x (a05 st) (a0y st) (a0d st) .none kV dc pm an cd ct),sl⟩)(c:PySem.W.codeIn K cd x=true)(k:PySem.W.keepIn K (.ref f)=true):DAt K x st f:=⟨a,_,a5x l c k⟩
local macro_rules
 | `(tactic| bv_omega) => `(tactic| (intro _ _ _ _ _ _ us hl; first | (obtain ⟨_, h9⟩ := b1m us hl; subst h9; rfl) | (obtain ⟨_, _, h9⟩ := b6r us hl; subst h9; rfl) | (obtain ⟨_, _, _, h9⟩ := len_3 us hl; subst h9; rfl) | (obtain ⟨_, _, _, _, h9⟩ := len_4 us hl; subst h9; rfl) | (obtain ⟨_, _, _, _, _, h9⟩ := len_5 us hl; subst h9; rfl)))
section
variable {P:Program}{w:World}{K:PySem.W.Frag}{mg:Str->Option Value}{base h:Heap}{x:Str}{st:Stmt}{f:Addr}{ps:List Str}{n:Nat}
theorem DAt.has{sp:L2.Sp}(d:DAt K x st f)(X:K.In h)(G:h.Ns mainGlobals mg)(ok: ∀fd,Fun K x x st f fd->FnOk P w K mg base (CXE P w) n f fd ps sp)(hb: ∀(kV doc pm:Value) (an:Option Addr) (cdv ct:Value) (us:List Value),us.length=ps.length->bindArgs (PySem.W.fnOf x x (a05 st) (a0y st) (a0d st) .none kV doc pm an cdv ct) ⟨us,[]⟩=pure (ps.zip us):=by bv_omega):Has P w K mg base (CXE P w) n x ps sp:=by
 obtain⟨a,fd,F⟩:=d
 exact⟨f,fd,ok fd F,PySem.W.mg_of X G a,F.kp,F.binds hb⟩
theorem DAt.hasH{sp:Addr->L2.Sp}(d:DAt K x st f)(X:K.In h)(G:h.Ns mainGlobals mg)(ok: ∀fd,Fun K x x st f fd->FnOkH P w K mg base n f fd ps sp)(hb: ∀(kV doc pm:Value) (an:Option Addr) (cdv ct:Value) (us:List Value),us.length=ps.length->bindArgs (PySem.W.fnOf x x (a05 st) (a0y st) (a0d st) .none kV doc pm an cdv ct) ⟨us,[]⟩=pure (ps.zip us):=by bv_omega):HasH P w K mg base n x ps sp:=by
 obtain⟨a,fd,F⟩:=d
 exact⟨f,fd,ok fd F,PySem.W.mg_of X G a,F.kp,F.binds hb⟩
end
theorem all_mk{l:PySem.W.OpenLaw}{w:World}{K:PySem.W.Frag}{h:Heap}{mg:Str->Option Value}{fa:Addr}(X:K.In h)(G:h.Ns mainGlobals mg)(hfa:mg "law"=some (.ref fa))(hp:l.prog.given.tree=none)
   {f0 f1 f2 f3 f4 f5 f6 f7 f8 f9 f10 f11 f12 f13 f14 f15 f16 f17 f18 f19 f20 f21 f22 f23 f24 f25 f26 f27 f28 f29 f30 f31 f32 f33 f34 f35 f36 f37 f38 f39 f40 f41 f42 f43 C_Train E_NoName E_Twice E_NoTeeth E_Full E_NoWheel E_NoJoin E_TrainError E_NoText E_Jams dv12 dv14 q_KINDS:Addr}{od12 an12 od14 an14 od16 an16 od17 an17 od18 an18 od19 an19 od20 an20 od21 an21 od43 an43 odd12 odd14 qd_KINDS:Option Addr}{sl12 sl14 sl16 sl17 sl18 sl19 sl20 sl21 sl43 sll12 sll14 qs_KINDS:Array (Option Value)}{oc12 kV12 dc12 pm12 cd12 ct12 oc14 kV14 dc14 pm14 cd14 ct14 oc16 kV16 dc16 pm16 cd16 ct16 oc17 kV17 dc17 pm17 cd17 ct17 oc18 kV18 dc18 pm18 cd18 ct18 oc19 kV19 dc19 pm19 cd19 ct19 oc20 kV20 dc20 pm20 cd20 ct20 oc21 kV21 dc21 pm21 cd21 ct21 oc43 kV43 dc43 pm43 cd43 ct43:Value}
   {t_LONGEST_NAME t_TEETH_BOUND t_MOST_WHEELS t_MOST_JOINS t_MOST_FIGURES t_LETTERS t_FIGURES t_KINDS0 t_KINDS1 t_KINDS2 t_KINDS3:Tok}
   {nn12 nn14 qn_KINDS:Nat}
   (aC_Train:PySem.W.nsIn K mainGlobals "Train"=some (some (.ref C_Train)))
   (aE_NoName:PySem.W.nsIn K mainGlobals "NoName"=some (some (.ref E_NoName)))
   (aE_Twice:PySem.W.nsIn K mainGlobals "Twice"=some (some (.ref E_Twice)))
   (aE_NoTeeth:PySem.W.nsIn K mainGlobals "NoTeeth"=some (some (.ref E_NoTeeth)))
   (aE_Full:PySem.W.nsIn K mainGlobals "Full"=some (some (.ref E_Full)))
   (aE_NoWheel:PySem.W.nsIn K mainGlobals "NoWheel"=some (some (.ref E_NoWheel)))
   (aE_NoJoin:PySem.W.nsIn K mainGlobals "NoJoin"=some (some (.ref E_NoJoin)))
   (aE_TrainError:PySem.W.nsIn K mainGlobals "TrainError"=some (some (.ref E_TrainError)))
   (aE_NoText:PySem.W.nsIn K mainGlobals "NoText"=some (some (.ref E_NoText)))
   (aE_Jams:PySem.W.nsIn K mainGlobals "Jams"=some (some (.ref E_Jams)))
   (d0:DAt K "greatest_divisor" a1p f0)
   (d1:DAt K "lowest" a4m f1)
   (d2:DAt K "times" b05 f2)
   (d3:DAt K "factor" a8o f3)
   (d4:DAt K "refuse_unknown" a13 f4)
   (d5:DAt K "wheel_meant" a2z f5)
   (d6:DAt K "joins_from" a3j f6)
   (d7:DAt K "tree_from" a35 f7)
   (d8:DAt K "road_by" a6q f8)
   (d9:DAt K "shares_along" a2k f9)
   (d10:DAt K "jamming_join" a2n f10)
   (d11:DAt K "ring_closed_by" a11 f11)
   (a12:PySem.W.nsIn K mainGlobals "ring"=some (some (.ref f12)))
   (l12:K.lookup f12=some ⟨oc12,od12,.func (PySem.W.fnOf "ring" "ring" (a05 a3c) (a0y a3c) (a0d a3c) (.ref dv12) kV12 dc12 pm12 an12 cd12 ct12),sl12⟩)
   (d12:K.lookup dv12=some ⟨.type "tuple",odd12,.seq #[.none] nn12,sll12⟩)
   (c12:PySem.W.codeIn K cd12 "ring"=true)
   (k12:PySem.W.keepIn K (.ref f12)=true)
   (d13:DAt K "free_shares" a24 f13)
   (a14:PySem.W.nsIn K mainGlobals "turns"=some (some (.ref f14)))
   (l14:K.lookup f14=some ⟨oc14,od14,.func (PySem.W.fnOf "turns" "turns" (a05 a10) (a0y a10) (a0d a10) (.ref dv14) kV14 dc14 pm14 an14 cd14 ct14),sl14⟩)
   (d14:K.lookup dv14=some ⟨.type "tuple",odd14,.seq #[.none] nn14,sll14⟩)
   (c14:PySem.W.codeIn K cd14 "turns"=true)
   (k14:PySem.W.keepIn K (.ref f14)=true)
   (d15:DAt K "is_name" a6s f15)
   (a16:PySem.W.findIn K (.ref C_Train) "__init__"=some (some (.ref f16)))
   (i16:PySem.W.isFn K (.ref f16)=true)
   (l16:K.lookup f16=some ⟨oc16,od16,.func (PySem.W.fnOf "__init__" "Train.__init__" (a05 a1d) (a0y a1d) (a0d a1d) .none kV16 dc16 pm16 an16 cd16 ct16),sl16⟩)
   (c16:PySem.W.codeIn K cd16 "Train.__init__"=true)
   (k16:PySem.W.keepIn K (.ref f16)=true)
   (a17:PySem.W.findIn K (.ref C_Train) "put_wheel"=some (some (.ref f17)))
   (i17:PySem.W.isFn K (.ref f17)=true)
   (l17:K.lookup f17=some ⟨oc17,od17,.func (PySem.W.fnOf "put_wheel" "Train.put_wheel" (a05 a07) (a0y a07) (a0d a07) .none kV17 dc17 pm17 an17 cd17 ct17),sl17⟩)
   (c17:PySem.W.codeIn K cd17 "Train.put_wheel"=true)
   (k17:PySem.W.keepIn K (.ref f17)=true)
   (a18:PySem.W.findIn K (.ref C_Train) "put_join"=some (some (.ref f18)))
   (i18:PySem.W.isFn K (.ref f18)=true)
   (l18:K.lookup f18=some ⟨oc18,od18,.func (PySem.W.fnOf "put_join" "Train.put_join" (a05 a1c) (a0y a1c) (a0d a1c) .none kV18 dc18 pm18 an18 cd18 ct18),sl18⟩)
   (c18:PySem.W.codeIn K cd18 "Train.put_join"=true)
   (k18:PySem.W.keepIn K (.ref f18)=true)
   (a19:PySem.W.findIn K (.ref C_Train) "take_join"=some (some (.ref f19)))
   (i19:PySem.W.isFn K (.ref f19)=true)
   (l19:K.lookup f19=some ⟨oc19,od19,.func (PySem.W.fnOf "take_join" "Train.take_join" (a05 a06) (a0y a06) (a0d a06) .none kV19 dc19 pm19 an19 cd19 ct19),sl19⟩)
   (c19:PySem.W.codeIn K cd19 "Train.take_join"=true)
   (k19:PySem.W.keepIn K (.ref f19)=true)
   (a20:PySem.W.findIn K (.ref C_Train) "wheels"=some (some (.ref f20)))
   (i20:PySem.W.isFn K (.ref f20)=true)
   (l20:K.lookup f20=some ⟨oc20,od20,.func (PySem.W.fnOf "wheels" "Train.wheels" (a05 a1j) (a0y a1j) (a0d a1j) .none kV20 dc20 pm20 an20 cd20 ct20),sl20⟩)
   (c20:PySem.W.codeIn K cd20 "Train.wheels"=true)
   (k20:PySem.W.keepIn K (.ref f20)=true)
   (a21:PySem.W.findIn K (.ref C_Train) "joins"=some (some (.ref f21)))
   (i21:PySem.W.isFn K (.ref f21)=true)
   (l21:K.lookup f21=some ⟨oc21,od21,.func (PySem.W.fnOf "joins" "Train.joins" (a05 a1m) (a0y a1m) (a0d a1m) .none kV21 dc21 pm21 an21 cd21 ct21),sl21⟩)
   (c21:PySem.W.codeIn K cd21 "Train.joins"=true)
   (k21:PySem.W.keepIn K (.ref f21)=true)
   (d22:DAt K "told_teeth" a3g f22)
   (d23:DAt K "put_part" a48 f23)
   (d24:DAt K "read" b5o f24)
   (d25:DAt K "_law_cell_at" a23 f25)
   (d26:DAt K "_law_whole" a36 f26)
   (d27:DAt K "_law_name" a5d f27)
   (d28:DAt K "_law_teeth" a37 f28)
   (d29:DAt K "_law_rows" a5b f29)
   (d30:DAt K "_law_text" a5a f30)
   (d31:DAt K "_law_by" a8m f31)
   (d32:DAt K "_law_hung" a5e f32)
   (d33:DAt K "_law_steps" a38 f33)
   (d34:DAt K "_law_jammed" a3i f34)
   (d35:DAt K "_law_loosened" a2m f35)
   (d36:DAt K "_law_leads" a39 f36)
   (d37:DAt K "_law_walked" a3h f37)
   (d38:DAt K "_law_pair" a5c f38)
   (d39:DAt K "_law_told" a49 f39)
   (d40:DAt K "_law_now" a6r f40)
   (d41:DAt K "_law_put_back" a2l f41)
   (d42:DAt K "_law_refused" a22 f42)
   (a43:PySem.W.nsIn K mainGlobals "law"=some (some (.ref f43)))
   (l43:K.lookup f43=some ⟨oc43,od43,.func (PySem.W.fnOf "law" "law" (a05 a8n) (a0y a8n) (a0d a8n) .none kV43 dc43 pm43 an43 cd43 ct43),sl43⟩)
   (c43:PySem.W.codeIn K cd43 "law"=true)
   (k43:PySem.W.keepIn K (.ref f43)=true)
   (pg_Train:PySem.W.plainGet K C_Train Str.empty=true)
   (hd_Train:PySem.W.hasDictIn K C_Train=true)
   (po_Train:PySem.W.plainOver K C_Train=true)
   (sa_Train:PySem.W.findIn K (.ref C_Train) "__setattr__"=some (some (.builtin "object.__setattr__")))
   (mk_Train:PySem.W.makesIn K C_Train=true)
   (kc_Train:PySem.W.keepIn K (.ref C_Train)=true)
   (n_Train_teeth_of:PySem.W.findIn K (.ref C_Train) "teeth_of"=some none)
   (n_Train_join_of:PySem.W.findIn K (.ref C_Train) "join_of"=some none)
   (n_Train_next_number:PySem.W.findIn K (.ref C_Train) "next_number"=some none)
   (z0:PySem.W.nsIn K mainGlobals "len"=some none)
   (z1:PySem.W.nsIn K mainGlobals "all"=some none)
   (z2:PySem.W.nsIn K mainGlobals "list"=some none)
   (z3:PySem.W.nsIn K mainGlobals "range"=some none)
   (z4:PySem.W.nsIn K mainGlobals "isinstance"=some none)
   (z5:PySem.W.nsIn K mainGlobals "int"=some none)
   (z6:PySem.W.nsIn K mainGlobals "bool"=some none)
   (z7:PySem.W.nsIn K mainGlobals "str"=some none)
   (z8:PySem.W.nsIn K mainGlobals "max"=some none)
   (z9:PySem.W.nsIn K mainGlobals "abs"=some none)
   (z10:PySem.W.nsIn K mainGlobals "dict"=some none)
   (z11:PySem.W.nsIn K mainGlobals "tuple"=some none)
   (z12:PySem.W.nsIn K mainGlobals "ValueError"=some none)
   (g_LONGEST_NAME:PySem.W.nsIn K mainGlobals "LONGEST_NAME"=some (some (.int 8 t_LONGEST_NAME)))
   (g_TEETH_BOUND:PySem.W.nsIn K mainGlobals "TEETH_BOUND"=some (some (.int 1000000000 t_TEETH_BOUND)))
   (g_MOST_WHEELS:PySem.W.nsIn K mainGlobals "MOST_WHEELS"=some (some (.int 100 t_MOST_WHEELS)))
   (g_MOST_JOINS:PySem.W.nsIn K mainGlobals "MOST_JOINS"=some (some (.int 200 t_MOST_JOINS)))
   (g_MOST_FIGURES:PySem.W.nsIn K mainGlobals "MOST_FIGURES"=some (some (.int 9 t_MOST_FIGURES)))
   (g_LETTERS:PySem.W.nsIn K mainGlobals "LETTERS"=some (some (.str "abcdefghijklmnopqrstuvwxyz" t_LETTERS)))
   (g_FIGURES:PySem.W.nsIn K mainGlobals "FIGURES"=some (some (.str "0123456789" t_FIGURES)))
   (g_KINDS:PySem.W.nsIn K mainGlobals "KINDS"=some (some (.ref q_KINDS)))
   (gl_KINDS:K.lookup q_KINDS=some ⟨.type "tuple",qd_KINDS,.seq #[.str "mesh" t_KINDS0,.str "pin" t_KINDS1,.str "band" t_KINDS2,.str "cross" t_KINDS3] qn_KINDS,qs_KINDS⟩)
   (ex_NoName:PySem.W.excIn K E_NoName bmV "ValueError.__new__"=true)
   (ex_Twice:PySem.W.excIn K E_Twice bmV "ValueError.__new__"=true)
   (ex_NoTeeth:PySem.W.excIn K E_NoTeeth bmV "ValueError.__new__"=true)
   (ex_Full:PySem.W.excIn K E_Full bmV "ValueError.__new__"=true)
   (ex_NoWheel:PySem.W.excIn K E_NoWheel bmV "ValueError.__new__"=true)
   (ex_NoJoin:PySem.W.excIn K E_NoJoin bmV "ValueError.__new__"=true)
   (ex_TrainError:PySem.W.excIn K E_TrainError bmV "ValueError.__new__"=true)
   (ex_NoText:PySem.W.excIn K E_NoText bmV "ValueError.__new__"=true)
   (ex_Jams:PySem.W.excIn K E_Jams bmV "ValueError.__new__"=true)
   (xm_NoWheel_NoWheel:PySem.W.exmOne K (.ref E_NoWheel) (.ref E_NoWheel)=some true)
   (xm_Jams_Jams:PySem.W.exmOne K (.ref E_Jams) (.ref E_Jams)=some true)
   : ∃fd:FuncData,(∀(s:Shared) (v:Value),BindsTo s fd ⟨[v],[]⟩ [("_law_script",v)])/\ ∀base:Heap,K.In base->base.Ns mainGlobals mg->base.NoSeer->FnOk l.prog w K mg base CX0 48 fa fd ["_law_script"] (a6a K):=by
 have e:=hfa.symm.trans (PySem.W.mg_of X G a43)
 cases e
 have T:Txt K mg:=⟨PySem.W.mg_none_of X G z0,PySem.W.mg_none_of X G z1,PySem.W.mg_none_of X G z2,PySem.W.mg_none_of X G z3,PySem.W.mg_none_of X G z4,PySem.W.mg_none_of X G z5,PySem.W.mg_none_of X G z6,PySem.W.mg_none_of X G z7,PySem.W.mg_none_of X G z8,PySem.W.mg_none_of X G z9,PySem.W.mg_none_of X G z10,PySem.W.mg_none_of X G z11,PySem.W.mg_none_of X G z12,⟨_,PySem.W.mg_of X G g_LONGEST_NAME⟩,⟨_,PySem.W.mg_of X G g_TEETH_BOUND⟩,⟨_,PySem.W.mg_of X G g_MOST_WHEELS⟩,⟨_,PySem.W.mg_of X G g_MOST_JOINS⟩,⟨_,PySem.W.mg_of X G g_MOST_FIGURES⟩,⟨_,PySem.W.mg_of X G g_LETTERS⟩,⟨_,PySem.W.mg_of X G g_FIGURES⟩,⟨_,PySem.W.mg_of X G g_KINDS,fun _=> .inr ⟨_,_,_,gl_KINDS,rfl,rfl,Nat.le_of_ble_eq_true rfl,(.cons ⟨_,rfl⟩ (.cons ⟨_,rfl⟩ (.cons ⟨_,rfl⟩ (.cons ⟨_,rfl⟩ .nil))))⟩⟩⟩
 have F_ring:=b7h (st:=a3c) l12 c12 d12
 have b_ring:Binds K (PySem.W.fnOf "ring" "ring" (a05 a3c) (a0y a3c) (a0d a3c) (.ref dv12) kV12 dc12 pm12 an12 cd12 ct12) ["train","name"] []:=fun s us hk hl=>by rw[List.append_nil]at hl |-;obtain⟨_,_,rfl⟩:=b6r us hl;exact .of_defaults rfl (hk _ _ d12) rfl rfl rfl
 have bd_ring:Binds K (PySem.W.fnOf "ring" "ring" (a05 a3c) (a0y a3c) (a0d a3c) (.ref dv12) kV12 dc12 pm12 an12 cd12 ct12) ["train","name"] [.none]:=fun s us hk hl=>by obtain⟨_,rfl⟩:=b1m us (by simpa using hl);exact .of_defaults rfl (hk _ _ d12) rfl rfl rfl
 have m_ring:=PySem.W.mg_of X G a12
 have k_ring:=k12
 have F_turns:=b7h (st:=a10) l14 c14 d14
 have b_turns:Binds K (PySem.W.fnOf "turns" "turns" (a05 a10) (a0y a10) (a0d a10) (.ref dv14) kV14 dc14 pm14 an14 cd14 ct14) ["train","name"] []:=fun s us hk hl=>by rw[List.append_nil]at hl |-;obtain⟨_,_,rfl⟩:=b6r us hl;exact .of_defaults rfl (hk _ _ d14) rfl rfl rfl
 have bd_turns:Binds K (PySem.W.fnOf "turns" "turns" (a05 a10) (a0y a10) (a0d a10) (.ref dv14) kV14 dc14 pm14 an14 cd14 ct14) ["train","name"] [.none]:=fun s us hk hl=>by obtain⟨_,rfl⟩:=b1m us (by simpa using hl);exact .of_defaults rfl (hk _ _ d14) rfl rfl rfl
 have m_turns:=PySem.W.mg_of X G a14
 have k_turns:=k14
 have F_Train___init__:=a5x (st:=a1d) l16 c16 k16
 have b_Train___init__:=F_Train___init__.binds (ps:=["self"]) fun _ _ _ _ _ _ us hl=>by obtain⟨_,rfl⟩:=b1m us hl;rfl
 have me_Train___init__:Meth K C_Train "__init__" _:=⟨a16,i16,k16⟩
 have F_Train_put_wheel:=a5x (st:=a07) l17 c17 k17
 have b_Train_put_wheel:=F_Train_put_wheel.binds (ps:=["self","name","teeth"]) fun _ _ _ _ _ _ us hl=>by obtain⟨_,_,_,rfl⟩:=len_3 us hl;rfl
 have me_Train_put_wheel:Meth K C_Train "put_wheel" _:=⟨a17,i17,k17⟩
 have F_Train_put_join:=a5x (st:=a1c) l18 c18 k18
 have b_Train_put_join:=F_Train_put_join.binds (ps:=["self","kind","one","other"]) fun _ _ _ _ _ _ us hl=>by obtain⟨_,_,_,_,rfl⟩:=len_4 us hl;rfl
 have me_Train_put_join:Meth K C_Train "put_join" _:=⟨a18,i18,k18⟩
 have F_Train_take_join:=a5x (st:=a06) l19 c19 k19
 have b_Train_take_join:=F_Train_take_join.binds (ps:=["self","number"]) fun _ _ _ _ _ _ us hl=>by obtain⟨_,_,rfl⟩:=b6r us hl;rfl
 have me_Train_take_join:Meth K C_Train "take_join" _:=⟨a19,i19,k19⟩
 have F_Train_wheels:=a5x (st:=a1j) l20 c20 k20
 have b_Train_wheels:=F_Train_wheels.binds (ps:=["self"]) fun _ _ _ _ _ _ us hl=>by obtain⟨_,rfl⟩:=b1m us hl;rfl
 have me_Train_wheels:Meth K C_Train "wheels" _:=⟨a20,i20,k20⟩
 have F_Train_joins:=a5x (st:=a1m) l21 c21 k21
 have b_Train_joins:=F_Train_joins.binds (ps:=["self"]) fun _ _ _ _ _ _ us hl=>by obtain⟨_,rfl⟩:=b1m us hl;rfl
 have me_Train_joins:Meth K C_Train "joins" _:=⟨a21,i21,k21⟩
 have F_law:=a5x (st:=a8n) l43 c43 k43
 have cl_Train:Cls K C_Train:=⟨pg_Train,hd_Train,po_Train,sa_Train⟩
 have pl_teeth_of:Pln K C_Train "teeth_of":=⟨cl_Train,n_Train_teeth_of⟩
 have pl_join_of:Pln K C_Train "join_of":=⟨cl_Train,n_Train_join_of⟩
 have pl_next_number:Pln K C_Train "next_number":=⟨cl_Train,n_Train_next_number⟩
 have X_NoName:ExCls K mg "NoName" E_NoName:=⟨PySem.W.mg_of X G aE_NoName,ex_NoName⟩
 have X_Twice:ExCls K mg "Twice" E_Twice:=⟨PySem.W.mg_of X G aE_Twice,ex_Twice⟩
 have X_NoTeeth:ExCls K mg "NoTeeth" E_NoTeeth:=⟨PySem.W.mg_of X G aE_NoTeeth,ex_NoTeeth⟩
 have X_Full:ExCls K mg "Full" E_Full:=⟨PySem.W.mg_of X G aE_Full,ex_Full⟩
 have X_NoWheel:ExCls K mg "NoWheel" E_NoWheel:=⟨PySem.W.mg_of X G aE_NoWheel,ex_NoWheel⟩
 have X_NoJoin:ExCls K mg "NoJoin" E_NoJoin:=⟨PySem.W.mg_of X G aE_NoJoin,ex_NoJoin⟩
 have X_TrainError:ExCls K mg "TrainError" E_TrainError:=⟨PySem.W.mg_of X G aE_TrainError,ex_TrainError⟩
 have X_NoText:ExCls K mg "NoText" E_NoText:=⟨PySem.W.mg_of X G aE_NoText,ex_NoText⟩
 have X_Jams:ExCls K mg "Jams" E_Jams:=⟨PySem.W.mg_of X G aE_Jams,ex_Jams⟩
 refine⟨PySem.W.fnOf "law" "law" (a05 a8n) (a0y a8n) (a0d a8n) .none kV43 dc43 pm43 an43 cd43 ct43,fun s v=> .of_eq rfl,fun base kb nb sb=> ?_⟩
 let EC:Rk->Addr:=fun r=>match r with | .noName=>E_NoName | .twice=>E_Twice | .noTeeth=>E_NoTeeth | .full=>E_Full | .noWheel=>E_NoWheel | .noJoin=>E_NoJoin
 have XK:ExK K mg EC:=⟨X_NoName,X_Twice,X_NoTeeth,X_Full,X_NoWheel,X_NoJoin⟩
 have h_law_cell_at:=d25.has (P:=l.prog) (w:=w) (base:=base) X G fun _ F=>ok_cell F T
 have h_law_whole:=d26.has (P:=l.prog) (w:=w) (base:=base) X G fun _ F=>b8y F T
 have h_is_name:=d15.has (P:=l.prog) (w:=w) (base:=base) X G fun _ F=>b4l F T
 have h_Train:HasC l.prog w K mg base 1 "Train" C_Train (b2m C_Train):=⟨PySem.W.mg_of X G aC_Train,_,_,ok_init F_Train___init__ pl_teeth_of pl_join_of pl_next_number,⟨mk_Train,me_Train___init__.1,me_Train___init__.2,kc_Train⟩,b_Train___init__⟩
 have h_put_wheel:HasM l.prog w K mg base (CXE l.prog w) 2 C_Train "put_wheel" ["self","name","teeth"] (a0k K (b2k C_Train EC)):=⟨cl_Train,_,_,a93 F_Train_put_wheel T XK pl_teeth_of h_is_name,me_Train_put_wheel,b_Train_put_wheel⟩
 have h_put_join:HasM l.prog w K mg base (CXE l.prog w) 2 C_Train "put_join" ["self","kind","one","other"] (a0k K (a74 C_Train EC)):=⟨cl_Train,_,_,b09 F_Train_put_join T XK pl_teeth_of pl_join_of pl_next_number,me_Train_put_join,b_Train_put_join⟩
 have h_take_join:HasM l.prog w K mg base (CXE l.prog w) 2 C_Train "take_join" ["self","number"] (a0k K (a41 C_Train EC)):=⟨cl_Train,_,_,a92 F_Train_take_join XK pl_join_of,me_Train_take_join,b_Train_take_join⟩
 have h_wheels:HasM l.prog w K mg base (CXE l.prog w) 1 C_Train "wheels" ["self"] (a0k K (a2y C_Train)):=⟨cl_Train,_,_,b57 F_Train_wheels T pl_teeth_of,me_Train_wheels,b_Train_wheels⟩
 have h_joins:HasM l.prog w K mg base (CXE l.prog w) 1 C_Train "joins" ["self"] (a0k K (a44 C_Train)):=⟨cl_Train,_,_,b81 F_Train_joins T pl_join_of,me_Train_joins,b_Train_joins⟩
 have h_greatest_divisor:=d0.has (P:=l.prog) (w:=w) (base:=base) X G fun _ F=>ok_gcd F T
 have h_lowest:=d1.has (P:=l.prog) (w:=w) (base:=base) X G fun _ F=>ok_low F sb hp h_greatest_divisor
 have h_times:=d2.has (P:=l.prog) (w:=w) (base:=base) X G fun _ F=>b80 F h_lowest
 have h_factor:=d3.has (P:=l.prog) (w:=w) (base:=base) X G fun _ F=>b59 F h_lowest
 have h_refuse_unknown:=d4.has (P:=l.prog) (w:=w) (base:=base) X G fun _ F=>a5i F XK
 have h_wheel_meant:=d5.has (P:=l.prog) (w:=w) (base:=base) X G fun _ F=>a7s F T XK h_wheels h_refuse_unknown
 have h_joins_from:=d6.has (P:=l.prog) (w:=w) (base:=base) X G fun _ F=>a8z F
 have h_tree_from:=d7.has (P:=l.prog) (w:=w) (base:=base) X G fun _ F=>a91 F T h_joins_from
 have h_shares_along:=d9.has (P:=l.prog) (w:=w) (base:=base) X G fun _ F=>a61 F T h_wheels h_times h_factor
 have h_jamming_join:=d10.has (P:=l.prog) (w:=w) (base:=base) X G fun _ F=>a64 F T h_wheels h_joins h_times h_factor
 have h_free_shares:=d13.has (P:=l.prog) (w:=w) (base:=base) X G fun _ F=>a7u F X_Jams h_joins h_wheel_meant h_tree_from h_shares_along h_jamming_join
 have h_turns:HasD l.prog w K mg base 45 "turns" ["train","name"] (a0k K (a3f C_Train EC E_Jams)):=⟨_,_,b8z F_turns T h_wheels h_free_shares,m_turns,k_turns,b_turns,bd_turns⟩
 have h_road_by:=d8.has (P:=l.prog) (w:=w) (base:=base) X G fun _ F=>b4j F h_tree_from
 have h_ring_closed_by:=d11.has (P:=l.prog) (w:=w) (base:=base) X G fun _ F=>a5h F h_road_by
 have h_ring:HasD l.prog w K mg base 44 "ring" ["train","name"] (a0k K (a5t C_Train EC)):=⟨_,_,ok_ring F_ring h_joins h_wheel_meant h_tree_from h_shares_along h_jamming_join h_ring_closed_by,m_ring,k_ring,b_ring,bd_ring⟩
 have h_told_teeth:=d22.has (P:=l.prog) (w:=w) (base:=base) X G fun _ F=>a8w F T X_NoText
 have h_put_part:=d23.has (P:=l.prog) (w:=w) (base:=base) X G fun _ F=>b08 F T X_NoText h_put_wheel h_put_join h_told_teeth
 have h_read:=d24.has (P:=l.prog) (w:=w) (base:=base) X G fun _ F=>ok_read F h_Train h_put_part
 have h_law_name:=d27.has (P:=l.prog) (w:=w) (base:=base) X G fun _ F=>b1e F
 have h_law_teeth:=d28.has (P:=l.prog) (w:=w) (base:=base) X G fun _ F=>a94 F
 have h_law_by:=d31.has (P:=l.prog) (w:=w) (base:=base) X G fun _ F=>b58 F
 have h_law_rows:=d29.has (P:=l.prog) (w:=w) (base:=base) X G fun _ F=>b1c F T h_law_cell_at h_law_name h_law_teeth
 have h_law_text:=d30.has (P:=l.prog) (w:=w) (base:=base) X G fun _ F=>b1b F T
 have h_law_hung:=d32.has (P:=l.prog) (w:=w) (base:=base) X G fun _ F=>b1f F T
 have h_law_steps:=d33.has (P:=l.prog) (w:=w) (base:=base) X G fun _ F=>a95 F T h_law_whole
 have h_law_jammed:=d34.has (P:=l.prog) (w:=w) (base:=base) X G fun _ F=>a8y F T h_law_steps h_law_by
 have h_law_loosened:=d35.has (P:=l.prog) (w:=w) (base:=base) X G fun _ F=>a63 F T h_ring h_law_jammed h_take_join
 have h_law_leads:=d36.has (P:=l.prog) (w:=w) (base:=base) X G fun _ F=>a96 F T
 have h_law_walked:=d37.has (P:=l.prog) (w:=w) (base:=base) X G fun _ F=>a8x F T h_law_leads h_law_by
 have h_law_pair:=d38.has (P:=l.prog) (w:=w) (base:=base) X G fun _ F=>b1d F T h_law_whole
 have h_law_told:=d39.has (P:=l.prog) (w:=w) (base:=base) X G fun _ F=>b1a F T h_law_pair
 have h_law_now:=d40.has (P:=l.prog) (w:=w) (base:=base) X G fun _ F=>b4k F xm_Jams_Jams X_Jams.1 h_turns
 have h_law_put_back:=d41.has (P:=l.prog) (w:=w) (base:=base) X G fun _ F=>a62 F T h_ring h_turns h_put_join h_take_join h_law_now h_law_jammed
 have h_law_refused:=d42.has (P:=l.prog) (w:=w) (base:=base) X G fun _ F=>a7t F XK xm_NoWheel_NoWheel h_ring
 exact law_ok (ok_law (C:=C_Train) F_law T h_law_cell_at h_law_rows h_law_text h_read h_law_refused h_law_hung h_law_loosened h_turns h_law_told h_law_walked h_law_put_back)
theorem walk{l:PySem.W.OpenLaw}{q:Program}{a2t:List Str}{XP:(Str->Option Value)->Heap->Prop}{YP:World->Heap->Prop}{d:DefRec}{K:Params->PySem.W.Frag}(hn:l.most=some 63)(hdf:d.params.defaults=[])(him:importsNone q=true)
   (hY: ∀(w:World) (h:Heap),YP w h->(K w.params).In h)
   (F: ∀(w:World) (mg:Str->Option Value) (fa:Addr) (h:Heap),(K w.params).In h->h.Ns mainGlobals mg->mg d.name=some (.ref fa)->
     ∃fd:FuncData,(∀(s:Shared) (u:Value),BindsTo s fd ⟨[u],[]⟩ [("_law_script",u)])/\ ∀base:Heap,(K w.params).In base->base.Ns mainGlobals mg->base.NoSeer->FnOk l.prog w (K w.params) mg base CX0 48 fa fd ["_law_script"] (a6a (K w.params))):
   PySem.W.WalkO q a2t XP YP l.row.toRowW d [] (fun f vs=>PySem.call f vs):=
 L2.walk_ofB (n:=63) (k:=48) (x:="_law_script") (CX:=CX0) (sp:=a6a) hn (by decide) hdf ⟨rfl,by decide,by decide⟩ him hY F (fun _ _ a ns hl _ hS=>⟨a,ns,rfl,hS,hl,fun _=>rfl⟩) fun _ _ _ _ z=>z
end K8
open PySem PySem.W PyProof.Rows
local macro_rules
 | `(tactic| bv_normalize) => `(tactic| (refine' K8.DAt.mk ?a ?l ?c ?k; (case a => k_is); (case l => k_is); (case c => k_is); (case k => k_is)))
noncomputable def PySem.W.Fast.tw15936030087854843957:Nat:=0
noncomputable def PySem.W.Fast.tw11854257044050319845:Nat:=0
noncomputable def PySem.W.Fast.tw4077539602271638751:Nat:=0
noncomputable def PySem.W.Fast.tw1252792496994442316:Nat:=0
noncomputable def PySem.W.Fast.tw18249363691010339850:Nat:=0
noncomputable def PySem.W.Fast.tw18028651403940820205:Nat:=0
noncomputable def PySem.W.Fast.tw13003454053238688526:Nat:=0
noncomputable def PySem.W.Fast.tw7565134978311305817:Nat:=0
noncomputable def PySem.W.Fast.tw14930477759293278395:Nat:=0
noncomputable def PySem.W.Fast.tw3190237527472888832:Nat:=0
noncomputable def PySem.W.Fast.tw8291886669523469679:Nat:=0
noncomputable def PySem.W.Fast.tw3007832495480181733:Nat:=0
noncomputable def PySem.W.Fast.tw14371996225924484214:Nat:=0
noncomputable def PySem.W.Fast.tw2687157018863305515:Nat:=0
noncomputable def PySem.W.Fast.tw14649460502531087379:Nat:=0
noncomputable def PySem.W.Fast.tw18414783198020874271:Nat:=0
noncomputable def PySem.W.Fast.tw16589842465636938194:Nat:=0
noncomputable def PySem.W.Fast.tw7754294141776769233:Nat:=0
noncomputable def PySem.W.Fast.tw17070917035165370528:Nat:=0
noncomputable def PySem.W.Fast.tw2642341408173527127:Nat:=0
noncomputable def PySem.W.Fast.tw12499223085037023293:Nat:=0
noncomputable def PySem.W.Fast.tw8346668952615731495:Nat:=0
noncomputable def PySem.W.Fast.tw13381272512105917944:Nat:=0
noncomputable def PySem.W.Fast.tw9047961166130440552:Nat:=0
noncomputable def PySem.W.Fast.tw9058051986190731128:Nat:=0
noncomputable def PySem.W.Fast.tw7125349877873182210:Nat:=0
noncomputable def PySem.W.Fast.tw4409249256007841747:Nat:=0
noncomputable def PySem.W.Fast.tw2777117688186411338:Nat:=0
noncomputable def PySem.W.Fast.tw5688323424561269608:Nat:=0
noncomputable def PySem.W.Fast.tw1852490080204881172:Nat:=0
noncomputable def PySem.W.Fast.tw690420317138258897:Nat:=0
noncomputable def PySem.W.Fast.tw3933415930993026617:Nat:=0
noncomputable def PySem.W.Fast.tw6700911457930756397:Nat:=0
noncomputable def PySem.W.Fast.tw8983397445253551478:Nat:=0
noncomputable def PySem.W.Fast.tw12198721830970904671:Nat:=0
noncomputable def PySem.W.Fast.tw6789395461906927218:Nat:=0
noncomputable def PySem.W.Fast.tw13739434070046600921:Nat:=0
noncomputable def PySem.W.Fast.tw17165917755069783212:Nat:=0
noncomputable def PySem.W.Fast.tw3479303223428807012:Nat:=0
noncomputable def PySem.W.Fast.tw9464501980309689290:Nat:=0
noncomputable def PySem.W.Fast.tw7099798100227643033:Nat:=0
noncomputable def PySem.W.Fast.tw10591872607221488755:Nat:=0
noncomputable def PySem.W.Fast.tw8994791819593781271:Nat:=0
noncomputable def PySem.W.Fast.tw17724020638979215455:Nat:=0
noncomputable def PySem.W.Fast.tw6357543809773615208:Nat:=0
noncomputable def PySem.W.Fast.tw11423233501064153583:Nat:=0
noncomputable def PySem.W.Fast.tw14343817538673657987:Nat:=0
noncomputable def PySem.W.Fast.tw9761540751522823070:Nat:=0
noncomputable def PySem.W.Fast.tw16664230130018381506:Nat:=0
noncomputable def PySem.W.Fast.tw15384200008279851943:Nat:=0
noncomputable def PySem.W.Fast.tw6792850062327003830:Nat:=0
noncomputable def PySem.W.Fast.tw13844331977676270516:Nat:=0
noncomputable def PySem.W.Fast.tw8079069420259268084:Nat:=0
noncomputable def PySem.W.Fast.tw16455147946026913076:Nat:=0
noncomputable def PySem.W.Fast.tw1456222032576464251:Nat:=0
noncomputable def PySem.W.Fast.tw6871285880220270823:Nat:=0
noncomputable def PySem.W.Fast.tw13931490088731287312:Nat:=0
noncomputable def PySem.W.Fast.tw5421803892248187523:Nat:=0
noncomputable def PySem.W.Fast.tw1262450790681038207:Nat:=0
noncomputable def PySem.W.Fast.tw15765810805245840015:Nat:=0
noncomputable def PySem.W.Fast.tw12623090026650962438:Nat:=0
noncomputable def PySem.W.Fast.tw16379480471641548937:Nat:=0
set_option maxRecDepth 100000 in
set_option maxHeartbeats 0 in
theorem PySem.Challenge.cw_cogtrain_k08_whole_loosened_holds : PySem.Challenge.rw_cogtrain_k08_whole_loosened.Holds := by
 w_on;o_law;k_head;(case hw=>w_witness2)
 k_fill
 refine K8.walk (l:=PySem.Challenge.rw_cogtrain_k08_whole_loosened) rfl rfl (by decide+kernel) (fun w h Y=>PySem.W.kIn_of Y) ?F
 case F=>
   intro w mg fa h KX G hmg
   refine' K8.all_mk KX G hmg rfl ?aC_Train ?aE_NoName ?aE_Twice ?aE_NoTeeth ?aE_Full ?aE_NoWheel ?aE_NoJoin ?aE_TrainError ?aE_NoText ?aE_Jams ?d0 ?d1 ?d2 ?d3 ?d4 ?d5 ?d6 ?d7 ?d8 ?d9 ?d10 ?d11 ?a12 ?l12 ?d12 ?c12 ?k12 ?d13 ?a14 ?l14 ?d14 ?c14 ?k14 ?d15 ?a16 ?i16 ?l16 ?c16 ?k16 ?a17 ?i17 ?l17 ?c17 ?k17 ?a18 ?i18 ?l18 ?c18 ?k18 ?a19 ?i19 ?l19 ?c19 ?k19 ?a20 ?i20 ?l20 ?c20 ?k20 ?a21 ?i21 ?l21 ?c21 ?k21 ?d22 ?d23 ?d24 ?d25 ?d26 ?d27 ?d28 ?d29 ?d30 ?d31 ?d32 ?d33 ?d34 ?d35 ?d36 ?d37 ?d38 ?d39 ?d40 ?d41 ?d42 ?a43 ?l43 ?c43 ?k43 ?pg_Train ?hd_Train ?po_Train ?sa_Train ?mk_Train ?kc_Train ?n_Train_teeth_of ?n_Train_join_of ?n_Train_next_number ?z0 ?z1 ?z2 ?z3 ?z4 ?z5 ?z6 ?z7 ?z8 ?z9 ?z10 ?z11 ?z12 ?g_LONGEST_NAME ?g_TEETH_BOUND ?g_MOST_WHEELS ?g_MOST_JOINS ?g_MOST_FIGURES ?g_LETTERS ?g_FIGURES ?g_KINDS ?gl_KINDS ?ex_NoName ?ex_Twice ?ex_NoTeeth ?ex_Full ?ex_NoWheel ?ex_NoJoin ?ex_TrainError ?ex_NoText ?ex_Jams ?xm_NoWheel_NoWheel ?xm_Jams_Jams
   (case aC_Train=>k_is)
   (case aE_NoName=>k_is)
   (case aE_Twice=>k_is)
   (case aE_NoTeeth=>k_is)
   (case aE_Full=>k_is)
   (case aE_NoWheel=>k_is)
   (case aE_NoJoin=>k_is)
   (case aE_TrainError=>k_is)
   (case aE_NoText=>k_is)
   (case aE_Jams=>k_is)
   (case d0=>bv_normalize)
   (case d1=>bv_normalize)
   (case d2=>bv_normalize)
   (case d3=>bv_normalize)
   (case d4=>bv_normalize)
   (case d5=>bv_normalize)
   (case d6=>bv_normalize)
   (case d7=>bv_normalize)
   (case d8=>bv_normalize)
   (case d9=>bv_normalize)
   (case d10=>bv_normalize)
   (case d11=>bv_normalize)
   (case a12=>k_is)
   (case l12=>k_is)
   (case d12=>k_is)
   (case c12=>k_is)
   (case k12=>k_is)
   (case d13=>bv_normalize)
   (case a14=>k_is)
   (case l14=>k_is)
   (case d14=>k_is)
   (case c14=>k_is)
   (case k14=>k_is)
   (case d15=>bv_normalize)
   (case a16=>k_is)
   (case i16=>k_is)
   (case l16=>k_is)
   (case c16=>k_is)
   (case k16=>k_is)
   (case a17=>k_is)
   (case i17=>k_is)
   (case l17=>k_is)
   (case c17=>k_is)
   (case k17=>k_is)
   (case a18=>k_is)
   (case i18=>k_is)
   (case l18=>k_is)
   (case c18=>k_is)
   (case k18=>k_is)
   (case a19=>k_is)
   (case i19=>k_is)
   (case l19=>k_is)
   (case c19=>k_is)
   (case k19=>k_is)
   (case a20=>k_is)
   (case i20=>k_is)
   (case l20=>k_is)
   (case c20=>k_is)
   (case k20=>k_is)
   (case a21=>k_is)
   (case i21=>k_is)
   (case l21=>k_is)
   (case c21=>k_is)
   (case k21=>k_is)
   (case d22=>bv_normalize)
   (case d23=>bv_normalize)
   (case d24=>bv_normalize)
   (case d25=>bv_normalize)
   (case d26=>bv_normalize)
   (case d27=>bv_normalize)
   (case d28=>bv_normalize)
   (case d29=>bv_normalize)
   (case d30=>bv_normalize)
   (case d31=>bv_normalize)
   (case d32=>bv_normalize)
   (case d33=>bv_normalize)
   (case d34=>bv_normalize)
   (case d35=>bv_normalize)
   (case d36=>bv_normalize)
   (case d37=>bv_normalize)
   (case d38=>bv_normalize)
   (case d39=>bv_normalize)
   (case d40=>bv_normalize)
   (case d41=>bv_normalize)
   (case d42=>bv_normalize)
   (case a43=>k_is)
   (case l43=>k_is)
   (case c43=>k_is)
   (case k43=>k_is)
   (case pg_Train=>k_is)
   (case hd_Train=>k_is)
   (case po_Train=>k_is)
   (case sa_Train=>k_is)
   (case mk_Train=>k_is)
   (case kc_Train=>k_is)
   (case n_Train_teeth_of=>k_is)
   (case n_Train_join_of=>k_is)
   (case n_Train_next_number=>k_is)
   (case z0=>k_is)
   (case z1=>k_is)
   (case z2=>k_is)
   (case z3=>k_is)
   (case z4=>k_is)
   (case z5=>k_is)
   (case z6=>k_is)
   (case z7=>k_is)
   (case z8=>k_is)
   (case z9=>k_is)
   (case z10=>k_is)
   (case z11=>k_is)
   (case z12=>k_is)
   (case g_LONGEST_NAME=>k_is)
   (case g_TEETH_BOUND=>k_is)
   (case g_MOST_WHEELS=>k_is)
   (case g_MOST_JOINS=>k_is)
   (case g_MOST_FIGURES=>k_is)
   (case g_LETTERS=>k_is)
   (case g_FIGURES=>k_is)
   (case g_KINDS=>k_is)
   (case gl_KINDS=>k_is)
   (case ex_NoName=>k_exc)
   (case ex_Twice=>k_exc)
   (case ex_NoTeeth=>k_exc)
   (case ex_Full=>k_exc)
   (case ex_NoWheel=>k_exc)
   (case ex_NoJoin=>k_exc)
   (case ex_TrainError=>k_exc)
   (case ex_NoText=>k_exc)
   (case ex_Jams=>k_exc)
   (case xm_NoWheel_NoWheel=>kts_exm)
   (case xm_Jams_Jams=>kts_exm)
#print axioms PySem.Challenge.cw_cogtrain_k08_whole_loosened_holds
