import PyProof.Rows.All
import Wide.All
import OpenK.AllK
import Wide.FinOn
import Lean
import PyProof.EqAt
import PyProof.EqKinds
import PyProof.TupleCall
import KE.KIntText
import PySem.Challenge.RW_cogtrain_k04_texts
set_option Elab.async false
set_option linter.all false
set_option maxRecDepth 100000
namespace L2
open PySem PySem.Spec PyProof.Rows
noncomputable abbrev Key:=Sum Int Str
noncomputable def b1b:Key->Value->Bool
 | .inl k,v=>Value.isInt k v
 | .inr x,v=>Value.isStrOf x v
noncomputable def keyH(w:World):Key->Int
 | .inl k=>hashInt k
 | .inr x=>hashStr w x
theorem a02: ∀{k:Key}{v:Value},b1b k v=true->(∃i t,k=Sum.inl i/\v=Value.int i t)\/(∃x t,k=Sum.inr x/\v=Value.str x t)
 | .inl i,v,h=>by
   obtain⟨t,e⟩:=Value.isInt_shape (k:=i) (v:=v) h
   exact .inl ⟨i,t,rfl,e⟩
 | .inr x,v,h=>by
   obtain⟨t,e⟩:=Value.isStrOf_shape (x:=x) (v:=v) h
   exact .inr ⟨x,t,rfl,e⟩
theorem b2v(i:Int)(t:Tok):b1b (.inl i) (.int i t)=true:=by simp[b1b,Value.isInt]
theorem b2u(x:Str)(t:Tok):b1b (.inr x) (.str x t)=true:=by simp[b1b,Value.isStrOf]
theorem key_ll(a b:Int):decide ((Sum.inl a:Key)=Sum.inl b)=(a==b):=by
 by_cases e:a=b
 . subst e;simp
 . have h: ¬ (Sum.inl a:Key)=Sum.inl b:=fun q=>e (Sum.inl.inj q)
   rw[decide_eq_false h]
   exact(beq_eq_false_iff_ne.mpr e).symm
theorem key_rr(a b:Str):decide ((Sum.inr a:Key)=Sum.inr b)=decide (a=b):=by
 by_cases e:a=b
 . subst e;simp
 . have h: ¬ (Sum.inr a:Key)=Sum.inr b:=fun q=>e (Sum.inr.inj q)
   rw[decide_eq_false h,decide_eq_false e]
theorem key_lr(a:Int)(b:Str):decide ((Sum.inl a:Key)=Sum.inr b)=false:=decide_eq_false (fun q=>nomatch q)
theorem key_rl(a:Str)(b:Int):decide ((Sum.inr a:Key)=Sum.inl b)=false:=decide_eq_false (fun q=>nomatch q)
noncomputable def a06(prog:Program)(w:World):PySem.KeyKind prog w Key where
 is:=b1b
 hash:=keyH w
 inj:=fun v a b ha hb=>by
   rcases a02 ha with⟨i,t,rfl,rfl⟩ | ⟨x,t,rfl,rfl⟩
   . rcases a02 hb with⟨j,u,rfl,e⟩ | ⟨y,u,rfl,e⟩
     . injection e with e1 _;rw[e1]
     . exact nomatch e
   . rcases a02 hb with⟨j,u,rfl,e⟩ | ⟨y,u,rfl,e⟩
     . exact nomatch e
     . injection e with e1 _;rw[e1]
 byValue:=fun k v h=>by
   rcases a02 h with⟨i,t,rfl,rfl⟩ | ⟨x,t,rfl,rfl⟩<;>rfl
 pyHash:=fun hv h=>by
   rcases a02 hv with⟨i,t,rfl,rfl⟩ | ⟨x,t,rfl,rfl⟩
   . exact wpAny_pyHash_int h
   . exact wpAny_pyHash_str h
 eqBool:=fun hu hv h=>by
   rcases a02 hu with⟨i,t,rfl,rfl⟩ | ⟨x,t,rfl,rfl⟩
   . rcases a02 hv with⟨j,u,rfl,rfl⟩ | ⟨y,u,rfl,rfl⟩
     . rw[key_ll]at h;exact wpAny_eqBool_int h
     . rw[key_lr]at h;exact SeqAt.EqAt.int_str i t y u _ _ _ _ h
   . rcases a02 hv with⟨j,u,rfl,rfl⟩ | ⟨y,u,rfl,rfl⟩
     . rw[key_rl]at h;exact SeqAt.EqAt.str_int x t j u _ _ _ _ h
     . rw[key_rr]at h;exact wpAny_eqBool_str h
 «strs» := fun k x t v h => by
   rcases a02 h with⟨i,u,rfl,e⟩ | ⟨y,u,rfl,e⟩
   . exact nomatch e
   . injection e with e1 _
     subst e1
     cases v<;>rfl
theorem a9b(prog:Program)(w:World)(i:Int)(t:Tok):(a06 prog w).is (.inl i) (.int i t)=true:=b2v i t
theorem a9a(prog:Program)(w:World)(x:Str)(t:Tok):(a06 prog w).is (.inr x) (.str x t)=true:=b2u x t
inductive V where
 |non |bl (b:Bool) |int (i:Int) |str (x:Str) |byt (b:Array UInt8) |flt (b:UInt64) |ref (a:Addr) |ty (n:String)
 deriving DecidableEq
def RelV:V->Value->Prop
 | .non,u=>u=Value.none
 | .bl b,u=>u=Value.bool b
 | .int i,u=> ∃t,u=Value.int i t
 | .str x,u=> ∃t,u=Value.str x t
 | .byt b,u=> ∃t,u=Value.bytes b t
 | .flt b,u=> ∃t,u=Value.float b t
 | .ref a,u=>u=Value.ref a
 | .ty n,u=>u=Value.type n
abbrev Vals:List V->List Value->Prop:=Paired RelV
theorem Vals.length{xs:List V}{us:List Value}(r:Vals xs us):xs.length=us.length:=Paired.length r
theorem Vals.get: ∀{xs:List V}{us:List Value}{i:Nat}{x:V},Vals xs us->xs[i]? =some x-> ∃u,us[i]? =some u/\RelV x u
 |_,_,_,_,.nil,e=>by simp at e
 |_,_,0,_,.cons r _,e=>by simp at e;subst e;exact⟨_,rfl,r⟩
 |_,_,i+1,x,.cons _ t,e=>by
   obtain⟨u,h1,h2⟩:=Vals.get (i:=i) (x:=x) t (by simpa using e)
   exact⟨u,by simpa using h1,h2⟩
theorem Vals.set{x:V}{u:Value}(r:RelV x u): ∀{xs:List V}{us:List Value} (i:Nat),Vals xs us->Vals (xs.set i x) (us.set i u)
 |_,_,_,.nil=> .nil
 |_,_,0,.cons _ t=> .cons r t
 |_,_,i+1,.cons q t=> .cons q (Vals.set r i t)
theorem Vals.append: ∀{xs ys:List V}{us ws:List Value},Vals xs us->Vals ys ws->Vals (xs++ys) (us++ws)
 |_,_,_,_,.nil,s=>s
 |_,_,_,_,.cons r t,s=> .cons r (Vals.append t s)
theorem Vals.take: ∀{xs:List V}{us:List Value} (n:Nat),Vals xs us->Vals (xs.take n) (us.take n)
 |_,_,0,_=> .nil
 |_,_,_+1,.nil=> .nil
 |_,_,n+1,.cons r t=> .cons r (Vals.take n t)
theorem Vals.drop: ∀{xs:List V}{us:List Value} (n:Nat),Vals xs us->Vals (xs.drop n) (us.drop n)
 |_,_,0,r=>r
 |_,_,_+1,.nil=> .nil
 |_,_,n+1,.cons _ t=>Vals.drop n t
def RelO:Option V->Option Value->Prop
 |some v,some u=>RelV v u
 |none,none=>True
 |_,_=>False
def KV{κ:Type}:List (κ×V)->List (κ×Value)->Prop:=Paired fun (p:κ×V) (q:κ×Value)=>p.1=q.1/\RelV p.2 q.2
noncomputable def kV:Key->V
 | .inl i=> .int i
 | .inr x=> .str x
inductive HO where
 /-- a list -/
 |lst (xs:List V)
 /-- a tuple (never changes) -/
 |tup (xs:List V)
 /-- a dict whose keys are ints and texts; one whose keys are tuples of ints and texts (the empty one is both) -/
 |dK (kvs:List (Key×V)) |dT (kvs:List (List Key×V))
 /-- a set of ints: its members, its size -/
 |set (S:Int->Bool) (n:Nat)
 /-- an instance of the class at C, its dict at dx, its attributes -/
 |ins (C dx:Addr) (fs:List (Str×V))
 /-- the dict of the instance at x -/
 |own (x:Addr)
 /-- the dict of an exception -/
 |xd (fs:List (Str×V))
 /-- a bound method, f of x -/
 |met (f x:Addr)
 /-- a range object lo, lo + 1, .. below hi -/
 |rng (lo hi:Int)
 /-- a thing that is known to the object (the script; a dict while a loop walks it): read, never written while it is so -/
 |frz (o:Obj) (u:HO)
 /-- a code object's table -/
 |tbl (ps:Array Value)
 /-- any other thing, by what is true of its one object (a def of one's own: SetO a S n := HO.ext fun h => ..) -/
 |ext (φ:Heap->Prop)
noncomputable abbrev Hp:=Addr->Option HO
noncomputable def upd(H:Hp)(a:Addr)(o:HO):Hp:=fun b=>if b=a then some o else H b
theorem a0p{H:Hp}{a:Addr}{o:HO}:upd H a o a=some o:=by unfold upd;rw[if_pos rfl]
theorem a0i{H:Hp}{a b:Addr}{o:HO}(h:b≠a):upd H a o b=H b:=by unfold upd;rw[if_neg h]
theorem ne_of{H:Hp}{a b:Addr}{o u:HO}(h:H a=some o)(h':H b=some u)(d:o≠u):a≠b:=by
 intro e;subst e;rw[h]at h';exact d (Option.some.inj h')
theorem a12{H:Hp}{a b:Addr}{o:HO}(h:H a=some o)(h':H b=none):a≠b:=by
 intro e;subst e;rw[h]at h';cases h'
section
variable (P:Program)(w:World)
def ObjOk(H:Hp)(h:Heap)(a:Addr):HO->Prop
 | .lst xs=>xs.length<=sizeLine/\ ∃(its:List Value) (n:Nat),Vals xs its/\h.get? a=some {cls:= .type "list",data:= .seq its.toArray n}
 | .tup xs=>xs.length<=sizeLine/\ ∃its:List Value,Vals xs its/\IsTup h a its.toArray
 | .dK kvs=>kvs.length<=sizeLine/\(a==sysModules)=false/\ ∃vs,KV kvs vs/\h.DictOf (a06 P w) a vs
 | .dT kvs=>kvs.length<=sizeLine/\(a==sysModules)=false/\ ∃xs:List (List Key×Addr×Value),
     Paired (fun (p:List Key×V) (q:List Key×Addr×Value)=>p.1=q.1/\H q.2.1=some (.tup (p.1.map kV))/\RelV p.2 q.2.2) kvs xs/\
     ∃o es ep,h.get? a=some o/\o.ExactDict/\o.data= .dict es ep/\es.toList=xs.map (entryOfKey (tupleKind (a06 P w)))/\(xs.map (·.1)).Nodup
 | .set S n=>h.SetOf (intKind P w) a S n
 | .ins C dx fs=>H dx=some (.own a)/\fs.length<=1000/\dx≠a/\h.get? a=some (PySem.W.instObj C dx)/\
     ∃mA,h.Ns1 dx mA/\(∀f,RelO (fs.lookup f) (mA f))/\PySem.Within mA (fs.map (·.1))
 | .own _=> ∃o,h.get? a=some o
 | .xd fs=> ∃mA,h.Ns1 a mA/\ ∀f,RelO (fs.lookup f) (mA f)
 | .rng lo hi=> ∃t u v,h.get? a=some {cls:= .type "range",data:= .fields #[.int lo t,.int hi u,.int 1 v]}
 | .frz o u=>h.get? a=some o/\ObjOk H h a u
 | .tbl ps=>h.get? a=some {cls:= .none,data:= .fields ps}
 | .met f x=>h.get? a=some (PySem.W.methodObj (.ref f) (.ref x))
 | .ext φ=>φ h/\(∃o,h.get? a=some o)/\ ∀h1 h2:Heap,φ h1->(∀o,h1.get? a=some o->h2.get? a=some o)->φ h2
def HOk(H:Hp)(h:Heap):Prop:= ∀a o,H a=some o->ObjOk P w H h a o
end
section
variable {P:Program}{w:World}{H H':Hp}{h h':Heap}{a:Addr}{o:HO}
theorem ObjOk.lt(x:ObjOk P w H h a o):a<h.objs.size:=by
 cases o with
 |lst xs=>obtain⟨_,_,_,_,e⟩:=x;exact Heap.lt_size e
 |tup xs=>obtain⟨_,_,_,p⟩:=x;exact p.lt
 |dK kvs=>obtain⟨_,_,_,_,o,_,_,e,_⟩:=x;exact Heap.lt_size e
 |dT kvs=>obtain⟨_,_,_,_,o,_,_,e,_⟩:=x;exact Heap.lt_size e
 |set S n=>obtain⟨o,_,_,_,e,_⟩:=x;exact Heap.lt_size e
 |ins C dx fs=>obtain⟨_,_,_,e,_⟩:=x;exact Heap.lt_size e
 |own y=>obtain⟨_,e⟩:=x;exact Heap.lt_size e
 |xd fs=>obtain⟨_,⟨_,_,_,e,_⟩,_⟩:=x;exact Heap.lt_size e
 |rng lo hi=>obtain⟨_,_,_,e⟩:=x;exact Heap.lt_size e
 |frz ob u=>obtain⟨e,_⟩:=x;exact Heap.lt_size e
 |tbl ps=>exact Heap.lt_size (show h.get? a=some _ from x)
 |met f y=>exact Heap.lt_size (show h.get? a=some _ from x)
 |ext φ=>obtain⟨_,⟨_,e⟩,_⟩:=x;exact Heap.lt_size e
theorem Paired.mapP{α β:Type}{F G:α->β->Prop}: ∀{l₁:List α}{l₂:List β},Paired F l₁ l₂->(∀a b,F a b->G a b)->Paired G l₁ l₂
 |_,_,.nil,_=> .nil
 |_,_,.cons r t,f=> .cons (f _ _ r) (Paired.mapP t f)
theorem ObjOk.stay(x:ObjOk P w H h a o)(k: ∀b u,(b=a\/H b=some (.own a))->h.get? b=some u->h'.get? b=some u)
   (ho: ∀b,H b=some (.own a)->H' b=some (.own a)) (ht: ∀b xs,H b=some (.tup xs)->H' b=some (.tup xs)):ObjOk P w H' h' a o:=by
 induction o with
 |lst xs=>obtain⟨z,its,n,r,e⟩:=x;exact⟨z,its,n,r,k _ _ (.inl rfl) e⟩
 |tup xs=>obtain⟨z,its,r,ob,e,c⟩:=x;exact⟨z,its,r,ob,k _ _ (.inl rfl) e,c⟩
 |dK kvs=>obtain⟨z,y,vs,r,ob,es,ep,e,c⟩:=x;exact⟨z,y,vs,r,ob,es,ep,k _ _ (.inl rfl) e,c⟩
 |dT kvs=>
   obtain⟨z,y,xs,r,ob,es,ep,e,c⟩:=x
   exact⟨z,y,xs,Paired.mapP r fun p q z=>⟨z.1,ht _ _ z.2.1,z.2.2⟩,ob,es,ep,k _ _ (.inl rfl) e,c⟩
 |set S n=>obtain⟨ob,es,ep,t,e,c⟩:=x;exact⟨ob,es,ep,t,k _ _ (.inl rfl) e,c⟩
 |ins C dx fs=>
   obtain⟨d,z,ne,e,mA,⟨od,es,ep,e2,c⟩,r⟩:=x
   exact⟨ho _ d,z,ne,k _ _ (.inl rfl) e,mA,⟨od,es,ep,k _ _ (.inr d) e2,c⟩,r⟩
 |own y=>obtain⟨ob,e⟩:=x;exact⟨ob,k _ _ (.inl rfl) e⟩
 |xd fs=>obtain⟨mA,⟨od,es,ep,e,c⟩,r⟩:=x;exact⟨mA,⟨od,es,ep,k _ _ (.inl rfl) e,c⟩,r⟩
 |rng lo hi=>obtain⟨t,u,v,e⟩:=x;exact⟨t,u,v,k _ _ (.inl rfl) e⟩
 |frz ob u ih=>obtain⟨e,q⟩:=x;exact⟨k _ _ (.inl rfl) e,ih q⟩
 |tbl ps=>
   have e:h.get? a=some {cls:= .none,data:= .fields ps}:=x
   show h'.get? a=some {cls:= .none,data:= .fields ps}
   exact k a _ (.inl rfl) e
 |met f y=>
   have e:h.get? a=some (PySem.W.methodObj (.ref f) (.ref y)):=x
   show h'.get? a=some (PySem.W.methodObj (.ref f) (.ref y))
   exact k a _ (.inl rfl) e
 |ext φ=>obtain⟨p,⟨o,e⟩,st⟩:=x;exact⟨st _ _ p fun o q=>k _ _ (.inl rfl) q,⟨o,k _ _ (.inl rfl) e⟩,st⟩
theorem HOk.lt(x:HOk P w H h)(e:H a=some o):a<h.objs.size:=(x a o e).lt
theorem HOk.fresh(x:HOk P w H h)(e:h.objs.size<=a):H a=none:=by
 cases q:H a with
 |none=>rfl
 |some u=>exact absurd (Nat.lt_of_lt_of_le (x.lt q) e) (Nat.lt_irrefl _)
theorem HOk.kept(x:HOk P w H h)(k: ∀b u,h.get? b=some u->h'.get? b=some u):HOk P w H h':=fun a o e=>
 (x a o e).stay (fun b u _ q=>k b u q) (fun _ q=>q) fun _ _ q=>q
theorem HOk.laid(x:HOk P w H h)(k: ∀b u,h.get? b=some u->h'.get? b=some u)(hp:h.objs.size<=a)(new:ObjOk P w (upd H a o) h' a o):HOk P w (upd H a o) h':=fun b u e=>by
 have hn:=x.fresh hp
 by_cases hb:b=a
 . subst hb;rw[a0p]at e;cases e;exact new
 . rw[a0i hb]at e
   exact(x b u e).stay (fun c v _ q=>k c v q) (fun c q=>by rw[a0i (a12 q hn)];exact q) fun c xs q=>by rw[a0i (a12 q hn)];exact q
end
def Rd(H:Hp)(a:Addr)(u:HO):Prop:=H a=some u\/ ∃o,H a=some (.frz o u)
theorem Rd.of{H:Hp}{a:Addr}{u:HO}(h:H a=some u):Rd H a u:= .inl h
theorem Rd.ok{P:Program}{w:World}{H:Hp}{h:Heap}{a:Addr}{u:HO}(r:Rd H a u)(x:HOk P w H h):ObjOk P w H h a u:=by
 rcases r with r | ⟨o,r⟩
 . exact x a u r
 . obtain⟨_,q⟩:=x a _ r
   exact q
def Mut:Option HO->Prop
 |some (.lst _)=>True
 |some (.dK _)=>True
 |some (.dT _)=>True
 |some (.set _ _)=>True
 |some (.ins _ _ _)=>True
 |some (.ext _)=>True
 |_=>False
section
variable {P:Program}{w:World}{H:Hp}{h h':Heap}{x e:Addr}{o':HO}
theorem HOk.write(ok:HOk P w H h)(mu:Mut (H x))(he:e=x\/H e=some (.own x))(k: ∀b u,b≠e->h.get? b=some u->h'.get? b=some u)(heo: ∃u,h'.get? e=some u)
   (new:ObjOk P w (upd H x o') h' x o'):HOk P w (upd H x o') h':=fun b u q=>by
 have nown: ∀c y,H c=some (.own y)->c≠x:=fun c y r z=>by subst z;rw[r]at mu;exact mu
 have ntup: ∀c xs,H c=some (.tup xs)->c≠x:=fun c xs r z=>by subst z;rw[r]at mu;exact mu
 by_cases hb:b=x
 . subst hb;rw[a0p]at q;cases q;exact new
 . rw[a0i hb]at q
   by_cases hbe:b=e
   . have q':H b=some (.own x):=by
       rcases he with z |z
       . exact absurd (hbe.trans z) hb
       . rw[hbe];exact z
     rw[q]at q';cases q'
     obtain⟨v,hv⟩:=heo
     exact⟨v,by rw[hbe];exact hv⟩
   . refine(ok b u q).stay (fun c v hc r=>k c v ?_ r) (fun c r=>by rw[a0i (nown c b r)];exact r) fun c xs r=>by rw[a0i (ntup c xs r)];exact r
     rcases hc with rfl |hc
     . exact hbe
     . rintro rfl
       rcases he with z |z
       . exact nown c b hc z
       . rw[hc]at z;cases z;exact hb rfl
end
structure Un(fs ex:List Addr)(H H':Hp)(h h':Heap):Prop where
 keep: ∀b o,h.get? b=some o->H b=none->b∉fs->b∉ex->h'.get? b=some o
 slot: ∀b o,h.get? b=some o->H b=none->b∈fs->b∉ex-> ∃sl,h'.get? b=some {o with slots:=sl}
 free: ∀b o,h.get? b=some o->H b=none->b∉ex->H' b=none
 there: ∀b o,h.get? b=some o->b∉ex-> ∃o',h'.get? b=some o'
 tups: ∀b xs,H b=some (.tup xs)->H' b=some (.tup xs)
 frzs: ∀b o u,H b=some (.frz o u)->H' b=some (.frz o u)
 tbls: ∀b ps,H b=some (.tbl ps)-> ∃more,H' b=some (.tbl (ps++more))
section
variable {fs fs' ex ex':List Addr}{H H1 H2:Hp}{h h1 h2 h':Heap}{a x e:Addr}{o:HO}
theorem Un.any(u:Un fs ex H H1 h h1){b:Addr}{ob:Obj}(q:h.get? b=some ob)(n:H b=none)(hx:b∉ex): ∃sl,h1.get? b=some {ob with slots:=sl}:=by
 by_cases hb:b∈fs
 . exact u.slot b ob q n hb hx
 . exact⟨ob.slots,u.keep b ob q n hb hx⟩
theorem Un.kept(k: ∀b u,h.get? b=some u->h'.get? b=some u):Un fs ex H H h h':=
 ⟨fun b ob q _ _ _=>k b ob q,fun b ob q _ _ _=>⟨ob.slots,k b ob q⟩,fun _ _ _ n _=>n,fun b ob q _=>⟨ob,k b ob q⟩,fun _ _ q=>q,fun _ _ _ q=>q,fun _ ps q=>⟨#[],by rw[q];simp⟩⟩
theorem Un.refl:Un fs ex H H h h:=Un.kept fun _ _ q=>q
theorem Un.laid(k: ∀b u,h.get? b=some u->h'.get? b=some u)(hp:h.objs.size<=a)(hn:H a=none):Un fs ex H (upd H a o) h h' where
 keep:=fun b u q _ _ _=>k b u q
 slot:=fun b u q _ _ _=>⟨u.slots,k b u q⟩
 free:=fun b u q n _=>by rw[a0i (Nat.ne_of_lt (Nat.lt_of_lt_of_le (Heap.lt_size q) hp))];exact n
 there:=fun b u q _=>⟨u,k b u q⟩
 tups:=fun b xs q=>by rw[a0i (a12 q hn)];exact q
 frzs:=fun b u xs q=>by rw[a0i (a12 q hn)];exact q
 tbls:=fun b ps q=>⟨#[],by rw[a0i (a12 q hn),q];simp⟩
theorem Un.write(mu:Mut (H x))(he:e=x\/H e=some (.own x))(k: ∀b u,b≠e->h.get? b=some u->h'.get? b=some u)(heo: ∃u,h'.get? e=some u):Un fs ex H (upd H x o) h h':=by
 have hx: ∀b,H b=none->b≠x:=fun b n z=>by subst z;rw[n]at mu;exact mu
 have hb: ∀b,H b=none->b≠e:=fun b n z=>by
   subst z
   rcases he with r |r
   . exact hx b n r
   . rw[n]at r;cases r
 have hm: ∀b u,H b=some u-> ¬ Mut (some u)->b≠x:=fun b u q nm z=>by subst z;rw[q]at mu;exact nm mu
 refine⟨fun b u q n _ _=>k b u (hb b n) q,fun b u q n _ _=>⟨u.slots,k b u (hb b n) q⟩,fun b u q n _=>by rw[a0i (hx b n)];exact n,fun b u q _=> ?_,
   fun b xs q=>by rw[a0i (hm b _ q fun z=>z)];exact q,fun b u xs q=>by rw[a0i (hm b _ q fun z=>z)];exact q,fun b ps q=>⟨#[],by rw[a0i (hm b _ q fun z=>z),q];simp⟩⟩
 by_cases hbe:b=e
 . subst hbe;exact heo
 . exact⟨u,k b u hbe q⟩
end
noncomputable def trk(h:Heap)(H:Hp):List Addr:=(List.range h.objs.size).filter fun a=>(H a).isSome
noncomputable def hidT(h:Heap)(H:Hp):Heap:=PySem.W.hideAll h (trk h H)
theorem b24(h:Heap)(H:Hp):(hidT h H).objs.size=h.objs.size:=PySem.W.hideAll_size _ _
theorem a97{h:Heap}{H:Hp}{b:Addr}{o:Obj}(e:h.get? b=some o)(n:H b=none):(hidT h H).get? b=some o:=
 PySem.W.hideAll_get _ e fun hm=>by
   have q:(H b).isSome=true:=(List.mem_filter.mp hm).2
   rw[n]at q;simp at q
theorem of_hidT{h:Heap}{H:Hp}{b:Addr}{o:Obj}(e:(hidT h H).get? b=some o):h.get? b=some o/\H b=none:=by
 have e':h.get? b=some o:=PySem.W.of_hideAll (trk h H) e
 refine⟨e',?_⟩
 cases q:H b with
 |none=>rfl
 |some x=>
   have hm:b∈trk h H:=List.mem_filter.mpr ⟨List.mem_range.mpr (Heap.lt_size e'),by simp[q]⟩
   have z:(hidT h H).get? b=none:=PySem.W.hideAll_none (trk h H) hm
   rw[z]at e;cases e
noncomputable def allNews(g h:Heap)(L:Addr):List (Addr×Obj):=(List.range h.objs.size).filterMap fun a=>if a=L\/(g.get? a).isSome=true then none else(h.get? a).map fun o=>(a,o)
noncomputable def rest(g h:Heap)(L d:Addr):List (Addr×Obj):=(allNews g h L).filter fun p=>decide (p.1≠d)
structure Mod(K:PySem.W.Frag)(mg:Str->Option Value)(base:Heap):Prop where
 kin:K.In base
 glob:base.Ns mainGlobals mg
 blt: ∃mb,base.Ns builtinsNs mb/\ ∀x:Str,x≠ "__name__"->mb x=bootBuiltins x
 nolimit:base.NoLimit
structure Cx where
 prog:Program
 w:World
 K:PySem.W.Frag
 mg:Str->Option Value
 base:Heap
 A:Around
 N:List Str
 s₀:Shared
 H₀:Hp
 env:Env
 outer:List Env
 stack:List Env
 ex:List Addr
 fn:Str->Bool
 calm:Bool
 pn:List (Addr×Obj)
 xe:Value->Shared->Prop
noncomputable def frs(l:List Env):List Addr:=l.filterMap (·.frame)
noncomputable abbrev Cx.fs(X:Cx):List Addr:=frs X.outer
def Vis(sc:Scope)(x:Str):Prop:=sc.names.lookup x=some .local\/sc.names.lookup x=some .cell\/sc.names.lookup x=some .free
def Loc(sc:Scope)(x:Str):Prop:=sc.names.lookup x=some .local\/sc.names.lookup x=some .cell
def Look(env:Env)(h:Heap)(m:Str->Option Value)(x:Str)(u:Value):Prop:=
 (env.kindOf x=some .local/\m x=some u)\/((env.kindOf x=some .cell\/env.kindOf x=some .free)/\ ∃c,env.cells.lookup x=some c/\h.IsCell c (some u))
structure Cx.Ok(X:Cx):Prop where
 mod:Mod X.K X.mg X.base
 kind:X.env.scope.kind= .function
 glob:X.env.globals=mainGlobals
 blt:X.env.builtins=builtinsNs
 above:X.s₀.heap.objs.size<=X.env.locals
 inj: ∀x y c,X.env.cells.lookup x=some c->X.env.cells.lookup y=some c->x=y
 has: ∀x,(X.env.kindOf x=some .cell\/X.env.kindOf x=some .free)-> ∃c,X.env.cells.lookup x=some c
 cab: ∀x c,X.fn x=true->X.env.cells.lookup x=some c->X.s₀.heap.objs.size<=c
 hd:X.calm=true->X.A.handled=none
 frames:X.A.frames=some X.stack
 stk:X.stack=X.outer\/(X.stack=X.env::X.outer/\X.env.frame=some X.env.locals)
 exf: ∀b∈X.ex,b≠X.env.locals/\ ∀x c,X.env.cells.lookup x=some c->c≠b
 bs: ∀b o,X.base.get? b=some o->X.s₀.heap.get? b=some o/\X.H₀ b=none
 bsz:X.base.objs.size<=X.s₀.heap.objs.size
 noex: ∀b o,X.base.get? b=some o->b∉X.ex
 exfs: ∀b∈X.ex,b∉X.fs
 funs:X.s₀.heap.FunFrames X.base X.outer
 frf: ∀b∈X.fs,X.H₀ b=none
structure Inv(X:Cx)(pins:List (Addr×Obj))(σ:List (Option V))(H:Hp)(s:Shared):Prop where
 ok:X.Ok
 os:s.os=X.s₀.os
 bare:AllBare s.gens
 base:Un X.fs X.ex X.H₀ H X.s₀.heap s.heap
 loc: ∃m,s.heap.Ns X.env.locals m/\ ∀(i:Nat) (x:Str) (v:V),X.N[i]? =some x->σ[i]? =some (some v)->Vis X.env.scope x-> ∃u,RelV v u/\Look X.env s.heap m x u
 cell: ∀x c,X.env.cells.lookup x=some c-> ∃v,s.heap.IsCell c v
 free:H X.env.locals=none
 freeC: ∀x c,X.env.cells.lookup x=some c->H c=none
 pin: ∀p∈X.pn++pins,s.heap.get? p.1=some p.2/\H p.1=none/\p.1≠X.env.locals/\p.1∉X.fs/\ ∀v,p.2.data≠ .cell v
 hok:HOk X.prog X.w H s.heap
 len:σ.length=X.N.length
section
variable {X:Cx}{pins:List (Addr×Obj)}{σ:List (Option V)}{H H':Hp}{s:Shared}{h':Heap}
theorem Cx.Ok.nofr(ok:X.Ok){b:Addr}{o:Obj}(e:X.base.get? b=some o):b∉X.fs:=fun hb=>by
 have:=(ok.funs.mem hb).1
 rw[e]at this;cases this
theorem Inv.bs(I:Inv X pins σ H s): ∀b o,X.base.get? b=some o->s.heap.get? b=some o/\H b=none:=fun b o e=>
 ⟨I.base.keep b o (I.ok.bs b o e).1 (I.ok.bs b o e).2 (I.ok.nofr e) (I.ok.noex b o e),I.base.free b o (I.ok.bs b o e).1 (I.ok.bs b o e).2 (I.ok.noex b o e)⟩
theorem Inv.bk(I:Inv X pins σ H s): ∀b o,X.base.get? b=some o->s.heap.get? b=some o:=fun b o e=>(I.bs b o e).1
theorem Inv.mod(I:Inv X pins σ H s):Mod X.K X.mg X.base:=I.ok.mod
theorem Inv.kIn(I:Inv X pins σ H s):X.K.In s.heap:=I.ok.mod.kin.keeps I.bk
theorem Inv.nolimit(I:Inv X pins σ H s):s.heap.NoLimit:=I.ok.mod.nolimit.keeps I.bk
theorem Inv.lt(I:Inv X pins σ H s):X.env.locals<s.heap.objs.size:=let ⟨_,hn,_⟩:=I.loc;hn.lt
theorem Inv.sz(I:Inv X pins σ H s):X.s₀.heap.objs.size<=s.heap.objs.size:=Nat.le_trans I.ok.above (Nat.le_of_lt I.lt)
theorem Inv.nofs(I:Inv X pins σ H s){a:Addr}(h:s.heap.objs.size<=a):a∉X.fs:=fun hb=>by
 obtain⟨_,o,ho,_⟩:=I.ok.funs.mem hb
 exact absurd (Nat.lt_of_lt_of_le (Heap.lt_size ho) (Nat.le_trans I.sz h)) (Nat.lt_irrefl _)
theorem Inv.cne(I:Inv X pins σ H s): ∀x c,X.env.cells.lookup x=some c->c≠X.env.locals:=fun x c e z=>by
 obtain⟨v,o,ho,hd⟩:=I.cell x c e
 obtain⟨m,⟨o',es,ep,ho',hd',_⟩,_⟩:=I.loc
 rw[z,ho']at ho;cases ho;rw[hd']at hd;cases hd
theorem Inv.funs(I:Inv X pins σ H s):s.heap.FunFrames X.base X.outer:=by
 have all: ∀(l:List Env),(∀b∈frs l,b∈X.fs)->X.s₀.heap.FunFrames X.base l->s.heap.FunFrames X.base l:=by
   intro l
   induction l with
   |nil=>intro _ _;trivial
   |cons env r ih=>
     intro hs hl
     obtain⟨hk,⟨L,o,hf,hn,ho,hd⟩,hr⟩:=hl
     have hL:L∈X.fs:=hs L (by unfold frs;rw[List.filterMap_cons,hf];exact List.mem_cons_self)
     obtain⟨sl,e⟩:=I.base.slot L o ho (I.ok.frf L hL) hL fun z=>I.ok.exfs L z hL
     exact⟨hk,⟨L,_,hf,hn,e,hd⟩,ih (fun b hb=>hs b (by unfold frs;rw[List.filterMap_cons,hf];exact List.mem_cons_of_mem _ hb)) hr⟩
 exact all X.outer (fun _ hb=>hb) I.ok.funs
theorem Inv.stack(I:Inv X pins σ H s):s.heap.FunFrames X.base X.stack:=by
 rcases I.ok.stk with e | ⟨e,hf⟩
 . rw[e];exact I.funs
 . rw[e]
   obtain⟨m,hn,_⟩:=I.loc
   refine .cons (by rw[I.ok.kind];decide) hf hn ?_ I.funs
   exact Heap.get?_none_of_le (Nat.le_trans I.ok.bsz I.ok.above)
theorem Inv.stkSub(I:Inv X pins σ H s): ∀b∈frs X.stack,b∈X.env.locals::X.fs:=fun b hb=>by
 rcases I.ok.stk with e | ⟨e,hf⟩
 . rw[e]at hb;exact List.mem_cons_of_mem _ hb
 . rw[e]at hb
   unfold frs at hb
   rw[List.filterMap_cons,hf]at hb
   exact hb
theorem Inv.stkFree(I:Inv X pins σ H s): ∀b∈frs X.stack,H b=none:=fun b hb=>by
 rcases List.mem_cons.mp (I.stkSub b hb)with e |hb
 . rw[e];exact I.free
 . obtain⟨_,o,ho,_⟩:=I.ok.funs.mem hb
   exact I.base.free b o ho (I.ok.frf b hb) fun z=>I.ok.exfs b z hb
theorem Inv.step{g':Array GenState}{t':Nat}{d':Drawn}{ch:List Addr}(I:Inv X pins σ H s)
   (hch: ∀b∈ch,(b∈X.ex\/X.s₀.heap.objs.size<=b)/\b≠X.env.locals/\(∀x c,X.env.cells.lookup x=some c->c≠b)/\ ∀p∈X.pn++pins,p.1≠b)
   (keep: ∀b o,b≠X.env.locals->b∉X.fs->b∉ch->s.heap.get? b=some o->H b=none->h'.get? b=some o)
   (slot: ∀b o,b≠X.env.locals->b∈X.fs->b∉ch->s.heap.get? b=some o->H b=none-> ∃sl,h'.get? b=some {o with slots:=sl}) (free: ∀b o,b∉ch->s.heap.get? b=some o->H b=none->H' b=none)
   (there: ∀b o,b∉ch->s.heap.get? b=some o-> ∃o',h'.get? b=some o')
   (tups: ∀b xs,H b=some (.tup xs)->H' b=some (.tup xs)) (frzs: ∀b o u,H b=some (.frz o u)->H' b=some (.frz o u)) (tbls: ∀b ps,H b=some (.tbl ps)-> ∃more,H' b=some (.tbl (ps++more)))
   (ns: ∀m,s.heap.Ns X.env.locals m->h'.Ns X.env.locals m) (hok:HOk X.prog X.w H' h') (hg:AllBare g'):
   Inv X pins σ H' {s with heap:=h',gens:=g',drawn:=d',toks:=t'}:=by
 have neL: ∀b o,X.s₀.heap.get? b=some o->b≠X.env.locals:=fun b o e=>Nat.ne_of_lt (Nat.lt_of_lt_of_le (Heap.lt_size e) I.ok.above)
 have neC: ∀b o,X.s₀.heap.get? b=some o->b∉X.ex->b∉ch:=fun b o e hx hb=>by
   rcases(hch b hb).1 with z |z
   . exact hx z
   . exact absurd (Nat.lt_of_lt_of_le (Heap.lt_size e) z) (Nat.lt_irrefl _)
 have cellK: ∀x c,X.env.cells.lookup x=some c-> ∀v,s.heap.IsCell c v->h'.IsCell c v:=fun x c e v ⟨o,ho,hd⟩=>by
   have nch:c∉ch:=fun z=>(hch c z).2.2.1 x c e rfl
   by_cases hc:c∈X.fs
   . obtain⟨sl,q⟩:=slot c o (I.cne x c e) hc nch ho (I.freeC x c e)
     exact⟨_,q,hd⟩
   . exact⟨o,keep c o (I.cne x c e) hc nch ho (I.freeC x c e),hd⟩
 refine⟨I.ok,I.os,hg,⟨fun b o e n hb hx=> ?_,fun b o e n hb hx=> ?_,fun b o e n hx=> ?_,fun b o e hx=> ?_,fun b xs e=>tups b xs (I.base.tups b xs e),fun b o xs e=>frzs b o xs (I.base.frzs b o xs e),fun b ps e=> ?_⟩,?_,fun x c e=> ?_,?_,fun x c e=> ?_,fun p hp=> ?_,hok,I.len⟩
 . exact keep b o (neL b o e) hb (neC b o e hx) (I.base.keep b o e n hb hx) (I.base.free b o e n hx)
 . obtain⟨sl,e1⟩:=I.base.slot b o e n hb hx
   obtain⟨sl',e2⟩:=slot b _ (neL b o e) hb (neC b o e hx) e1 (I.base.free b o e n hx)
   exact⟨sl',e2⟩
 . obtain⟨o',e1⟩:=I.base.there b o e hx
   exact free b o' (neC b o e hx) e1 (I.base.free b o e n hx)
 . obtain⟨o',e1⟩:=I.base.there b o e hx
   exact there b o' (neC b o e hx) e1
 . obtain⟨m1,e1⟩:=I.base.tbls b ps e
   obtain⟨m2,e2⟩:=tbls b _ e1
   exact⟨m1++m2,by rw[e2,Array.append_assoc]⟩
 . obtain⟨m,hn,hl⟩:=I.loc
   refine⟨m,ns m hn,fun i x v e1 e2 e3=> ?_⟩
   obtain⟨u,r,l⟩:=hl i x v e1 e2 e3
   refine⟨u,r,?_⟩
   rcases l with l | ⟨k,c,e,z⟩
   . exact .inl l
   . exact .inr ⟨k,c,e,cellK x c e _ z⟩
 . obtain⟨v,z⟩:=I.cell x c e
   exact⟨v,cellK x c e v z⟩
 . obtain⟨m,⟨o,_,_,ho,_⟩,_⟩:=I.loc
   exact free _ o (fun z=>(hch _ z).2.1 rfl) ho I.free
 . obtain⟨v,o,ho,hd⟩:=I.cell x c e
   exact free c o (fun z=>(hch c z).2.2.1 x c e rfl) ho (I.freeC x c e)
 . obtain⟨e,n,ne,nf,d⟩:=I.pin p hp
   have nch:p.1∉ch:=fun z=>(hch p.1 z).2.2.2 p hp rfl
   exact⟨keep p.1 p.2 ne nf nch e n,free p.1 p.2 nch e n,ne,nf,d⟩
theorem Inv.un{t':Nat}(I:Inv X pins σ H s)(u:Un X.fs [] H H' s.heap h')(hok:HOk X.prog X.w H' h'):Inv X pins σ H' {s with heap:=h',toks:=t'}:=by
 obtain⟨m,⟨o,es,ep,ho,r⟩,_⟩:=id I.loc
 obtain⟨sl,hL⟩:=u.any ho I.free (by simp)
 exact I.step (g':=s.gens) (d':=s.drawn) (ch:=[]) (fun _ z=>nomatch z) (fun b o _ hb _ e n=>u.keep b o e n hb (by simp)) (fun b o _ hb _ e n=>u.slot b o e n hb (by simp)) (fun b o _ e n=>u.free b o e n (by simp)) (fun b o _ e=>u.there b o e (by simp)) u.tups u.frzs u.tbls (fun m' hm=>by
   obtain⟨o',es',ep',ho',r'⟩:=hm
   rw[ho]at ho';cases ho'
   exact⟨_,es',ep',hL,r'⟩) hok I.bare
theorem Inv.call{g':Array GenState}{t':Nat}{d':Drawn}{ch:List Addr}(I:Inv X pins σ H s)(u:Un (frs X.stack) ch H H' s.heap h')(hok:HOk X.prog X.w H' h')(hg:AllBare g')
   (hch: ∀b∈ch,(b∈X.ex\/X.s₀.heap.objs.size<=b)/\b≠X.env.locals/\(∀x c,X.env.cells.lookup x=some c->c≠b)/\ ∀p∈X.pn++pins,p.1≠b):
   Inv X pins σ H' {s with heap:=h',gens:=g',drawn:=d',toks:=t'}:=by
 obtain⟨m,⟨o,es,ep,ho,r⟩,_⟩:=id I.loc
 obtain⟨sl,hL⟩:=u.any ho I.free fun z=>(hch _ z).2.1 rfl
 exact I.step (ch:=ch) hch (fun b o hL hb hc e n=>u.keep b o e n (fun z=>(List.mem_cons.mp (I.stkSub b z)).elim hL hb) hc) (fun b o _ _ hc e n=>u.any e n hc) (fun b o hc e n=>u.free b o e n hc) (fun b o hc e=>u.there b o e hc) u.tups u.frzs u.tbls (fun m' hm=>by
   obtain⟨o',es',ep',ho',r'⟩:=hm
   rw[ho]at ho';cases ho'
   exact⟨_,es',ep',hL,r'⟩) hok hg
theorem Inv.turned{t':Nat}{it:Addr}(I:Inv X pins σ H s)(k: ∀b o,b≠it->s.heap.get? b=some o->h'.get? b=some o)(hn:H it=none)(hL:it≠X.env.locals)
   (h1:it∈X.ex\/X.s₀.heap.objs.size<=it) (h2: ∀x c,X.env.cells.lookup x=some c->c≠it) (h3: ∀p∈X.pn++pins,p.1≠it):Inv X pins σ H {s with heap:=h',toks:=t'}:=by
 have nit: ∀b u,H b=some u->b≠it:=fun b u e z=>by rw[z,hn]at e;cases e
 refine I.step (g':=s.gens) (d':=s.drawn) (ch:=[it]) (fun b hb=> ?_) (fun b o _ _ hc e _=>k b o (fun z=>hc (by simp[z])) e) (fun b o _ _ hc e _=>⟨o.slots,k b o (fun z=>hc (by simp[z])) e⟩) (fun _ _ _ _ n=>n)
   (fun b o hc e=>⟨o,k b o (fun z=>hc (by simp[z])) e⟩) (fun _ _ e=>e) (fun _ _ _ e=>e) (fun b ps e=>⟨#[],by rw[e];simp⟩) (fun m hm=> ?_) (fun b u e=> ?_) I.bare
 . have e:b=it:=by simpa using hb
   subst e
   exact⟨h1,hL,h2,h3⟩
 . obtain⟨o,es,ep,ho,r⟩:=hm
   exact⟨o,es,ep,k _ o (Ne.symm hL) ho,r⟩
 . refine(I.hok b u e).stay (fun c v hc q=>k c v ?_ q) (fun _ q=>q) fun _ _ q=>q
   rcases hc with z |z
   . rw[z];exact nit b u e
   . exact nit c _ z
theorem Inv.tok(I:Inv X pins σ H s)(t:Nat):Inv X pins σ H {s with toks:=t}:=I.un (h':=s.heap) (t':=t) Un.refl I.hok
theorem Inv.kept{t':Nat}(I:Inv X pins σ H s)(k: ∀b u,s.heap.get? b=some u->h'.get? b=some u):Inv X pins σ H {s with heap:=h',toks:=t'}:=I.un (Un.kept k) (I.hok.kept k)
theorem Inv.laid{a:Addr}{o:HO}{t':Nat}(I:Inv X pins σ H s)(k: ∀b u,s.heap.get? b=some u->h'.get? b=some u)(hp:s.heap.objs.size<=a)(new:ObjOk X.prog X.w (upd H a o) h' a o):
   Inv X pins σ (upd H a o) {s with heap:=h',toks:=t'}:=I.un (Un.laid k hp (I.hok.fresh hp)) (I.hok.laid k hp new)
theorem Inv.write{x e:Addr}{o:HO}{t':Nat}(I:Inv X pins σ H s)(mu:Mut (H x))(he:e=x\/H e=some (.own x))(k: ∀b u,b≠e->s.heap.get? b=some u->h'.get? b=some u)(heo: ∃u,h'.get? e=some u)
   (new:ObjOk X.prog X.w (upd H x o) h' x o):Inv X pins σ (upd H x o) {s with heap:=h',toks:=t'}:=I.un (Un.write mu he k heo) (I.hok.write mu he k heo new)
theorem Inv.pins_of{pins':List (Addr×Obj)}(I:Inv X pins σ H s)(h: ∀p∈pins',s.heap.get? p.1=some p.2/\H p.1=none/\p.1≠X.env.locals/\p.1∉X.fs/\ ∀v,p.2.data≠ .cell v):Inv X pins' σ H s:=
 ⟨I.ok,I.os,I.bare,I.base,I.loc,I.cell,I.free,I.freeC,fun p hp=>(List.mem_append.mp hp).elim (fun z=>I.pin p (List.mem_append_left _ z)) (h p),I.hok,I.len⟩
theorem a4q{N:List Str}(hN:N.Nodup){i j:Nat}{x:Str}(a:N[i]? =some x)(b:N[j]? =some x):i=j:=by
 obtain⟨h1,e1⟩:=List.getElem?_eq_some_iff.mp a
 obtain⟨h2,e2⟩:=List.getElem?_eq_some_iff.mp b
 exact(List.getElem_inj hN).mp (e1.trans e2.symm)
theorem a7i{M:Model}{A:Around}{E:Value->Shared->Prop}{i:Nat}{x:Str}{v:V}{u:Value}{Q:Unit->Shared->Prop}(I:Inv X pins σ H s)(hN:X.N.Nodup)(hi:X.N[i]? =some x)(hx:Loc X.env.scope x)(r:RelV v u)
   (h: ∀s',Inv X pins (σ.set i (some v)) H s'->(∃a,Heap.SameBut a s.heap s'.heap/\(a=X.env.locals\/X.env.cells.lookup x=some a))->Q () s') (hf:X.fn x=true\/X.env.scope.names.lookup x=some .local:=by first |exact .inl rfl |exact .inr rfl |assumption):wpAny M A (storeName X.env x u) Q E s:=by
 obtain⟨m,hn,hl⟩:=id I.loc
 have hcls:(X.env.scope.kind== .class||(X.env.scope.kind== .module&&X.env.locals !=X.env.globals))=false:=by rw[I.ok.kind];rfl
 have hiσ:i<σ.length:=by rw[I.len];exact(List.getElem?_eq_some_iff.mp hi).1
 have cne:=I.cne
 have tracked: ∀{a:Addr}{h':Heap},(∃o,s.heap.get? a=some o/\H a=none)->Heap.SameBut a s.heap h'->HOk X.prog X.w H h':=fun {a h'} ha hs b ob e=>by
   obtain⟨_,_,hfree⟩:=ha
   refine(I.hok b ob e).stay (fun c w' hc q=>(hs.2 c ?_).trans q) (fun _ q=>q) fun _ _ q=>q
   rintro rfl
   rcases hc with rfl |hc
   . rw[hfree]at e;cases e
   . rw[hfree]at hc;cases hc
 rcases hx with hk |hk
 . refine wpAny_storeName_local hk hn (fun h' hn' hs=> ?_) hcls
   obtain⟨oL,_,_,hoL,_⟩:=id hn
   refine h _ ⟨I.ok,I.os,I.bare,⟨fun b o e n hb hx=> ?_,fun b o e n hb hx=> ?_,I.base.free,fun b o e hx=> ?_,I.base.tups,I.base.frzs,I.base.tbls⟩,⟨_,hn',fun j y v' e1 e2 e3=> ?_⟩,fun y c e=> ?_,I.free,I.freeC,fun p hp=> ?_,tracked ⟨oL,hoL,I.free⟩ hs,by simpa using I.len⟩ ⟨_,hs,.inl rfl⟩
   . exact(hs.2 b (Nat.ne_of_lt (Nat.lt_of_lt_of_le (Heap.lt_size e) I.ok.above))).trans (I.base.keep b o e n hb hx)
   . obtain⟨sl,e1⟩:=I.base.slot b o e n hb hx
     exact⟨sl,(hs.2 b (Nat.ne_of_lt (Nat.lt_of_lt_of_le (Heap.lt_size e) I.ok.above))).trans e1⟩
   . obtain⟨o',e1⟩:=I.base.there b o e hx
     exact⟨o',(hs.2 b (Nat.ne_of_lt (Nat.lt_of_lt_of_le (Heap.lt_size e) I.ok.above))).trans e1⟩
   . by_cases hj:j=i
     . subst hj
       rw[hi]at e1;cases e1
       rw[List.getElem?_set_self hiσ]at e2
       cases e2
       exact⟨u,r,.inl ⟨hk,by simp⟩⟩
     . rw[List.getElem?_set_ne (Ne.symm hj)]at e2
       obtain⟨u',r',q⟩:=hl j y v' e1 e2 e3
       refine⟨u',r',?_⟩
       rcases q with⟨k,e⟩ | ⟨k,c,e,z⟩
       . refine .inl ⟨k,?_⟩
         have:y≠x:=fun e=>hj (a4q hN e1 (e▸hi))
         simp[this,e]
       . exact .inr ⟨k,c,e,z.sameBut hs (cne y c e)⟩
   . obtain⟨w',z⟩:=I.cell y c e
     exact⟨w',z.sameBut hs (cne y c e)⟩
   . obtain⟨e,n,ne,nf,d⟩:=I.pin p hp
     exact⟨(hs.2 p.1 ne).trans e,n,ne,nf,d⟩
 . have hfn:X.fn x=true:=by
     rcases hf with z |z
     . exact z
     . rw[z]at hk;cases hk
   obtain⟨c,hc⟩:=I.ok.has x (.inl hk)
   obtain⟨w',z⟩:=I.cell x c hc
   refine wpAny_storeName_cell I.ok.kind hk hc z (fun h' hc' hs=> ?_)
   obtain⟨oc,hoc,hocd⟩:=id z
   refine h {s with heap:=h'} ⟨I.ok,I.os,I.bare,⟨fun b o e n hb hx=> ?_,fun b o e n hb hx=> ?_,I.base.free,fun b o e hx=> ?_,I.base.tups,I.base.frzs,I.base.tbls⟩,⟨m,hn.sameBut hs (Ne.symm (cne x c hc)),fun j y v' e1 e2 e3=> ?_⟩,fun y c' e=> ?_,I.free,I.freeC,fun p hp=> ?_,tracked ⟨oc,hoc,I.freeC x c hc⟩ hs,by simpa using I.len⟩ ⟨c,hs,.inr hc⟩
   . exact(hs.2 b (Nat.ne_of_lt (Nat.lt_of_lt_of_le (Heap.lt_size e) (I.ok.cab x c hfn hc)))).trans (I.base.keep b o e n hb hx)
   . obtain⟨sl,e1⟩:=I.base.slot b o e n hb hx
     exact⟨sl,(hs.2 b (Nat.ne_of_lt (Nat.lt_of_lt_of_le (Heap.lt_size e) (I.ok.cab x c hfn hc)))).trans e1⟩
   . obtain⟨o',e1⟩:=I.base.there b o e hx
     exact⟨o',(hs.2 b (Nat.ne_of_lt (Nat.lt_of_lt_of_le (Heap.lt_size e) (I.ok.cab x c hfn hc)))).trans e1⟩
   . by_cases hj:j=i
     . subst hj
       rw[hi]at e1;cases e1
       rw[List.getElem?_set_self hiσ]at e2
       cases e2
       exact⟨u,r,.inr ⟨.inl hk,c,hc,hc'⟩⟩
     . rw[List.getElem?_set_ne (Ne.symm hj)]at e2
       obtain⟨u',r',q⟩:=hl j y v' e1 e2 e3
       refine⟨u',r',?_⟩
       rcases q with q | ⟨k,c',e,z'⟩
       . exact .inl q
       . refine .inr ⟨k,c',e,z'.sameBut hs ?_⟩
         rintro rfl
         exact hj (a4q hN e1 (I.ok.inj _ _ _ e hc▸hi))
   . by_cases hcc:c'=c
     . subst hcc;exact⟨_,hc'⟩
     . obtain⟨w2,z2⟩:=I.cell y c' e
       exact⟨w2,z2.sameBut hs hcc⟩
   . obtain⟨e,n,ne,nf,d⟩:=I.pin p hp
     refine⟨(hs.2 p.1 ?_).trans e,n,ne,nf,d⟩
     intro q
     rw[q,hoc]at e
     have q':oc=p.2:=Option.some.inj e
     exact d w' (by rw[<-q'];exact hocd)
theorem a4l{M:Model}{A:Around}{E:Value->Shared->Prop}{i:Nat}{x:Str}{v:V}{u:Value}{Q:Unit->Shared->Prop}(I:Inv X pins σ H s)(hN:X.N.Nodup)(hi:X.N[i]? =some x)(hx:Loc X.env.scope x)(r:RelV v u)
   (h: ∀s',Inv X pins (σ.set i (some v)) H s'->Q () s') (hf:X.fn x=true\/X.env.scope.names.lookup x=some .local:=by first |exact .inl rfl |exact .inr rfl |assumption):wpAny M A (storeName X.env x u) Q E s:=
 a7i I hN hi hx r (fun s' I' _=>h s' I') hf
theorem Inv.call'{s':Shared}{ch:List Addr}(I:Inv X pins σ H s)(ho:s'.os=s.os)(u:Un (frs X.stack) ch H H' s.heap s'.heap)(hok:HOk X.prog X.w H' s'.heap)(hg:AllBare s'.gens)
   (hch: ∀b∈ch,(b∈X.ex\/X.s₀.heap.objs.size<=b)/\b≠X.env.locals/\(∀x c,X.env.cells.lookup x=some c->c≠b)/\ ∀p∈X.pn++pins,p.1≠b):Inv X pins σ H' s':=by
 obtain⟨h',g',d',t',o'⟩:=s'
 have e:o'=s.os:=ho
 subst e
 exact I.call (g':=g') (t':=t') (d':=d') u hok hg hch
end
noncomputable abbrev XK:=Value->Option Addr->Hp->Prop
noncomputable abbrev St:=List (Option V)
noncomputable abbrev VK:=V->Hp->Prop
noncomputable abbrev TE:=St->Hp->VK->Prop
noncomputable abbrev TT:=St->Hp->(Bool->Hp->Prop)->Prop
noncomputable abbrev TA:=St->Hp->(List V->Hp->Prop)->Prop
structure Ends where
 nx:St->Hp->Prop
 rt:VK
 bk:St->Hp->Prop:=fun _ _=>False
 ct:St->Hp->Prop:=fun _ _=>False
noncomputable abbrev TS:=Ends->St->Hp->Prop
def EP(X:Cx)(pins:List (Addr×Obj))(σ:St)(Q:VK)(u:Value)(s':Shared):Prop:= ∃v H',Inv X pins σ H' s'/\RelV v u/\Q v H'
def TP(X:Cx)(pins:List (Addr×Obj))(σ:St)(Q:Bool->Hp->Prop)(b:Bool)(s':Shared):Prop:= ∃H',Inv X pins σ H' s'/\Q b H'
def AP(X:Cx)(pins:List (Addr×Obj))(σ:St)(Q:List V->Hp->Prop)(us:List Value)(s':Shared):Prop:= ∃vs H',Inv X pins σ H' s'/\Vals vs us/\Q vs H'
def SP(X:Cx)(pins:List (Addr×Obj))(D:Ends)(f:Flow)(s':Shared):Prop:=
 match f with
 | .next=> ∃σ' H',Inv X pins σ' H' s'/\D.nx σ' H'
 | .brk=> ∃σ' H',Inv X pins σ' H' s'/\D.bk σ' H'
 | .cont=> ∃σ' H',Inv X pins σ' H' s'/\D.ct σ' H'
 | .ret u=> ∃v σ' H',Inv X pins σ' H' s'/\RelV v u/\D.rt v H'
def PE(X:Cx)(e:Expr)(t:TE):Prop:=
 ∀(pins:List (Addr×Obj)) (s:Shared) (σ:St) (H:Hp) (Q:VK),Inv X pins σ H s->t σ H Q->wpAny (model X.prog X.w) X.A (eval e X.env) (EP X pins σ Q) X.xe s
def PT(X:Cx)(e:Expr)(t:TT):Prop:=
 ∀(pins:List (Addr×Obj)) (s:Shared) (σ:St) (H:Hp) (Q:Bool->Hp->Prop),Inv X pins σ H s->t σ H Q->wpAny (model X.prog X.w) X.A (isTrue e X.env (eval e X.env)) (TP X pins σ Q) X.xe s
def PW(X:Cx)(e:Expr)(t:TT):Prop:=
 ∀(whole:Sem Value) (pins:List (Addr×Obj)) (s:Shared) (σ:St) (H:Hp) (Q:Bool->Hp->Prop),Inv X pins σ H s->t σ H Q->wpAny (model X.prog X.w) X.A (isTrue e X.env whole) (TP X pins σ Q) X.xe s
theorem PW.pt{X:Cx}{e:Expr}{t:TT}(h:PW X e t):PT X e t:=h _
def PA(X:Cx)(es:List Expr)(t:TA):Prop:=
 ∀(pos:Pos) (pins:List (Addr×Obj)) (s:Shared) (σ:St) (H:Hp) (Q:List V->Hp->Prop),Inv X pins σ H s->t σ H Q->wpAny (model X.prog X.w) X.A (spliced (backTo pos (starEach es X.env))) (AP X pins σ Q) X.xe s
def PS(X:Cx)(st:Stmt)(t:TS):Prop:=
 ∀(pins:List (Addr×Obj)) (s:Shared) (σ:St) (H:Hp) (D:Ends),Inv X pins σ H s->t D σ H->wpAny (model X.prog X.w) X.A (exec st X.env) (SP X pins D) X.xe s
def PSs(X:Cx)(st:List Stmt)(t:TS):Prop:=
 ∀(pins:List (Addr×Obj)) (s:Shared) (σ:St) (H:Hp) (D:Ends),Inv X pins σ H s->t D σ H->wpAny (model X.prog X.w) X.A (execs st X.env) (SP X pins D) X.xe s
theorem thn{α:Type}{t:Sem α}{Q Q':α->Shared->Prop}{M:Model}{A:Around}{E:Value->Shared->Prop}{s:Shared}(h:wpAny M A t Q E s)(hQ: ∀a s,Q a s->Q' a s):wpAny M A t Q' E s:=wpAny_mono h hQ fun _ _ x=>x
section
variable {X:Cx}
def tVar(i:Nat):TE:=fun σ H Q=> ∃v,σ[i]? =some (some v)/\Q v H
def tC(v:V):TE:=fun _ H Q=>Q v H
theorem pe_var{i:Nat}{x:Str}{pos:Pos}(hN:X.N[i]? =some x)(hv:Vis X.env.scope x)(hd:(x==("__debug__":Str))=false:=by decide)(hcd:(x==("__classdict__":Str))=false:=by decide):PE X (.Name x pos) (tVar i):=by
 intro pins s σ H Q I h
 obtain⟨v,e,h⟩:=h
 obtain⟨m,hn,hl⟩:=I.loc
 obtain⟨u,r,l⟩:=hl i x v hN e hv
 have fin:EP X pins σ Q u s:=⟨v,H,I,r,h⟩
 rcases l with⟨hk,hm⟩ | ⟨hk,c,hc,hcell⟩
 . exact wpAny_Name (wpAny_loadName_local I.ok.kind hk hn hm fin) hd
 . rcases hk with hk |hk
   . exact wpAny_Name (wpAny_loadName_cell I.ok.kind hk hc hcell fin) hd
   . exact wpAny_Name (wpAny_loadName_free I.ok.kind hk hc hcell fin hcd) hd
theorem pe_int{i j pos}:PE X (.Constant (.int i) j pos) (tC (.int i)):=fun _ _ _ H _ I h=>wpAny_Constant_int ⟨.int i,H,I.tok _,⟨_,rfl⟩,h⟩
theorem pe_bl{b j pos}:PE X (.Constant (.bool b) j pos) (tC (.bl b)):=fun _ _ _ H _ I h=>Constant_bool ⟨.bl b,H,I,rfl,h⟩
theorem pe_non{j pos}:PE X (.Constant .none j pos) (tC .non):=fun _ _ _ H _ I h=>Constant_none ⟨.non,H,I,rfl,h⟩
theorem pe_str{x j pos}:PE X (.Constant (.str x) j pos) (tC (.str x)):=fun _ _ _ H _ I h=>Calls.Constant_str ⟨.str x,H,I.tok _,⟨_,rfl⟩,h⟩
def Gl(X:Cx)(x:Str):Prop:=X.env.kindOf x=some .globalImplicit
theorem a2k{E:Value->Shared->Prop}{pins:List (Addr×Obj)}{s:Shared}{σ:St}{H:Hp}{x:Str}{u:Value}{pos:Pos}{Q:Value->Shared->Prop}(I:Inv X pins σ H s)(hg:Gl X x)(hm:X.mg x=some u)(h:Q u s)
   (hd:(x==("__debug__":Str))=false:=by decide):wpAny (model X.prog X.w) X.A (eval (.Name x pos) X.env) Q E s:=
 Calls.Name_function_global I.ok.kind hg (Calls.loadGlobal_global (by rw[I.ok.glob];exact I.mod.glob.keeps I.bk) hm h) hd
theorem a77{E:Value->Shared->Prop}{pins:List (Addr×Obj)}{s:Shared}{σ:St}{H:Hp}{x:Str}{u:Value}{pos:Pos}{Q:Value->Shared->Prop}(I:Inv X pins σ H s)(hg:Gl X x)(hm:X.mg x=none)(hv:bootBuiltins x=some u)(h:Q u s)
   (hn:x≠ "__name__":=by decide) (hd:(x==("__debug__":Str))=false:=by decide):wpAny (model X.prog X.w) X.A (eval (.Name x pos) X.env) Q E s:=by
 obtain⟨mb,h1,h2⟩:=I.mod.blt
 exact Calls.Name_function_global I.ok.kind hg (Calls.loadGlobal_builtin (by rw[I.ok.glob];exact I.mod.glob.keeps I.bk) hm (by rw[I.ok.blt];exact h1.keeps I.bk) ((h2 x hn).trans hv) h) hd
theorem a2b{x:Str}{v:V}{u:Value}{pos:Pos}(hg:Gl X x)(hm:X.mg x=some u)(r:RelV v u)(hd:(x==("__debug__":Str))=false:=by decide):PE X (.Name x pos) (tC v):=
 fun _ _ _ H _ I h=>a2k I hg hm ⟨v,H,I,r,h⟩ hd
theorem b2c{x:Str}{v:V}{u:Value}{pos:Pos}(hg:Gl X x)(hm:X.mg x=none)(hv:bootBuiltins x=some u)(r:RelV v u)(hn:x≠ "__name__":=by decide)(hd:(x==("__debug__":Str))=false:=by decide):PE X (.Name x pos) (tC v):=
 fun _ _ _ H _ I h=>a77 I hg hm hv ⟨v,H,I,r,h⟩ hn hd
variable {a b:Expr}{ta tb:TE}{pos:Pos}
def PC(X:Cx)(op:CmpOp)(a b:Expr)(t:TE):Prop:=
 ∀(pins:List (Addr×Obj)) (s:Shared) (σ:St) (H:Hp) (Q:VK),Inv X pins σ H s->t σ H Q->
   wpAny (model X.prog X.w) X.A (eval a X.env) (fun v s₁=>wpAny (model X.prog X.w) X.A (eval b X.env) (fun u s₂=>wpAny (model X.prog X.w) X.A (compareOp op v u) (EP X pins σ Q) X.xe s₂) X.xe s₁) X.xe s
noncomputable def tB(t:TE):TT:=fun σ H Q=>t σ H fun x H1=> ∃c,x= .bl c/\Q c H1
theorem pt_cmp{op:CmpOp}{t:TE}(h:PC X op a b t)(h1:behindInMarks op b=false:=by first |exact nobehind _ (by decide) (by decide) |rfl):PT X (.Compare a [op] [b] pos) (tB t):=by
 intro pins s σ H Q I hw
 refine wpAny_isTrue_Compare1 (thn (h pins s σ H _ I hw) fun v s1 h1=>thn h1 fun u s2 h2=>thn h2 fun c s3 ⟨x,H1,I1,r1,q1⟩=> ?_) h1
 obtain⟨d,rfl,q⟩:=q1
 cases r1
 exact wpAny_truthy_bool ⟨H1,I1,q⟩
theorem pt_val{e:Expr}{t:TE}(h:PE X e t)(he: ∀whole,isTrue e X.env whole=(do let v <-whole;standAt e.pos;holding [v] (truthy v)):=by intro _;rfl):PT X e (tB t):=by
 intro pins s σ H Q I hw
 refine isTrue_plain (thn (h pins s σ H _ I hw) fun v s1 ⟨x,H1,I1,r1,q1⟩=> ?_) (he _)
 obtain⟨d,rfl,q⟩:=q1
 cases r1
 exact wpAny_truthy_bool ⟨H1,I1,q⟩
variable {tA tB':TT}{rest:List Expr}
noncomputable def tAnd(t u:TT):TT:=fun σ H Q=>t σ H fun c H1=>if c=true then u σ H1 Q else Q false H1
noncomputable def tOr(t u:TT):TT:=fun σ H Q=>t σ H fun c H1=>if c=true then Q true H1 else u σ H1 Q
noncomputable def tNot(t:TT):TT:=fun σ H Q=>t σ H fun c H1=>Q (!c) H1
theorem pw_and1(ha:PT X a tA):PW X (.BoolOp .And [a] pos) tA:=by
 intro wh pins s σ H Q I h
 refine isTrue_and (thn (ha pins s σ H Q I h) fun c s1 e=> ?_)
 cases c with
 |true=>exact isTrue_and_nil e
 |false=>exact e
theorem pw_or1(ha:PT X a tA):PW X (.BoolOp .Or [a] pos) tA:=by
 intro wh pins s σ H Q I h
 refine isTrue_or (thn (ha pins s σ H Q I h) fun c s1 e=> ?_)
 cases c with
 |false=>exact isTrue_or_nil e
 |true=>exact e
theorem pw_and(ha:PT X a tA)(hb:PW X (.BoolOp .And (b::rest) pos) tB'):PW X (.BoolOp .And (a::b::rest) pos) (tAnd tA tB'):=by
 intro wh pins s σ H Q I h
 refine isTrue_and (thn (ha pins s σ H _ I h) fun c s1 zz9=> ?_)
 obtain⟨H1,I1,q1⟩:=zz9
 cases c with
 |true=>exact hb wh pins s1 σ H1 Q I1 q1
 |false=>exact⟨H1,I1,q1⟩
theorem pw_or(ha:PT X a tA)(hb:PW X (.BoolOp .Or (b::rest) pos) tB'):PW X (.BoolOp .Or (a::b::rest) pos) (tOr tA tB'):=by
 intro wh pins s σ H Q I h
 refine isTrue_or (thn (ha pins s σ H _ I h) fun c s1 zz9=> ?_)
 obtain⟨H1,I1,q1⟩:=zz9
 cases c with
 |true=>exact⟨H1,I1,q1⟩
 |false=>exact hb wh pins s1 σ H1 Q I1 q1
theorem pt_not(ha:PT X a tA):PT X (.UnaryOp .Not a pos) (tNot tA):=by
 intro pins s σ H Q I h
 exact isTrue_not (ha pins s σ H (fun c H1=>Q (!c) H1) I h)
def tAndV(ta tb:TE):TE:=fun σ H Q=>ta σ H fun x H1=> ∃c,x= .bl c/\if c=true then tb σ H1 Q else Q (.bl false) H1
def tNotV(ta:TE):TE:=fun σ H Q=>ta σ H fun x H1=> ∃c,x= .bl c/\Q (.bl (!c)) H1
theorem pe_one{op}{t:TE}(h:PE X a t):PE X (.BoolOp op [a] pos) t:=fun pins s σ H Q I hw=>BoolOp_one (h pins s σ H Q I hw)
theorem pe_and(ha:PE X a ta)(hb:PE X (.BoolOp .And (b::rest) pos) tb):PE X (.BoolOp .And (a::b::rest) pos) (tAndV ta tb):=by
 intro pins s σ H Q I h
 refine BoolOp_and (thn (ha pins s σ H _ I h) fun v s1 zz9=> ?_)
 obtain⟨x,H1,I1,r1,q1⟩:=zz9
 obtain⟨c,rfl,q1⟩:=q1
 cases r1
 refine wpAny_truthy_bool ?_
 cases c with
 |true=>exact hb pins s1 σ H1 Q I1 q1
 |false=>exact⟨.bl false,H1,I1,rfl,q1⟩
theorem pe_not(ha:PE X a ta):PE X (.UnaryOp .Not a pos) (tNotV ta):=by
 intro pins s σ H Q I h
 refine UnaryOp_ (thn (ha pins s σ H _ I h) fun v s1 zz9=> ?_)
 obtain⟨x,H1,I1,r1,q1⟩:=zz9
 obtain⟨c,rfl,q1⟩:=q1
 cases r1
 exact not_of (wpAny_truthy_bool ⟨.bl (!c),H1,I1,rfl,q1⟩)
end
def SqL(K:PySem.W.Frag)(H:Hp)(a:Addr)(xs:List V):Prop:=
 Rd H a (.lst xs)\/
   ∃(o:Obj) (its:Array Value) (n:Nat),K.lookup a=some o/\o.cls= .type "list"/\o.dict=none/\o.data= .seq its n/\its.size<=sizeLine/\Vals xs its.toList
def SqT(K:PySem.W.Frag)(H:Hp)(a:Addr)(xs:List V):Prop:=
 Rd H a (.tup xs)\/
   ∃(o:Obj) (its:Array Value) (n:Nat),K.lookup a=some o/\o.cls= .type "tuple"/\o.data= .seq its n/\its.size<=sizeLine/\Vals xs its.toList
noncomputable def absV:Value->Option V
 | .none=>some .non
 | .bool b=>some (.bl b)
 | .int i _=>some (.int i)
 | .str x _=>some (.str x)
 | .bytes b _=>some (.byt b)
 | .float b _=>some (.flt b)
 | .ref a=>some (.ref a)
 | .type n=>some (.ty n)
 |_=>none
theorem RelV.abs{x:V}{u:Value}(r:RelV x u):absV u=some x:=by
 cases x with
 |non=>cases r;rfl
 |bl _=>cases r;rfl
 |int _=>obtain⟨t,rfl⟩:=r;rfl
 |str _=>obtain⟨t,rfl⟩:=r;rfl
 |byt _=>obtain⟨t,rfl⟩:=r;rfl
 |flt _=>obtain⟨t,rfl⟩:=r;rfl
 |ref _=>cases r;rfl
 |ty _=>cases r;rfl
theorem RelV.inj{x y:V}{u:Value}(r:RelV x u)(q:RelV y u):x=y:=Option.some.inj (r.abs.symm.trans q.abs)
theorem Vals.inj: ∀{xs ys:List V}{us:List Value},Vals xs us->Vals ys us->xs=ys
 |_,_,_,.nil,.nil=>rfl
 |_,_,_,.cons r t,.cons r' t'=>by rw[r.inj r',Vals.inj t t']
section
variable {X:Cx}{pins:List (Addr×Obj)}{σ:St}{H:Hp}{s:Shared}{a:Addr}{xs ys:List V}
theorem SqL.of{K:PySem.W.Frag}(h:H a=some (.lst xs)):SqL K H a xs:= .inl (.inl h)
theorem SqT.of{K:PySem.W.Frag}(h:H a=some (.tup xs)):SqT K H a xs:= .inl (.inl h)
theorem Inv.list(I:Inv X pins σ H s)(h:SqL X.K H a xs): ∃its:List Value,Vals xs its/\PlainL s.heap a its.toArray/\xs.length<=sizeLine:=by
 rcases h with h | ⟨o,its,n,hk,hc,hd,hs,hz,r⟩
 . obtain⟨z,its,n,r,e⟩:=h.ok I.hok
   exact⟨its,r,⟨_,n,e,rfl,rfl,rfl⟩,z⟩
 . refine⟨its.toList,r,⟨o,n,I.kIn a o hk,hc,hd,by simpa using hs⟩,?_⟩
   have e:=r.length
   simp only[Array.length_toList]at e
   omega
theorem Inv.tuple(I:Inv X pins σ H s)(h:SqT X.K H a xs): ∃its:List Value,Vals xs its/\IsTup s.heap a its.toArray/\xs.length<=sizeLine:=by
 rcases h with h | ⟨o,its,n,hk,hc,hs,hz,r⟩
 . obtain⟨z,its,r,p⟩:=h.ok I.hok
   exact⟨its,r,p,z⟩
 . refine⟨its.toList,r,⟨o,I.kIn a o hk,hc,n,by simpa using hs⟩,?_⟩
   have e:=r.length
   simp only[Array.length_toList]at e
   omega
theorem Inv.list_inj(I:Inv X pins σ H s)(h:SqL X.K H a xs)(h':SqL X.K H a ys):xs=ys:=by
 obtain⟨its,r,⟨o,n,e,_,_,d⟩,_⟩:=I.list h
 obtain⟨its',r',⟨o',n',e',_,_,d'⟩,_⟩:=I.list h'
 rw[e]at e';cases e'
 rw[d]at d'
 injection d' with d1 _
 have:its=its':=by simpa using congrArg Array.toList d1
 subst this
 exact r.inj r'
end
noncomputable abbrev Cx.wish(X:Cx)(E:Value->Shared->Prop):Cx:={X with xe:=E}
theorem Cx.Ok.wish{X:Cx}(ok:X.Ok)(E:Value->Shared->Prop):(X.wish E).Ok:=
 ⟨ok.mod,ok.kind,ok.glob,ok.blt,ok.above,ok.inj,ok.has,ok.cab,ok.hd,ok.frames,ok.stk,ok.exf,ok.bs,ok.bsz,ok.noex,ok.exfs,ok.funs,ok.frf⟩
theorem Cx.Ok.unwish{X:Cx}{E:Value->Shared->Prop}(ok:(X.wish E).Ok):X.Ok:=
 ⟨ok.mod,ok.kind,ok.glob,ok.blt,ok.above,ok.inj,ok.has,ok.cab,ok.hd,ok.frames,ok.stk,ok.exf,ok.bs,ok.bsz,ok.noex,ok.exfs,ok.funs,ok.frf⟩
section
variable {X:Cx}{pins:List (Addr×Obj)}{σ:St}{H:Hp}{s:Shared}{E:Value->Shared->Prop}
theorem Inv.wish(I:Inv X pins σ H s)(E:Value->Shared->Prop):Inv (X.wish E) pins σ H s:=⟨I.ok.wish E,I.os,I.bare,I.base,I.loc,I.cell,I.free,I.freeC,I.pin,I.hok,I.len⟩
theorem Inv.unwish(I:Inv (X.wish E) pins σ H s):Inv X pins σ H s:=⟨I.ok.unwish,I.os,I.bare,I.base,I.loc,I.cell,I.free,I.freeC,I.pin,I.hok,I.len⟩
theorem SP.unwish{D:Ends}{f:Flow}{s':Shared}(h:SP (X.wish E) pins D f s'):SP X pins D f s':=by
 cases f with
 |next=>obtain⟨σ',H',I,q⟩:=h;exact⟨σ',H',I.unwish,q⟩
 |brk=>obtain⟨σ',H',I,q⟩:=h;exact⟨σ',H',I.unwish,q⟩
 |cont=>obtain⟨σ',H',I,q⟩:=h;exact⟨σ',H',I.unwish,q⟩
 |ret u=>obtain⟨v,σ',H',I,r,q⟩:=h;exact⟨v,σ',H',I.unwish,r,q⟩
end
section
variable {X:Cx}{st:Stmt}{rest:List Stmt}{t u:TS}{e:Expr}{te:TE}{pos:Pos}
noncomputable def tNext:TS:=fun D σ H=>D.nx σ H
noncomputable def tSeq(t u:TS):TS:=fun D σ H=>t {D with nx:=u D} σ H
theorem pss_nil:PSs X [] tNext:=fun _ _ σ H _ I h=>wpAny_execs_nil ⟨σ,H,I,h⟩
theorem b3w(h1:PS X st t)(h2:PSs X rest u):PSs X (st::rest) (tSeq t u):=by
 intro pins s σ H D I h
 refine wpAny_execs_cons (thn (h1 pins s σ H {D with nx:=u D} I h) fun f s1 q=> ?_)
 cases f with
 |next=>
   obtain⟨σ',H',I',q⟩:=q
   exact h2 pins s1 σ' H' D I' q
 |ret v=>exact q
 |brk=>exact q
 |cont=>exact q
theorem pss_one(h1:PS X st t):PSs X [st] t:=by
 intro pins s σ H D I h
 refine wpAny_execs_cons (thn (h1 pins s σ H D I h) fun f s1 q=> ?_)
 cases f with
 |next=>exact wpAny_execs_nil q
 |ret v=>exact q
 |brk=>exact q
 |cont=>exact q
theorem Inv.quiet{pins:List (Addr×Obj)}{σ:St}{H:Hp}{s:Shared}(I:Inv X pins σ H s):interactive X.env=false:=by simp[interactive,I.ok.kind]
noncomputable def tDrop(te:TE):TS:=fun D σ H=>te σ H fun _ H1=>D.nx σ H1
theorem ps_expr(he:PE X e te)(hs:swapsWith e none pos.line X.env=pure false:=by rfl):PS X (.Expr e pos) (tDrop te):=by
 intro pins s σ H D I h
 exact wpAny_Expr_any (thn (he pins s σ H _ I h) fun v s1 ⟨x,H1,I1,r1,q1⟩=>⟨σ,H1,I1,q1⟩) I.quiet hs
noncomputable def tRet(te:TE):TS:=fun D σ H=>te σ H D.rt
theorem ps_ret(he:PE X e te):PS X (.Return (some e) pos) (tRet te):=by
 intro pins s σ H D I h
 exact wpAny_Return_some (thn (he pins s σ H _ I h) fun v s1 ⟨x,H1,I1,r1,q1⟩=>⟨x,σ,H1,I1,r1,q1⟩)
noncomputable def tIfS(c:TT)(t u:TS):TS:=fun D σ H=>c σ H fun b H1=>if b=true then t D σ H1 else u D σ H1
theorem ps_if{c:Expr}{a b:List Stmt}{tc:TT}(hc:PT X c tc)(ha:PSs X a t)(hb:PSs X b u):PS X (.If c a b pos) (tIfS tc t u):=by
 intro pins s σ H D I h
 refine wpAny_If (thn (hc pins s σ H _ I h) fun d s1 zz9=> ?_)
 obtain⟨H1,I1,q1⟩:=zz9
 cases d with
 |true=>exact ha pins s1 σ H1 D I1 q1
 |false=>exact hb pins s1 σ H1 D I1 q1
end
noncomputable abbrev TG:=V->St->Hp->(St->Hp->Prop)->Prop
noncomputable abbrev TGs:=List V->St->Hp->(St->Hp->Prop)->Prop
def PG(X:Cx)(target:Expr)(t:TG):Prop:=
 ∀(pins:List (Addr×Obj)) (s:Shared) (σ:St) (H:Hp) (v:V) (u:Value) (Q:St->Hp->Prop),Inv X pins σ H s->RelV v u->t v σ H Q->
   wpAny (model X.prog X.w) X.A (assign target X.env u) (fun _ s'=> ∃σ' H',Inv X pins σ' H' s'/\Q σ' H') X.xe s
def PGs(X:Cx)(ts:List Expr)(t:TGs):Prop:=
 ∀(pins:List (Addr×Obj)) (s:Shared) (σ:St) (H:Hp) (vs:List V) (us:List Value) (Q:St->Hp->Prop),Inv X pins σ H s->Vals vs us->t vs σ H Q->
   wpAny (model X.prog X.w) X.A (assignInOrder ((assignEach ts X.env).map (·.2)) us) (fun _ s'=> ∃σ' H',Inv X pins σ' H' s'/\Q σ' H') X.xe s
noncomputable abbrev TSet:=V->V->V->Hp->(Hp->Prop)->Prop
def PSet(X:Cx)(t:TSet):Prop:=
 ∀(pins:List (Addr×Obj)) (s:Shared) (σ:St) (H:Hp) (o i v:V) (ov iv u:Value) (Q:Hp->Prop),Inv X pins σ H s->RelV o ov->RelV i iv->RelV v u->t o i v H Q->
   wpAny (model X.prog X.w) X.A (setItem ov iv u) (fun _ s'=> ∃H',Inv X pins σ H' s'/\Q H') X.xe s
section
variable {X:Cx}{pos:Pos}
def gName(i:Nat):TG:=fun v σ H Q=>Q (σ.set i (some v)) H
theorem pg_name{i:Nat}{x:Str}(hN:X.N.Nodup)(hi:X.N[i]? =some x)(hx:Loc X.env.scope x)(hf:X.fn x=true\/X.env.scope.names.lookup x=some .local:=by first |exact .inl rfl |exact .inr rfl |assumption):PG X (.Name x pos) (gName i):=by
 intro pins s σ H v u Q I r h
 exact wpAny_assign_Name (a4l I hN hi hx r (fun s' I'=>⟨_,H,I',h⟩) hf)
def gNil:TGs:=fun vs σ H Q=>vs=[]/\Q σ H
def gCons(t:TG)(u:TGs):TGs:=fun vs σ H Q=> ∃v r,vs=v::r/\t v σ H fun σ' H'=>u r σ' H' Q
theorem pgs_nil:PGs X [] gNil:=by
 intro pins s σ H vs us Q I r h
 obtain⟨e,h⟩:=h
 subst e
 cases r
 exact assignInOrder_nil ⟨σ,H,I,h⟩
theorem b3y{e:Expr}{es:List Expr}{t:TG}{u:TGs}(h1:PG X e t)(h2:PGs X es u)
   (hs:(assignEach (e::es) X.env).map (·.2)=assign e X.env::(assignEach es X.env).map (·.2):=by rfl):PGs X (e::es) (gCons t u):=by
 intro pins s σ H vs us Q I r h
 obtain⟨v,vr,e1,h⟩:=h
 subst e1
 cases r with
 |cons r rr=>
   rw[hs]
   refine assignInOrder_cons (thn (h1 pins s σ H _ _ _ I r h) fun _ s1 zz9=> ?_)
   obtain⟨σ1,H1,I1,q1⟩:=zz9
   exact h2 pins s1 σ1 H1 _ _ Q I1 rr q1
def gTup(K:PySem.W.Frag)(n:Nat)(t:TGs):TG:=fun v σ H Q=> ∃a xs,v= .ref a/\SqT K H a xs/\xs.length=n/\t xs σ H Q
theorem pg_tup{es:List Expr}{k:Nat}{t:TGs}{n:Nat}(hc:X.calm=true)(h:PGs X es t)
   (hn:(assignEach es X.env).length=n:=by rfl) (hst:(assignEach es X.env).findIdx? (·.1)=none:=by rfl):PG X (.Tuple es k pos) (gTup X.K n t):=by
 intro pins s σ H v u Q I r hw
 obtain⟨a,xs,e1,hq,hl,hw⟩:=hw
 subst e1
 cases r
 obtain⟨its,rv,ht,hz⟩:=I.tuple hq
 refine assign_Tuple_tuple (I.ok.hd hc) ht (by simp[hn,<-hl,rv.length]) hst fun h' hx=> ?_
 have I1:Inv X pins σ H {s with heap:=h'}:=I.kept (t':=s.toks) fun b o e=>hx b o (Nat.ne_of_lt (Heap.lt_size e)) e
 exact h pins _ σ H xs _ Q I1 (by simpa using rv) hw
def gSub(to ti:TE)(t:TSet):TG:=fun v σ H Q=>to σ H fun o H1=>ti σ H1 fun i H2=>t o i v H2 fun H3=>Q σ H3
theorem pg_sub{o i:Expr}{to ti:TE}{t:TSet}(ho:PE X o to)(hi:PE X i ti)(hs:PSet X t)
   (ha: ∀v,assign (.Subscript o i pos) X.env v=(do
     let ov <-holding [v] (eval o X.env)
     let iv <-holding [v,ov] (eval i X.env)
     standAt pos
     holding [v,ov,iv] (setItem ov iv v)
     release [v,ov,iv] []):=by intro _;rfl):PG X (.Subscript o i pos) (gSub to ti t):=by
 intro pins s σ H v u Q I r h
 rw[ha]
 refine wpAny_bind (wpAny_holding (thn (ho pins s σ H _ I h) fun ov s1 zz9=> ?_))
 obtain⟨x,H1,I1,r1,q1⟩:=zz9
 refine wpAny_bind (wpAny_holding (thn (hi pins s1 σ H1 _ I1 q1) fun iv s2 zz9=> ?_))
 obtain⟨y,H2,I2,r2,q2⟩:=zz9
 refine wpAny_bind (wpAny_standAt (wpAny_bind (wpAny_holding (thn (hs pins s2 σ H2 x y v ov iv u _ I2 r1 r2 r q2) fun _ s3 zz9=> ?_))))
 obtain⟨H3,I3,q3⟩:=zz9
 exact wpAny_release ⟨σ,H3,I3,q3⟩
noncomputable def tAsg(te:TE)(g:TG):TS:=fun D σ H=>te σ H fun x H1=>g x σ H1 D.nx
theorem ps_set{i:Nat}{x:Str}{e:Expr}{te:TE}{pos':Pos}(hN:X.N.Nodup)(hi:X.N[i]? =some x)(hx:Loc X.env.scope x)(he:PE X e te)(hs:swapsWith e (some (.Name x pos')) pos.line X.env=pure false:=by rfl)(hf:X.fn x=true\/X.env.scope.names.lookup x=some .local:=by first |exact .inl rfl |exact .inr rfl |assumption):
   PS X (.Assign [.Name x pos'] e pos) (tAsg te (gName i)):=by
 intro pins s σ H D I h
 refine wpAny_Assign_Name (thn (he pins s σ H _ I h) fun v s1 ⟨y,H1,I1,r1,q1⟩=> ?_) hs
 exact a4l I1 hN hi hx r1 (fun s2 I2=>⟨_,H1,I2,q1⟩) hf
end
section
variable {X:Cx}{pos:Pos}
end
structure It where
 go:Nat->Hp->Prop
 yld:Nat->Hp->V->Hp->Prop
 stop:Nat->Hp->Prop
def FpOk(X:Cx)(pins:List (Addr×Obj))(H:Hp)(b:Addr):Prop:=
 H b=none/\b≠X.env.locals/\b∉X.fs/\(b∈X.ex\/X.s₀.heap.objs.size<=b)/\(∀x c,X.env.cells.lookup x=some c->c≠b)/\ ∀p∈X.pn++pins,p.1≠b
theorem Inv.fpOk{X:Cx}{pins:List (Addr×Obj)}{σ:St}{H H':Hp}{s:Shared}{b:Addr}(I:Inv X pins σ H s)(hb:s.heap.objs.size<=b)(hn:H' b=none):FpOk X pins H' b:=by
 refine⟨hn,Nat.ne_of_gt (Nat.lt_of_lt_of_le I.lt hb),I.nofs hb,.inr (Nat.le_trans I.sz hb),fun x c e z=> ?_,fun p hp z=> ?_⟩
 . obtain⟨v,q⟩:=I.cell x c e
   exact absurd (Nat.lt_of_lt_of_le q.lt (by rw[z];exact hb)) (Nat.lt_irrefl _)
 . exact absurd (Nat.lt_of_lt_of_le (Heap.lt_size (I.pin p hp).1) (by rw[z];exact hb)) (Nat.lt_irrefl _)
structure Turn(P:Program)(w:World)(K:PySem.W.Frag)(tg:Expr)(J:It)(fp:List Addr)(it:Addr)(tn:Nat->Heap->Prop):Prop where
 mem:it∈fp
 obj: ∀i h,tn i h-> ∀b∈fp,∃o,h.get? b=some o/\ ∀v,o.data≠ .cell v
 keep: ∀i h h',tn i h->(∀b∈fp,∀o,h.get? b=some o->h'.get? b=some o)->tn i h'
 item: ∀(X:Cx),X.prog=P->X.w=w->X.K=K->X.calm=true-> ∀(i:Nat) (pins:List (Addr×Obj)) (s:Shared) (σ:St) (H:Hp) (E:Value->Shared->Prop),Inv X pins σ H s->(∀b∈fp,FpOk X pins H b)->tn i s.heap->J.go i H->
   wpAny (model P w) X.A (pyNext (.ref it)) (fun r s1=> ∃u,r=some u/\
     wpAny (model P w) X.A (letOwnedTupleGo tg (.ref it) u) (fun _ s2=> ∃x H',Inv X pins σ H' s2/\RelV x u/\J.yld i H x H'/\tn (i+1) s2.heap/\ ∀b∈fp,H' b=none) E s1) E s
 done: ∀(X:Cx),X.prog=P->X.w=w->X.K=K->X.calm=true-> ∀(i:Nat) (pins:List (Addr×Obj)) (s:Shared) (σ:St) (H:Hp) (E:Value->Shared->Prop),Inv X pins σ H s->(∀b∈fp,FpOk X pins H b)->tn i s.heap->J.stop i H->
   wpAny (model P w) X.A (pyNext (.ref it)) (fun r s1=>r=none/\Inv X pins σ H s1) E s
 self: ∀(A:Around) (i:Nat) (s:Shared) (Q:Value->Shared->Prop) (E:Value->Shared->Prop),tn i s.heap->Q (.ref it) s->wpAny (model P w) A (pyIter (.ref it)) Q E s
noncomputable abbrev TI:=St->Hp->(It->Hp->Prop)->Prop
def PIE(X:Cx)(pins:List (Addr×Obj))(σ:St)(tg:Expr)(R:It->Hp->Prop)(itv:Value)(s2:Shared):Prop:=
 ∃(it:Addr) (fp:List Addr) (tn:Nat->Heap->Prop) (J:It) (H':Hp),itv= .ref it/\Inv X pins σ H' s2/\Turn X.prog X.w X.K tg J fp it tn/\tn 0 s2.heap/\(∀b∈fp,FpOk X pins H' b)/\R J H'
def PI(X:Cx)(tg iter:Expr)(wi:TI):Prop:=
 ∀(pins:List (Addr×Obj)) (s:Shared) (σ:St) (H:Hp) (R:It->Hp->Prop),Inv X pins σ H s->wi σ H R->
   wpAny (model X.prog X.w) X.A (eval iter X.env) (fun v s1=>wpAny (model X.prog X.w) X.A (pyIter v) (PIE X pins σ tg R) X.xe s1) X.xe s
theorem b4o{M:Model}{A:Around}{E:Value->Shared->Prop}{s:Shared}{tg:Expr}{it:Addr}{u:Value}{o:Obj}{n:String}{vs:Array Value}{Q:Unit->Shared->Prop}(ho:s.heap.get? it=some o)(hc:o.cls= .type n)(hd:o.data= .fields vs)
   (hn:["enumerate","zip","dict_itemiterator","dict_reverseitemiterator","odict_iterator","itertools.zip_longest","itertools.pairwise"].contains n=false) (hQ:Q () s):wpAny M A (letOwnedTupleGo tg (.ref it) u) Q E s:=by
 unfold letOwnedTupleGo
 cases tg<;>first
   |exact wpAny_pure hQ
   | (cases u<;>first
       |exact wpAny_pure hQ
       | (refine wpAny_bind (wpAny_load ho ?_)
          rw[hc,hd]
          show wpAny M A (if(["enumerate","zip","dict_itemiterator","dict_reverseitemiterator","odict_iterator","itertools.zip_longest","itertools.pairwise"].contains n&&vs[0]? ==some (rawInt _))=true then _ else _) Q E s
          rw[if_neg (by intro h;rw[hn,Bool.false_and]at h;cases h)]
          exact wpAny_pure hQ))
noncomputable def Itl(K:PySem.W.Frag)(a:Addr):It:=
 ⟨fun i H=> ∃xs x,SqL K H a xs/\xs[i]? =some x,fun i H x H'=>H'=H/\ ∀xs,SqL K H a xs->xs[i]? =some x,fun i H=> ∃xs,SqL K H a xs/\xs.length<=i⟩
noncomputable def Itr(lo:Int)(n:Nat):It:=⟨fun i _=>i<n,fun i H x H'=>H'=H/\x= .int (lo+i),fun i _=>n<=i⟩
theorem b1l{P:Program}{w:World}{K:PySem.W.Frag}{tg:Expr}(a it:Addr):Turn P w K tg (Itl K a) [it] it (fun i h=>h.IsListIter it a i) where
 mem:=by simp
 obj:=fun i h st b hb=>by
   have e:b=it:=by simpa using hb
   subst e
   obtain⟨o,e,c,d⟩:=st
   exact⟨o,e,fun v z=>by rw[d]at z;cases z⟩
 keep:=fun i h h' st k=>st.at fun o e=>k it (by simp) o e
 item:=by
   intro X hP hw hK hc i pins s σ H E I hf st hg
   subst hP hw hK
   obtain⟨xs,x,hq,hx⟩:=hg
   obtain⟨its,rv,p,hz⟩:=I.list hq
   obtain⟨u,hu,ru⟩:=rv.get hx
   obtain⟨f0,f1,f2,f3,f4,f5⟩:=hf it (by simp)
   refine wpAny_pyNext_list_item st p.isList (x:=u) (by simpa using hu) fun h' st' sb=> ?_
   have I1:Inv X pins σ H {s with heap:=h'}:=I.turned (t':=s.toks) (fun b o hb e=>(sb.2 b hb).trans e) f0 f1 f3 f4 f5
   obtain⟨o,e,c,d⟩:=id st'
   exact⟨u,rfl,b4o (s:={s with heap:=h'}) e c d (by decide) ⟨x,H,I1,ru,⟨rfl,fun ys hy=>by rw[I.list_inj hy hq];exact hx⟩,st',fun b hb=>(hf b hb).1⟩⟩
 done:=by
   intro X hP hw hK hc i pins s σ H E I hf st hg
   subst hP hw hK
   obtain⟨xs,hq,hx⟩:=hg
   obtain⟨its,rv,p,hz⟩:=I.list hq
   obtain⟨f0,f1,f2,f3,f4,f5⟩:=hf it (by simp)
   have hl:=rv.length
   exact wpAny_pyNext_list_end (I.ok.hd hc) st p.isList (by simp;omega) fun h' eb=>⟨rfl,I.turned (t':=s.toks) (fun b o hb e=>eb b o hb e) f0 f1 f3 f4 f5⟩
 self:=fun _ _ _ _ _ st h=>wpAny_pyIter_listiter st h
theorem b0r{P:Program}{w:World}{K:PySem.W.Frag}{tg:Expr}(it:Addr)(lo:Int)(n:Nat):Turn P w K tg (Itr lo n) [it] it (fun i h=>IsRangeIter h it (lo+(i:Nat) *1) ((n:Int)- (i:Nat)) 1) where
 mem:=by simp
 obj:=fun i h st b hb=>by
   have e:b=it:=by simpa using hb
   subst e
   exact⟨_,st,fun v z=>by
     have z':Data.fields _=Data.cell v:=z
     cases z'⟩
 keep:=fun i h h' st k=>k it (by simp) _ st
 item:=by
   intro X hP hw hK hc i pins s σ H E I hf st hg
   subst hP hw hK
   obtain⟨f0,f1,f2,f3,f4,f5⟩:=hf it (by simp)
   have W:=Walks.range (prog:=X.prog) (w:=X.w) (I.ok.hd hc) it lo 1 n
   refine W.item i s _ _ hg st fun v h' tk hv st' kk=> ?_
   obtain⟨t,rfl⟩:=hv
   have I1:Inv X pins σ H {s with heap:=h',toks:=tk}:=I.turned (fun b o hb e=>kk b o (by simpa using hb) e) f0 f1 f3 f4 f5
   refine⟨_,rfl,b4o (s:={s with heap:=h',toks:=tk}) (n:="range_iterator") st' rfl rfl (by decide) ⟨.int (lo+i),H,I1,⟨t,?_⟩,⟨rfl,rfl⟩,st',fun b hb=>(hf b hb).1⟩⟩
   rw[Int.mul_one]
 done:=by
   intro X hP hw hK hc i pins s σ H E I hf st hg
   subst hP hw hK
   obtain⟨f0,f1,f2,f3,f4,f5⟩:=hf it (by simp)
   exact wpAny_pyNext_range_end (I.ok.hd hc) st (by have:n<=i:=hg;omega) fun h' eb=>⟨rfl,I.turned (t':=s.toks) (fun b o hb e=>eb b o hb e) f0 f1 f3 f4 f5⟩
 self:=fun _ _ _ _ _ st h=>wpAny_pyIter_rangeiter st h
section
variable {X:Cx}{tg:Expr}
def iList(K:PySem.W.Frag)(tl:TE):TI:=fun σ H R=>tl σ H fun x H1=> ∃a,x= .ref a/\(∃xs,SqL K H1 a xs)/\R (Itl K a) H1
theorem pi_list{l:Expr}{tl:TE}(hl:PE X l tl):PI X tg l (iList X.K tl):=by
 intro pins s σ H R I h
 refine thn (hl pins s σ H _ I h) fun v s1 zz9=> ?_
 obtain⟨x,H1,I1,r1,q1⟩:=zz9
 obtain⟨a,e,⟨xs,hq⟩,q⟩:=q1
 subst e
 cases r1
 obtain⟨its,rv,p,hz⟩:=I1.list hq
 refine wpAny_pyIter_list p.isList ?_
 refine⟨s1.heap.objs.size,[s1.heap.objs.size],_,_,H1,rfl,I1.kept (t':=s1.toks) fun b o e=>Heap.get?_push_of_some _ e,b1l a _,⟨_,Heap.get?_push_size _ rfl,rfl,rfl⟩,fun b hb=> ?_,q⟩
 have e:b=s1.heap.objs.size:=by simpa using hb
 subst e
 exact I1.fpOk (Nat.le_refl _) (I1.hok.fresh (Nat.le_refl _))
theorem b3u{pins:List (Addr×Obj)}{σ:St}{H:Hp}{s:Shared}{R:It->Hp->Prop}{E:Value->Shared->Prop}{lo hi:Int}{t u v:Tok}{tk:Nat}(I:Inv X pins σ H s)(h1: -(2^62)<=lo)(h2:lo<2^62)(h3: -(2^62)<=hi)(h4:hi<2^62)
   (q:R (Itr lo (hi- lo).toNat) H):wpAny (model X.prog X.w) X.A (pyIter (.ref s.heap.objs.size)) (PIE X pins σ tg R) E {s with heap:=s.heap.push {cls:= .type "range",data:= .fields #[.int lo t,.int hi u,.int 1 v]},toks:=tk}:=by
 refine wpAny_pyIter_range (IsRange.new ..) (small_one h1 h2 h3 h4) ?_
 have I1:Inv X pins σ H {s with heap:=s.heap.push {cls:= .type "range",data:= .fields #[.int lo t,.int hi u,.int 1 v]},toks:=tk}:=I.kept fun b o e=>Heap.get?_push_of_some _ e
 refine⟨(s.heap.push {cls:= .type "range",data:= .fields #[.int lo t,.int hi u,.int 1 v]}).objs.size,[(s.heap.push {cls:= .type "range",data:= .fields #[.int lo t,.int hi u,.int 1 v]}).objs.size],_,_,H,rfl,
   I1.kept (t':=tk) fun b o e=>Heap.get?_push_of_some _ e,b0r _ lo (hi- lo).toNat,?_,fun b hb=> ?_,q⟩
 . have e1:lo+((0:Nat):Int) *1=lo:=by simp
   have e2:(((hi- lo).toNat:Nat):Int)- ((0:Nat):Int)=Builtin.Range.rangeSize lo hi 1:=by rw[rangeSize_one];split<;>omega
   show IsRangeIter _ _ (lo+((0:Nat):Int) *1) ((((hi- lo).toNat:Nat):Int)- ((0:Nat):Int)) 1
   rw[e1,e2]
   exact Heap.get?_push_size _ rfl
 . have e:b=(s.heap.push {cls:= .type "range",data:= .fields #[.int lo t,.int hi u,.int 1 v]}).objs.size:=by simpa using hb
   subst e
   exact I1.fpOk (Nat.le_refl _) (I1.hok.fresh (Nat.le_refl _))
def iRng1(ta:TA):TI:=fun σ H R=>ta σ H fun vs H1=> ∃j:Int,vs=[.int j]/\ -(2^62)<=j/\j<2^62/\R (Itr 0 j.toNat) H1
theorem b18{a:Expr}{ta:TA}{p pos:Pos}(hg:Gl X "range")(hm:X.mg "range"=none)(ha:PA X [a] ta)(hs:starEach [a] X.env=[(false,eval a X.env)]:=by rfl):PI X tg (.Call (.Name "range" p) [a] [] pos) (iRng1 ta):=by
 intro pins s σ H R I h
 refine Call_ (a77 I hg hm boot_range (PyProof.Rows.callWith_type1 (thn (ha pos pins s σ H _ I h) fun us s1 ⟨vs,H1,I1,r1,q1⟩=> ?_) hs rfl))
 obtain⟨j,e,q1,q2,q⟩:=q1
 subst e
 cases r1 with
 |cons r rr=>
   cases rr
   obtain⟨t,rfl⟩:=r
   exact call_range_1 (b3u I1 (by omega) (by omega) q1 q2 (by simpa using q))
noncomputable def tFor(wi:TI)(g:TG)(tb:TS):TS:=fun D σ H=>wi σ H fun J H1=> ∃W:Nat->Nat->St->Hp->Prop,(∃m,W 0 m σ H1)/\ ∀i m σ H,W i m σ H->
 (J.stop i H/\D.nx σ H)\/(J.go i H/\ ∃N:St->Hp->Prop,(∀σ' H',N σ' H'-> ∃m',m'<m/\W (i+1) m' σ' H')/\ ∀x H',J.yld i H x H'->g x σ H' fun σ2 H2=>tb {D with nx:=N,ct:=N,bk:=D.nx} σ2 H2)
noncomputable def a47(fp:List Addr)(h:Heap):List (Addr×Obj):=fp.filterMap fun b=>(h.get? b).map fun o=>(b,o)
theorem a13{fp:List Addr}{h:Heap}{b:Addr}{o:Obj}(hb:b∈fp)(e:h.get? b=some o):(b,o)∈a47 fp h:=List.mem_filterMap.mpr ⟨b,hb,by rw[e];rfl⟩
theorem b2h{fp:List Addr}{h:Heap}{p:Addr×Obj}(hp:p∈a47 fp h):p.1∈fp/\h.get? p.1=some p.2:=by
 obtain⟨b,hb,e⟩:=List.mem_filterMap.mp hp
 cases q:h.get? b with
 |none=>rw[q]at e;cases e
 |some o=>
   rw[q]at e
   have e':(b,o)=p:=Option.some.inj e
   subst e'
   exact⟨hb,q⟩
theorem Inv.pinned{pins:List (Addr×Obj)}{σ:St}{H:Hp}{s:Shared}{fp:List Addr}(I:Inv X pins σ H s)(hf: ∀b∈fp,FpOk X pins H b)(ho: ∀b∈fp,∃o,s.heap.get? b=some o/\ ∀v,o.data≠ .cell v):Inv X (pins++a47 fp s.heap) σ H s:=
 I.pins_of fun p hp=>(List.mem_append.mp hp).elim (fun z=>I.pin p (List.mem_append_right _ z)) fun z=>by
   obtain⟨hb,e⟩:=b2h z
   obtain⟨f0,f1,f2,_⟩:=hf p.1 hb
   obtain⟨o,e',d⟩:=ho p.1 hb
   rw[e]at e';cases e'
   exact⟨e,f0,f1,f2,d⟩
theorem Inv.unpinned{pins pl:List (Addr×Obj)}{σ:St}{H:Hp}{s:Shared}(I:Inv X (pins++pl) σ H s):Inv X pins σ H s:=I.pins_of fun p hp=>I.pin p (List.mem_append_right _ (List.mem_append_left _ hp))
theorem ps_for{iter:Expr}{body:List Stmt}{wi:TI}{g:TG}{tb:TS}{pos:Pos}(hp:PassesOwn (model X.prog X.w) X.A X.env X.xe)(hc:X.calm=true)(hi:PI X tg iter wi)(hg:PG X tg g)(hb:PSs X body tb)
   (hs: ∀x,foldedSetIterable iter X.env x=pure x:=by intro _;rfl):PS X (.For tg iter body [] pos) (tFor wi g tb):=by
 intro pins s σ H D I h
 refine wpAny_For (thn (hi pins s σ H _ I h) fun v s1 h1=>thn h1 fun itv s2 h2=> ?_) hs
 obtain⟨it,fp,tn,J,H2,e,I2,T,st2,f2,W,⟨m0,w0⟩,turn⟩:=h2
 subst e
 -- what stays true of the iterator's objects through the loop
 have stat: ∀{H':Hp},(∀b∈fp,H' b=none)-> ∀b∈fp,FpOk X pins H' b:=fun hn b hb=>⟨hn b hb,(f2 b hb).2⟩
 refine codeAny_forLoop_any (fun n s'=> ∃i σ' H',Inv X pins σ' H' s'/\tn i s'.heap/\(∀b∈fp,H' b=none)/\W i n σ' H') ?_ m0 ⟨0,σ,H2,I2,st2,fun b hb=>(f2 b hb).1,w0⟩
 rintro n s3 ⟨i,σ3,H3,I3,st3,fr3,w3⟩
 rcases turn i n σ3 H3 w3 with⟨stop,qn⟩ | ⟨go,N,hN,step⟩
 . refine wpAny_passesOwn hp (thn (T.done X rfl rfl rfl hc i pins s3 σ3 H3 X.xe I3 (stat fr3) st3 stop) fun r s4 zz9=> ?_)
   obtain⟨hr,I4⟩:=zz9
   subst hr
   exact wpAny_execs_nil ⟨σ3,H3,I4,qn⟩
 . refine wpAny_passesOwn hp (thn (T.item X rfl rfl rfl hc i pins s3 σ3 H3 X.xe I3 (stat fr3) st3 go) fun r s4 zz9=> ?_)
   obtain⟨u,hr,h4⟩:=zz9
   subst hr
   refine wpAny_passesOwn hp (thn h4 fun _ s5 zz9=> ?_)
   obtain⟨x,H5,I5,r5,y5,st5,fr5⟩:=zz9
   have I5':=I5.pinned (stat fr5) (T.obj _ _ st5)
   refine wpAny_passesOwn hp (thn (hg _ s5 σ3 H5 x u _ I5' r5 (step x H5 y5)) fun _ s6 zz9=> ?_)
   obtain⟨σ6,H6,I6,q6⟩:=zz9
   refine wpAny_passesOwn hp (thn (hb _ s6 σ6 H6 _ I6 q6) fun f s7 q7=> ?_)
   have again: ∀{σ7:St}{H7:Hp},Inv X (pins++a47 fp s5.heap) σ7 H7 s7->N σ7 H7-> ∃m,m<n/\ ∃i σ' H',Inv X pins σ' H' s7/\tn i s7.heap/\(∀b∈fp,H' b=none)/\W i m σ' H':=fun {σ7 H7} I7 n7=>by
     obtain⟨m',hm,w7⟩:=hN σ7 H7 n7
     refine⟨m',hm,i+1,σ7,H7,I7.unpinned,T.keep _ _ _ st5 fun b hb o e=>(I7.pin (b,o) (List.mem_append_right _ (List.mem_append_right _ (a13 hb e)))).1,fun b hb=> ?_,w7⟩
     obtain⟨o,e,d⟩:=T.obj _ _ st5 b hb
     exact(I7.pin (b,o) (List.mem_append_right _ (List.mem_append_right _ (a13 hb e)))).2.1
   cases f with
   |next=>obtain⟨σ7,H7,I7,n7⟩:=q7;exact again I7 n7
   |cont=>obtain⟨σ7,H7,I7,n7⟩:=q7;exact again I7 n7
   |brk=>obtain⟨σ7,H7,I7,q7⟩:=q7;exact⟨σ7,H7,I7.unpinned,q7⟩
   |ret v=>obtain⟨x7,σ7,H7,I7,r7,q7⟩:=q7;exact⟨x7,σ7,H7,I7.unpinned,r7,q7⟩
end
noncomputable abbrev R2:=V->V->Hp->VK->Prop
def OpR(X:Cx)(f:Value->Value->Sem Value)(r:R2):Prop:=
 ∀(pins:List (Addr×Obj)) (s:Shared) (σ:St) (H:Hp) (x y:V) (v u:Value) (Q:VK),Inv X pins σ H s->RelV x v->RelV y u->r x y H Q->
   wpAny (model X.prog X.w) X.A (f v u) (EP X pins σ Q) X.xe s
def UnR(X:Cx)(f:Value->Sem Value)(r:V->Hp->VK->Prop):Prop:=
 ∀(pins:List (Addr×Obj)) (s:Shared) (σ:St) (H:Hp) (x:V) (v:Value) (Q:VK),Inv X pins σ H s->RelV x v->r x H Q->
   wpAny (model X.prog X.w) X.A (f v) (EP X pins σ Q) X.xe s
def CallR(X:Cx)(f:Value)(r:List V->Hp->VK->Prop):Prop:=
 ∀(pins:List (Addr×Obj)) (s:Shared) (σ:St) (H:Hp) (xs:List V) (us:List Value) (Q:VK),Inv X pins σ H s->Vals xs us->r xs H Q->
   wpAny (model X.prog X.w) X.A (call f us) (EP X pins σ Q) X.xe s
def tOp(r:R2)(ta tb:TE):TE:=fun σ H Q=>ta σ H fun x H1=>tb σ H1 fun y H2=>r x y H2 Q
def tUn(r:V->Hp->VK->Prop)(ta:TE):TE:=fun σ H Q=>ta σ H fun x H1=>r x H1 Q
def rI(C:Int->Int->Prop)(g:Int->Int->V):R2:=fun x y H Q=> ∃i j,x= .int i/\y= .int j/\C i j/\Q (g i j) H
def rI0(g:Int->Int->V):R2:=fun x y H Q=> ∃i j,x= .int i/\y= .int j/\Q (g i j) H
def rU(g:Int->V):V->Hp->VK->Prop:=fun x H Q=> ∃i,x= .int i/\Q (g i) H
section
variable {X:Cx}{a b c:Expr}{ta tb tc:TE}{pos:Pos}
theorem binT(ha:PE X a ta)(hb:PE X b tb){pins:List (Addr×Obj)}{s:Shared}{σ:St}{H:Hp}{R:V->V->Hp->Prop}(I:Inv X pins σ H s)
   (h:ta σ H fun x H1=>tb σ H1 fun y H2=>R x y H2) {Q:Value->Shared->Prop}{f:Value->Value->Sem Value}
   (hf: ∀v u s2 x y H2,Inv X pins σ H2 s2->RelV x v->RelV y u->R x y H2->wpAny (model X.prog X.w) X.A (f v u) Q X.xe s2):
   wpAny (model X.prog X.w) X.A (eval a X.env) (fun v s₁=>wpAny (model X.prog X.w) X.A (eval b X.env) (fun u s₂=>wpAny (model X.prog X.w) X.A (f v u) Q X.xe s₂) X.xe s₁) X.xe s:=by
 refine thn (ha pins s σ H _ I h) fun v s1 zz9=> ?_
 obtain⟨x,H1,I1,r1,q1⟩:=zz9
 refine thn (hb pins s1 σ H1 _ I1 q1) fun u s2 zz9=> ?_
 obtain⟨y,H2,I2,r2,q2⟩:=zz9
 exact hf v u s2 x y H2 I2 r1 r2 q2
theorem pe_op{op:Operator}{r:R2}(ho:OpR X (binaryOp op) r)(ha:PE X a ta)(hb:PE X b tb):PE X (.BinOp a op b pos) (tOp r ta tb):=by
 intro pins s σ H Q I h
 exact wpAny_BinOp (binT ha hb I h fun v u s2 x y H2 I2 rx ry q=>ho pins s2 σ H2 x y v u Q I2 rx ry q)
theorem pe_un{op:UnaryOp}{r:V->Hp->VK->Prop}(ho:UnR X (unaryOp op) r)(ha:PE X a ta):PE X (.UnaryOp op a pos) (tUn r ta):=by
 intro pins s σ H Q I h
 exact UnaryOp_ (thn (ha pins s σ H _ I h) fun v s1 ⟨x,H1,I1,r1,q1⟩=>ho pins s1 σ H1 x v Q I1 r1 q1)
theorem opI{f:Value->Value->Sem Value}{C:Int->Int->Prop}{g:Int->Int->Int}
   (rule: ∀(i j:Int) (t u:Tok) (s:Shared) (Q:Value->Shared->Prop) (E:Value->Shared->Prop),C i j->Q (.int (g i j) s.toks) {s with toks:=s.toks+1}->wpAny (model X.prog X.w) X.A (f (.int i t) (.int j u)) Q E s):
   OpR X f (rI C fun i j=> .int (g i j)):=by
 intro pins s σ H x y v u Q I rx ry h
 obtain⟨i,j,rfl,rfl,hc,q⟩:=h
 obtain⟨t,rfl⟩:=rx
 obtain⟨t',rfl⟩:=ry
 exact rule i j t t' s _ _ hc ⟨.int (g i j),H,I.tok _,⟨_,rfl⟩,q⟩
theorem opI0{f:Value->Value->Sem Value}{g:Int->Int->Int}
   (rule: ∀(i j:Int) (t u:Tok) (s:Shared) (Q:Value->Shared->Prop) (E:Value->Shared->Prop),Q (.int (g i j) s.toks) {s with toks:=s.toks+1}->wpAny (model X.prog X.w) X.A (f (.int i t) (.int j u)) Q E s):
   OpR X f (rI0 fun i j=> .int (g i j)):=by
 intro pins s σ H x y v u Q I rx ry h
 obtain⟨i,j,rfl,rfl,q⟩:=h
 obtain⟨t,rfl⟩:=rx
 obtain⟨t',rfl⟩:=ry
 exact rule i j t t' s _ _ ⟨.int (g i j),H,I.tok _,⟨_,rfl⟩,q⟩
theorem opB0{f:Value->Value->Sem Value}{g:Int->Int->Bool}
   (rule: ∀(i j:Int) (t u:Tok) (s:Shared) (Q:Value->Shared->Prop) (E:Value->Shared->Prop),Q (.bool (g i j)) s->wpAny (model X.prog X.w) X.A (f (.int i t) (.int j u)) Q E s):
   OpR X f (rI0 fun i j=> .bl (g i j)):=by
 intro pins s σ H x y v u Q I rx ry h
 obtain⟨i,j,rfl,rfl,q⟩:=h
 obtain⟨t,rfl⟩:=rx
 obtain⟨t',rfl⟩:=ry
 exact rule i j t t' s _ _ ⟨.bl (g i j),H,I,rfl,q⟩
def CDiv(i j:Int):Prop:=0<j/\j<1073741824
def CPow(i j:Int):Prop:=0<=j/\j<=1000000/\i.natAbs<2^64
def CMul(i j:Int):Prop:=(-(2^64)<i/\i<2^64)\/(-(2^64)<j/\j<2^64)
theorem CMul.ok{i j:Int}(h:CMul i j):IntMulOk i j:=by
 rcases h with⟨h1,h2⟩ | ⟨h1,h2⟩
 . exact .of_left (intBits_le_64 h1 h2)
 . exact .of_right (intBits_le_64 h1 h2)
theorem op_add:OpR X (binaryOp .Add) (rI0 fun i j=> .int (i+j)):=opI0 fun _ _ _ _ _ _ _ q=>add_int q
theorem a6e:OpR X (binaryOp .Sub) (rI0 fun i j=> .int (i- j)):=opI0 fun _ _ _ _ _ _ _ q=>sub_int q
theorem a1a:OpR X (binaryOp .FloorDiv) (rI CDiv fun i j=> .int (i/j)):=opI fun i j _ _ _ _ _ hc q=>by
 have h1:(0:Int)<j:=hc.1
 have h2:j<1073741824:=hc.2
 exact floordiv_int (by omega) (by rw[Int.fdiv_eq_ediv_of_nonneg i (by omega)];exact q) (.inl (PyProof.noPylong_small (by omega)))
theorem a0v:OpR X (binaryOp .Mod) (rI (fun _ j=>0<j) fun i j=> .int (i % j)):=opI fun i j _ _ _ _ _ hc q=>by
 have h1:(0:Int)<j:=hc
 exact mod_int' (by omega) (by rw[Int.fmod_eq_emod_of_nonneg i (by omega)];exact q)
theorem a9z:OpR X (binaryOp .Pow) (rI CPow fun i j=> .int (i^j.toNat)):=opI fun _ _ _ _ _ _ _ hc q=>pow_int_small hc.1 hc.2.1 hc.2.2 q
theorem unI{f:Value->Sem Value}{g:Int->Int}
   (rule: ∀(i:Int) (t:Tok) (s:Shared) (Q:Value->Shared->Prop) (E:Value->Shared->Prop),Q (.int (g i) s.toks) {s with toks:=s.toks+1}->wpAny (model X.prog X.w) X.A (f (.int i t)) Q E s):
   UnR X f (rU fun i=> .int (g i)):=by
 intro pins s σ H x v Q I rx h
 obtain⟨i,rfl,q⟩:=h
 obtain⟨t,rfl⟩:=rx
 exact rule i t s _ _ ⟨.int (g i),H,I.tok _,⟨_,rfl⟩,q⟩
theorem un_neg:UnR X (unaryOp .USub) (rU fun i=> .int (-i)):=unI fun _ _ _ _ _ q=>neg_int q
end
noncomputable def scal:V->V->Bool
 | .non,.non=>true | .non,.int _=>true | .int _,.non=>true | .non,.bl _=>true | .bl _,.non=>true | .non,.str _=>true | .str _,.non=>true
 | .int _,.int _=>true | .bl _,.bl _=>true | .str _,.str _=>true | .byt _,.byt _=>true
 | .int _,.str _=>true | .str _,.int _=>true | .bl _,.str _=>true | .str _,.bl _=>true
 |_,_=>false
def rEq:R2:=fun x y H Q=>scal x y=true/\Q (.bl (decide (x=y))) H
def rNe:R2:=fun x y H Q=>scal x y=true/\Q (.bl (!decide (x=y))) H
theorem b3c{i j:Int}:decide (V.int i=V.int j)=(i==j):=by
 rw[Bool.eq_iff_iff]
 simp
theorem dec_bl{i j:Bool}:decide (V.bl i=V.bl j)=(i==j):=by
 rw[Bool.eq_iff_iff]
 simp
theorem a9h{i j:Str}:decide (V.str i=V.str j)=(i==j):=by
 rw[Bool.eq_iff_iff]
 simp
theorem b3d{i j:Array UInt8}:decide (V.byt i=V.byt j)=(i.toList==j.toList):=by
 rw[Bool.eq_iff_iff]
 cases i
 cases j
 simp
section
variable {X:Cx}{a b c:Expr}{ta tb tc:TE}{pos:Pos}
theorem a0u{pins:List (Addr×Obj)}{σ:St}{H:Hp}{s:Shared}{Q:VK}{k k':Bool}(I:Inv X pins σ H s)(q:Q (.bl k) H)(e:k=k'):EP X pins σ Q (.bool k') s:=by
 subst e
 exact⟨.bl k,H,I,rfl,q⟩
theorem op_eq:OpR X (compareOp .Eq) rEq:=by
 intro pins s σ H x y v u Q I rx ry h
 obtain⟨hs,q⟩:=h
 cases x with
 |non=>
   cases rx
   cases y with
   |non=>cases ry;exact PySem.EqNone.eq_none_none (a0u I q (by simp))
   |bl j=>cases ry;exact PySem.EqNone.eq_none_bool (a0u I q (by simp))
   |int j=>obtain⟨t',rfl⟩:=ry;exact PySem.EqNone.eq_none_int (a0u I q (by simp))
   |str j=>obtain⟨t',rfl⟩:=ry;exact PySem.EqNone.eq_none_str (a0u I q (by simp))
   |_=>exact absurd (show false=true from hs) Bool.false_ne_true
 |bl i=>
   cases rx
   cases y with
   |non=>cases ry;exact PySem.EqNone.eq_bool_none (a0u I q (by simp))
   |bl j=>cases ry;exact eq_bool (a0u I q dec_bl)
   |str j=>obtain⟨t',rfl⟩:=ry;exact PySem.EqMixed.eq_bool_str (a0u I q (by simp))
   |_=>exact absurd (show false=true from hs) Bool.false_ne_true
 |int i=>
   obtain⟨t,rfl⟩:=rx
   cases y with
   |non=>cases ry;exact PySem.EqNone.eq_int_none (a0u I q (by simp))
   |int j=>obtain⟨t',rfl⟩:=ry;exact eq_int (a0u I q b3c)
   |str j=>obtain⟨t',rfl⟩:=ry;exact PySem.EqMixed.eq_int_str (a0u I q (by simp))
   |_=>exact absurd (show false=true from hs) Bool.false_ne_true
 |str i=>
   obtain⟨t,rfl⟩:=rx
   cases y with
   |non=>cases ry;exact PySem.EqNone.eq_str_none (a0u I q (by simp))
   |bl j=>cases ry;exact PySem.EqMixed.eq_str_bool (a0u I q (by simp))
   |int j=>obtain⟨t',rfl⟩:=ry;exact PySem.EqMixed.eq_str_int (a0u I q (by simp))
   |str j=>obtain⟨t',rfl⟩:=ry;exact eq_str (a0u I q a9h)
   |_=>exact absurd (show false=true from hs) Bool.false_ne_true
 |byt i=>
   obtain⟨t,rfl⟩:=rx
   cases y with
   |byt j=>obtain⟨t',rfl⟩:=ry;exact PySem.W.eq_bytes (a0u I q b3d)
   |_=>exact absurd (show false=true from hs) Bool.false_ne_true
 |_=>cases y<;>exact absurd (show false=true from hs) Bool.false_ne_true
theorem op_ne:OpR X (compareOp .NotEq) rNe:=by
 intro pins s σ H x y v u Q I rx ry h
 obtain⟨hs,q⟩:=h
 cases x with
 |non=>
   cases rx
   cases y with
   |non=>cases ry;exact PySem.EqNone.ne_none_none (a0u I q (by simp))
   |bl j=>cases ry;exact PySem.EqNone.ne_none_bool (a0u I q (by simp))
   |int j=>obtain⟨t',rfl⟩:=ry;exact PySem.EqNone.ne_none_int (a0u I q (by simp))
   |str j=>obtain⟨t',rfl⟩:=ry;exact PySem.EqNone.ne_none_str (a0u I q (by simp))
   |_=>exact absurd (show false=true from hs) Bool.false_ne_true
 |bl i=>
   cases rx
   cases y with
   |non=>cases ry;exact PySem.EqNone.ne_bool_none (a0u I q (by simp))
   |bl j=>cases ry;exact ne_bool (a0u I q (congrArg not dec_bl))
   |str j=>obtain⟨t',rfl⟩:=ry;exact PySem.EqMixed.ne_bool_str (a0u I q (by simp))
   |_=>exact absurd (show false=true from hs) Bool.false_ne_true
 |int i=>
   obtain⟨t,rfl⟩:=rx
   cases y with
   |non=>cases ry;exact PySem.EqNone.ne_int_none (a0u I q (by simp))
   |int j=>obtain⟨t',rfl⟩:=ry;exact ne_int (a0u I q (congrArg not b3c))
   |str j=>obtain⟨t',rfl⟩:=ry;exact PySem.EqMixed.ne_int_str (a0u I q (by simp))
   |_=>exact absurd (show false=true from hs) Bool.false_ne_true
 |str i=>
   obtain⟨t,rfl⟩:=rx
   cases y with
   |non=>cases ry;exact PySem.EqNone.ne_str_none (a0u I q (by simp))
   |bl j=>cases ry;exact PySem.EqMixed.ne_str_bool (a0u I q (by simp))
   |int j=>obtain⟨t',rfl⟩:=ry;exact PySem.EqMixed.ne_str_int (a0u I q (by simp))
   |str j=>obtain⟨t',rfl⟩:=ry;exact ne_str (a0u I q (congrArg not a9h))
   |_=>exact absurd (show false=true from hs) Bool.false_ne_true
 |byt i=>
   obtain⟨t,rfl⟩:=rx
   cases y with
   |byt j=>obtain⟨t',rfl⟩:=ry;exact PySem.W.ne_bytes (a0u I q (congrArg not b3d))
   |_=>exact absurd (show false=true from hs) Bool.false_ne_true
 |_=>cases y<;>exact absurd (show false=true from hs) Bool.false_ne_true
theorem a81:OpR X (compareOp .Lt) (rI0 fun i j=> .bl (decide (i<j))):=opB0 fun _ _ _ _ _ _ _ q=>lt_int q
theorem a50:OpR X (compareOp .Gt) (rI0 fun i j=> .bl (decide (j<i))):=opB0 fun _ _ _ _ _ _ _ q=>gt_int q
theorem op_ge:OpR X (compareOp .GtE) (rI0 fun i j=> .bl (decide (j<=i))):=opB0 fun _ _ _ _ _ _ _ q=>ge_int q
theorem b2f:OpR X (compareOp .In) (fun x y H Q=> ∃i j,x= .str i/\y= .str j/\Q (.bl (!(Builtin.Str.occurrences j i 0 j.length 1).isEmpty)) H):=by
 intro pins s σ H x y v u Q I rx ry h
 obtain⟨i,j,rfl,rfl,q⟩:=h
 obtain⟨t,rfl⟩:=rx
 obtain⟨t',rfl⟩:=ry
 exact in_str (a0u I q rfl)
theorem op_isN:OpR X (compareOp .Is) (fun x y H Q=>y= .non/\Q (.bl (decide (x= .non))) H):=by
 intro pins s σ H x y v u Q I rx ry h
 obtain⟨rfl,q⟩:=h
 cases ry
 refine is_none_gen (a0u I q ?_)
 cases x<;>first
   | (cases rx;rfl)
   | (obtain⟨t,rfl⟩:=rx;rfl)
theorem a7t:OpR X (compareOp .NotIn) (fun x y H Q=> ∃i j,x= .str i/\y= .str j/\Q (.bl (!(!(Builtin.Str.occurrences j i 0 j.length 1).isEmpty))) H):=by
 intro pins s σ H x y v u Q I rx ry h
 obtain⟨i,j,rfl,rfl,q⟩:=h
 obtain⟨t,rfl⟩:=rx
 obtain⟨t',rfl⟩:=ry
 exact notIn_str (a0u I q rfl)
theorem OpR.or{f:Value->Value->Sem Value}{r r':R2}(h:OpR X f r)(h':OpR X f r'):OpR X f (fun x y H Q=>r x y H Q\/r' x y H Q):=by
 intro pins s σ H x y v u Q I rx ry q
 rcases q with q |q
 . exact h pins s σ H x y v u Q I rx ry q
 . exact h' pins s σ H x y v u Q I rx ry q
theorem a0o(b:Expr){op:CmpOp}(h:op≠ .In:=by decide)(h2:op≠ .NotIn:=by decide):behindInMarks op b=false:=by
 have e1:(op==CmpOp.In)=false:=by cases op<;>first |rfl |exact absurd rfl h
 have e2:(op==CmpOp.NotIn)=false:=by cases op<;>first |rfl |exact absurd rfl h2
 cases b<;>simp[behindInMarks,e1,e2]
theorem pe_cmpR{op:CmpOp}{r:R2}(ho:OpR X (compareOp op) r)(ha:PE X a ta)(hb:PE X b tb)(hm:behindInMarks op b=false):PE X (.Compare a [op] [b] pos) (tOp r ta tb):=by
 intro pins s σ H Q I h
 exact wpAny_Compare1 (binT ha hb I h fun v u s2 x y H2 I2 rx ry q=>ho pins s2 σ H2 x y v u Q I2 rx ry q) hm
noncomputable def tTest(t:TE):TT:=fun σ H Q=>t σ H fun x H'=> ∃k,x= .bl k/\Q k H'
theorem pt_cmpR{op:CmpOp}{r:R2}(ho:OpR X (compareOp op) r)(ha:PE X a ta)(hb:PE X b tb)(hm:behindInMarks op b=false):PT X (.Compare a [op] [b] pos) (tTest (tOp r ta tb)):=by
 intro pins s σ H Q I h
 refine wpAny_isTrue_Compare1 (thn (ha pins s σ H _ I h) fun v s1 ⟨x,H1,I1,r1,q1⟩=>thn (hb pins s1 σ H1 _ I1 q1) fun u s2 ⟨y,H2,I2,r2,q2⟩=>
   thn (ho pins s2 σ H2 x y v u _ I2 r1 r2 q2) fun c s3 ⟨z,H3,I3,r3,k,e,q3⟩=> ?_) hm
 subst e
 cases r3
 exact wpAny_truthy_bool ⟨H3,I3,q3⟩
theorem a76:(sizeLine:Nat)<2^63:=by rw[sizeLine_eq];decide
theorem b00:OpR X (binaryOp .Add) (fun x y H Q=> ∃i j,x= .str i/\y= .str j/\i.length+j.length<=sizeLine/\Q (.str (i++j)) H):=by
 intro pins s σ H x y v u Q I rx ry h
 obtain⟨i,j,rfl,rfl,hz,q⟩:=h
 obtain⟨t,rfl⟩:=rx
 obtain⟨t',rfl⟩:=ry
 exact add_str (fun t' tk=>⟨.str (i++j),H,I.tok _,⟨_,rfl⟩,q⟩) hz
theorem b1j{x:V}{us:List Value}(r:Vals [x] us): ∃u,us=[u]/\RelV x u:=by
 cases r with
 |cons r1 r2=>cases r2;exact⟨_,rfl,r1⟩
theorem vals2{x y:V}{us:List Value}(r:Vals [x,y] us): ∃u w',us=[u,w']/\RelV x u/\RelV y w':=by
 cases r with
 |cons r1 r2=>
   cases r2 with
   |cons r3 r4=>cases r4;exact⟨_,_,rfl,r1,r3⟩
def LenV(K:PySem.W.Frag)(x:V)(H:Hp)(n:Nat):Prop:=
 match x with
 | .str y=>y.length<=sizeLine/\n=y.length
 | .byt y=>y.size<=sizeLine/\n=y.size
 | .ref p=>(∃xs,SqL K H p xs/\n=xs.length)\/ ∃xs,SqT K H p xs/\n=xs.length
 |_=>False
theorem call_len:CallR X (.builtin "len") (fun xs H Q=> ∃x n,xs=[x]/\LenV X.K x H n/\Q (.int n) H):=by
 intro pins s σ H xs us Q I r h
 obtain⟨x,n,rfl,e,q⟩:=h
 obtain⟨u,rfl,rx⟩:=b1j r
 have hl:=a76
 have hs:sizeLine=16777216:=sizeLine_eq
 cases x with
 |str y=>
   obtain⟨t,rfl⟩:=rx
   obtain⟨hy,e'⟩:y.length<=sizeLine/\n=y.length:=e
   subst e'
   exact len_str (by omega) ⟨.int _,H,I.tok _,⟨_,rfl⟩,q⟩
 |byt y=>
   obtain⟨t,rfl⟩:=rx
   obtain⟨hy,e'⟩:y.size<=sizeLine/\n=y.size:=e
   subst e'
   exact PySem.W.len_bytes (by omega) ⟨.int _,H,I.tok _,⟨_,rfl⟩,q⟩
 |ref p=>
   cases rx
   have e':(∃xs,SqL X.K H p xs/\n=xs.length)\/ ∃xs,SqT X.K H p xs/\n=xs.length:=e
   rcases e' with⟨xs,hx,e'⟩ | ⟨xs,hx,e'⟩
   . subst e'
     obtain⟨its,r',pl,hz⟩:=I.list hx
     have hlen:=r'.length
     exact Calls.call_len_list pl.isList (by simp only[List.size_toArray];omega) ⟨.int xs.length,H,I.tok _,⟨_,by simp only[List.size_toArray];rw[hlen]⟩,q⟩
   . subst e'
     obtain⟨its,r',pl,hz⟩:=I.tuple hx
     have hlen:=r'.length
     exact len_tuple pl (by simp only[List.size_toArray];omega) ⟨.int xs.length,H,I.tok _,⟨_,by simp only[List.size_toArray];rw[hlen]⟩,q⟩
 |_=>exact(show False from e).elim
end
structure ObjM(h:Heap)(x dx C:Addr)(mA:Str->Option Value):Prop where
 obj:h.get? x=some (PySem.W.instObj C dx)
 ns:h.Ns1 dx mA
 ne:dx≠x
theorem b2o{h:Heap}{dx:Addr}{mA:Str->Option Value}(n:h.Ns1 dx mA): ∃od,h.get? dx=some od/\ ∀name,PySem.W.lookIn name od=some (mA name):=by
 obtain⟨o,es,ep,ho,hd,hk,_,hm⟩:=n
 refine⟨o,ho,fun name=> ?_⟩
 have e:=hm name
 unfold nsFind findBy at e
 rw[<-Array.find?_toList]at e
 unfold PySem.W.lookIn
 rw[hd]
 dsimp only
 split
 . rename_i y q
   rw[q]at e
   exact congrArg some e
 . rename_i q
   rw[q]at e
   have a:es.toList.any (·.refKey)=false:=by
     rw[List.any_eq_false]
     intro y hy
     obtain⟨z,t,hkey⟩:=hk y (Array.mem_toList_iff.mp hy)
     simp[DictEntry.refKey,hkey]
   have a': ¬ es.toList.any (·.refKey)=true:=by rw[a];exact Bool.false_ne_true
   rw[if_neg a']
   exact congrArg some e
theorem ObjM.look{h:Heap}{x dx C:Addr}{mA:Str->Option Value}(I:ObjM h x dx C mA): ∃od,PySem.W.InstAt h x (PySem.W.instObj C dx) C (some od)/\ ∀name,PySem.W.lookIn name od=some (mA name):=
 let ⟨od,ho,hl⟩:=b2o I.ns
 ⟨od,⟨I.obj,rfl,rfl,ho⟩,hl⟩
section
variable {prog:Program}{w:World}{A:Around}{E:Value->Shared->Prop}{s:Shared}{K:PySem.W.Frag}{x dx C f:Addr}{mA:Str->Option Value}{name:Str}{v:Value}
theorem get_map{expr:Bool}{Q:Value->Shared->Prop}(X:K.In s.heap)(I:ObjM s.heap x dx C mA)(hg:PySem.W.plainGet K C name=true)(hh:PySem.W.hasDictIn K C=true)
   (ha:PySem.W.findIn K (.ref C) name=some none) (hv:mA name=some v) (hv':PySem.W.handedIn v=true) (h:Q v {s with toks:=s.toks+1}):
   wpAny (model prog w) A (getAttr (.ref x) name expr) Q E s:=by
 obtain⟨od,J,hl⟩:=I.look
 exact PySem.W.get_value X J (PySem.W.plainGet_of hg).1 (PySem.W.findObj_own hh ha rfl (by rw[hl,hv])) hv' h
theorem b4p{pl:Sem Bool}{Q:Value×List Value->Shared->Prop}(X:K.In s.heap)(I:ObjM s.heap x dx C mA)(hg:PySem.W.plainGet K C name=true)
   (hf:PySem.W.findIn K (.ref C) name=some (some (.ref f))) (ht:PySem.W.isFn K (.ref f)=true) (hv:mA name=none) (h:Q (.ref f,[.ref x]) s):
   wpAny (model prog w) A (getMethod (.ref x) name pl) Q E s:=by
 obtain⟨od,J,hl⟩:=I.look
 exact PySem.W.method_fn X J (PySem.W.plainGet_of hg).1 (PySem.W.plainGet_of hg).2 hf (beq_iff_eq.mp ht) (by show(PySem.W.lookIn name od).map (·.isSome)=some false;rw[hl,hv];rfl) h
theorem set_map{ns:List Str}{Q:Unit->Shared->Prop}(X:K.In s.heap)(I:ObjM s.heap x dx C mA)
   (hs:PySem.W.findIn K (.ref C) "__setattr__"=some (some (.builtin "object.__setattr__"))) (hp:PySem.W.plainOver K C=true) (ht:PySem.W.takerIn K C name=some none) (hh:PySem.W.hasDictIn K C=true)
   (hw:PySem.Within mA ns) (hsz:ns.length<=sizeLine)
   (h: ∀h',ObjM h' x dx C (fun y=>if y=name then some v else mA y)->Heap.SameBut dx s.heap h'->Q () {s with heap:=h',toks:=s.toks+2}):
   wpAny (model prog w) A (setAttr (.ref x) name v) Q E s:=by
 obtain⟨od,J,hl⟩:=I.look
 refine PySem.W.set_plain X J hs (PySem.W.osa_open (s:={s with toks:=s.toks+1}) (r:=none) X J hp ht fun b=> ?_)
 obtain⟨cd,hc,hd'⟩:=PySem.W.any_some hh
 have hx:s.heap.get? x=some ⟨.ref C,some dx,.plain,#[]⟩:=I.obj
 refine wpAny_bind (wpAny_pure (wpAny_bind (wpAny_bind (wpAny_loadPart hx (wpAny_bind (PySem.W.Looks.here (s:={s with toks:=s.toks+1}) (PySem.W.looks_clsIn X hc) ?_))))))
 rw[hd']
 refine wpAny_pure (a:=some dx) (wpAny_bind (wpAny_pure (wpAny_bind ?_)))
 refine wpAny_nsSet1 (s:={s with toks:=s.toks+1}) I.ns fun h' hn2 hs2=> ?_
 obtain⟨oD,esD,epD,hoD,hdD,hcD⟩:=hn2.count (PySem.Within.cons name v hw)
 refine wpAny_bind (wpAny_lookBehind hoD (by rw[hdD];exact pastItsLine_dict (Nat.le_trans hcD (by rw[List.length_cons];omega))) ?_)
 exact wpAny_pure (h _ ⟨(hs2.2 _ (Ne.symm I.ne)).trans I.obj,hn2,I.ne⟩ hs2)
theorem b4e{R:Result->Shared->Prop}{vs:List Value}{kw:List (Str×Value)}(X:K.In s.heap)(hm:PySem.W.makesIn K C=true)
   (hi:PySem.W.findIn K (.ref C) "__init__"=some (some (.ref f))) (hf:PySem.W.typeIn K (.ref f)=some (.type "function"))
   (h:codeAny (model prog w) (A.under (.builtin "type.__call__" ⟨.ref C::vs,kw⟩)) (.call (.ref f) ⟨.ref (s.heap.objs.size+1)::vs,kw⟩) (PySem.W.InitBack (s.heap.objs.size+1) R)
     {s with heap:=(s.heap.push PySem.W.emptyDict).push (PySem.W.instObj C s.heap.objs.size)}):
   codeAny (model prog w) A (.call (.ref C) ⟨vs,kw⟩) R s:=by
 obtain⟨hh,g,d,t,os⟩:=s
 exact PySem.W.make_core (PySem.W.makes_of X hm) (PySem.W.looks_findIn X hi) (fun self=>PySem.W.bind_fn X self hf) (.inl rfl) h
end
noncomputable def putF(f:Str)(v:V):List (Str×V)->List (Str×V)
 | []=>[(f,v)]
 | (g,x)::r=>if g=f then(g,v)::r else(g,x)::putF f v r
theorem a5f(f g:Str)(v:V): ∀fs:List (Str×V),(putF f v fs).lookup g=if g=f then some v else fs.lookup g
 | []=>by
   show List.lookup g [(f,v)]=_
   by_cases h:g=f
   . have hb:(g==f)=true:=beq_iff_eq.mpr h
     simp only[List.lookup,hb,if_pos h]
   . have hb:(g==f)=false:=beq_eq_false_iff_ne.mpr h
     simp only[List.lookup,hb,if_neg h]
 | (k,x)::r=>by
   have ih:=a5f f g v r
   rw[show putF f v ((k,x)::r)=(if k=f then(k,v)::r else(k,x)::putF f v r)from rfl]
   by_cases hk:k=f
   . rw[if_pos hk]
     by_cases h:g=k
     . have hb:(g==k)=true:=beq_iff_eq.mpr h
       simp only[List.lookup,hb,if_pos (h.trans hk)]
     . have hb:(g==k)=false:=beq_eq_false_iff_ne.mpr h
       simp only[List.lookup,hb,if_neg (fun e:g=f=>h (e.trans hk.symm))]
   . rw[if_neg hk]
     by_cases h:g=k
     . have hb:(g==k)=true:=beq_iff_eq.mpr h
       simp only[List.lookup,hb,if_neg (fun e:g=f=>hk (h.symm.trans e))]
     . have hb:(g==k)=false:=beq_eq_false_iff_ne.mpr h
       simp only[List.lookup,hb]
       exact ih
theorem a5k(f:Str)(v:V): ∀fs:List (Str×V),f∈(putF f v fs).map (·.1)/\ ∀g,g∈fs.map (·.1)->g∈(putF f v fs).map (·.1)
 | []=>⟨by simp[putF],fun g h=>by simp at h⟩
 | (k,x)::r=>by
   obtain⟨i1,i2⟩:=a5k f v r
   rw[show putF f v ((k,x)::r)=(if k=f then(k,v)::r else(k,x)::putF f v r)from rfl]
   by_cases hk:k=f
   . rw[if_pos hk]
     subst hk
     exact⟨by simp,fun g h=>by simpa using h⟩
   . rw[if_neg hk]
     refine⟨?_,fun g h=> ?_⟩
     . rw[List.map_cons]
       exact List.mem_cons_of_mem _ i1
     . rw[List.map_cons]at h |-
       rcases List.mem_cons.mp h with e |e
       . exact List.mem_cons.mpr (.inl e)
       . exact List.mem_cons_of_mem _ (i2 g e)
theorem a5i(f:Str)(v:V): ∀fs:List (Str×V),(putF f v fs).length<=fs.length+1
 | []=>by simp[putF]
 | (k,x)::r=>by
   have ih:=a5i f v r
   rw[show putF f v ((k,x)::r)=(if k=f then(k,v)::r else(k,x)::putF f v r)from rfl]
   by_cases hk:k=f
   . rw[if_pos hk,List.length_cons,List.length_cons];omega
   . rw[if_neg hk,List.length_cons,List.length_cons];omega
theorem RelO.some_of{v:V}{o:Option Value}(r:RelO (some v) o): ∃u,o=some u/\RelV v u:=by
 cases o with
 |none=>exact(show False from r).elim
 |some u=>exact⟨u,rfl,r⟩
theorem RelO.none_of{o:Option Value}(r:RelO none o):o=none:=by
 cases o with
 |none=>rfl
 |some u=>exact(show False from r).elim
theorem b26{v:V}{u:Value}(r:RelV v u):PySem.W.handedIn u=true:=by
 cases v with
 |non=>cases(show u=Value.none from r);rfl
 |bl b=>cases(show u=Value.bool b from r);rfl
 |int i=>obtain⟨t,e⟩:=(show ∃t,u=Value.int i t from r);cases e;rfl
 |str x=>obtain⟨t,e⟩:=(show ∃t,u=Value.str x t from r);cases e;rfl
 |byt b=>obtain⟨t,e⟩:=(show ∃t,u=Value.bytes b t from r);cases e;rfl
 |flt b=>obtain⟨t,e⟩:=(show ∃t,u=Value.float b t from r);cases e;rfl
 |ref a=>cases(show u=Value.ref a from r);rfl
 |ty n=>cases(show u=Value.type n from r);rfl
section
variable {P:Program}{w:World}{H H':Hp}{h h':Heap}{a C dx:Addr}{fs fs':List (Str×V)}
theorem a63(hok:HOk P w H h)(e:H a=some (.ins C dx fs)): ∃mA,ObjM h a dx C mA/\(∀f,RelO (fs.lookup f) (mA f))/\PySem.Within mA (fs.map (·.1))/\fs.length<=1000/\H dx=some (.own a):=by
 obtain⟨d,z,ne,ob,mA,n,r,q⟩:=(show ObjOk P w H h a (.ins C dx fs)from hok a _ e)
 exact⟨mA,⟨ob,n,ne⟩,r,q,z,d⟩
end
structure Cls(K:PySem.W.Frag)(C:Addr):Prop where
 pg:PySem.W.plainGet K C Str.empty=true
 hd:PySem.W.hasDictIn K C=true
 po:PySem.W.plainOver K C=true
 sa:PySem.W.findIn K (.ref C) "__setattr__"=some (some (.builtin "object.__setattr__"))
theorem Cls.get{K:PySem.W.Frag}{C:Addr}(c:Cls K C)(f:Str):PySem.W.plainGet K C f=true:=c.pg
def NoAttr(K:PySem.W.Frag)(C:Addr)(f:Str):Prop:=PySem.W.findIn K (.ref C) f=some none
theorem NoAttr.taker{K:PySem.W.Frag}{C:Addr}{f:Str}(n:NoAttr K C f):PySem.W.takerIn K C f=some none:=by
 unfold PySem.W.takerIn
 rw[show PySem.W.findIn K (.ref C) f=some none from n]
 rfl
structure Meth(K:PySem.W.Frag)(C:Addr)(m:Str)(f:Addr):Prop where
 at_:PySem.W.findIn K (.ref C) m=some (some (.ref f))
 fn:PySem.W.isFn K (.ref f)=true
 kp:PySem.W.keepIn K (.ref f)=true
section
variable {X:Cx}{pins:List (Addr×Obj)}{σ:St}{H:Hp}{s:Shared}{a C dx:Addr}{fs:List (Str×V)}{f:Str}{v:V}{A:Around}{E:Value->Shared->Prop}
theorem b1e{b:Bool}{Q:Value->Shared->Prop}(I:Inv X pins σ H s)(e:H a=some (.ins C dx fs))(c:Cls X.K C)(n:NoAttr X.K C f)(l:fs.lookup f=some v)
   (h: ∀u s',Inv X pins σ H s'->RelV v u->Q u s'):wpAny (model X.prog X.w) A (getAttr (.ref a) f b) Q E s:=by
 obtain⟨mA,O,r,_,_,_⟩:=a63 I.hok e
 obtain⟨u,hu,ru⟩:=RelO.some_of (v:=v) (o:=mA f) (by rw[<-l];exact r f)
 exact get_map I.kIn O (c.get f) c.hd n hu (b26 ru) (h u _ (I.tok _) ru)
theorem a6h{m:Str}{g:Addr}{pl:Sem Bool}{Q:Value×List Value->Shared->Prop}(I:Inv X pins σ H s)(e:H a=some (.ins C dx fs))(c:Cls X.K C)(k:Meth X.K C m g)(l:fs.lookup m=none)
   (h:Q (.ref g,[.ref a]) s):wpAny (model X.prog X.w) A (getMethod (.ref a) m pl) Q E s:=by
 obtain⟨mA,O,r,_,_,_⟩:=a63 I.hok e
 have hn:mA m=none:=RelO.none_of (by rw[<-l];exact r m)
 exact b4p I.kIn O (c.get m) k.at_ k.fn hn h
theorem b0u{y:V}{u:Value}{Q:Unit->Shared->Prop}(I:Inv X pins σ H s)(e:H a=some (.ins C dx fs))(c:Cls X.K C)(n:NoAttr X.K C f)(hl:fs.length<1000)(ry:RelV y u)
   (h: ∀s',Inv X pins σ (upd H a (.ins C dx (putF f y fs))) s'->Q () s'):wpAny (model X.prog X.w) A (setAttr (.ref a) f u) Q E s:=by
 obtain⟨mA,O,r,wi,_,ho⟩:=a63 I.hok e
 have hz:(fs.map (·.1)).length<=sizeLine:=by rw[List.length_map,sizeLine_eq];omega
 refine set_map I.kIn O c.sa c.po n.taker c.hd wi hz fun h' O' sb=>h _ ?_
 have hd: ∃o,h'.get? dx=some o:=let ⟨o,_,_,e',_⟩:=O'.ns;⟨o,e'⟩
 refine I.write (x:=a) (e:=dx) (by rw[e];exact True.intro) (.inr ho) (fun b q hb z=>(sb.2 b hb).trans z) hd ?_
 refine⟨by rw[a0i O.ne];exact ho,?_,O.ne,O'.obj,_,O'.ns,fun g=> ?_,fun g hg=> ?_⟩
 . have:=a5i f y fs;omega
 . show RelO ((putF f y fs).lookup g) (if g=f then some u else mA g)
   rw[a5f]
   by_cases q:g=f
   . rw[if_pos q,if_pos q];exact ry
   . rw[if_neg q,if_neg q];exact r g
 . by_cases q:g=f
   . rw[q];exact(a5k f y fs).1
   . refine(a5k f y fs).2 g (wi g fun z=>hg ?_)
     show(if g=f then some u else mA g)=none
     rw[if_neg q];exact z
theorem Inv.made(I:Inv X pins σ H s):Inv X pins σ (upd (upd H s.heap.objs.size (.own (s.heap.objs.size+1))) (s.heap.objs.size+1) (.ins C s.heap.objs.size []))
   {s with heap:=(s.heap.push PySem.W.emptyDict).push (PySem.W.instObj C s.heap.objs.size)}:=by
 have e1:(s.heap.push PySem.W.emptyDict).get? s.heap.objs.size=some PySem.W.emptyDict:=Heap.get?_push_size s.heap rfl
 have e2:((s.heap.push PySem.W.emptyDict).push (PySem.W.instObj C s.heap.objs.size)).get? (s.heap.objs.size+1)=some (PySem.W.instObj C s.heap.objs.size):=by
   have:=Heap.get?_push_size (s.heap.push PySem.W.emptyDict) (o:=PySem.W.instObj C s.heap.objs.size) rfl
   rwa [Heap.size_push]at this
 have e3:(s.heap.push PySem.W.emptyDict).Ns s.heap.objs.size (fun _=>none):=⟨PySem.W.emptyDict,#[],_,e1,rfl,(fun e he=>absurd he (by simp)),fun _=>rfl⟩
 have I1:=I.laid (a:=s.heap.objs.size) (o:= .own (s.heap.objs.size+1)) (h':=s.heap.push PySem.W.emptyDict) (t':=s.toks) (fun b u q=>Heap.get?_push_of_some _ q) (Nat.le_refl _) ⟨_,e1⟩
 refine I1.laid (a:=s.heap.objs.size+1) (o:= .ins C s.heap.objs.size []) (t':=s.toks) (fun b u q=>Heap.get?_push_of_some _ q) (Nat.le_of_eq (Heap.size_push _ _)) ?_
 have ne:s.heap.objs.size≠s.heap.objs.size+1:=Nat.ne_of_lt (Nat.lt_succ_self _)
 refine⟨by rw[a0i ne,a0p],Nat.zero_le _,ne,e2,fun _=>none,(Heap.Ns1.of_empty e3).at fun o q=>Heap.get?_push_of_some _ q,fun _=>True.intro,fun y hy=>absurd rfl hy⟩
theorem attr_of{prog:Program}{w:World}{env:Env}{e:Expr}{f:Str}{pos:Pos}{s:Shared}{Q:Value->Shared->Prop}(hb:attributeBase e f env (eval e env)=eval e env)
   (h:wpAny (model prog w) A (eval e env) (fun o s₁=>wpAny (model prog w) A (getAttr o f true) Q E s₁) E s):wpAny (model prog w) A (eval (.Attribute e f pos) env) Q E s:=
 Attribute_any_ h (by rw[arm_eval_Attribute,hb])
end
def tFld(K:PySem.W.Frag)(ta:TE)(f:Str):TE:=fun σ H Q=>ta σ H fun x H1=> ∃a C dx fs v,x= .ref a/\H1 a=some (.ins C dx fs)/\Cls K C/\NoAttr K C f/\fs.lookup f=some v/\Q v H1
noncomputable def sFld(K:PySem.W.Frag)(ta tv:TE)(f:Str):TS:=fun D σ H=>tv σ H fun y H1=>ta σ H1 fun x H2=> ∃a C dx fs,x= .ref a/\H2 a=some (.ins C dx fs)/\Cls K C/\NoAttr K C f/\fs.length<1000/\
 D.nx σ (upd H2 a (.ins C dx (putF f y fs)))
section
variable {X:Cx}{o e value:Expr}{f:Str}{pos pos' tpos:Pos}{ta tv:TE}
theorem pe_fld(he:PE X e ta)(hb:attributeBase e f X.env (eval e X.env)=eval e X.env):PE X (.Attribute e f pos) (tFld X.K ta f):=by
 intro pins s σ H Q I h
 refine attr_of hb (thn (he pins s σ H _ I h) fun u s1 zz9=> ?_)
 obtain⟨x,H1,I1,rx,a,C,dx,fs,v,ex,ea,c,n,l,q⟩:=zz9
 subst ex
 obtain rfl:u=Value.ref a:=rx
 exact b1e I1 ea c n l fun u' s2 I2 ru=>⟨v,H1,I2,ru,q⟩
theorem ps_fld(ha:PE X o ta)(hv:PE X value tv)(hs:swapsWith value (some (.Attribute o f pos')) pos.line X.env=pure false):PS X (.Assign [.Attribute o f pos'] value pos) (sFld X.K ta tv f):=by
 intro pins s σ H D I h
 refine plainObj_wpAny_Assign_Attribute (thn (hv pins s σ H _ I h) fun u s1 ⟨y,H1,I1,ry,q⟩=>thn (ha pins s1 σ H1 _ I1 q) fun ov s2 ⟨x,H2,I2,rx,a,C,dx,fs,ex,ea,c,n,l,q2⟩=> ?_) hs
 subst ex
 obtain rfl:ov=Value.ref a:=rx
 exact b0u I2 ea c n l ry fun s3 I3=>⟨σ,_,I3,q2⟩
end
section
variable {X:Cx}{pins:List (Addr×Obj)}{σ:St}{H:Hp}{s:Shared}{A:Around}{E:Value->Shared->Prop}{Q:Value->Shared->Prop}{c:Value}{b:Bool}
inductive TyOf(K:PySem.W.Frag)(H:Hp):V->Value->Prop where
 |non:TyOf K H .non (.type "NoneType")
 |bl (x:Bool):TyOf K H (.bl x) (.type "bool")
 |int (i:Int):TyOf K H (.int i) (.type "int")
 |str (x:Str):TyOf K H (.str x) (.type "str")
 |flt (x:UInt64):TyOf K H (.flt x) (.type "float")
 |lst {a:Addr}{xs:List V} (e:H a=some (.lst xs)):TyOf K H (.ref a) (.type "list")
 |frz {a:Addr}{o:Obj}{xs:List V} (e:H a=some (.frz o (.lst xs))):TyOf K H (.ref a) (.type "list")
 |tup {a:Addr}{xs:List V} (e:H a=some (.tup xs)):TyOf K H (.ref a) (.type "tuple")
 |dK {a:Addr}{kvs:List (Key×V)} (e:H a=some (.dK kvs)):TyOf K H (.ref a) (.type "dict")
 |dT {a:Addr}{kvs:List (List Key×V)} (e:H a=some (.dT kvs)):TyOf K H (.ref a) (.type "dict")
 |ins {a C dx:Addr}{fs:List (Str×V)} (e:H a=some (.ins C dx fs)) (cl:Cls K C) (ha:PySem.W.findIn K (.ref C) "__class__"=some (some (.builtin "object.__class__")))
     (hn:PySem.W.specialIn K (.builtin "object.__class__") "__get__"=some (some (.builtin "getset_descriptor.__get__"))) (htk:PySem.W.takesIn K (.builtin "object.__class__")=some true)
     (hm:PySem.W.mroIn K C (.type "object")=some true):TyOf K H (.ref a) (.ref C)
theorem b20{x:V}{u t:Value}(I:Inv X pins σ H s)(rx:RelV x u)(ty:TyOf X.K H x t)(e:PySem.W.kitOne X.K t c=some b)(h: ∀tk,Q (.bool b) {s with toks:=tk}):
   wpAny (model X.prog X.w) A (call (.builtin "isinstance") [u,c]) Q E s:=by
 cases ty with
 |non=>cases(show u=Value.none from rx);exact PySem.W.kia_one PySem.W.kitx_none I.kIn True.intro e (fun z=>nomatch z) h
 |bl y=>cases(show u=Value.bool y from rx);exact PySem.W.kia_one PySem.W.kitx_bool I.kIn True.intro e (fun z=>nomatch z) h
 |int i=>obtain⟨t,q⟩:=(show ∃t,u=Value.int i t from rx);cases q;exact PySem.W.kia_one PySem.W.kitx_int I.kIn True.intro e (fun z=>nomatch z) h
 |str y=>obtain⟨t,q⟩:=(show ∃t,u=Value.str y t from rx);cases q;exact PySem.W.kia_one PySem.W.kitx_str I.kIn True.intro e (fun z=>nomatch z) h
 |flt y=>obtain⟨t,q⟩:=(show ∃t,u=Value.float y t from rx);cases q;exact PySem.W.kia_one PySem.W.kitx_float I.kIn True.intro e (fun z=>nomatch z) h
 | @lst a xs ea=>
   cases(show u=Value.ref a from rx)
   obtain⟨_,_,n,_,h1⟩:=(show ObjOk X.prog X.w H s.heap a (.lst xs)from I.hok a _ ea)
   exact PySem.W.kia_one PySem.W.kitx_list I.kIn ⟨_,h1,rfl⟩ e (fun z=>nomatch z) h
 | @frz a ob xs ea=>
   cases(show u=Value.ref a from rx)
   obtain⟨_,_,_,n,_,h1⟩:=(show ObjOk X.prog X.w H s.heap a (.frz ob (.lst xs))from I.hok a _ ea)
   exact PySem.W.kia_one PySem.W.kitx_list I.kIn ⟨_,h1,rfl⟩ e (fun z=>nomatch z) h
 | @tup a xs ea=>
   cases(show u=Value.ref a from rx)
   obtain⟨_,_,_,p⟩:=(show ObjOk X.prog X.w H s.heap a (.tup xs)from I.hok a _ ea)
   obtain⟨o,h1,h2,_⟩:=p
   exact PySem.W.kia_one PySem.W.kitx_tuple I.kIn ⟨o,h1,h2⟩ e (fun z=>nomatch z) h
 | @dK a kvs ea=>
   cases(show u=Value.ref a from rx)
   obtain⟨_,_,vs,_,p⟩:=(show ObjOk X.prog X.w H s.heap a (.dK kvs)from I.hok a _ ea)
   obtain⟨o,es,ep,h1,h2,_⟩:=p
   exact PySem.W.kia_one PySem.W.kitx_dict I.kIn ⟨o,h1,h2.1⟩ e (fun z=>nomatch z) h
 | @dT a kvs ea=>
   cases(show u=Value.ref a from rx)
   obtain⟨_,_,xs,_,o,es,ep,h1,h2,_⟩:=(show ObjOk X.prog X.w H s.heap a (.dT kvs)from I.hok a _ ea)
   exact PySem.W.kia_one PySem.W.kitx_dict I.kIn ⟨o,h1,h2.1⟩ e (fun z=>nomatch z) h
 | @ins a C dx fs ea cl ha hn htk hm=>
   cases(show u=Value.ref a from rx)
   obtain⟨mA,O,_⟩:=a63 I.hok ea
   obtain⟨od,J,_⟩:=O.look
   exact PySem.W.kia_one (PySem.W.kitx_own (cl.get _) cl.hd ha hn htk hm) I.kIn J e (fun z=>nomatch z) h
end
structure Room(k:Nat)(A:Around):Prop where
 hd:A.handled=none
 dp:A.depth+3 *k+5<recursionLimit
 un:A.units+16 *k+200<cLine
theorem Room.mono{j k:Nat}{A:Around}(r:Room k A)(h:j<=k):Room j A:=⟨r.hd,by have:=r.dp;omega,by have:=r.un;omega⟩
theorem Room.deeper{k:Nat}{A:Around}(r:Room (k+1) A)(env:Env):Room k (A.deeper env):=
 ⟨r.hd,by have:=r.dp;show A.depth+1+3 *k+5<_;omega,by have:=r.un;show A.units+3+16 *k+200<_;omega⟩
theorem Room.in1{k:Nat}{A:Around}(r:Room (k+1) A):Room k A.in1:=
 ⟨r.hd,by have:=r.dp;show A.depth+3 *k+5<_;omega,by have:=r.un;show A.units+1+16 *k+200<_;omega⟩
theorem b05{A:Around}{C:Addr}{us:List Value}{kw:List (Str×Value)}:(A.under (.builtin "type.__call__" ⟨.ref C::us,kw⟩)).depth=A.depth+1:=by
 first |rfl |simp[Around.under,Code.weight,Code.isCreation,Code.isGuard,Code.isCaller,Code.frames,Code.isFrame,guardIds]
theorem b04{A:Around}{C:Addr}{us:List Value}{kw:List (Str×Value)}:(A.under (.builtin "type.__call__" ⟨.ref C::us,kw⟩)).units=A.units+1:=by
 first |rfl |simp[Around.under,Code.cUnits,Code.frames,Code.isFrame]
theorem Room.make{k:Nat}{A:Around}(r:Room (k+1) A)(C:Addr)(us:List Value)(kw:List (Str×Value)):Room k (A.under (.builtin "type.__call__" ⟨.ref C::us,kw⟩)):=
 ⟨r.hd,by have:=r.dp;rw[b05];omega,by have:=r.un;rw[b04];omega⟩
theorem Room.depth{k:Nat}{A:Around}(r:Room k A):A.depth<recursionLimit:=by have:=r.dp;omega
theorem Room.units{k:Nat}{A:Around}(r:Room k A):A.units+64<cLine:=by have:=r.un;omega
def tNil:TA:=fun _ H Q=>Q [] H
def tCons(ta:TE)(tr:TA):TA:=fun σ H Q=>ta σ H fun x H1=>tr σ H1 fun xs H2=>Q (x::xs) H2
section
variable {X:Cx}{e:Expr}{es:List Expr}{te:TE}{t:TA}{pos:Pos}
theorem pa_nil:PA X [] tNil:=fun _ _ _ _ H Q I h=>Calls.spliced_nil ⟨[],H,I,.nil,h⟩
theorem a1y(ha:PE X e te)(hr:PA X es t)(hs:starEach (e::es) X.env=(false,eval e X.env)::starEach es X.env:=by rfl):PA X (e::es) (tCons te t):=by
 intro pos pins s σ H Q I h
 rw[hs]
 show wpAny _ _ (spliced ((false,eval e X.env)::backTo pos (starEach es X.env))) _ _ s
 refine Calls.spliced_cons (thn (ha pins s σ H _ I h) fun u s1 zz9=> ?_)
 obtain⟨x,H1,I1,r1,q1⟩:=zz9
 exact thn (hr pos pins s1 σ H1 _ I1 q1) fun us s2 ⟨xs,H2,I2,r2,q2⟩=>⟨x::xs,H2,I2,.cons r1 r2,q2⟩
def tTup(t:TA):TE:=fun σ H Q=>t σ H fun xs H1=>xs.length<=sizeLine/\ ∀p,H1 p=none->Q (.ref p) (upd H1 p (.tup xs))
def tLst(t:TA):TE:=fun σ H Q=>t σ H fun xs H1=>xs.length<=sizeLine/\ ∀p,H1 p=none->Q (.ref p) (upd H1 p (.lst xs))
theorem pe_tup{x1}(h:PA X es t):PE X (.Tuple es x1 pos) (tTup t):=by
 intro pins s σ H Q I hq
 refine wpAny_Tuple_spliced (thn (h pos pins s σ H _ I hq) fun us s1 ⟨xs,H1,I1,r,z,q⟩=>⟨by rw[<-r.length];exact z,?_⟩)
 have hf:H1 s1.heap.objs.size=none:=I1.hok.fresh (Nat.le_refl _)
 refine⟨.ref s1.heap.objs.size,upd H1 s1.heap.objs.size (.tup xs),I1.laid (t':=s1.toks) (fun b u e=>Heap.get?_push_of_some _ e) (Nat.le_refl _) ?_,rfl,q _ hf⟩
 exact⟨z,us,r,⟨_,Heap.get?_push_size _ rfl,rfl,_,rfl⟩⟩
theorem pe_lst(h:PA X es t):PE X (.List es pos) (tLst t):=by
 intro pins s σ H Q I hq
 refine wpAny_List_spliced (thn (h pos pins s σ H _ I hq) fun us s1 ⟨xs,H1,I1,r,z,q⟩=>⟨by rw[<-r.length];exact z,?_⟩)
 have hf:H1 s1.heap.objs.size=none:=I1.hok.fresh (Nat.le_refl _)
 refine⟨.ref s1.heap.objs.size,upd H1 s1.heap.objs.size (.lst xs),I1.laid (t':=s1.toks) (fun b u e=>Heap.get?_push_of_some _ e) (Nat.le_refl _) ?_,rfl,q _ hf⟩
 exact⟨z,us,0,r,Heap.get?_push_size _ rfl⟩
end
noncomputable abbrev Sp:=List V->Hp->VK->XK->Prop
noncomputable abbrev CXT:=List Env->Hp->Shared->XK->Value->Shared->Prop
structure Env0(P:Program)(w:World)(K:PySem.W.Frag)(mg:Str->Option Value)(base:Heap)(A:Around)(outer:List Env)(s:Shared)(H:Hp):Prop where
 frames:A.frames=some outer
 mod:Mod K mg base
 bs: ∀b o,base.get? b=some o->s.heap.get? b=some o/\H b=none
 bsz:base.objs.size<=s.heap.objs.size
 funs:s.heap.FunFrames base outer
 frf: ∀b∈frs outer,H b=none
 hok:HOk P w H s.heap
 bare:AllBare s.gens
def CE(outer:List Env)(P:Program)(w:World)(H:Hp)(s:Shared)(Q:VK)(u:Value)(s':Shared):Prop:=
 ∃v H',s'.os=s.os/\AllBare s'.gens/\Un (frs outer) [] H H' s.heap s'.heap/\HOk P w H' s'.heap/\RelV v u/\Q v H'
def CR(CX:CXT)(outer:List Env)(P:Program)(w:World)(H:Hp)(s:Shared)(Q:VK)(E:XK)(r:Result)(s':Shared):Prop:=
 match r with
 | .ok (.ret u)=>CE outer P w H s Q u s'
 | .ok _=>False
 | .error e=>CX outer H s E e s'
structure FnOk(P:Program)(w:World)(K:PySem.W.Frag)(mg:Str->Option Value)(base:Heap)(CX:CXT)(k:Nat)(f:Addr)(fd:FuncData)(ps:List Str)(sp:Sp):Prop where
 len: ∀vs H Q E,sp vs H Q E->vs.length=ps.length
 run: ∀(A:Around) (outer:List Env) (s:Shared) (H:Hp) (args:Args) (us:List Value) (vs:List V) (Q:VK) (E:XK),Room k A->Env0 P w K mg base A outer s H->BindsTo s fd args (ps.zip us)->Vals vs us->sp vs H Q E->
   codeAny (model P w) A (.call (.ref f) args) (CR CX outer P w H s Q E) s
theorem Env0.make{P:Program}{w:World}{K:PySem.W.Frag}{mg:Str->Option Value}{base:Heap}{A:Around}{outer:List Env}{s:Shared}{H:Hp}(e:Env0 P w K mg base A outer s H)(C:Addr)(us:List Value)(kw:List (Str×Value)):
   Env0 P w K mg base (A.under (.builtin "type.__call__" ⟨.ref C::us,kw⟩)) outer s H:=⟨by first |exact e.frames | (simpa[Around.under,Code.envs,Code.isFrame,pushEnvs]using e.frames),e.mod,e.bs,e.bsz,e.funs,e.frf,e.hok,e.bare⟩
section
variable {X:Cx}{pins:List (Addr×Obj)}{σ:St}{H:Hp}{s s':Shared}
theorem Inv.env0(I:Inv X pins σ H s):Env0 X.prog X.w X.K X.mg X.base X.A X.stack s H:=
 ⟨I.ok.frames,I.ok.mod,I.bs,Nat.le_trans I.ok.bsz I.sz,I.stack,I.stkFree,I.hok,I.bare⟩
theorem Inv.after{Q:VK}{u:Value}(I:Inv X pins σ H s)(h:CE X.stack X.prog X.w H s Q u s'):EP X pins σ Q u s':=by
 obtain⟨v,H',os,bare,un,hok,r,q⟩:=h
 obtain⟨hh,g,d,t,os'⟩:=s'
 obtain rfl:os'=s.os:=os
 exact⟨v,H',I.call (h':=hh) (g':=g) (d':=d) (t':=t) (ch:=[]) un hok bare (fun b z=>absurd z (by simp)),r,q⟩
end
def tCall(sp:Sp)(dvs:List V)(E:XK)(t:TA):TE:=fun σ H Q=>t σ H fun vs H1=>sp (vs++dvs) H1 Q E
def tMake(C:Addr)(sp:Sp)(dvs:List V)(E:XK)(t:TA):TE:=fun σ H Q=>t σ H fun vs H1=> ∀x dx,H1 x=none->H1 dx=none->dx≠x->
 sp (.ref x::(vs++dvs)) (upd (upd H1 dx (.own x)) x (.ins C dx [])) (fun v H2=>v= .non/\Q (.ref x) H2) E
def Binds(K:PySem.W.Frag)(fd:FuncData)(ps:List Str)(ds:List Value):Prop:=
 ∀(s:Shared) (us:List Value),K.In s.heap->(us++ds).length=ps.length->BindsTo s fd ⟨us,[]⟩ (ps.zip (us++ds))
theorem Binds.all{K:PySem.W.Frag}{fd:FuncData}{ps:List Str}(h: ∀us:List Value,us.length=ps.length->bindArgs fd ⟨us,[]⟩=pure (ps.zip us)):Binds K fd ps []:=fun s us _ hl=>by
 rw[List.append_nil]at hl |-
 exact .of_eq (h us hl)
def b3m(CX:CXT)(X:Cx)(E:XK):Prop:= ∀(pins:List (Addr×Obj)) (σ:St) (H:Hp) (s:Shared) (e:Value) (s':Shared),Inv X pins σ H s->CX X.stack H s E e s'->X.xe e s'
section
variable {X:Cx}{CX:CXT}{k:Nat}{f C:Addr}{fd:FuncData}{ps:List Str}{sp:Sp}{dvs:List V}{ds:List Value}{E:XK}{x m:Str}{p pos apos:Pos}{e o:Expr}{es:List Expr}{ta:TE}{t:TA}
structure Mk(K:PySem.W.Frag)(C f:Addr):Prop where
 makes:PySem.W.makesIn K C=true
 init:PySem.W.findIn K (.ref C) "__init__"=some (some (.ref f))
 fn:PySem.W.isFn K (.ref f)=true
 kp:PySem.W.keepIn K (.ref C)=true
theorem b3s{pins:List (Addr×Obj)}{σ:St}{H:Hp}{s:Shared}{Q:VK}{us:List Value}{vs:List V}(M:Mk X.K C f)(F:FnOk X.prog X.w X.K X.mg X.base CX k f fd ps sp)(hr:Room (k+1) X.A)(hb:Binds X.K fd ps ds)(hd:Vals dvs ds)
   (hx:b3m CX X E) (I:Inv X pins σ H s) (r:Vals vs us)
   (h: ∀x dx,H x=none->H dx=none->dx≠x->sp (.ref x::(vs++dvs)) (upd (upd H dx (.own x)) x (.ins C dx [])) (fun v H2=>v= .non/\Q (.ref x) H2) E):
   wpAny (model X.prog X.w) X.A (call (.ref C) us) (EP X pins σ Q) X.xe s:=by
 have hq:=h (s.heap.objs.size+1) s.heap.objs.size (I.hok.fresh (Nat.le_succ _)) (I.hok.fresh (Nat.le_refl _)) (Nat.ne_of_lt (Nat.lt_succ_self _))
 have I2:=Inv.made (C:=C) I
 have r2:Vals (V.ref (s.heap.objs.size+1)::(vs++dvs)) (Value.ref (s.heap.objs.size+1)::(us++ds)):= .cons rfl (r.append hd)
 have hl:(Value.ref (s.heap.objs.size+1)::us++ds).length=ps.length:=by
   have e:=r2.length
   rw[F.len _ _ _ _ hq]at e
   exact e.symm
 refine wpAny_call (b4e (f:=f) I.kIn M.makes M.init (beq_iff_eq.mp M.fn) (codeAny_mono (F.run _ X.stack _ _ ⟨Value.ref (s.heap.objs.size+1)::us,[]⟩ (Value.ref (s.heap.objs.size+1)::(us++ds)) _ _ E (hr.make C us [])
   (I2.env0.make C us []) (hb _ (Value.ref (s.heap.objs.size+1)::us) I2.kIn hl) r2 hq) fun r s' hq'=> ?_))
 cases r with
 |error e=>exact hx pins σ _ _ e s' I2 hq'
 |ok fl=>
   cases fl with
   |ret u=>
     obtain⟨v,H',I3,rv,ev,q3⟩:=I2.after hq'
     subst ev
     exact⟨rv,⟨V.ref (s.heap.objs.size+1),H',I3,rfl,q3⟩⟩
   |next=>exact False.elim hq'
   |brk=>exact False.elim hq'
   |cont=>exact False.elim hq'
theorem b31(M:Mk X.K C f)(F:FnOk X.prog X.w X.K X.mg X.base CX k f fd ps sp)(hr:Room (k+1) X.A)(hg:Gl X x)(hm:X.mg x=some (.ref C))(hb:Binds X.K fd ps ds)(hd:Vals dvs ds)(hx:b3m CX X E)
   (hdb:(x==("__debug__":Str))=false:=by decide):PE X (.Call (.Name x p) [] [] pos) (tMake C sp dvs E tNil):=by
 intro pins s σ H Q I h
 refine wpAny_Call_Name_kw (a2k I hg hm ?_ hdb)
 exact PySem.W.callWith_K0 I.kIn M.kp (b3s (us:=[]) M F hr hb hd hx I .nil h)
end
section
variable {X:Cx}{CX:CXT}{k:Nat}{f C:Addr}{fd:FuncData}{ps ks:List Str}{sp:Sp}{E:XK}{x m:Str}{p pos apos kpos:Pos}{e o:Expr}{es:List Expr}{kws:List Keyword}{te ta:TE}{t tk:TA}{nm:Option Str}
variable {g:List Value->List Value->List Value}{gV:List V->List V->List V}
end
structure FnScope(N P:List Str)(sc:Scope):Prop where
 kind:sc.kind= .function
 co:sc.isCoroutine=false
 gen:sc.isGenerator=false
 nd:N.Nodup
 pre:N.take P.length=P
 par: ∀x∈P,sc.names.lookup x=some .local\/sc.names.lookup x=some .cell
 nofree: ∀y∈sc.names,y.2≠ .free
theorem a8j{kindOf:Str->Option NameKind}{x:Str}: ∀{binds:List (Str×Value)}{m:Str->Option Value},(∀v,(x,v)∉binds)->bindL kindOf binds m x=m x
 | [],_,_=>rfl
 | (n,v)::r,m,h=>by
   unfold bindL
   rw[a8j fun w hw=>h w (List.mem_cons_of_mem _ hw)]
   split
   . have:x≠n:=by rintro rfl;exact h v List.mem_cons_self
     simp[this]
   . rfl
theorem a8l{kindOf:Str->Option NameKind}{x:Str}: ∀{binds:List (Str×Value)}{m:Str->Option Value},(∀v,(x,v)∉binds)->bindC kindOf binds m x=m x
 | [],_,_=>rfl
 | (n,v)::r,m,h=>by
   unfold bindC
   rw[a8l fun w hw=>h w (List.mem_cons_of_mem _ hw)]
   split
   . rfl
   . have:x≠n:=by rintro rfl;exact h v List.mem_cons_self
     simp[this]
theorem a8k{kindOf:Str->Option NameKind}{x:Str}{v:Value}: ∀{P:List Str}{vs:List Value}{i:Nat}{m:Str->Option Value},P.Nodup->P[i]? =some x->vs[i]? =some v->kindOf x=some .local->
   bindL kindOf (P.zip vs) m x=some v
 | [],_,_,_,_,h,_,_=>by simp at h
 |_::_,[],_,_,_,_,h,_=>by simp at h
 |p::P,w::vs,0,m,nd,h1,h2,hk=>by
   simp at h1 h2;subst h1;subst h2
   show bindL kindOf ((p,w)::P.zip vs) m p=_
   unfold bindL
   rw[a8j fun v hv=>(List.nodup_cons.mp nd).1 (List.of_mem_zip hv).1,if_pos hk]
   simp
 |p::P,w::vs,i+1,m,nd,h1,h2,hk=>by
   show bindL kindOf ((p,w)::P.zip vs) m x=_
   unfold bindL
   exact a8k (i:=i) (List.nodup_cons.mp nd).2 (by simpa using h1) (by simpa using h2) hk
theorem a8m{kindOf:Str->Option NameKind}{x:Str}{v:Value}: ∀{P:List Str}{vs:List Value}{i:Nat}{m:Str->Option Value},P.Nodup->P[i]? =some x->vs[i]? =some v->kindOf x≠some .local->
   bindC kindOf (P.zip vs) m x=some v
 | [],_,_,_,_,h,_,_=>by simp at h
 |_::_,[],_,_,_,_,h,_=>by simp at h
 |p::P,w::vs,0,m,nd,h1,h2,hk=>by
   simp at h1 h2;subst h1;subst h2
   show bindC kindOf ((p,w)::P.zip vs) m p=_
   unfold bindC
   rw[a8l fun v hv=>(List.nodup_cons.mp nd).1 (List.of_mem_zip hv).1,if_neg hk]
   simp
 |p::P,w::vs,i+1,m,nd,h1,h2,hk=>by
   show bindC kindOf ((p,w)::P.zip vs) m x=_
   unfold bindC
   exact a8m (i:=i) (List.nodup_cons.mp nd).2 (by simpa using h1) (by simpa using h2) hk
noncomputable def a2y(N:List Str)(vs:List V):St:=vs.map some++List.replicate (N.length- vs.length) none
noncomputable def cxOf(CX:CXT)(P:Program)(w:World)(K:PySem.W.Frag)(mg:Str->Option Value)(base:Heap)(N:List Str)(qual:Str)(scope:Scope)(f:Addr)(cd:Value)(A:Around)(outer:List Env)(s:Shared)(H:Hp)(E:XK):Cx where
 prog:=P
 w:=w
 K:=K
 mg:=mg
 base:=base
 A:=A.deeper (envOfC qual scope s.heap.objs.size f cd)
 N:=N
 s₀:=s
 H₀:=H
 env:=envOfC qual scope s.heap.objs.size f cd
 outer:=outer
 stack:=envOfC qual scope s.heap.objs.size f cd::outer
 ex:=[]
 calm:=true
 fn:=fun _=>true
 pn:=[]
 xe:=fun e s'=>wpAny (model P w) (A.deeper (envOfC qual scope s.heap.objs.size f cd)) (leaving (envOfC qual scope s.heap.objs.size f cd) e) (fun _ s''=>CX outer H s E e s'') (fun e' s''=>CX outer H s E e' s'') s'
theorem b0n{sc:Scope}{n:Nat}{x:Str}(h:sc.names.lookup x=some .cell): ∃c,(cellsFrom n sc.names []).lookup x=some c:=by
 have q:=PySem.W.cellsFrom_some sc.names n [] (.inl h)
 exact Option.isSome_iff_exists.mp q
theorem a79{CX:CXT}{P:Program}{w:World}{K:PySem.W.Frag}{mg:Str->Option Value}{base:Heap}{N ps:List Str}{qual:Str}{scope:Scope}{f:Addr}{cd:Value}{A:Around}{outer:List Env}{s s1:Shared}{H:Hp}{E:XK}{us:List Value}{vs:List V}
   (S:FnScope N ps scope) (hd:A.handled=none) (e0:Env0 P w K mg base A outer s H) (hl:vs.length=ps.length) (r:Vals vs us)
   (x:InCallC s s.heap.objs.size (bindL (envOfC qual scope s.heap.objs.size f cd).kindOf (ps.zip us) fun _=>none) (cellsFrom (s.heap.objs.size+1) scope.names []) (bindC (envOfC qual scope s.heap.objs.size f cd).kindOf (ps.zip us) fun _=>none) s1):
   Inv (cxOf CX P w K mg base N qual scope f cd A outer s H E) [] (a2y N vs) H s1:=by
 have hpl:ps.length<=N.length:=by have:=congrArg List.length S.pre;rw[List.length_take]at this;omega
 obtain⟨h1,tk,rfl,hk⟩:=x.done
 have noA: ∀b:Addr,b∉(cxOf CX P w K mg base N qual scope f cd A outer s H E).ex:=fun b z=>absurd (show b∈([]:List Addr)from z) (by simp)
 refine⟨⟨e0.mod,S.kind,rfl,rfl,Nat.le_refl _,fun y z c h1 h2=> ?_,fun y hy=> ?_,fun y c _ h=> ?_,fun _=>hd,Around.frames_deeper e0.frames,.inr ⟨rfl,rfl⟩,fun b z=>absurd z (noA b),e0.bs,e0.bsz,fun b _ _=>noA b,fun b z=>absurd z (noA b),e0.funs,e0.frf⟩,
   rfl,e0.bare,Un.kept hk,⟨_,x.toInCall.ns,fun i y v h1 h2 h3=> ?_⟩,fun y c h=>⟨_,x.cell y c h⟩,e0.hok.fresh (Nat.le_refl _),fun y c h=> ?_,fun p hp=>absurd (show p∈([]:List (Addr×Obj))from hp) (by simp),e0.hok.kept hk,?_⟩
 . exact name_of_addr x.apart (PySem.mem_of_lookup h1) (PySem.mem_of_lookup h2)
 . have hy:scope.names.lookup y=some .cell\/scope.names.lookup y=some .free:=hy
   rcases hy with hy |hy
   . exact b0n hy
   . exact absurd rfl (S.nofree _ (PySem.mem_of_lookup hy))
 . exact Nat.le_of_lt (x.above y c (PySem.mem_of_lookup h))
 . have hi:i<vs.length:=by
     unfold a2y at h2
     by_cases hi:i<vs.length
     . exact hi
     . rw[List.getElem?_append_right (by simpa using hi)]at h2
       rw[List.getElem?_replicate]at h2
       split at h2<;>cases h2
   have ha:vs[i]? =some v:=by
     unfold a2y at h2
     rw[List.getElem?_append_left (by simpa using hi),List.getElem?_map]at h2
     cases e:vs[i]? with
     |none=>rw[e]at h2;cases h2
     |some a=>rw[e]at h2;cases h2;rfl
   obtain⟨u,hu,rv⟩:=r.get ha
   have hp:ps[i]? =some y:=by
     rw[<-S.pre,List.getElem?_take_of_lt (by omega)];exact h1
   have ndP:ps.Nodup:=by rw[<-S.pre];exact S.nd.sublist (List.take_sublist _ _)
   refine⟨u,rv,?_⟩
   rcases S.par y (List.mem_of_getElem? hp)with k |k
   . exact .inl ⟨k,a8k ndP hp hu k⟩
   . obtain⟨c,e⟩:=b0n (n:=s.heap.objs.size+1) k
     refine .inr ⟨.inl k,c,e,?_⟩
     have q:=x.cell y c e
     rw[a8m ndP hp hu (by show scope.names.lookup y≠_;rw[k];decide)]at q
     exact q
 . exact e0.hok.fresh (Nat.le_of_lt (x.above y c (PySem.mem_of_lookup h)))
 . unfold a2y
   show _=N.length
   rw[List.length_append,List.length_map,List.length_replicate]
   omega
theorem fn_of{CX:CXT}{P:Program}{w:World}{K:PySem.W.Frag}{mg:Str->Option Value}{base:Heap}{k:Nat}{f:Addr}{name qual:Str}{params:Arguments}{body:List Stmt}{scope:Scope}{dV kV doc pm cdv ct oc:Value}{an od:Option Addr}
   {osl:Array (Option Value)}{N ps:List Str}{sp:Sp} (lk:K.lookup f=some ⟨oc,od,.func (PySem.W.fnOf name qual params body scope dV kV doc pm an cdv ct),osl⟩) (hcd:PySem.W.codeIn K cdv qual=true) (S:FnScope N ps scope)
   (len: ∀vs H Q E,sp vs H Q E->vs.length=ps.length)
   (hbody: ∀(A:Around) (outer:List Env) (s:Shared) (H:Hp) (vs:List V) (Q:VK) (E:XK),Room k (A.deeper (envOfC qual scope s.heap.objs.size f cdv))->sp vs H Q E->
     ∃t,PSs (cxOf CX P w K mg base N qual scope f cdv A outer s H E) body t/\t {nx:=fun _ H'=>Q .non H',rt:=Q} (a2y N vs) H):
   FnOk P w K mg base CX (k+1) f (PySem.W.fnOf name qual params body scope dV kV doc pm an cdv ct) ps sp:=by
 refine⟨len,fun A outer s H args us vs Q E hr e0 hb r hsp=> ?_⟩
 have hl:=len _ _ _ _ hsp
 have KX:K.In s.heap:=e0.mod.kin.keeps fun b o e=>(e0.bs b o e).1
 have lim:s.heap.NoLimit:=e0.mod.nolimit.keeps fun b o e=>(e0.bs b o e).1
 have hkind: ∀y∈ps.zip us,scope.names.lookup y.1=some .local\/(scope.names.lookup y.1=some .cell/\((cellsFrom (s.heap.objs.size+1) scope.names []).lookup y.1).isSome=true):=fun ⟨n,v⟩ hy=>by
   rcases S.par n (List.of_mem_zip hy).1 with q |q
   . exact .inl q
   . exact .inr ⟨q,PySem.W.cellsFrom_some _ _ _ (.inl q)⟩
 refine codeAny_call_function hr.depth (KX _ _ lk) rfl S.co S.gen rfl (PySem.W.codeRec_of KX hcd) (hb _ _ _ _ ?_)
 refine wpAny_newFunctionEnv_cells S.kind hkind fun env he s1 x=> ?_
 subst he
 refine⟨lim.keeps x.toInCall.keep,codeAny_func ?_⟩
 obtain⟨t,ht,hq⟩:=hbody A outer s H vs Q E (hr.deeper _) hsp
 have I:Inv (cxOf CX P w K mg base N qual scope f cdv A outer s H E) [] (a2y N vs) H s1:=a79 S hr.hd e0 hl r x
 refine wpAny_mono (ht [] s1 (a2y N vs) H _ I hq) (fun fl s' hs=> ?_) fun e s' hs=>hs
 have fin: ∀{σ':St}{H':Hp}{v:V}{u:Value},Inv (cxOf CX P w K mg base N qual scope f cdv A outer s H E) [] σ' H' s'->RelV v u->Q v H'->CE outer P w H s Q u s':=
   fun {σ' H' v u} J rv q=>⟨v,H',J.os,J.bare,J.base,J.hok,rv,q⟩
 cases fl with
 |ret u=>
   obtain⟨v,σ',H',J,rv,q⟩:=hs
   exact fin J rv q
 |next=>
   obtain⟨σ',H',J,q⟩:=hs
   exact fin (v:=V.non) (u:=Value.none) J rfl q
 |brk=>
   obtain⟨_,_,_,q⟩:=hs
   exact False.elim q
 |cont=>
   obtain⟨_,_,_,q⟩:=hs
   exact False.elim q
section
variable {X:Cx}{x:Str}{p pos:Pos}{e:Expr}{es:List Expr}{t:TA}{id T:String}{r:List V->Hp->VK->Prop}
def tCB(r:List V->Hp->VK->Prop)(t:TA):TE:=fun σ H Q=>t σ H fun vs H1=>r vs H1 Q
theorem a3j(hc:CallR X (.builtin id) r)(hg:Gl X x)(hm:X.mg x=none)(hv:bootBuiltins x=some (.builtin id))(ha:PA X (e::es) t)(hn:x≠ "__name__":=by decide)(hdb:(x==("__debug__":Str))=false:=by decide)
   (he:starEach (e::es) X.env=(false,eval e X.env)::starEach es X.env:=by rfl) (hpl:(backTo pos (starEach es X.env)).any (·.1)=false:=by rfl):PE X (.Call (.Name x p) (e::es) [] pos) (tCB r t):=by
 intro pins s σ H Q I h
 refine wpAny_Call_Name_kw (a77 I hg hm hv ?_ hn hdb)
 exact PyProof.Rows.callWith_builtin1 (thn (ha pos pins s σ H _ I h) fun us s1 ⟨vs,H1,I1,r1,q1⟩=>hc pins s1 σ H1 vs us Q I1 r1 q1) he hpl
theorem a48(hc:CallR X (.type T) r)(hg:Gl X x)(hm:X.mg x=none)(hv:bootBuiltins x=some (.type T))(ha:PA X (e::es) t)(hn:x≠ "__name__":=by decide)(hdb:(x==("__debug__":Str))=false:=by decide)
   (he:starEach (e::es) X.env=(false,eval e X.env)::starEach es X.env:=by rfl) (hpl:(backTo pos (starEach es X.env)).any (·.1)=false:=by rfl):PE X (.Call (.Name x p) (e::es) [] pos) (tCB r t):=by
 intro pins s σ H Q I h
 refine wpAny_Call_Name_kw (a77 I hg hm hv ?_ hn hdb)
 exact PyProof.Rows.callWith_type1 (thn (ha pos pins s σ H _ I h) fun us s1 ⟨vs,H1,I1,r1,q1⟩=>hc pins s1 σ H1 vs us Q I1 r1 q1) he hpl
end
end L2
namespace HT
open PySem PyProof.Rows
section
open PySem.SeqAt
open PySem.AutoSeq1 (wpAny_loadPart')
open PySem.MeetsSeq PySem.MeetsSeq2 PySem.MeetsSeq3
end
section
variable {prog:Program}{w:World}{A:Around}{E:Value->Shared->Prop}{s:Shared}
noncomputable def sIx(n d:Nat):Option Int->Nat
 |none=>d
 |some v=>if v<0 then(v+(n:Int)).toNat else min v.toNat n
theorem sIx_none(n d:Nat):sIx n d none=d:=rfl
theorem sIx_nat(n d k:Nat):sIx n d (some (k:Int))=min k n:=by
 show(if(k:Int)<0 then((k:Int)+(n:Int)).toNat else min (k:Int).toNat n)=min k n
 rw[if_neg (by omega),Int.toNat_natCast]
end
end HT
namespace L2
open PySem PySem.Spec PyProof.Rows
noncomputable abbrev TO:=St->Hp->(Option Int->Hp->Prop)->Prop
def PO(X:Cx)(e:Option Expr)(t:TO):Prop:=
 ∀(pins:List (Addr×Obj)) (s:Shared) (σ:St) (H:Hp) (Q:Option Int->Hp->Prop),Inv X pins σ H s->t σ H Q->
   wpAny (model X.prog X.w) X.A (evalPart e X.env) (fun u s'=> ∃o H',Inv X pins σ H' s'/\IsPart u o/\Q o H') X.xe s
noncomputable def tNoPart:TO:=fun _ H Q=>Q none H
noncomputable def tPart(t:TE):TO:=fun σ H Q=>t σ H fun x H1=> ∃i,x= .int i/\Q (some i) H1
section
variable {X:Cx}{e:Expr}{te:TE}{lo hi:Option Expr}{tl th:TO}{pos p2:Pos}
theorem po_none:PO X none tNoPart:=by
 intro pins s σ H Q I h
 rw[evalPart_none]
 exact wpAny_pure ⟨none,H,I,.none,h⟩
theorem po_some(h:PE X e te):PO X (some e) (tPart te):=by
 intro pins s σ H Q I hw
 rw[evalPart_some]
 refine thn (h pins s σ H _ I hw) fun u s1 zz9=> ?_
 obtain⟨x,H1,I1,r1,q1⟩:=zz9
 obtain⟨i,rfl,q⟩:=q1
 obtain⟨t,rfl⟩:=r1
 exact⟨some i,H1,I1,.int i t,q⟩
def SlR(X:Cx)(r:V->Option Int->Option Int->Hp->VK->Prop):Prop:=
 ∀(pins:List (Addr×Obj)) (s:Shared) (σ:St) (H:Hp) (x:V) (v vl vu:Value) (lo hi:Option Int) (sl:Addr) (Q:VK),Inv X pins σ H s->RelV x v->s.heap.IsSliceOf sl vl vu .none->IsPart vl lo->IsPart vu hi->r x lo hi H Q->
   ∃T id,typeLookup (.type T) "__getitem__"=pure (some (.builtin id))/\s.TypeIs v T/\wpAny (model X.prog X.w) X.A (getItem v (.ref sl)) (EP X pins σ Q) X.xe s
theorem SlR.or{r r':V->Option Int->Option Int->Hp->VK->Prop}(h:SlR X r)(h':SlR X r'):SlR X (fun x lo hi H Q=>r x lo hi H Q\/r' x lo hi H Q):=by
 intro pins s σ H x v vl vu lo hi sl Q I rx hs pl pu q
 rcases q with q |q
 . exact h pins s σ H x v vl vu lo hi sl Q I rx hs pl pu q
 . exact h' pins s σ H x v vl vu lo hi sl Q I rx hs pl pu q
def tSl(r:V->Option Int->Option Int->Hp->VK->Prop)(te:TE)(tl th:TO):TE:=fun σ H Q=>te σ H fun x H1=>tl σ H1 fun l H2=>th σ H2 fun u H3=>r x l u H3 Q
theorem b3z{r:V->Option Int->Option Int->Hp->VK->Prop}(hr:SlR X r)(he:PE X e te)(hl:PO X lo tl)(hu:PO X hi th):PE X (.Subscript e (.Slice lo hi none p2) pos) (tSl r te tl th):=by
 intro pins s σ H Q I h
 refine Subscript_ (thn (he pins s σ H _ I h) fun v s1 zz9=> ?_)
 obtain⟨x,H1,I1,r1,q1⟩:=zz9
 refine wpAny_Slice (thn (hl pins s1 σ H1 _ I1 q1) fun vl s2 ⟨l,H2,I2,pl,q2⟩=>thn (hu pins s2 σ H2 _ I2 q2) fun vu s3 zz9=> ?_)
 obtain⟨u,H3,I3,pu,q3⟩:=zz9
 rw[evalPart_none]
 refine wpAny_pure ?_
 have I4:Inv X pins σ H3 {s3 with heap:=s3.heap.push {cls:= .type "slice",data:= .fields #[vl,vu,.none]}}:=I3.kept (t':=s3.toks) fun b ob q=>Heap.get?_push_of_some _ q
 obtain⟨T,id,hT,ht,hg⟩:=hr pins {s3 with heap:=s3.heap.push {cls:= .type "slice",data:= .fields #[vl,vu,.none]}} σ H3 x v vl vu l u s3.heap.objs.size Q I4 r1 (Heap.IsSliceOf.new ..) pl pu q3
 show wpAny (model X.prog X.w) X.A (subscriptTail e (.Slice lo hi none p2) v (.ref s3.heap.objs.size)) (EP X pins σ Q) X.xe {s3 with heap:=s3.heap.push {cls:= .type "slice",data:= .fields #[vl,vu,.none]}}
 exact tail_any (ops:=[.ref s3.heap.objs.size,v]) ht hT hg (by with_unfolding_all rfl)
noncomputable def cutV(xs:List V)(lo hi:Option Int):List V:=(xs.drop (HT.sIx xs.length 0 lo)).take (HT.sIx xs.length xs.length hi- HT.sIx xs.length 0 lo)
theorem a9j(xs:List V)(lo hi:Option Int):(cutV xs lo hi).length<=xs.length:=by
 unfold cutV
 rw[List.length_take,List.length_drop]
 omega
end
noncomputable def ixN(n:Nat)(i:Int):Option Nat:=if 0<=i then(if i<n then some i.toNat else none)else if -(n:Int)<=i then some (i+n).toNat else none
noncomputable def atI{α:Type}(xs:List α)(i:Int):Option α:=(ixN xs.length i).bind fun j=>xs[j]?
theorem b2z{n:Nat}{i:Int}{j:Nat}(h:ixN n i=some j):seqIndex? i n=some j/\j<n/\ -(n:Int)<=i/\i<n:=by
 unfold ixN at h
 by_cases h0:0<=i
 . rw[if_pos h0]at h
   by_cases h1:i<n
   . rw[if_pos h1]at h
     have e:i.toNat=j:=Option.some.inj h
     exact⟨by rw[seqIndex_of h0 h1,e],by omega,by omega,h1⟩
   . rw[if_neg h1]at h;cases h
 . rw[if_neg h0]at h
   by_cases h1: -(n:Int)<=i
   . rw[if_pos h1]at h
     have e:(i+n).toNat=j:=Option.some.inj h
     exact⟨by rw[seqIndex_neg (by omega) h1,e],by omega,h1,by omega⟩
   . rw[if_neg h1]at h;cases h
theorem a9m{α:Type}{xs:List α}{i:Int}{v:α}(h:atI xs i=some v): ∃j,seqIndex? i xs.length=some j/\xs[j]? =some v/\j<xs.length/\ -(xs.length:Int)<=i/\i<xs.length:=by
 unfold atI at h
 cases e:ixN xs.length i with
 |none=>rw[e]at h;cases h
 |some j=>
   rw[e]at h
   obtain⟨h1,h2,h3,h4⟩:=b2z e
   exact⟨j,h1,h,h2,h3,h4⟩
theorem a1n{α:Type}{xs:List α}{j:Nat}{v:α}(h:xs[j]? =some v):atI xs (j:Int)=some v:=by
 have hj:j<xs.length:=(List.getElem?_eq_some_iff.mp h).1
 have e:ixN xs.length (j:Int)=some j:=by
   unfold ixN
   rw[if_pos (by omega),if_pos (by omega)];simp
 unfold atI;rw[e];exact h
theorem b4y{α:Type}(xs:List α)(v:α):atI (xs++[v]) (-1)=some v:=by
 have hl:(xs++[v]).length=xs.length+1:=by simp
 have e:ixN (xs++[v]).length (-1)=some xs.length:=by
   unfold ixN
   rw[hl,if_neg (by decide),if_pos (by omega)]
   congr 1
   omega
 unfold atI
 rw[e]
 show(xs++[v])[xs.length]? =some v
 simp
def b3l(b:Expr):Prop:= ∀o i,subscripted b false o i=operate [o,i] (getItem o i)
def IxR(X:Cx)(r:R2):Prop:=
 ∀(value slice:Expr) (pins:List (Addr×Obj)) (s:Shared) (σ:St) (H:Hp) (x y:V) (v u:Value) (Q:VK),Inv X pins σ H s->RelV x v->RelV y u->r x y H Q->
   subscripted slice false v u=operate [v,u] (getItem v u)->wpAny (model X.prog X.w) X.A (subscriptTail value slice v u) (EP X pins σ Q) X.xe s
def MtR(X:Cx)(id:String)(r:V->List V->Hp->VK->Prop):Prop:=
 ∀(pins:List (Addr×Obj)) (s:Shared) (σ:St) (H:Hp) (x:V) (xs:List V) (v:Value) (us:List Value) (Q:VK),Inv X pins σ H s->RelV x v->Vals xs us->r x xs H Q->
   wpAny (model X.prog X.w) X.A (call (.builtin id) (v::us)) (EP X pins σ Q) X.xe s
section
variable {X:Cx}{a b:Expr}{ta tb:TE}{pos:Pos}
theorem IxR.or{r r':R2}(h:IxR X r)(h':IxR X r'):IxR X (fun x y H Q=>r x y H Q\/r' x y H Q):=by
 intro value slice pins s σ H x y v u Q I rx ry q hs
 rcases q with q |q
 . exact h value slice pins s σ H x y v u Q I rx ry q hs
 . exact h' value slice pins s σ H x y v u Q I rx ry q hs
theorem pe_ix{r:R2}(hr:IxR X r)(ha:PE X a ta)(hb:PE X b tb)(hs:b3l b):PE X (.Subscript a b pos) (tOp r ta tb):=by
 intro pins s σ H Q I h
 exact Subscript_ (binT ha hb I h fun v u s2 x y H2 I2 rx ry q=>hr a b pins s2 σ H2 x y v u Q I2 rx ry q (hs _ _))
def rIxL(K:PySem.W.Frag):R2:=fun x y H Q=> ∃p xs i v,x= .ref p/\y= .int i/\SqL K H p xs/\atI xs i=some v/\Q v H
def rIxT(K:PySem.W.Frag):R2:=fun x y H Q=> ∃p xs i v,x= .ref p/\y= .int i/\SqT K H p xs/\atI xs i=some v/\Q v H
def rIxS:R2:=fun x y H Q=> ∃z i c,x= .str z/\y= .int i/\z.length<=sizeLine/\atI z.cps.toList i=some c/\Q (.str ⟨#[c]⟩) H
theorem ix_list:IxR X (rIxL X.K):=by
 intro value slice pins s σ H x y v u Q I rx ry h hs
 obtain⟨p,xs,i,z,rfl,rfl,hq,he,q⟩:=h
 cases rx
 obtain⟨t,rfl⟩:=ry
 obtain⟨its,r,pl,hz⟩:=I.list hq
 obtain⟨j,h1,h2,h3,h4,h5⟩:=a9m he
 obtain⟨w,ew,rw'⟩:=r.get h2
 have hl:=r.length
 have hn:=a76
 have fin:EP X pins σ Q w s:=⟨z,H,I,rw',q⟩
 by_cases h0:0<=i
 . have hj:i.toNat=j:=by
     rw[seqIndex_of h0 h5]at h1
     exact Option.some.inj h1
   exact item_listR pl.isList h0 (by omega) (by rw[hj];simpa using ew) fin hs
 . have hj:(i+(its.toArray.size:Int)).toNat=j:=by
     rw[seqIndex_neg (by omega) h4]at h1
     rw[List.size_toArray,<-hl]
     exact Option.some.inj h1
   exact subscriptTail_builtinR (x:=w) pl.isList.typeIs slot_list_getitem.lookup
     (wpAny_getItem_list_neg (Q:=fun r s'=>r=w/\EP X pins σ Q r s') pl.isList (by omega) (by rw[List.size_toArray]<;>omega) (by omega) (by rw[hj];simpa using ew) ⟨rfl,fin⟩) hs
theorem ix_tup:IxR X (rIxT X.K):=by
 intro value slice pins s σ H x y v u Q I rx ry h hs
 obtain⟨p,xs,i,z,rfl,rfl,hq,he,q⟩:=h
 cases rx
 obtain⟨t,rfl⟩:=ry
 obtain⟨its,r,pl,hz⟩:=I.tuple hq
 obtain⟨j,h1,h2,h3,h4,h5⟩:=a9m he
 obtain⟨w,ew,rw'⟩:=r.get h2
 have hl:=r.length
 have hn:=a76
 have fin:EP X pins σ Q w s:=⟨z,H,I,rw',q⟩
 exact subscriptTail_builtinR (x:=w) pl.typeIs slot_tuple_getitem.lookup
   (getItem_tuple (j:=j) (Q:=fun r s'=>r=w/\EP X pins σ Q r s') pl (by omega) (by omega) (by rw[List.size_toArray,<-hl];exact h1) (by simpa using ew) ⟨rfl,fin⟩) hs
theorem ix_str:IxR X rIxS:=by
 intro value slice pins s σ H x y v u Q I rx ry h hs
 obtain⟨z,i,c,rfl,rfl,hz,he,q⟩:=h
 obtain⟨t,rfl⟩:=rx
 obtain⟨t',rfl⟩:=ry
 obtain⟨j,h1,h2,h3,h4,h5⟩:=a9m he
 have hl:z.cps.toList.length=z.length:=by simp[Str.length]
 rw[hl]at h1 h4 h5
 have hn:=a76
 exact tail_any (typeIs_str s z t) slot_str_getitem.lookup (getItem_str (c:=c) (by
   have e1:decide (i< -(2^63:Int))=false:=decide_eq_false (by omega)
   have e2:decide (i>=2^63)=false:=decide_eq_false (by omega)
   rw[e1,e2,Bool.or_false]) (by rw[h1];simpa using h2) ⟨.str ⟨#[c]⟩,H,I.tok _,⟨_,rfl⟩,q⟩) hs
def rIx(K:PySem.W.Frag):R2:=fun x y H Q=>rIxL K x y H Q\/rIxT K x y H Q\/rIxS x y H Q
theorem a0n:IxR X (rIx X.K):=ix_list.or (ix_tup.or ix_str)
theorem b03(its:List Value)(n j:Nat)(u:Value):Obj.mapSeq (·.setIfInBounds j u) {cls:= .type "list",data:= .seq its.toArray n}={cls:= .type "list",data:= .seq (its.set j u).toArray n}:=by
 simp[Obj.mapSeq]
theorem Inv.lst{pins:List (Addr×Obj)}{σ:St}{H:Hp}{s:Shared}{p:Addr}{xs:List V}(I:Inv X pins σ H s)(h:H p=some (.lst xs)):
   ∃(its:List Value) (n:Nat),Vals xs its/\s.heap.get? p=some {cls:= .type "list",data:= .seq its.toArray n}/\xs.length<=sizeLine:=by
 obtain⟨z,its,n,r,e⟩:=I.hok p _ h
 exact⟨its,n,r,e,z⟩
theorem Inv.lstUpd{pins:List (Addr×Obj)}{σ:St}{H:Hp}{s:Shared}{p:Addr}{xs ys:List V}{its its':List Value}{n n':Nat}{f:Obj->Obj}(I:Inv X pins σ H s)(h:H p=some (.lst xs))
   (ho:s.heap.get? p=some {cls:= .type "list",data:= .seq its.toArray n}) (hf:f {cls:= .type "list",data:= .seq its.toArray n}={cls:= .type "list",data:= .seq its'.toArray n'}) (r:Vals ys its') (hz:ys.length<=sizeLine) (t:Nat):
   Inv X pins σ (upd H p (.lst ys)) {s with heap:=s.heap.update p f,toks:=t}:=by
 have e:(s.heap.update p f).get? p=some {cls:= .type "list",data:= .seq its'.toArray n'}:=by
   rw[Heap.get?_update_self f ho (by rw[hf]<;>rfl),hf]
 refine I.write (x:=p) (e:=p) (by rw[h];trivial) (.inl rfl) (fun b u hb q=>(Heap.get?_update_other _ _ (Ne.symm hb)).trans q) ⟨_,e⟩ ?_
 exact⟨hz,its',n',r,e⟩
def rSetL:V->V->V->Hp->(Hp->Prop)->Prop:=fun o i v H Q=> ∃p xs k j,o= .ref p/\i= .int k/\H p=some (.lst xs)/\ixN xs.length k=some j/\Q (upd H p (.lst (xs.set j v)))
theorem b3p:PSet X rSetL:=by
 intro pins s σ H o i v ov iv u Q I ro ri rv h
 obtain⟨p,xs,k,j,rfl,rfl,hp,hj,q⟩:=h
 cases ro
 obtain⟨t,rfl⟩:=ri
 obtain⟨its,n,r,ho,hz⟩:=I.lst hp
 obtain⟨h1,h2,h3,h4⟩:=b2z hj
 have hl:=r.length
 have hn:=a76
 have I':Inv X pins σ (upd H p (.lst (xs.set j v))) {s with heap:=s.heap.update p (Obj.mapSeq (·.setIfInBounds j u))}:=
   I.lstUpd hp ho (b03 its n j u) (r.set rv j) (by rw[List.length_set];exact hz) s.toks
 by_cases h0:0<=k
 . have hk:k.toNat=j:=by
     rw[seqIndex_of h0 h4]at h1
     exact Option.some.inj h1
   exact PySem.W.ki_setAt ho h0 (by omega) (by rw[List.size_toArray,<-hl];exact h4) (by rw[hk];exact⟨_,I',q⟩)
 . have hk:(k+(its.toArray.size:Int)).toNat=j:=by
     rw[seqIndex_neg (by omega) h3]at h1
     rw[List.size_toArray,<-hl]
     exact Option.some.inj h1
   exact PySem.W.ki_setBack ho (by omega) (by rw[List.size_toArray,<-hl];exact h3) (by omega) (by rw[hk];exact⟨_,I',q⟩)
theorem a7k(lo hi:Option Int)(n:Nat):(sliceBounds lo hi none n).1=((HT.sIx n 0 lo:Nat):Int)/\(sliceBounds lo hi none n).2.1=((HT.sIx n n hi:Nat):Int)/\(sliceBounds lo hi none n).2.2=1:=by
 refine⟨?_,?_,rfl⟩
 . cases lo with
   |none=>simp[sliceBounds,HT.sIx]
   |some i=>
     simp only[sliceBounds,HT.sIx,Option.getD_none,show(1:Int)>0 by decide,if_true]
     by_cases h:i<0
     . simp only[h,if_true]<;>omega
     . simp only[h,if_false]<;>omega
 . cases hi with
   |none=>simp[sliceBounds,HT.sIx]
   |some i=>
     simp only[sliceBounds,HT.sIx,Option.getD_none,show(1:Int)>0 by decide,if_true]
     by_cases h:i<0
     . simp only[h,if_true]<;>omega
     . simp only[h,if_false]<;>omega
theorem a6t(its:List Value)(lo hi:Option Int):slicePick its.toArray lo hi none=((its.drop (HT.sIx its.length 0 lo)).take (HT.sIx its.length its.length hi- HT.sIx its.length 0 lo)).toArray:=by
 obtain⟨h1,h2,h3⟩:=a7k lo hi its.toArray.size
 unfold slicePick
 rw[h1,h2,h3]
 simp only[sliceRange_one,pick_run,List.size_toArray]<;>rfl
def rSlL(K:PySem.W.Frag):V->Option Int->Option Int->Hp->VK->Prop:=fun x lo hi H Q=> ∃a xs,x= .ref a/\SqL K H a xs/\ ∀p,H p=none->Q (.ref p) (upd H p (.lst (cutV xs lo hi)))
theorem sl_list:SlR X (rSlL X.K):=by
 intro pins s σ H x v vl vu lo hi sl Q I rx hs pl pu h
 obtain⟨a,xs,rfl,hx,q⟩:=h
 cases rx
 obtain⟨its,r,ht,hz⟩:=I.list hx
 have hlen:=r.length
 refine⟨"list",_,slot_list_getitem.lookup,ht.isList.typeIs,?_⟩
 refine wpAny_getItem_list_slice ht.isList hs pl pu .none (by simp) ?_ (by rw[List.size_toArray]<;>omega)
 rw[a6t,<-hlen]
 refine⟨.ref s.heap.objs.size,_,I.laid (t':=s.toks) (o:= .lst (cutV xs lo hi)) (fun b ob q=>Heap.get?_push_of_some _ q) (Nat.le_refl _) ?_,rfl,q _ (I.hok.fresh (Nat.le_refl _))⟩
 exact⟨Nat.le_trans (a9j xs lo hi) hz,_,0,(r.drop (HT.sIx xs.length 0 lo)).take (HT.sIx xs.length xs.length hi- HT.sIx xs.length 0 lo),Heap.get?_push_size _ rfl⟩
noncomputable def a4g:V->Bool
 | .non=>true
 | .bl _=>true
 | .int _=>true
 | .str _=>true
 |_=>false
noncomputable def eqV:V->V->Bool
 | .non,.non=>true
 | .bl a,.bl b=>a==b
 | .bl a,.int b=>(if a then 1 else 0)==b
 | .int a,.bl b=>a==(if b then 1 else 0)
 | .int a,.int b=>a==b
 | .str a,.str b=>a==b
 |_,_=>false
theorem eqAt_V{A:Around}{s:Shared}{y x:V}{u v:Value}(ry:RelV y u)(rx:RelV x v)(fy:a4g y=true)(fx:a4g x=true):SeqAt.EqAt A s u v (eqV y x):=by
 cases y with
 |non=>
   cases ry
   cases x with
   |non=>cases rx;exact SeqAt.EqAt.same _
   |bl b=>cases rx;exact SeqAt.EqAt.none_bool b
   |int b=>obtain⟨t,rfl⟩:=rx;exact SeqAt.EqAt.none_int b t
   |str b=>obtain⟨t,rfl⟩:=rx;exact SeqAt.EqAt.none_str b t
   |_=>exact absurd (show false=true from fx) Bool.false_ne_true
 |bl a=>
   cases ry
   cases x with
   |non=>cases rx;exact SeqAt.EqAt.bool_none a
   |bl b=>cases rx;exact SeqAt.EqAt.bool_bool a b
   |int b=>obtain⟨t,rfl⟩:=rx;exact SeqAt.EqAt.bool_int a b t
   |str b=>obtain⟨t,rfl⟩:=rx;exact SeqAt.EqAt.bool_str a b t
   |_=>exact absurd (show false=true from fx) Bool.false_ne_true
 |int a=>
   obtain⟨t',rfl⟩:=ry
   cases x with
   |non=>cases rx;exact SeqAt.EqAt.int_none a t'
   |bl b=>cases rx;exact SeqAt.EqAt.int_bool a t' b
   |int b=>obtain⟨t,rfl⟩:=rx;exact SeqAt.EqAt.int_int a t' b t
   |str b=>obtain⟨t,rfl⟩:=rx;exact SeqAt.EqAt.int_str a t' b t
   |_=>exact absurd (show false=true from fx) Bool.false_ne_true
 |str a=>
   obtain⟨t',rfl⟩:=ry
   cases x with
   |non=>cases rx;exact SeqAt.EqAt.str_none a t'
   |bl b=>cases rx;exact SeqAt.EqAt.str_bool a t' b
   |int b=>obtain⟨t,rfl⟩:=rx;exact SeqAt.EqAt.str_int a t' b t
   |str b=>obtain⟨t,rfl⟩:=rx;exact SeqAt.EqAt.str_str a t' b t
   |_=>exact absurd (show false=true from fx) Bool.false_ne_true
 |_=>exact absurd (show false=true from fy) Bool.false_ne_true
noncomputable def eqU(x:V)(u:Value):Bool:=match u with
 | .none=>eqV .non x
 | .bool b=>eqV (.bl b) x
 | .int i _=>eqV (.int i) x
 | .str z _=>eqV (.str z) x
 |_=>false
theorem eqU_of{x y:V}{u:Value}(r:RelV y u)(f:a4g y=true):eqU x u=eqV y x:=by
 cases y with
 |non=>cases r;rfl
 |bl b=>cases r;rfl
 |int i=>obtain⟨t,rfl⟩:=r;rfl
 |str z=>obtain⟨t,rfl⟩:=r;rfl
 |_=>exact absurd (show false=true from f) Bool.false_ne_true
theorem a5t{x:V}: ∀{xs:List V}{us:List Value},Vals xs us->xs.all a4g=true->us.any (eqU x)=xs.any fun y=>eqV y x
 |_,_,.nil,_=>rfl
 |y::xs,u::us,.cons r t,f=>by
   rw[List.all_cons,Bool.and_eq_true]at f
   rw[List.any_cons,List.any_cons,eqU_of r f.1,a5t t f.2]
theorem a3m{A:Around}{s:Shared}{x:V}{v:Value}(rx:RelV x v)(fx:a4g x=true): ∀{xs:List V}{us:List Value},Vals xs us->xs.all a4g=true-> ∀u∈us,SeqAt.EqAt A s u v (eqU x u)
 |_,_,.nil,_=>fun u hu=>by cases hu
 |y::xs,u::us,.cons r t,f=>fun u' hu=>by
   rw[List.all_cons,Bool.and_eq_true]at f
   rcases List.mem_cons.mp hu with rfl |hu
   . rw[eqU_of r f.1];exact eqAt_V r rx f.1 fx
   . exact a3m rx fx t f.2 u' hu
noncomputable def inV(x:V)(xs:List V):Bool:=xs.any fun y=>eqV y x
def rIn(K:PySem.W.Frag)(neg:Bool):R2:=fun x y H Q=> ∃p xs,y= .ref p/\(SqL K H p xs\/SqT K H p xs)/\a4g x=true/\xs.all a4g=true/\Q (.bl (if neg then !inV x xs else inV x xs)) H
theorem op_in_seq:OpR X (compareOp .In) (rIn X.K false):=by
 intro pins s σ H x y v u Q I rx ry h
 obtain⟨p,xs,rfl,hq,fx,fs,q⟩:=h
 cases ry
 rcases hq with hq |hq
 . obtain⟨its,r,pl,hz⟩:=I.list hq
   refine SeqAt.in_listAt (eqU x) pl.isList (fun w hw=>a3m rx fx r fs w (by simpa using hw)) ⟨.bl _,H,I,rfl,?_⟩
   rw[show its.toArray.any (eqU x)=its.any (eqU x)by simp,a5t r fs]
   exact q
 . obtain⟨its,r,pl,hz⟩:=I.tuple hq
   refine SeqAt.in_tupleAt (eqU x) pl (fun w hw=>a3m rx fx r fs w (by simpa using hw)) ⟨.bl _,H,I,rfl,?_⟩
   rw[show its.toArray.any (eqU x)=its.any (eqU x)by simp,a5t r fs]
   exact q
theorem op_notIn_seq:OpR X (compareOp .NotIn) (rIn X.K true):=by
 intro pins s σ H x y v u Q I rx ry h
 obtain⟨p,xs,rfl,hq,fx,fs,q⟩:=h
 cases ry
 rcases hq with hq |hq
 . obtain⟨its,r,pl,hz⟩:=I.list hq
   refine SeqAt.notIn_listAt (eqU x) pl.isList (fun w hw=>a3m rx fx r fs w (by simpa using hw)) ⟨.bl _,H,I,rfl,?_⟩
   rw[show its.toArray.any (eqU x)=its.any (eqU x)by simp,a5t r fs]
   exact q
 . obtain⟨its,r,pl,hz⟩:=I.tuple hq
   refine SeqAt.notIn_tupleAt (eqU x) pl (fun w hw=>a3m rx fx r fs w (by simpa using hw)) ⟨.bl _,H,I,rfl,?_⟩
   rw[show its.toArray.any (eqU x)=its.any (eqU x)by simp,a5t r fs]
   exact q
theorem CallR.or{f:Value}{r r':List V->Hp->VK->Prop}(h:CallR X f r)(h':CallR X f r'):CallR X f (fun xs H Q=>r xs H Q\/r' xs H Q):=by
 intro pins s σ H xs us Q I rs q
 rcases q with q |q
 . exact h pins s σ H xs us Q I rs q
 . exact h' pins s σ H xs us Q I rs q
theorem a4c:CallR X (.type "list") (fun xs H Q=> ∃p ys,xs=[.ref p]/\(SqL X.K H p ys\/SqT X.K H p ys)/\ ∀l,H l=none->Q (.ref l) (upd H l (.lst ys))):=by
 intro pins s σ H xs us Q I r h
 obtain⟨p,ys,rfl,hq,q⟩:=h
 obtain⟨u,rfl,rx⟩:=b1j r
 cases rx
 have fin: ∀(its:List Value),Vals ys its->ys.length<=sizeLine-> ∀(h':Heap) (c':Nat),(∀b o',s.heap.get? b=some o'->h'.get? b=some o')->
     h'.get? s.heap.objs.size=some {cls:= .type "list",dict:=none,data:= .seq its.toArray c',slots:= #[]}->EP X pins σ Q (.ref s.heap.objs.size) {s with heap:=h'}:=fun its r' hz h' c' kp e=>
   ⟨.ref s.heap.objs.size,_,I.laid (t':=s.toks) kp (Nat.le_refl _) (show ObjOk X.prog X.w _ h' _ (.lst ys)from⟨hz,its,c',r',e⟩),rfl,q _ (I.hok.fresh (Nat.le_refl _))⟩
 rcases hq with hq |hq
 . obtain⟨its,r',pl,hz⟩:=I.list hq
   have hlen:=r'.length
   obtain⟨o,ho,hc,n,hd⟩:=pl.isList
   exact call_list_seq p (.inl rfl) ho hc hd (fun h' c' kp e=>fin its r' hz h' c' kp e) (by simp only[List.size_toArray]<;>omega)
 . obtain⟨its,r',pl,hz⟩:=I.tuple hq
   have hlen:=r'.length
   obtain⟨o,ho,hc,n,hd⟩:=pl
   exact call_list_seq p (.inr rfl) ho hc hd (fun h' c' kp e=>fin its r' hz h' c' kp e) (by simp only[List.size_toArray]<;>omega)
def tyV(K:PySem.W.Frag)(T:String)(x:V)(H:Hp):Prop:=match x with
 | .str _=>T="str"
 | .int _=>T="int"
 | .ref p=>(T="list"/\ ∃xs,SqL K H p xs)\/(T="tuple"/\ ∃o,K.lookup p=some o/\o.cls= .type "tuple"/\o.dict=none)\/
     (T="dict"/\((∃kvs,H p=some (.dK kvs))\/ ∃kvs,H p=some (.dT kvs)))\/(T="set"/\ ∃S n,H p=some (.set S n))
 |_=>False
theorem b1k{pins:List (Addr×Obj)}{σ:St}{H:Hp}{s:Shared}{T:String}{x:V}{v:Value}(I:Inv X pins σ H s)(r:RelV x v)(ty:tyV X.K T x H):
   s.TypeIs v T/\ ∀a,v= .ref a-> ∃ob,s.heap.get? a=some ob/\ob.dict=none:=by
 cases x with
 |str z=>
   obtain⟨t,rfl⟩:=r
   cases(show T="str" from ty)
   exact⟨typeIs_str s z t,fun _ e=>nomatch e⟩
 |int i=>
   obtain⟨t,rfl⟩:=r
   cases(show T="int" from ty)
   exact⟨typeIs_int s i t,fun _ e=>nomatch e⟩
 |ref p=>
   cases r
   rcases ty with⟨rfl,xs,hq⟩ | ⟨rfl,o,hk,hc,hd⟩ | ⟨rfl,hk⟩ | ⟨rfl,S,n,hk⟩
   . obtain⟨its,_,pl,_⟩:=I.list hq
     refine⟨pl.isList.typeIs,fun a e=> ?_⟩
     cases e
     obtain⟨o,n,e,c,hd,_⟩:=pl
     exact⟨o,e,hd⟩
   . refine⟨⟨o,I.kIn p o hk,hc⟩,fun a e=> ?_⟩
     cases e
     exact⟨o,I.kIn _ o hk,hd⟩
   . have z: ∃o,s.heap.get? p=some o/\o.ExactDict:=by
       rcases hk with⟨kvs,hk⟩ | ⟨kvs,hk⟩
       . obtain⟨_,_,_,_,o,_,_,e,ex,_⟩:=I.hok p _ hk
         exact⟨o,e,ex⟩
       . obtain⟨_,_,_,_,o,_,_,e,ex,_⟩:=I.hok p _ hk
         exact⟨o,e,ex⟩
     obtain⟨o,e,ex⟩:=z
     refine⟨⟨o,e,ex.1⟩,fun a e2=> ?_⟩
     cases e2
     exact⟨o,e,ex.2.1⟩
   . obtain⟨o,_,_,_,e,ex,_⟩:=I.hok p _ hk
     refine⟨⟨o,e,ex.1⟩,fun a e2=> ?_⟩
     cases e2
     exact⟨o,e,ex.2.1⟩
 |_=>exact False.elim ty
def tBM0(K:PySem.W.Frag)(T:String)(r:V->List V->Hp->VK->Prop)(to:TE):TE:=fun σ H Q=>to σ H fun x H1=>tyV K T x H1/\r x [] H1 Q
def tBM(K:PySem.W.Frag)(T:String)(r:V->List V->Hp->VK->Prop)(to:TE)(t:TA):TE:=fun σ H Q=>to σ H fun x H1=>tyV K T x H1/\t σ H1 fun xs H2=>r x xs H2 Q
variable {o e:Expr}{es:List Expr}{to:TE}{t:TA}{name:Str}{apos cpos:Pos}{T id:String}{r:V->List V->Hp->VK->Prop}
theorem pe_bm0(pa:PlainAttrs T)(slot:Slot T name id)(hty:typeOf (.builtin id)=pure (.type "method_descriptor"))(hm:MtR X id r)(ho:PE X o to)
   (hbase:attributeBase o name X.env (eval o X.env)=eval o X.env:=by rfl) (hline:(apos.endLine==cpos.line)=true:=by rfl):PE X (.Call (.Attribute o name apos) [] [] cpos) (tBM0 X.K T r to):=by
 intro pins s σ H Q I h
 refine wpAny_Call_method0_late hbase hline (thn (ho pins s σ H _ I h) fun v s1 zz9=> ?_)
 obtain⟨x,H1,I1,r1,ty,q1⟩:=zz9
 obtain⟨h1,h2⟩:=b1k I1 r1 ty
 exact⟨T,id,pa,slot,hty,h1,h2,Calls.callWith_builtin rfl (PySem.evalArgs_none (hm pins s1 σ H1 x [] v [] Q I1 r1 .nil q1))⟩
theorem pe_bm(pa:PlainAttrs T)(slot:Slot T name id)(hty:typeOf (.builtin id)=pure (.type "method_descriptor"))(hm:MtR X id r)(ho:PE X o to)(ha:PA X (e::es) t)
   (hbase:attributeBase o name X.env (eval o X.env)=eval o X.env:=by rfl)
   (hfew:((backTo cpos (starEach (e::es) X.env)).all (fun x=> !x.1)&&(backToKw cpos (keywordEach [] X.env)).all (fun x=>x.1.isSome)
     &&decide ((e::es).length+([]:List Keyword).length+(if([]:List Keyword).isEmpty then 0 else 1)<30))=true:=by rfl)
   (hline:(apos.endLine==cpos.line)=true:=by rfl) (hs:starEach (e::es) X.env=(false,eval e X.env)::starEach es X.env:=by rfl) (hplain:(backTo cpos (starEach es X.env)).any (·.1)=false:=by rfl):
   PE X (.Call (.Attribute o name apos) (e::es) [] cpos) (tBM X.K T r to t):=by
 intro pins s σ H Q I h
 refine wpAny_Call_method_late hbase hfew hline rfl (thn (ho pins s σ H _ I h) fun v s1 zz9=> ?_)
 obtain⟨x,H1,I1,r1,ty,q1⟩:=zz9
 obtain⟨h1,h2⟩:=b1k I1 r1 ty
 refine⟨T,id,pa,slot,hty,h1,h2,?_⟩
 have hA:=ha cpos pins s1 σ H1 _ I1 q1
 rw[hs]at hA |-
 refine Calls.callWith_builtin (by show(false||(backTo cpos (starEach es X.env)).any (·.1))=false;rw[hplain]<;>rfl) (Calls.evalArgs_plain ?_)
 exact thn hA fun us s2 ⟨vs,H2,I2,r2,q2⟩=>hm pins s2 σ H2 x vs v us Q I2 r1 r2 q2
/- xs.append(e), list.index on a module's tuple .. are MtR facts of 06m -/
end
def MtM(X:Cx)(id:String)(r:V->List V->Hp->VK->Prop):Prop:=
 ∀(pins:List (Addr×Obj)) (s:Shared) (σ:St) (H:Hp) (x:V) (xs:List V) (v:Value) (us:List Value) (Q:VK),Inv X pins σ H s->RelV x v->Vals xs us->r x xs H Q->
   wpAny (model X.prog X.w) X.A (call (.builtin id) (v::us)) (EP X pins σ Q) X.xe s
theorem Vals.one: ∀{x:V}{us:List Value},Vals [x] us-> ∃u,us=[u]/\RelV x u
 |_,_,.cons r .nil=>⟨_,rfl,r⟩
theorem Vals.zero: ∀{us:List Value},Vals [] us->us=[]
 |_,.nil=>rfl
section
variable {X:Cx}{pins:List (Addr×Obj)}{σ:St}{H:Hp}{s:Shared}{l b:Addr}{xs ys zs:List V}
theorem Inv.lset{its its':List Value}{n:Nat}{f:Array Value->Array Value}{t':Nat}(I:Inv X pins σ H s)(hH:H l=some (.lst xs))
   (e:s.heap.get? l=some {cls:= .type "list",data:= .seq its.toArray n}) (hf:f its.toArray=its'.toArray) (hv:Vals ys its') (hz:ys.length<=sizeLine):
   Inv X pins σ (upd H l (.lst ys)) {s with heap:=s.heap.update l (Obj.mapSeq f),toks:=t'}:=by
 have q:=PySem.IsL.update e f
 rw[hf]at q
 refine I.write (x:=l) (e:=l) (by rw[hH];exact trivial) (.inl rfl) (fun b' u hb hu=>(Heap.get?_update_other s.heap (Obj.mapSeq f) (Ne.symm hb)).trans hu) ⟨_,q⟩ ?_
 exact⟨hz,its',_,hv,q⟩
theorem Inv.lnew{its:List Value}{t':Nat}(I:Inv X pins σ H s)(hv:Vals ys its)(hz:ys.length<=sizeLine):
   Inv X pins σ (upd H s.heap.objs.size (.lst ys)) {s with heap:=s.heap.push {cls:= .type "list",data:= .seq its.toArray},toks:=t'}:=
 I.laid (fun _ _ q=>Heap.get?_push_of_some _ q) (Nat.le_refl _) ⟨hz,its,0,hv,Heap.get?_push_size _ rfl⟩
theorem Inv.fresh(I:Inv X pins σ H s):H s.heap.objs.size=none:=I.hok.fresh (Nat.le_refl _)
theorem Inv.lstM(I:Inv X pins σ H s)(hH:H l=some (.lst xs)):xs.length<=sizeLine/\ ∃(its:List Value) (n:Nat),Vals xs its/\xs.length=its.length/\s.heap.get? l=some {cls:= .type "list",data:= .seq its.toArray n}:=by
 obtain⟨z,its,n,r,e⟩:=I.hok l _ hH
 exact⟨z,its,n,r,r.length,e⟩
end
section
variable {X:Cx}
def rAppend:V->List V->Hp->VK->Prop:=fun x vs H Q=> ∃l xs y,x= .ref l/\vs=[y]/\H l=some (.lst xs)/\xs.length<sizeLine/\Q .non (upd H l (.lst (xs++[y])))
theorem a1b:MtM X "list.append" rAppend:=by
 intro pins s σ H x vs v us Q I rx rv h
 obtain⟨l,xs,y,rfl,rfl,hH,hz,q⟩:=h
 cases rx
 obtain⟨u,rfl,ru⟩:=rv.one
 obtain⟨z,its,n,r,hl,e⟩:=I.lstM hH
 refine call_meets F.slot_list_append ⟨_,e,rfl⟩ F.entry_list_append (F.args_list_append_2 _ _) (PySem.list_append l its.toArray n u (by rw[List.size_toArray];omega)) ⟨e,?_⟩
 refine⟨.non,_,I.lset (its':=its++[u]) hH e (by simp) (r.append (.cons ru .nil)) ?_,rfl,q⟩
 rw[List.length_append,List.length_singleton]
 omega
def rCat:R2:=fun x y H Q=> ∃l b xs zs,x= .ref l/\y= .ref b/\H l=some (.lst xs)/\H b=some (.lst zs)/\xs.length+zs.length<=sizeLine/\ ∀p,H p=none->Q (.ref p) (upd H p (.lst (xs++zs)))
theorem a38:OpR X (binaryOp .Add) rCat:=by
 intro pins s σ H x y v u Q I rx ry h
 obtain⟨l,b,xs,zs,rfl,rfl,hH,hB,hz,q⟩:=h
 cases rx
 cases ry
 obtain⟨z,its,n,r,hl,e⟩:=I.lstM hH
 obtain⟨z2,its2,n2,r2,hl2,e2⟩:=I.lstM hB
 refine PySem.P.add_list e e2 ?_ (by rw[List.size_toArray,List.size_toArray];omega)
 have ea:its.toArray++its2.toArray=(its++its2).toArray:=by simp
 rw[ea]
 exact⟨.ref _,_,I.lnew (t':=s.toks) (r.append r2) (by rw[List.length_append];omega),rfl,q _ I.fresh⟩
end
section
variable {prog:Program}{w:World}{A:Around}{E:Value->Shared->Prop}{s:Shared}
set_option maxRecDepth 100000 in
end
section
variable {X:Cx}
end
end L2
namespace Att
open PySem PySem.W PySem.Calls PyProof.Rows
theorem a5l{P:Params}{h:Heap}: ∀(ns:List Int) (vs:List Value),WellAll P h vs (ns.map WData.int)->IntsAre vs ns:=by
 intro ns
 induction ns with
 |nil=>
   intro vs w
   rw[List.map_nil]at w
   cases w
   exact .nil
 |cons n ns ih=>
   intro vs w
   rw[List.map_cons]at w
   cases w with
   |cons a b=>
     cases a
     exact .cons _ _ (ih _ b)
theorem script_of{l:OpenLaw}{n:Nat}(hn:l.most=some n){P:Params}{h:Heap}{args:List WData}{vals:List Value}
   (hpre:l.row.toRowW.claim.pre args=true) (hwl:WellAll P h vals args):
   ∃a vs ns,vals=[Value.ref a]/\args=[WData.list (ns.map WData.int)]/\h.get? a=some {cls:= .type "list",data:= .seq vs.toArray}/\IntsAre vs ns/\ns.length<=n:=by
 have hsh:WShape.hasAll [] args [.list .int]=true:=(pre_splitW hpre).1
 have hc:l.pre.holds [] {args:=args}=true:=(pre_splitW hpre).2
 obtain⟨d,r,rfl,h1,h2⟩:=hasAllW_cons hsh
 obtain rfl:=hasAllW_nil h2
 obtain⟨xs,rfl,h3⟩:=hasW_list h1
 obtain⟨ns,rfl⟩:=items_int h3
 have hlen:ns.length<=n:=by
   unfold OpenLaw.pre at hc
   have h4:(WTm.not (.lt (.lit (.int (n:Int))) (.len (.arg 0)))).holds [] {args:=[.list (ns.map .int)]}=true:=by
     have h4:=(holds_andW hc).1
     rw[hn]at h4
     exact h4
   have h5:=condW_of h4 (w_not (w_lt w_lit (w_len_list (w_arg rfl))))
   rw[List.length_map]at h5
   refine Nat.le_of_not_lt fun q=> ?_
   have q':(n:Int)< ((ns.length:Nat):Int):=by omega
   first
     | (rw[decide_eq_true q']at h5;exact absurd h5 (by decide))
     | (simp at h5;omega)
 cases hwl with
 |cons w1 w2=>
   cases w2
   cases w1 with
   |list ho hall=>exact⟨_,_,ns,rfl,rfl,ho,a5l ns _ hall,hlen⟩
theorem post_true(l:OpenLaw)(args:List WData):l.row.toRowW.claim.post args (.bool true) args=true:=
 postW_of (r:=l.row.toRowW) (X:=(true==true))
   (show WShape.has [] (.bool true) .bool=true by first |rfl |decide |simp[WShape.has,WShape.arms,WShape.armsAll])
   (show(WTm.eq .res (.lit (.bool true))).value [] {args:=args,res:=some (.bool true),after:=args}=some (.bool (true==true))from w_eq_bool (w_res rfl) w_lit) rfl
section
variable {prog:Program}{w:World}{A:Around}{E:Value->Shared->Prop}{s:Shared}{K:Frag}
end
end Att
namespace L2
open PySem PySem.Spec PyProof.Rows
theorem a7e: ∀{vs:List Value}{ns:List Int},IntsAre vs ns->Vals (ns.map V.int) vs
 |_,_,.nil=> .nil
 |_,_,.cons n t h=> .cons ⟨t,rfl⟩ (a7e h)
def Only(H:Hp):Prop:= ∀b,H b=none\/ ∃o xs,H b=some (.frz o (.lst xs))
end L2
/- THE LAST THEOREM (shape; LID, My.* are yours):
  My.Adr:a structure of the addresses that your layer names (classes,functions);My.Txt K t:a structure (Prop) of the equations over K;
  My.txt_mk:{K}{implicit addresses ..} (e1:nsIn K mainGlobals "law"=some (some (.ref f))) (e2:K.lookup f=some ⟨oc,od,.func (fnOf "law" "law" params body scope dV kV doc pm an cdv ct),sl⟩) (e3:codeIn K cdv "law"=true) .. : ∃t,My.Txt K t
set_option maxRecDepth 100000 in
(the tactic k_is has no namespace:write k_is)-/
namespace L2
open PySem PySem.Spec PyProof.Rows
noncomputable def a33(s:Stmt)(j:Nat):Stmt:=match s with
 | .ClassDef _ _ _ body _ _ _ _ _ _ _=>body.getD j (.Pass ⟨0,0,0,0⟩)
 |_=> .Pass ⟨0,0,0,0⟩
noncomputable def a1f(s:Stmt):Arguments:=match s with
 | .FunctionDef _ a _ _ _ _ _ _ _ _=>a
 |_=>{posonlyargs:=[],args:=[],vararg:=none,kwonlyargs:=[],kw_defaults:=[],kwarg:=none,defaults:=[]}
noncomputable def a04(s:Stmt):List Stmt:=match s with
 | .FunctionDef _ _ b _ _ _ _ _ _ _=>b
 |_=>[]
noncomputable def a0c(s:Stmt):Scope:=match s with
 | .FunctionDef _ _ _ _ _ _ sc _ _ _=>sc
 |_=>{kind:= .function,names:=[],isGenerator:=false,isCoroutine:=false}
noncomputable abbrev CX0:CXT:=fun _ _ _ _ _ _=>False
abbrev E0:XK:=fun _ _ _=>False
structure Fun(K:PySem.W.Frag)(x qual:Str)(st:Stmt)(f:Addr)(fd:FuncData):Prop where
 ex: ∃(oc:Value) (od:Option Addr) (kV doc pm:Value) (an:Option Addr) (cdv ct:Value) (osl:Array (Option Value)),
   fd=PySem.W.fnOf x qual (a1f st) (a04 st) (a0c st) .none kV doc pm an cdv ct/\K.lookup f=some ⟨oc,od,.func fd,osl⟩/\PySem.W.codeIn K cdv qual=true
 kp:PySem.W.keepIn K (.ref f)=true
section
variable {P:Program}{w:World}{K:PySem.W.Frag}{mg:Str->Option Value}{base:Heap}
theorem Fun.binds{x qual:Str}{st:Stmt}{f:Addr}{fd:FuncData}{ps:List Str}(F:Fun K x qual st f fd)
   (h: ∀(kV doc pm:Value) (an:Option Addr) (cdv ct:Value) (us:List Value),us.length=ps.length->bindArgs (PySem.W.fnOf x qual (a1f st) (a04 st) (a0c st) .none kV doc pm an cdv ct) ⟨us,[]⟩=pure (ps.zip us)):Binds K fd ps []:=by
 obtain⟨oc,od,kV,doc,pm,an,cdv,ct,osl,rfl,lk,hcd⟩:=F.ex
 exact .all (h kV doc pm an cdv ct)
theorem a4a{x qual:Str}{st:Stmt}{f:Addr}{oc:Value}{od an:Option Addr}{osl:Array (Option Value)}{kV doc pm cdv ct:Value}(l:K.lookup f=some ⟨oc,od,.func (PySem.W.fnOf x qual (a1f st) (a04 st) (a0c st) .none kV doc pm an cdv ct),osl⟩)
   (c:PySem.W.codeIn K cdv qual=true) (k:PySem.W.keepIn K (.ref f)=true):Fun K x qual st f (PySem.W.fnOf x qual (a1f st) (a04 st) (a0c st) .none kV doc pm an cdv ct):=⟨⟨oc,od,kV,doc,pm,an,cdv,ct,osl,rfl,l,c⟩,k⟩
end
theorem hu_of{A:Around}{k:Nat}(hr:Room k A):A.units+1<cLine:=Nat.lt_of_le_of_lt (Nat.add_le_add_left (by decide:1<=64) _) hr.units
theorem a3d{n:Nat}(h:n<=1000):n<sizeLine:=Nat.lt_of_le_of_lt h (by decide)
section
variable {X:Cx}
theorem pv(i:Nat){x:Str}{pos:Pos}(hN:X.N[i]? =some x:=by rfl)(hv:Vis X.env.scope x:=by first |exact Or.inl rfl |exact Or.inr (Or.inl rfl) |exact Or.inr (Or.inr rfl))(hd:(x==("__debug__":Str))=false:=by decide)
   (hcd:(x==("__classdict__":Str))=false:=by decide):PE X (.Name x pos) (tVar i):=pe_var hN hv hd hcd
end
theorem ite2{c A B:Prop}[Decidable c](h1:c->A)(h2: ¬ c->B):if c then A else B:=by
 by_cases h:c
 . rw[if_pos h]
   exact h1 h
 . rw[if_neg h]
   exact h2 h
def Same(H H':Hp):Prop:= ∀b o,H b=some o->H' b=some o
theorem Same.refl(H:Hp):Same H H:=fun _ _ h=>h
theorem Same.trans{H H1 H2:Hp}(a:Same H H1)(b:Same H1 H2):Same H H2:=fun c o h=>b c o (a c o h)
theorem Same.free{H H':Hp}(e:Same H H'){l:Addr}(h:H' l=Option.none):H l=Option.none:=by
 cases q:H l with
 |none=>rfl
 |some o=>
   rw[e l o q]at h
   cases h
theorem Same.seq{K:PySem.W.Frag}{H H':Hp}{a:Addr}{xs:List V}(e:Same H H')(h:SqL K H a xs):SqL K H' a xs:=by
 rcases h with(h | ⟨o,h⟩) |h
 . exact .inl (.inl (e _ _ h))
 . exact .inl (.inr ⟨o,e _ _ h⟩)
 . exact .inr h
section
variable {κ:Type}[DecidableEq κ]
noncomputable def valV(kvs:List (κ×V))(k:κ):Option V:=(kvs.find? fun kv=>decide (kv.1=k)).map (·.2)
noncomputable def putK(kvs:List (κ×V))(k:κ)(v:V):List (κ×V):=
 if(kvs.any fun kv=>decide (kv.1=k))=true then kvs.map (fun kv=>if kv.1=k then(kv.1,v)else kv)else kvs++[(k,v)]
noncomputable def dropK(kvs:List (κ×V))(k:κ):List (κ×V):=kvs.filter fun kv=>decide (kv.1≠k)
theorem a4i{p:κ×V}{r:List (κ×V)}{k:κ}(e:p.1=k):valV (p::r) k=some p.2:=by simp[valV,List.find?_cons,e]
theorem a4j{p:κ×V}{r:List (κ×V)}{k:κ}(e: ¬ p.1=k):valV (p::r) k=valV r k:=by simp[valV,List.find?_cons,e]
theorem a6m(k:κ): ∀kvs:List (κ×V),(kvs.any fun kv=>decide (kv.1=k))=(valV kvs k).isSome
 | []=>rfl
 |p::r=>by
   rw[List.any_cons]
   by_cases e:p.1=k
   . simp only[a4i e,decide_eq_true e,Bool.true_or,Option.isSome_some]
   . rw[a4j e,decide_eq_false e,Bool.false_or];exact a6m k r
theorem a5h(kvs:List (κ×V))(k:κ)(v:V):(putK kvs k v).length<=kvs.length+1:=by
 unfold putK
 split
 . rw[List.length_map];omega
 . rw[List.length_append,List.length_cons,List.length_nil];omega
theorem RelO.isSome_eq{o:Option V}{u:Option Value}(r:RelO o u):o.isSome=u.isSome:=by
 cases o with
 |none=>cases u with
   |none=>rfl
   |some _=>exact(show False from r).elim
 |some _=>cases u with
   |none=>exact(show False from r).elim
   |some _=>rfl
theorem KV.val{kvs:List (κ×V)}{vs:List (κ×Value)}(r:KV kvs vs)(k:κ):RelO (valV kvs k) (valueAt vs k):=by
 unfold KV at r
 induction r with
 |nil=>exact True.intro
 | @cons p q ps qs h t ih=>
   obtain⟨h1,h2⟩:=h
   by_cases e:p.1=k
   . have e':q.1=k:=h1.symm.trans e
     have b:valueAt (q::qs) k=some q.2:=by simp[valueAt,List.find?_cons,e']
     rw[a4i e,b];exact h2
   . have e': ¬ q.1=k:=fun z=>e (h1.trans z)
     have b:valueAt (q::qs) k=valueAt qs k:=by simp[valueAt,List.find?_cons,e']
     rw[a4j e,b];exact ih
theorem KV.any{kvs:List (κ×V)}{vs:List (κ×Value)}(r:KV kvs vs)(k:κ):(kvs.any fun kv=>decide (kv.1=k))=vs.any fun kv=>decide (kv.1=k):=by
 unfold KV at r
 induction r with
 |nil=>rfl
 |cons h t ih=>rw[List.any_cons,List.any_cons,ih,h.1]
theorem KV.repl{kvs:List (κ×V)}{vs:List (κ×Value)}(r:KV kvs vs)(k:κ){y:V}{u:Value}(ry:RelV y u):
   KV (kvs.map fun kv=>if kv.1=k then(kv.1,y)else kv) (vs.map fun kv=>if kv.1=k then(kv.1,u)else kv):=by
 unfold KV at r |-
 induction r with
 |nil=>exact .nil
 | @cons p q ps qs h t ih=>
   rw[List.map_cons,List.map_cons]
   refine .cons ?_ ih
   obtain⟨h1,h2⟩:=h
   by_cases e:p.1=k
   . rw[if_pos e,if_pos (h1.symm.trans e)];exact⟨h1,ry⟩
   . rw[if_neg e,if_neg (fun z=>e (h1.trans z))];exact⟨h1,h2⟩
theorem KV.put{kvs:List (κ×V)}{vs:List (κ×Value)}(r:KV kvs vs)(k:κ){y:V}{u:Value}(ry:RelV y u):KV (putK kvs k y) (stored vs k u):=by
 unfold putK stored
 rw[r.any k]
 by_cases e:(vs.any fun kv=>decide (kv.1=k))=true
 . rw[if_pos e,if_pos e];exact r.repl k ry
 . rw[if_neg e,if_neg e];exact Paired.snoc r ⟨rfl,ry⟩
theorem KV.drop{kvs:List (κ×V)}{vs:List (κ×Value)}(r:KV kvs vs)(k:κ):KV (dropK kvs k) (without vs k):=by
 unfold KV at r |-
 unfold dropK without
 induction r with
 |nil=>exact .nil
 | @cons p q ps qs h t ih=>
   obtain⟨h1,h2⟩:=h
   rw[List.filter_cons,List.filter_cons]
   by_cases e:p.1=k
   . have a: ¬ decide (p.1≠k)=true:=by simp[e]
     have b: ¬ decide (q.1≠k)=true:=by simp[h1.symm.trans e]
     rw[if_neg a,if_neg b];exact ih
   . have e': ¬ q.1=k:=fun z=>e (h1.trans z)
     have a:decide (p.1≠k)=true:=by simp[e]
     have b:decide (q.1≠k)=true:=by simp[e']
     rw[if_pos a,if_pos b];exact .cons ⟨h1,h2⟩ ih
theorem KV.length{kvs:List (κ×V)}{vs:List (κ×Value)}(r:KV kvs vs):kvs.length=vs.length:=Paired.length r
theorem b4u(kvs:List (κ×V))(k:κ):(dropK kvs k).length<=kvs.length:=List.length_filter_le _ _
end
theorem b2w{P:Program}{w:World}{k:Key}{u:Value}(r:RelV (kV k) u):(a06 P w).is k u=true:=by
 cases k with
 |inl i=>obtain⟨t,e⟩:=(show ∃t,u=Value.int i t from r);subst e;exact a9b P w i t
 |inr x=>obtain⟨t,e⟩:=(show ∃t,u=Value.str x t from r);subst e;exact a9a P w x t
theorem a78{P:Program}{w:World}: ∀{ks:List Key}{us:List Value},Vals (ks.map kV) us->ItemsAre (a06 P w) ks us
 | [],_,r=>by rw[List.map_nil]at r;cases r;exact .nil
 |k::ks,_,r=>by
   rw[List.map_cons]at r
   cases r with
   |cons h t=>exact .cons (b2w h) (a78 t)
abbrev KT(H:Hp):List (List Key×V)->List (List Key×Addr×Value)->Prop:=Paired fun p q=>p.1=q.1/\H q.2.1=some (.tup (p.1.map kV))/\RelV p.2 q.2.2
theorem KT.val{H:Hp}{kvs:List (List Key×V)}{xs:List (List Key×Addr×Value)}(r:KT H kvs xs)(k:List Key):RelO (valV kvs k) ((atKey xs k).map (·.2)):=by
 induction r with
 |nil=>exact True.intro
 | @cons p q ps qs h t ih=>
   obtain⟨h1,_,h2⟩:=h
   by_cases e:p.1=k
   . have e':q.1=k:=h1.symm.trans e
     have b:atKey (q::qs) k=some q.2:=by simp[atKey,List.find?_cons,e']
     rw[a4i e,b];exact h2
   . have e': ¬ q.1=k:=fun z=>e (h1.trans z)
     have b:atKey (q::qs) k=atKey qs k:=by simp[atKey,List.find?_cons,e']
     rw[a4j e,b];exact ih
theorem KT.repl{H:Hp}{kvs:List (List Key×V)}{xs:List (List Key×Addr×Value)}(r:KT H kvs xs)(k:List Key){y:V}{u:Value}(ry:RelV y u):
   KT H (kvs.map fun kv=>if kv.1=k then(kv.1,y)else kv) (xs.map (putAt k u)):=by
 induction r with
 |nil=>exact .nil
 | @cons p q ps qs h t ih=>
   rw[List.map_cons,List.map_cons]
   refine .cons ?_ ih
   obtain⟨h1,h2,h3⟩:=h
   unfold putAt
   by_cases e:p.1=k
   . rw[if_pos e,if_pos (h1.symm.trans e)];exact⟨h1,h2,ry⟩
   . rw[if_neg e,if_neg (fun z=>e (h1.trans z))];exact⟨h1,h2,h3⟩
theorem KT.put{H:Hp}{kvs:List (List Key×V)}{xs:List (List Key×Addr×Value)}(r:KT H kvs xs)(k:List Key){b:Addr}{y:V}{u:Value}(hb:H b=some (.tup (k.map kV)))(ry:RelV y u):
   KT H (putK kvs k y) (storedH xs k b u):=by
 have e:(kvs.any fun kv=>decide (kv.1=k))=(atKey xs k).isSome:=by
   rw[a6m,(r.val k).isSome_eq,Option.isSome_map]
 unfold putK storedH
 rw[e]
 by_cases q:(atKey xs k).isSome=true
 . rw[if_pos q,if_pos q];exact r.repl k ry
 . rw[if_neg q,if_neg q];exact Paired.snoc r ⟨rfl,hb,ry⟩
theorem KT.keeps{H H':Hp}{kvs:List (List Key×V)}{xs:List (List Key×Addr×Value)}(r:KT H kvs xs)(ht: ∀b ys,H b=some (.tup ys)->H' b=some (.tup ys)):KT H' kvs xs:=
 Paired.mapP r fun _ _ z=>⟨z.1,ht _ _ z.2.1,z.2.2⟩
section
variable {P:Program}{w:World}{H:Hp}{h:Heap}{a:Addr}
theorem rd_of{u:HO}(ok:HOk P w H h)(e:Rd H a u):ObjOk P w H h a u:=e.ok ok
theorem a7b{kvs:List (Key×V)}(ok:HOk P w H h)(e:Rd H a (.dK kvs)):kvs.length<=sizeLine/\(a==sysModules)=false/\ ∃vs,KV kvs vs/\h.DictOf (a06 P w) a vs:=
 show ObjOk P w H h a (.dK kvs)from rd_of ok e
theorem dk_of{kvs:List (Key×V)}(ok:HOk P w H h)(e:H a=some (.dK kvs)):kvs.length<=sizeLine/\(a==sysModules)=false/\ ∃vs,KV kvs vs/\h.DictOf (a06 P w) a vs:=a7b ok (.inl e)
theorem a95{ks:List Key}(ok:HOk P w H h)(e:H a=some (.tup (ks.map kV))):(tupleKind (a06 P w)).is h ks a:=by
 obtain⟨_,its,r,o,h1,h2,n,h3⟩:=(show ObjOk P w H h a (.tup (ks.map kV))from ok a _ e)
 exact⟨o,its.toArray,n,h1,h2,h3,by simpa using a78 r⟩
theorem b4t{kvs:List (List Key×V)}(ok:HOk P w H h)(e:Rd H a (.dT kvs)):kvs.length<=sizeLine/\(a==sysModules)=false/\
   ∃xs,KT H kvs xs/\h.DictOfH (tupleKind (a06 P w)) a xs:=by
 obtain⟨z,y,xs,r,o,es,ep,h1,h2,h3,h4,h5⟩:=(show ObjOk P w H h a (.dT kvs)from rd_of ok e)
 refine⟨z,y,xs,r,o,es,ep,h1,h2,h3,h4,fun x hx=> ?_,h5⟩
 have all: ∀{l:List (List Key×V)}{m:List (List Key×Addr×Value)},KT H l m-> ∀x∈m,(tupleKind (a06 P w)).is h x.1 x.2.1:=by
   intro l m q
   induction q with
   |nil=>intro x hx;exact nomatch hx
   | @cons p q ps qs hq t ih=>
     intro x hx
     rcases List.mem_cons.mp hx with e |hx
     . subst e
       exact a95 ok (by rw[<-hq.1];exact hq.2.1)
     . exact ih x hx
 exact all r x hx
theorem dt_of{kvs:List (List Key×V)}(ok:HOk P w H h)(e:H a=some (.dT kvs)):kvs.length<=sizeLine/\(a==sysModules)=false/\
   ∃xs,KT H kvs xs/\h.DictOfH (tupleKind (a06 P w)) a xs:=b4t ok (.inl e)
end
def DGet(H:Hp)(a:Addr)(y:V)(r:Option V):Prop:=
 (∃kvs k,Rd H a (.dK kvs)/\y=kV k/\r=valV kvs k)\/ ∃kvs k b,Rd H a (.dT kvs)/\y= .ref b/\H b=some (.tup (k.map kV))/\r=valV kvs k
def DPut(H:Hp)(a:Addr)(y v:V)(H':Hp):Prop:=
 (∃kvs k,H a=some (.dK kvs)/\y=kV k/\kvs.length<sizeLine/\H'=upd H a (.dK (putK kvs k v)))\/
 ∃kvs k b,H a=some (.dT kvs)/\y= .ref b/\H b=some (.tup (k.map kV))/\kvs.length<sizeLine/\H'=upd H a (.dT (putK kvs k v))
theorem DGet.k{H:Hp}{a:Addr}{kvs:List (Key×V)}{k:Key}(e:H a=some (.dK kvs)):DGet H a (kV k) (valV kvs k):= .inl ⟨kvs,k,.inl e,rfl,rfl⟩
theorem DPut.k{H:Hp}{a:Addr}{kvs:List (Key×V)}{k:Key}{v:V}(e:H a=some (.dK kvs))(hl:kvs.length<sizeLine):DPut H a (kV k) v (upd H a (.dK (putK kvs k v))):= .inl ⟨kvs,k,e,rfl,hl,rfl⟩
section
variable {X:Cx}{pins:List (Addr×Obj)}{σ:St}{H:Hp}{s:Shared}{a:Addr}{y v:V}{u r:Value}{o:Option V}{A:Around}{E:Value->Shared->Prop}
theorem Inv.big(I:Inv X pins σ H s):sysModules<s.heap.objs.size:=by
 have h:mainGlobals<s.heap.objs.size:=(I.mod.glob.keeps I.bk).lt
 exact Nat.lt_trans (by decide) h
theorem d_in{Q:Value->Shared->Prop}(hu:A.units+1<cLine)(I:Inv X pins σ H s)(g:DGet H a y o)(ry:RelV y u)(h: ∀s',Inv X pins σ H s'->Q (.bool o.isSome) s'):
   wpAny (model X.prog X.w) A (compareOp .In u (.ref a)) Q E s:=by
 rcases g with⟨kvs,k,e,ey,l⟩ | ⟨kvs,k,b,e,ey,eb,l⟩
 . subst ey
   obtain⟨z,hd,vs,rel,dd⟩:=a7b I.hok e
   refine wpAny_in_of (b2w ry) hd dd.mapOf ?_
   rw[<-(rel.val k).isSome_eq,<-l]
   exact h _ (I.tok _)
 . subst ey
   cases(show u=Value.ref b from ry)
   obtain⟨z,hd,xs,rel,dd⟩:=b4t I.hok e
   refine wpAny_in_heap (tupleKind_room_in1 hu) (a95 I.hok eb) hd dd ?_
   have q:=(rel.val k).isSome_eq
   rw[Option.isSome_map]at q
   rw[<-q,<-l]
   exact h _ (I.tok _)
theorem d_notIn{Q:Value->Shared->Prop}(hu:A.units+1<cLine)(I:Inv X pins σ H s)(g:DGet H a y o)(ry:RelV y u)(h: ∀s',Inv X pins σ H s'->Q (.bool (!o.isSome)) s'):
   wpAny (model X.prog X.w) A (compareOp .NotIn u (.ref a)) Q E s:=by
 rcases g with⟨kvs,k,e,ey,l⟩ | ⟨kvs,k,b,e,ey,eb,l⟩
 . subst ey
   obtain⟨z,hd,vs,rel,dd⟩:=a7b I.hok e
   refine wpAny_notIn_of (b2w ry) hd dd.mapOf ?_
   rw[<-(rel.val k).isSome_eq,<-l]
   exact h _ (I.tok _)
 . subst ey
   cases(show u=Value.ref b from ry)
   obtain⟨z,hd,xs,rel,dd⟩:=b4t I.hok e
   refine wpAny_notIn_heap (tupleKind_room_in1 hu) (a95 I.hok eb) hd dd ?_
   have q:=(rel.val k).isSome_eq
   rw[Option.isSome_map]at q
   rw[<-q,<-l]
   exact h _ (I.tok _)
theorem a9i{h':Heap}{t':Nat}{ob:HO}(I:Inv X pins σ H s)(mu:Mut (H a))(hs:Heap.SameBut a s.heap h')(he: ∃q,h'.get? a=some q)(new:ObjOk X.prog X.w (upd H a ob) h' a ob):
   Inv X pins σ (upd H a ob) {s with heap:=h',toks:=t'}:=
 I.write (x:=a) (e:=a) mu (.inl rfl) (fun b q hb z=>(hs.2 b hb).trans z) he new
theorem dk_new{P:Program}{w:World}{H':Hp}{h':Heap}{kvs:List (Key×V)}{vs:List (Key×Value)}(z:kvs.length<=sizeLine)(hd:(a==sysModules)=false)(rel:KV kvs vs)(dd:h'.DictOf (a06 P w) a vs):
   ObjOk P w H' h' a (.dK kvs):=⟨z,hd,vs,rel,dd⟩
theorem b3e{H':Hp}{Q:Unit->Shared->Prop}(hu:A.units+1<cLine)(I:Inv X pins σ H s)(g:DPut H a y v H')(ry:RelV y u)(rv:RelV v r)(h: ∀s',Inv X pins σ H' s'->Q () s'):
   wpAny (model X.prog X.w) A (setItem (.ref a) u r) Q E s:=by
 rcases g with⟨kvs,k,e,ey,l,eH⟩ | ⟨kvs,k,b,e,ey,eb,l,eH⟩
 . subst ey eH
   obtain⟨z,hd,vs,rel,dd⟩:=dk_of I.hok e
   have hz:vs.length<=sizeLine:=by rw[<-rel.length];exact z
   have hl:(putK kvs k v).length<=sizeLine:=by have:=a5h kvs k v;omega
   refine wpAny_setItem_pairs (hsz:=hz) (b2w ry) dd fun h' dd' hs=>h _ ?_
   have he: ∃q,h'.get? a=some q:=let ⟨q,_,_,hq,_⟩:=dd';⟨q,hq⟩
   exact a9i I (by rw[e];exact True.intro) hs he (dk_new hl hd (rel.put k rv) dd')
 . subst ey eH
   cases(show u=Value.ref b from ry)
   obtain⟨z,hd,xs,rel,dd⟩:=dt_of I.hok e
   have hz:xs.length<=sizeLine:=by rw[<-Paired.length rel];exact z
   have hl:(putK kvs k v).length<=sizeLine:=by have:=a5h kvs k v;omega
   refine wpAny_setItem_heap (hsz:=hz) (tupleKind_room_in1 hu) (a95 I.hok eb) dd fun h' dd' hs=>h _ ?_
   obtain⟨q,es,ep,hq,h2,h3,h4,_,h5⟩:=dd'
   refine a9i I (by rw[e];exact True.intro) hs ⟨q,hq⟩ ⟨hl,hd,_,(rel.put k eb rv).keeps fun c ys ec=> ?_,q,es,ep,hq,h2,h3,h4,h5⟩
   rw[a0i (ne_of ec e (fun z=>nomatch z))]
   exact ec
end
section
variable {X:Cx}{pins:List (Addr×Obj)}{σ:St}{H:Hp}{s:Shared}{a:Addr}{kvs:List (Key×V)}{k:Key}{u:Value}{A:Around}{E:Value->Shared->Prop}
theorem d_pop{v:V}{more:List Value}{Q:Value->Shared->Prop}(I:Inv X pins σ H s)(e:H a=some (.dK kvs))(ry:RelV (kV k) u)(l:valV kvs k=some v)(hm:more=[]\/ ∃x,more=[x])
   (h: ∀w' s',Inv X pins σ (upd H a (.dK (dropK kvs k))) s'->RelV v w'->Q w' s'):wpAny (model X.prog X.w) A (call (.builtin "dict.pop") (.ref a::u::more)) Q E s:=by
 obtain⟨z,hd,vs,rel,dd⟩:=dk_of I.hok e
 obtain⟨w',hw,rw'⟩:=RelO.some_of (v:=v) (o:=valueAt vs k) (by rw[<-l];exact rel.val k)
 have hp:(keyPart u).isSome=true:=by
   cases k with
   |inl i=>obtain⟨t,q⟩:=(show ∃t,u=Value.int i t from ry);subst q;rfl
   |inr x=>obtain⟨t,q⟩:=(show ∃t,u=Value.str x t from ry);subst q;rfl
 have ha:argsOk "dict.pop" ⟨.ref a::u::more,[]⟩:=by
   rcases hm with q | ⟨x,q⟩
   . subst q;exact PySem.F.args_dict_pop_2 _ _
   . subst q;exact PySem.F.args_dict_pop_3 _ _ _
 refine call_meetsIn PySem.F.slot_dict_pop dd.typeIs PySem.F.entry_dict_pop ha (meets_dict_pop_there (a06 X.prog X.w) a (b2w ry) more hm hp)
   ⟨vs,w',dd,by rw[<-rel.length];exact z,hw,fun h' dd' hs=>h w' _ ?_ rw'⟩
 have he: ∃q,h'.get? a=some q:=let ⟨q,_,_,hq,_⟩:=dd';⟨q,hq⟩
 exact a9i I (by rw[e];exact True.intro) hs he (dk_new (Nat.le_trans (b4u kvs k) z) hd (rel.drop k) dd')
theorem d_len{Q:Value->Shared->Prop}(I:Inv X pins σ H s)(e:Rd H a (.dK kvs))(h: ∀t s',Inv X pins σ H s'->Q (.int kvs.length t) s'):wpAny (model X.prog X.w) A (call (.builtin "len") [.ref a]) Q E s:=by
 obtain⟨z,hd,vs,rel,dd⟩:=a7b I.hok e
 refine call_len_dict hd dd (by rw[<-rel.length];rw[sizeLine_eq]at z;omega) ?_
 rw[<-rel.length]
 exact h _ _ (I.tok _)
end
def tDIn(ty td:TE):TE:=fun σ H Q=>ty σ H fun y H1=>td σ H1 fun x H2=> ∃a o,x= .ref a/\DGet H2 a y o/\Q (.bl o.isSome) H2
def tDNotIn(ty td:TE):TE:=fun σ H Q=>ty σ H fun y H1=>td σ H1 fun x H2=> ∃a o,x= .ref a/\DGet H2 a y o/\Q (.bl (!o.isSome)) H2
noncomputable def sDPut(td ty tv:TE):TS:=fun D σ H=>tv σ H fun v H1=>td σ H1 fun x H2=>ty σ H2 fun y H3=> ∃a H4,x= .ref a/\DPut H3 a y v H4/\D.nx σ H4
section
variable {X:Cx}{o i e value:Expr}{pos pos' tpos:Pos}{td ty tv:TE}
theorem pc_din(hu:X.A.units+1<cLine)(hi:PE X i ty)(ho:PE X o td):PC X .In i o (tDIn ty td):=by
 intro pins s σ H Q I h
 refine thn (hi pins s σ H _ I h) fun iv s1 ⟨y,H1,I1,ry,q1⟩=>thn (ho pins s1 σ H1 _ I1 q1) fun u s2 zz9=> ?_
 obtain⟨x,H2,I2,rx,a,ov,ex,g,q2⟩:=zz9
 subst ex
 obtain rfl:u=Value.ref a:=rx
 exact d_in hu I2 g ry fun s3 I3=>⟨.bl ov.isSome,H2,I3,rfl,q2⟩
theorem b2d(hu:X.A.units+1<cLine)(hi:PE X i ty)(ho:PE X o td):PC X .NotIn i o (tDNotIn ty td):=by
 intro pins s σ H Q I h
 refine thn (hi pins s σ H _ I h) fun iv s1 ⟨y,H1,I1,ry,q1⟩=>thn (ho pins s1 σ H1 _ I1 q1) fun u s2 zz9=> ?_
 obtain⟨x,H2,I2,rx,a,ov,ex,g,q2⟩:=zz9
 subst ex
 obtain rfl:u=Value.ref a:=rx
 exact d_notIn hu I2 g ry fun s3 I3=>⟨.bl (!ov.isSome),H2,I3,rfl,q2⟩
theorem ps_dput(hu:X.A.units+1<cLine)(ho:PE X o td)(hi:PE X i ty)(hv:PE X value tv)(hs:swapsWith value (some (.Subscript o i pos')) pos.line X.env=pure false):
   PS X (.Assign [.Subscript o i pos'] value pos) (sDPut td ty tv):=by
 intro pins s σ H D I h
 refine wpAny_Assign_Subscript (thn (hv pins s σ H _ I h) fun r s1 ⟨v,H1,I1,rv,q1⟩=>thn (ho pins s1 σ H1 _ I1 q1) fun u s2 ⟨x,H2,I2,rx,q2⟩=>thn (hi pins s2 σ H2 _ I2 q2) fun iv s3 ⟨y,H3,I3,ry,a,H4,ex,g,q3⟩=> ?_) hs
 subst ex
 obtain rfl:u=Value.ref a:=rx
 exact b3e hu I3 g ry rv fun s4 I4=>⟨σ,H4,I4,q3⟩
end
theorem b4v{P:Program}{w:World}{H:Hp}(h:Heap)(hb:sysModules<h.objs.size):ObjOk P w H (h.push {cls:= .type "dict",data:= .dict #[]}) h.objs.size (.dK []):=
 ⟨Nat.zero_le _,beq_eq_false_iff_ne.mpr (Ne.symm (Nat.ne_of_lt hb)),[],.nil,Heap.DictOf.new h⟩
def tDNewK:TE:=fun _ H Q=> ∀p,H p=none->Q (.ref p) (upd H p (.dK []))
section
variable {X:Cx}{pos:Pos}
theorem pe_dnewK:PE X (.Dict [] [] pos) tDNewK:=fun pins s σ H Q I h=>
 wpAny_Dict_empty ⟨.ref s.heap.objs.size,_,I.laid (a:=s.heap.objs.size) (o:= .dK []) (t':=s.toks) (fun _ _ q=>Heap.get?_push_of_some _ q) (Nat.le_refl _) (b4v s.heap I.big),rfl,h _ (I.hok.fresh (Nat.le_refl _))⟩
end
structure M1(X:Cx)(o:Expr)(m:Str)(apos:Pos)(e:Expr)(cpos:Pos):Prop where
 base:attributeBase o m X.env (eval o X.env)=eval o X.env
 few:((backTo cpos (starEach [e] X.env)).all (fun x=> !x.1)&&(backToKw cpos (keywordEach [] X.env)).all (fun x=>x.1.isSome)
   &&decide (([e]:List Expr).length+([]:List Keyword).length+(if([]:List Keyword).isEmpty then 0 else 1)<30))=true
 line:(apos.endLine==cpos.line)=true
 trees:backTo cpos (starEach [e] X.env)=[(false,eval e X.env)]
def IsD(H:Hp)(a:Addr):Prop:=(∃kvs,Rd H a (.dK kvs))\/ ∃kvs,Rd H a (.dT kvs)
theorem isD_at{X:Cx}{pins:List (Addr×Obj)}{σ:St}{H:Hp}{s:Shared}{a:Addr}(I:Inv X pins σ H s)(d:IsD H a):
   s.TypeIs (.ref a) "dict"/\(∀b,Value.ref a= .ref b-> ∃ob,s.heap.get? b=some ob/\ob.dict=none)/\(a==sysModules)=false:=by
 rcases d with⟨kvs,e⟩ | ⟨kvs,e⟩
 . obtain⟨_,hd,vs,_,dd⟩:=a7b I.hok e
   refine⟨dd.typeIs,fun b q=> ?_,hd⟩
   cases q
   obtain⟨ob,_,_,h1,h2,_⟩:=dd
   exact⟨ob,h1,h2.2.1⟩
 . obtain⟨_,hd,xs,_,dd⟩:=b4t I.hok e
   refine⟨dd.typeIs,fun b q=> ?_,hd⟩
   cases q
   obtain⟨ob,_,_,h1,h2,_⟩:=dd
   exact⟨ob,h1,h2.2.1⟩
section
variable {X:Cx}{pins:List (Addr×Obj)}{σ:St}{H:Hp}{s:Shared}{a:Addr}{y d:V}{u r:Value}{o:Option V}{A:Around}{E:Value->Shared->Prop}
end
def tDPop1(td ty:TE):TE:=fun σ H Q=>td σ H fun x H1=> ∃a,x= .ref a/\IsD H1 a/\ty σ H1 fun y H2=> ∃kvs k v,H2 a=some (.dK kvs)/\y=kV k/\valV kvs k=some v/\Q v (upd H2 a (.dK (dropK kvs k)))
section
variable {X:Cx}{o e f:Expr}{apos cpos:Pos}{td ty tx:TE}
theorem b32(ho:PE X o td)(he:PE X e ty)(m:M1 X o "pop" apos e cpos):PE X (.Call (.Attribute o "pop" apos) [e] [] cpos) (tDPop1 td ty):=by
 intro pins s σ H Q I h
 refine wpAny_Call_method m.base m.few m.line PySem.F.plainAttrs_dict PySem.F.slot_dict_pop PySem.F.type_dict_pop (thn (ho pins s σ H _ I h) fun u s1 zz9=> ?_)
 obtain⟨x,H1,I1,rx,a,ex,d,q1⟩:=zz9
 subst ex
 obtain rfl:u=Value.ref a:=rx
 obtain⟨t1,t2,_⟩:=isD_at I1 d
 refine⟨t1,t2,?_⟩
 rw[m.trees]
 refine Calls.callWith_builtin rfl (Calls.evalArgs_plain (Calls.spliced_cons (thn (he pins s1 σ H1 _ I1 q1) fun iv s2 ⟨y,H2,I2,ry,kvs,k,v,ea,ey,l,q2⟩=>Calls.spliced_nil ?_)))
 subst ey
 exact d_pop I2 ea ry l (.inl rfl) fun w' s3 I3 rw'=>⟨v,_,I3,rw',q2⟩
end
section
variable {X:Cx}{pins:List (Addr×Obj)}{σ:St}{H:Hp}{s:Shared}{a:Addr}{kvs:List (Key×V)}{A:Around}{E:Value->Shared->Prop}
end
section
variable {X:Cx}{pins:List (Addr×Obj)}{σ:St}{H:Hp}{s:Shared}{a:Addr}{y:V}{u:Value}{A:Around}{E:Value->Shared->Prop}
end
section
variable {X:Cx}
theorem b3f:CallR X (.builtin "len") (fun xs H Q=> ∃a kvs,xs=[V.ref a]/\H a=some (.dK kvs)/\Q (.int kvs.length) H):=by
 intro pins s σ H xs us Q I r h
 obtain⟨a,kvs,rfl,ha,q⟩:=h
 obtain⟨u,rfl,ru⟩:=b1j r
 cases ru
 exact d_len I (.inl ha) fun t s' I'=>⟨.int kvs.length,H,I',⟨t,rfl⟩,q⟩
end
section
variable {κ:Type}[DecidableEq κ]
end
structure Has(P:Program)(w:World)(K:PySem.W.Frag)(mg:Str->Option Value)(base:Heap)(CX:CXT)(k:Nat)(x:Str)(ps:List Str)(sp:Sp):Prop where
 ex: ∃f fd,FnOk P w K mg base CX k f fd ps sp/\mg x=some (.ref f)/\PySem.W.keepIn K (.ref f)=true/\Binds K fd ps []
section
variable {X:Cx}{CX:CXT}{k:Nat}{ps:List Str}{sp:Sp}{E:XK}{x:Str}{p pos:Pos}{e:Expr}{es:List Expr}{t:TA}
end
section
variable {X:Cx}
theorem op_mulB:OpR X (binaryOp .Mult) (rI IntMulOk fun i j=> .int (i *j)):=opI fun _ _ _ _ _ _ _ hc q=>mul_int q hc
structure BigDiv(X:Cx):Prop where
 seer:X.base.NoSeer
 tree:X.prog.given.tree=none
 stk:X.stack=X.env::X.outer
 gen:X.env.scope.isGenerator=false
 co:X.env.scope.isCoroutine=false
 dp:X.A.depth+100<recursionLimit
end
section
variable {X:Cx}
end
section
variable {X:Cx}{st:Stmt}{rest:List Stmt}{t u:TS}
end
theorem NoSeer.hid{h:Heap}{a:Addr}{o:Obj}{H:Hp}(hN:h.NoSeer)(ha:h.get? a=some o)(hc:o.cls= .type "list")(hA: ∀b,H b≠none->b=a)
   (nsK: ∀{b:Addr}{m:Str->Option Value},h.Ns b m->(hidT h H).Ns b m):(hidT h H).NoSeer where
 statics:=let ⟨mc,x,y⟩:=hN.statics;⟨mc,nsK x,y⟩
 mods:=let ⟨mc,x,y⟩:=hN.mods;⟨mc,nsK x,y⟩
 imp:=let ⟨mc,x,y⟩:=hN.imp;⟨mc,nsK x,y⟩
 main:=by
   obtain⟨mg,bm,ob,x,y,z,c,d⟩:=hN.main
   refine⟨mg,bm,ob,nsK x,y,a97 z ?_,c,d⟩
   cases q:H bm with
   |none=>rfl
   |some u=>
     have e:bm=a:=hA bm (by rw[q];simp)
     subst e
     rw[ha]at z
     cases z
     rw[hc]at c
     exact absurd c (by decide)
theorem b2r{P:Program}{w:World}{K:PySem.W.Frag}{mg mb:Str->Option Value}{CX:CXT}{k:Nat}{fa a:Addr}{fd:FuncData}{x:Str}{sp:Sp}{s₁:Shared}{vs:List Value}{ns:List Int}
   (KX:K.In s₁.heap) (hns:s₁.heap.Ns mainGlobals mg) (hb:s₁.heap.Ns builtinsNs mb) (hbb: ∀x:Str,x≠ "__name__"->mb x=bootBuiltins x) (hlim:s₁.heap.NoLimit) (hsee:s₁.heap.NoSeer) (hg:s₁.gens= #[])
   (ha:s₁.heap.get? a=some {cls:= .type "list",data:= .seq vs.toArray}) (hi:IntsAre vs ns) (hl:ns.length<=sizeLine) (hr:Room k callerA)
   (F: ∀base:Heap,K.In base->base.Ns mainGlobals mg->base.NoSeer->FnOk P w K mg base CX k fa fd [x] sp) (hbind: ∀(s:Shared) (u:Value),BindsTo s fd ⟨[u],[]⟩ [(x,u)])
   (hsp: ∀H:Hp,Only H->SqL K H a (ns.map V.int)->sp [.ref a] H (fun v _=>v= .bl true) fun _ _ _=>False)
   (hCX: ∀H e s',CX [] H s₁ (fun _ _ _=>False) e s'->False):
   codeAny (model P w) callerA (.call (.ref fa) ⟨[.ref a],[]⟩) (fun r s'=>r= .ok (.ret (.bool true))/\OldK s₁.heap s'.heap/\s'.os=s₁.os/\AllBare s'.gens) s₁:=by
 have rv:=a7e hi
 have lenV:=hi.length
 have core: ∀H:Hp,Only H->SqL K H a (ns.map V.int)->HOk P w H s₁.heap->(∀b,H b≠none->b=a)->(H a≠none->K.lookup a=none)->
     codeAny (model P w) callerA (.call (.ref fa) ⟨[.ref a],[]⟩) (fun r s'=>r= .ok (.ret (.bool true))/\OldK s₁.heap s'.heap/\s'.os=s₁.os/\AllBare s'.gens) s₁:=by
   intro H hO hS hok hA hK
   have base_of: ∀{b:Addr}{o:Obj},s₁.heap.get? b=some o->H b=none->(hidT s₁.heap H).get? b=some o:=fun e n=>a97 e n
   have noA: ∀{b:Addr}{o:Obj}{es:Array DictEntry}{ep:Nat},s₁.heap.get? b=some o->o.data= .dict es ep->H b=none:=fun {b o es ep} e d=>by
     cases q:H b with
     |none=>rfl
     |some u=>
       have e':b=a:=hA b (by rw[q];simp)
       subst e'
       rw[ha]at e;cases e
       have d':Data.seq vs.toArray _=Data.dict es ep:=d
       cases d'
   have nsK: ∀{b:Addr}{m:Str->Option Value},s₁.heap.Ns b m->(hidT s₁.heap H).Ns b m:=fun {b m} ⟨o,es,ep,e,d,r⟩=>⟨o,es,ep,base_of e (noA e d),d,r⟩
   have hKb:K.In (hidT s₁.heap H):=fun b o e=>base_of (KX b o e) (by
     cases q:H b with
     |none=>rfl
     |some u=>
       have e':b=a:=hA b (by rw[q];simp)
       subst e'
       rw[hK (by rw[q];simp)]at e;cases e)
   have hM:Mod K mg (hidT s₁.heap H):=⟨hKb,nsK hns,⟨mb,nsK hb,hbb⟩,let ⟨mc,h1,h2⟩:=hlim;⟨mc,nsK h1,h2⟩⟩
   have hSe:(hidT s₁.heap H).NoSeer:=NoSeer.hid hsee ha rfl hA nsK
   have e0:Env0 P w K mg (hidT s₁.heap H) callerA [] s₁ H:=⟨rfl,hM,fun b o e=>of_hidT e,Nat.le_of_eq (b24 _ _),trivial,fun b hb=>absurd (show b∈([]:List Addr)from hb) (by simp),hok,.of_eq hg⟩
   refine codeAny_mono ((F _ hKb (nsK hns) hSe).run callerA [] s₁ H ⟨[.ref a],[]⟩ [.ref a] [.ref a] _ _ hr e0 (hbind s₁ (.ref a)) (.cons rfl .nil) (hsp H hO hS)) fun r s' h=> ?_
   cases r with
   |error e=>exact(hCX H e s' h).elim
   |ok fl=>
     cases fl with
     |next=>exact False.elim h
     |brk=>exact False.elim h
     |cont=>exact False.elim h
     |ret u=>
       obtain⟨v,H',os,bare,un,hok',r',q⟩:=h
       have q':v= .bl true:=q
       subst q'
       obtain rfl:u=Value.bool true:=r'
       refine⟨rfl,OldK.of_keep fun b o e=> ?_,os,bare⟩
       cases q:H b with
       |none=>exact un.keep b o e q (by intro z;exact absurd (show b∈([]:List Addr)from z) (by simp)) (by simp)
       |some u=>
         rcases hO b with z | ⟨ob,xs,z⟩
         . rw[q]at z;cases z
         . have z2:=un.frzs b ob _ z
           obtain⟨e1,_⟩:=hok b _ z
           obtain⟨e2,_⟩:=hok' b _ z2
           rw[e]at e1;cases e1
           exact e2
 cases hk:K.lookup a with
 |some o=>
   have e:=KX a o hk
   rw[ha]at e
   cases e
   refine core (fun _=>none) (fun _=> .inl rfl) (.inr ⟨_,vs.toArray,_,hk,rfl,rfl,rfl,by rw[List.size_toArray,lenV];exact hl,by simpa using rv⟩) (fun b u z=>by have z':(none:Option HO)=some u:=z;cases z') (fun b z=>absurd rfl z) fun z=>absurd rfl z
 |none=>
   refine core (fun b=>if b=a then some (.frz {cls:= .type "list",data:= .seq vs.toArray} (.lst (ns.map V.int)))else none) (fun b=> ?_) (.inl (.inr ⟨{cls:= .type "list",data:= .seq vs.toArray},if_pos rfl⟩)) (fun b u z=> ?_) (fun b z=> ?_) fun _=>hk
   . by_cases hb:b=a
     . exact .inr ⟨_,_,if_pos hb⟩
     . exact .inl (if_neg hb)
   . by_cases hb:b=a
     . have z':=(if_pos hb).symm.trans z
       cases z'
       subst hb
       exact⟨ha,by rw[List.length_map];exact hl,vs,_,rv,ha⟩
     . have z':=(if_neg hb).symm.trans z
       cases z'
   . by_cases hb:b=a
     . exact hb
     . exact absurd (if_neg hb) z
structure Script(n:Nat)(ns:List Int):Prop where
 len:ns.length<=n
 bits: ∀i∈ns,Builtin.Int.intBits i<=2^20
theorem a9l{ns:List Int}(h:PySem.W.WData.layableAll [PySem.W.WData.list (ns.map PySem.W.WData.int)]=true): ∀i∈ns,Builtin.Int.intBits i<=2^20:=fun i hi=>by
 have h1:=(PySem.W.layW_cons h).1
 have h2:=PySem.W.layableW_item h1 (.int i) (List.mem_map.mpr ⟨i,hi,rfl⟩)
 have h3:=(PySem.W.layableW_iff.mp h2).2.2
 simpa only[PySem.W.WData.weight,Builtin.Int.intBits]using h3
section
open PySem.W PySem.Calls
theorem a8n{l:PySem.W.OpenLaw}{n:Nat}{q:Program}{loose:List Str}{XP:(Str->Option Value)->Heap->Prop}{YP:World->Heap->Prop}{d:DefRec}
   (hn:l.most=some n) (hdf:d.params.defaults=[])
   (call: ∀(w:World) (s₀ s₁:Shared) (mg mb:Str->Option Value) (fa:Addr) (o:Obj) (pm cd doc:Value) (a:Addr) (vs:List Value) (ns:List Int),
     PySem.W.Ground q loose [] XP w s₀ mg mb s₁.heap->YP w s₁.heap->
     s₁.heap.get? fa=some o->o.data= .func (docDef d.name d.params d.body d.scope pm cd doc)->s₁.heap.CodeRec cd d.name->mg d.name=some (.ref fa)->
     s₁.heap.get? a=some {cls:= .type "list",data:= .seq vs.toArray}->IntsAre vs ns->Script n ns->s₁.gens= #[]->
     codeAny (model l.prog w) callerA (.call (.ref fa) ⟨[.ref a],[]⟩) (fun r s'=>r= .ok (.ret (.bool true))/\OldK s₁.heap s'.heap/\s'.os=s₁.os/\AllBare s'.gens) s₁):
   PySem.W.WalkO q loose XP YP l.row.toRowW d [] (fun f vs=>PySem.call f vs):=by
 intro w s₀ s₁ mg mb G Y fa o pm cd doc dV kV ho hd hcd hD hmg hg args vals as hpre hlay hrd hwl hlo
 obtain rfl:dV= .none:=Dflts.none hD hdf
 obtain rfl:kV= .none:=Dflts.noKw hD
 obtain⟨a,vs,ns,rfl,rfl,hobj,hints,hlen⟩:=Att.script_of hn hpre hwl
 refine enter_call (codeAny_mono (call w s₀ s₁ mg mb fa o pm cd doc a vs ns G Y ho (fd_plain hd) hcd hmg hobj hints ⟨hlen,a9l hlay⟩ hg) fun r s' hq=> ?_)
 obtain⟨rfl,h2,h3,h4⟩:=hq
 exact⟨.inl ⟨.bool true,.bool true,[],rfl,fun _=>rfl,.bool true,Att.post_true l _,fun _=>⟨List.Pairwise.nil,fun _ hm=>(nomatch hm)⟩⟩,h2,h3,h4⟩
end
theorem walk_ofB{l:PySem.W.OpenLaw}{n k:Nat}{q:Program}{loose:List Str}{XP:(Str->Option Value)->Heap->Prop}{YP:World->Heap->Prop}{d:DefRec}{K:Params->PySem.W.Frag}{CX:CXT}{sp:PySem.W.Frag->Sp}{x:Str}
   (hn:l.most=some n) (hn2:n<=sizeLine) (hdf:d.params.defaults=[]) (hr:Room k callerA) (him:importsNone q=true)
   (hY: ∀(w:World) (h:Heap),YP w h->(K w.params).In h)
   (F: ∀(w:World) (mg:Str->Option Value) (fa:Addr) (h:Heap),(K w.params).In h->h.Ns mainGlobals mg->mg d.name=some (.ref fa)->
     ∃fd:FuncData,(∀(s:Shared) (u:Value),BindsTo s fd ⟨[u],[]⟩ [(x,u)])/\
       ∀base:Heap,(K w.params).In base->base.Ns mainGlobals mg->base.NoSeer->FnOk l.prog w (K w.params) mg base CX k fa fd [x] (sp (K w.params)))
   (hsp: ∀(K:PySem.W.Frag) (H:Hp) (a:Addr) (ns:List Int),Script n ns->Only H->SqL K H a (ns.map V.int)->sp K [.ref a] H (fun v _=>v= .bl true) fun _ _ _=>False)
   (hCX: ∀(H:Hp) (s:Shared) (e:Value) (s':Shared),CX [] H s (fun _ _ _=>False) e s'->False):
   PySem.W.WalkO q loose XP YP l.row.toRowW d [] (fun f vs=>PySem.call f vs):=by
 refine a8n hn hdf fun w s₀ s₁ mg mb fa o pm cd doc a vs ns G Y ho hd hcd hmg hobj hints hsc hg=> ?_
 have KX:=hY w _ Y
 obtain⟨fd,hb,hF⟩:=F w mg fa _ KX G.T.g hmg
 exact b2r KX G.T.g G.T.b G.T.builtins G.T.nolimit (G.T.seer him) hg hobj hints (Nat.le_trans hsc.len hn2) hr hF hb (fun H hO hS=>hsp (K w.params) H a ns hsc hO hS) fun H e s'=>hCX H s₁ e s'
open PySem PySem.Spec PySem.Calls PyProof.Rows
structure Air(B:Heap)(l:List Env)(a:Addr)(h:Heap):Prop where
 stay:B.StaysIn h
 new:B.get? a=none
 frm:h.FunFrames B l
def Trc(B:Heap)(a:Addr)(cls a0:Value)(m:Option Value)(h:Heap):Prop:=match m with
 |none=> ∃oe vs,h.get? a=some oe/\oe.cls=cls/\oe.data= .fields vs/\vs[0]? =some a0/\vs[1]? =some .none
 |some fl=>h.TracedAtW B a cls a0 fl
def excφ(a:Addr)(cls:Value):Heap->Prop:=fun h=> ∃o vs,h.get? a=some o/\o.cls=cls/\o.dict=none/\o.data= .fields vs/\vs[2]? =some .none
def excψ(a:Addr)(cls:Value)(b:Addr):Heap->Prop:=fun h=> ∃o vs,h.get? a=some o/\o.cls=cls/\o.dict=none/\o.data= .fields vs/\vs[2]? =some (.ref b)
inductive Chn(H:Hp):Addr->Prop where
 |one {b:Addr}{k:Value} (h:H b=some (.ext (excφ b k))):Chn H b
 |more {b c:Addr}{k:Value} (h:H b=some (.ext (excψ b k c))) (hc:Chn H c):Chn H b
def Ctxt(H:Hp)(c:Option Value):Prop:=c=some .none\/ ∃b,c=some (.ref b)/\Chn H b
def ExcIs(H:Hp)(a:Addr)(cls:Value):Prop:=H a=some (.ext (excφ a cls))\/ ∃b,H a=some (.ext (excψ a cls b))/\Chn H b
theorem ExcIs.chn{H:Hp}{a:Addr}{cls:Value}(e:ExcIs H a cls):Chn H a:=by
 rcases e with e | ⟨b,e,h⟩
 . exact .one e
 . exact .more e h
theorem Chn.there{H:Hp}{a:Addr}(c:Chn H a):H a≠none:=by
 cases c with
 |one h=>rw[h];simp
 |more h _=>rw[h];simp
theorem Chn.up{H:Hp}{a b:Addr}{u:HO}(c:Chn H a)(hb:H b=none):Chn (upd H b u) a:=by
 induction c with
 |one h=>exact .one (by rw[a0i (fun z=>by rw[z,hb]at h;cases h)];exact h)
 |more h _ ih=>exact .more (by rw[a0i (fun z=>by rw[z,hb]at h;cases h)];exact h) ih
def NoD(H:Hp)(a:Addr)(h:Heap):Prop:= ∃oe vs,h.get? a=some oe/\oe.dict=none/\oe.data= .fields vs/\Ctxt H vs[2]?
theorem a54(o:Obj)(f:Array Value->Array Value):(Obj.mapFields f o).dict=o.dict:=by
 obtain⟨c,d,dt,sl⟩:=o
 cases dt<;>rfl
section
variable {M:Model}{A:Around}{E:Value->Shared->Prop}{s:Shared}{B:Heap}{env:Env}{outer l:List Env}{L a:Addr}{cls a0:Value}{m:Option Value}{H:Hp}
theorem entryD{base:Heap}{e:Addr}{oe:Obj}{vs:Array Value}{head:Value}{hadNext:Bool}{Q:Unit->Shared->Prop}
   (hfr:A.frames=some (env::outer)) (hl:s.heap.FunFrames base (env::outer)) (hf:env.frame=some L)
   (he:s.heap.get? e=some oe) (hkb:base.StaysIn s.heap) (hen:base.get? e=none) (hd:oe.data= .fields vs) (hsz:1<vs.size) (h0:vs[0]? =some a0) (hnd:oe.dict=none) (h2:Ctxt H vs[2]?)
   (h: ∀h',Heap.NotedW base (env::outer) e oe.cls a0 (rawInt L) s.heap h'->NoD H e h'->Q () {s with heap:=h'}):
   wpAny M A (do let a <-frameOf env;let pl <-entryPlaceOf L hadNext;let b <-EntryCells.newEntry head a .none (rawInt L) .none pl;setField (.ref e) 1 b) Q E s:=by
 have hene:e∉(env::outer).filterMap (·.frame):=fun hm=>by
   obtain⟨_,o,ho,hnf⟩:=hl.mem hm
   rw[he]at ho;injection ho with ho;subst ho;exact hnf vs hd
 refine wpAny_bind (wpAny_frameOf_fun hfr hl hf fun h₁ hs₁=> ?_)
 refine wpAny_bind (wpAny_entryPlaceOf fun pl hpl=> ?_)
 unfold EntryCells.newEntry newFields
 refine wpAny_bind (wpAny_newObj_type ?_ (hpl.sizeOk5 _ _ _ _ _))
 have he₁:h₁.get? e=some oe:=(hs₁.2.1 e hene).trans he
 have kb₁:base.StaysIn h₁:=fun b o hbo=>(hs₁.2.1 b fun hm=>by rw[(hl.mem hm).1]at hbo;cases hbo).trans (hkb b o hbo)
 have he₂:=Heap.get?_push_of_some (h:=h₁) {cls:= .type "traceback",dict:=none,data:= .fields ([head,.ref L,.none,rawInt L,.none]++(if pl.isEmpty then List.replicate 6 Value.none else pl)).toArray} he₁
 have hTe:h₁.objs.size≠e:=Nat.ne_of_gt (Heap.lt_size he₁)
 have hd₃:=Obj.data_mapFields hd (·.setIfInBounds 1 (Value.ref h₁.objs.size))
 have he₃:=Heap.get?_update_self (Obj.mapFields (·.setIfInBounds 1 (Value.ref h₁.objs.size))) he₂ (Obj.isFreed_of_fields hd₃)
 refine wpAny_setField he₂ hd hsz (h _ ?_ ⟨_,_,he₃,(a54 _ _).trans hnd,hd₃,by rw[Array.getElem?_setIfInBounds_ne (by decide)];exact h2⟩)
 have hT₃:=(Heap.get?_update_other (h₁.push {cls:= .type "traceback",dict:=none,data:= .fields ([head,.ref L,.none,rawInt L,.none]++(if pl.isEmpty then List.replicate 6 Value.none else pl)).toArray})
   (Obj.mapFields (·.setIfInBounds 1 (Value.ref h₁.objs.size))) (Ne.symm hTe)).trans (Heap.get?_push_size h₁ rfl)
 have keep: ∀b o,b≠e->h₁.get? b=some o->
     ((h₁.push {cls:= .type "traceback",dict:=none,data:= .fields ([head,.ref L,.none,rawInt L,.none]++(if pl.isEmpty then List.replicate 6 Value.none else pl)).toArray}).update e (Obj.mapFields (·.setIfInBounds 1 (Value.ref h₁.objs.size)))).get? b=some o:=
   fun b o hbe hb=>by
     rw[Heap.get?_update_other _ _ (Ne.symm hbe)]
     exact Heap.get?_push_of_some _ hb
 have noRecord: ∀b o,s.heap.get? b=some o->(∀vs,o.data≠ .fields vs)->b≠e:=fun b o hb hnf q=>by
   rw[q,he]at hb;injection hb with hb;subst hb;exact hnf vs hd
 refine⟨fun b o hbo=>keep b o (fun q=>by rw[q,hen]at hbo;cases hbo) (kb₁ b o hbo),hl.of_keeps fun b o hb hnf=> ?_,?_,fun b o hb hnf=> ?_⟩
 . obtain⟨sl,hs⟩:=hs₁.2.2 b o hb
   exact⟨_,keep b _ (noRecord b o hb hnf) hs,rfl⟩
 . exact⟨_,_,h₁.objs.size,_,_,he₃,⟨Obj.cls_mapFields _ _,by rw[Array.getElem?_setIfInBounds_ne (by decide)];exact h0⟩,hd₃,by simp[hsz],kb₁.fresh,hTe,hT₃,rfl,by first | (simp;done) | (rcases hpl with rfl | ⟨_,_,_,_,_,_,_,rfl⟩<;>simp)⟩
 . obtain⟨sl,hs⟩:=hs₁.2.2 b o hb
   exact⟨sl,keep b _ (noRecord b o hb hnf) hs⟩
theorem a5e{Q:Unit->Shared->Prop}(hfr:A.frames=some (env::outer))(hf:env.frame=some L)(air:Air B (env::outer) a s.heap)(tr:Trc B a cls a0 m s.heap)(nd:NoD H a s.heap)
   (hm:m=none\/m=some .none\/m=some (rawInt L))
   (hQ: ∀h',Air B (env::outer) a h'->h'.TracedAtW B a cls a0 (rawInt L)->NoD H a h'->s.heap.UpToSlots h'->Q () {s with heap:=h'}):wpAny M A (noteFrame (.ref a) env) Q E s:=by
 obtain⟨ox,vx,hox,hdx,hvx,hv2⟩:=nd
 rcases hm with rfl |rfl |rfl
 . obtain⟨oe,vs,he,rfl,hd,h0,h1⟩:=tr
   rw[hox]at he;cases he
   have e2:=hd.symm.trans hvx
   injection e2 with e2
   subst e2
   unfold noteFrame
   simp only[hf]
   refine wpAny_bind (wpAny_field hox hd h1 ?_)
   rw[if_neg (by decide)]
   refine entryD hfr air.frm hf hox air.stay air.new hd (Array.getElem?_eq_some_iff.mp h1).1 h0 hdx hv2 fun h' hN hn=> ?_
   obtain⟨k1,k2,k3,k4⟩:=hN
   exact hQ h' ⟨k1,air.new,k2⟩ k3 hn k4
 . obtain⟨oe,vs,T,oT,ts,he,⟨hcls,h0⟩,hd,h1,hnT,hTe,hT,hdT,h3⟩:=tr
   rw[hox]at he;cases he
   have e2:=hd.symm.trans hvx
   injection e2 with e2
   subst e2
   subst hcls
   unfold noteFrame
   simp only[hf]
   refine wpAny_bind (wpAny_field hox hd h1 ?_)
   rw[if_pos (show(Value.ref T !=Value.none)=true from by simp)]
   refine wpAny_bind (wpAny_field hT hdT h3 ?_)
   rw[if_neg (show ¬ ((Value.none==rawInt L)=true)from by simp[rawInt])]
   refine wpAny_bind (wpAny_setField hT hdT (Array.getElem?_eq_some_iff.mp h3).1 ?_)
   have other: ∀b,b≠T->(s.heap.update T (Obj.mapFields (·.setIfInBounds 3 Value.none))).get? b=s.heap.get? b:=fun b hb=>Heap.get?_update_other _ _ (Ne.symm hb)
   have noRecord: ∀b o,s.heap.get? b=some o->(∀vs,o.data≠ .fields vs)->b≠T:=fun b o hb hnf q=>by
     rw[q,hT]at hb;injection hb with hb;subst hb;exact hnf ts hdT
   refine entryD hfr (air.frm.of_keeps fun b o hb hnf=>⟨o,(other b (noRecord b o hb hnf)).trans hb,rfl⟩) hf ((other a (Ne.symm hTe)).trans hox)
     (fun b o hbo=>(other b fun q=>by rw[q,hnT]at hbo;cases hbo).trans (air.stay b o hbo)) air.new hd (Array.getElem?_eq_some_iff.mp h1).1 h0 hdx hv2
     fun h' ⟨x1,x2,x3,x4⟩ hn=>hQ h' ⟨x1,air.new,x2⟩ x3 hn fun b o hb hnf=>x4 b o ((other b (noRecord b o hb hnf)).trans hb) hnf
 . refine wpAny_noteFrame_againW hf tr ?_
   exact hQ s.heap air tr ⟨ox,vx,hox,hdx,hvx,hv2⟩ (.refl _)
theorem a1m{f:Option Addr}{fl:Value}{Q:Unit->Shared->Prop}(air:Air B l a s.heap)(tr:s.heap.TracedAtW B a cls a0 fl)(nd:NoD H a s.heap)
   (hQ: ∀h',Air B l a h'->h'.TracedAtW B a cls a0 (f.elim Value.none fun x=>rawInt x)->NoD H a h'->s.heap.UpToSlots h'->Q () {s with heap:=h'}):wpAny M A (setFlight (.ref a) f) Q E s:=by
 obtain⟨oe,vs,T,oT,ts,he,hcls,hd,h1,hnT,hTe,hT,hdT,h3⟩:=tr
 obtain⟨ox,vx,hox,hdx,hvx,hv2⟩:=nd
 have hsz3:3<ts.size:=(Array.getElem?_eq_some_iff.mp h3).1
 have other: ∀b,b≠T->(s.heap.update T (Obj.mapFields (·.setIfInBounds 3 (f.elim Value.none fun x=>rawInt x)))).get? b=s.heap.get? b:=
   fun b hb=>Heap.get?_update_other _ _ (Ne.symm hb)
 have noRecord: ∀b o,s.heap.get? b=some o->(∀vs,o.data≠ .fields vs)->b≠T:=fun b o hb hnf q=>by
   rw[q,hT]at hb;injection hb with hb;subst hb;exact hnf ts hdT
 unfold setFlight
 refine wpAny_bind (wpAny_field he hd h1 ?_)
 rw[if_pos (show(Value.ref T !=Value.none)=true from by simp)]
 refine wpAny_setField hT hdT hsz3 (hQ _ ⟨fun b o hbo=>(other b fun q=>by rw[q,hnT]at hbo;cases hbo).trans (air.stay b o hbo),air.new,
   air.frm.of_keeps fun b o hb hnf=>⟨o,(other b (noRecord b o hb hnf)).trans hb,rfl⟩⟩ ?_ ⟨ox,vx,(other a (Ne.symm hTe)).trans hox,hdx,hvx,hv2⟩ fun b o hb hnf=>⟨o.slots,(other b (noRecord b o hb hnf)).trans hb⟩)
 exact⟨oe,vs,T,_,_,(other a (Ne.symm hTe)).trans he,hcls,hd,h1,hnT,hTe,Heap.get?_update_self _ hT (Obj.isFreed_of_fields (Obj.data_mapFields hdT _)),Obj.data_mapFields hdT _,by simp[hsz3]⟩
end
def Old(X:Cx)(H:Hp)(b:Addr):Prop:=
 H b≠none\/(∃o,X.s₀.heap.get? b=some o)\/(∃x,X.env.cells.lookup x=some b)\/(∃p∈X.pn,p.1=b)\/b=X.env.locals
def Cov(X:Cx)(H:Hp)(B h:Heap):Prop:= ∀b o,h.get? b=some o->Old X H b->b∉frs X.stack->B.get? b=some o
structure Exn(X:Cx)(H:Hp)(B:Heap)(a:Addr)(cls a0:Value)(m:Option Value)(h:Heap):Prop where
 air:Air B X.stack a h
 tr:Trc B a cls a0 m h
 md:m=none\/m=some .none\/m=some (rawInt X.env.locals)
 cov:Cov X H B h
 nd:NoD H a h
structure Plain(X:Cx):Prop where
 stk:X.stack=X.env::X.outer
 frm:X.env.frame=some X.env.locals
 ex:X.ex=[]
noncomputable abbrev RX:=St->Hp->Value->Addr->Prop
def XS(X:Cx)(R:RX):Value->Shared->Prop:=fun e s'=>
 ∃a σ H B cls a0 m,e= .ref a/\Inv X [] σ H s'/\Exn X H B a cls a0 m s'.heap/\R σ H cls a
theorem ObjOk.get{P:Program}{w:World}{H:Hp}{h:Heap}{a:Addr}{o:HO}(x:ObjOk P w H h a o): ∃ob,h.get? a=some ob:=by
 cases o with
 |lst xs=>obtain⟨_,_,_,_,e⟩:=x;exact⟨_,e⟩
 |tup xs=>obtain⟨_,_,_,o,e,_⟩:=x;exact⟨_,e⟩
 |dK kvs=>obtain⟨_,_,_,_,o,_,_,e,_⟩:=x;exact⟨_,e⟩
 |dT kvs=>obtain⟨_,_,_,_,o,_,_,e,_⟩:=x;exact⟨_,e⟩
 |set S n=>obtain⟨o,_,_,_,e,_⟩:=x;exact⟨_,e⟩
 |ins C dx fs=>obtain⟨_,_,_,e,_⟩:=x;exact⟨_,e⟩
 |own y=>exact x
 |xd fs=>obtain⟨_,⟨_,_,_,e,_⟩,_⟩:=x;exact⟨_,e⟩
 |rng lo hi=>obtain⟨_,_,_,e⟩:=x;exact⟨_,e⟩
 |frz ob u=>obtain⟨e,_⟩:=x;exact⟨_,e⟩
 |tbl ps=>exact⟨_,(show h.get? a=some _ from x)⟩
 |met f y=>exact⟨_,(show h.get? a=some _ from x)⟩
 |ext φ=>exact x.2.1
section
variable {X:Cx}{σ:St}{H:Hp}{s:Shared}{B h':Heap}
theorem Inv.old(P:Plain X){pins:List (Addr×Obj)}(I:Inv X pins σ H s){b:Addr}(o:Old X H b): ∃ob,s.heap.get? b=some ob:=by
 rcases o with o | ⟨ob,e⟩ | ⟨x,e⟩ | ⟨p,hp,rfl⟩ |rfl
 . cases q:H b with
   |none=>exact absurd q o
   |some u=>exact(I.hok b u q).get
 . exact I.base.there b ob e (by rw[P.ex];simp)
 . obtain⟨v,ob,e,_⟩:=I.cell x b e
   exact⟨ob,e⟩
 . exact⟨_,(I.pin p (List.mem_append_left _ hp)).1⟩
 . obtain⟨m,⟨o,_,_,e,_⟩,_⟩:=I.loc
   exact⟨o,e⟩
theorem Inv.redo(I:Inv X [] σ H s)(cov:Cov X H B s.heap)(frm:s.heap.FunFrames B X.stack)(st:B.StaysIn h')(up:s.heap.UpToSlots h'):Inv X [] σ H {s with heap:=h'}:=by
 have kp: ∀b o,s.heap.get? b=some o->Old X H b->b∉frs X.stack->h'.get? b=some o:=fun b o e q n=>st _ _ (cov b o e q n)
 have sl: ∀b o,s.heap.get? b=some o->b∈frs X.stack-> ∃sl,h'.get? b=some {o with slots:=sl}:=fun b o e n=>by
   obtain⟨_,o',e',hd⟩:=frm.mem n
   rw[e]at e';cases e'
   exact up b o e hd
 have any: ∀b o,s.heap.get? b=some o->Old X H b-> ∃sl,h'.get? b=some {o with slots:=sl}:=fun b o e q=>by
   by_cases n:b∈frs X.stack
   . exact sl b o e n
   . exact⟨o.slots,kp b o e q n⟩
 have cellK: ∀x c,X.env.cells.lookup x=some c-> ∀v,s.heap.IsCell c v->h'.IsCell c v:=fun x c e v ⟨o,ho,hd⟩=>by
   obtain⟨sl,q⟩:=any c o ho (.inr (.inr (.inl ⟨x,e⟩)))
   exact⟨_,q,hd⟩
 refine⟨I.ok,I.os,I.bare,⟨fun b o e n hb hx=> ?_,fun b o e n hb hx=> ?_,I.base.free,fun b o e hx=> ?_,I.base.tups,I.base.frzs,I.base.tbls⟩,?_,fun x c e=> ?_,I.free,I.freeC,fun p hp=> ?_,fun b u q=> ?_,I.len⟩
 . refine kp b o (I.base.keep b o e n hb hx) (.inr (.inl ⟨o,e⟩)) fun z=> ?_
   rcases List.mem_cons.mp (I.stkSub b z)with q |q
   . exact absurd q (Nat.ne_of_lt (Nat.lt_of_lt_of_le (Heap.lt_size e) I.ok.above))
   . exact hb q
 . obtain⟨s1,e1⟩:=I.base.slot b o e n hb hx
   obtain⟨s2,e2⟩:=any b _ e1 (.inr (.inl ⟨o,e⟩))
   exact⟨s2,e2⟩
 . obtain⟨o',e1⟩:=I.base.there b o e hx
   obtain⟨s2,e2⟩:=any b _ e1 (.inr (.inl ⟨o,e⟩))
   exact⟨_,e2⟩
 . obtain⟨m,hn,hl⟩:=I.loc
   refine⟨m,up.ns hn,fun i x v e1 e2 e3=> ?_⟩
   obtain⟨u,r,l⟩:=hl i x v e1 e2 e3
   refine⟨u,r,?_⟩
   rcases l with l | ⟨k,c,e,z⟩
   . exact .inl l
   . exact .inr ⟨k,c,e,cellK x c e _ z⟩
 . obtain⟨v,z⟩:=I.cell x c e
   exact⟨v,cellK x c e v z⟩
 . have hp':p∈X.pn:=by simpa using hp
   obtain⟨e,n,ne,nf,d⟩:=I.pin p hp
   refine⟨kp p.1 p.2 e (.inr (.inr (.inr (.inl ⟨p,hp',rfl⟩)))) fun z=> ?_,n,ne,nf,d⟩
   rcases List.mem_cons.mp (I.stkSub _ z)with q |q
   . exact ne q
   . exact nf q
 . have hnn: ∀c u,H c=some u->c∉frs X.stack:=fun c u e z=>by
     rw[I.stkFree c z]at e;cases e
   refine(I.hok b u q).stay (fun c v hc r=> ?_) (fun _ r=>r) fun _ _ r=>r
   rcases hc with rfl |hc
   . exact kp c v r (.inl (by rw[q];simp)) (hnn c _ q)
   . exact kp c v r (.inl (by rw[hc];simp)) (hnn c _ hc)
theorem Cov.redo(P:Plain X)(I:Inv X [] σ H s)(cov:Cov X H B s.heap)(st:B.StaysIn h'):Cov X H B h':=fun b o e q n=>by
 obtain⟨ob,e0⟩:=I.old P q
 have e1:=cov b ob e0 q n
 have e2:=st _ _ e1
 rw[e]at e2
 cases e2
 exact e1
end
section
variable {X:Cx}{R:RX}
def Thr(X:Cx)(R:RX):Prop:= ∀e s',XS X R e s'->X.xe e s'
theorem Plain.wish(P:Plain X)(E:Value->Shared->Prop):Plain (X.wish E):=⟨P.stk,P.frm,P.ex⟩
theorem XS.unwish{E:Value->Shared->Prop}{e:Value}{s':Shared}(h:XS (X.wish E) R e s'):XS X R e s':=by
 obtain⟨a,σ,H,B,cls,a0,m,rfl,I,ex,r⟩:=h
 exact⟨a,σ,H,B,cls,a0,m,rfl,I.unwish,⟨ex.air,ex.tr,ex.md,ex.cov,ex.nd⟩,r⟩
theorem a9n:Thr (X.wish (XS X R)) R:=fun e s' h=>h.unwish
theorem a7r(P:Plain X)(ok:X.A.frames=some X.stack):PassesOwn (model X.prog X.w) X.A X.env (XS X R):=by
 rintro e s' ⟨a,σ,H,B,cls,a0,m,rfl,I,ex,r⟩
 have hfr:X.A.frames=some (X.env::X.outer):=by rw[ok,P.stk]
 have air:Air B (X.env::X.outer) a s'.heap:=by have:=ex.air;rw[P.stk]at this;exact this
 unfold notedBy
 refine a5e hfr P.frm air ex.tr ex.nd ex.md fun h1 air1 tr1 nd1 up1=> ?_
 have air1':Air B X.stack a h1:=by rw[P.stk];exact air1
 have I1:Inv X [] σ H {s' with heap:=h1}:=I.redo ex.cov ex.air.frm air1.stay up1
 have cov1:Cov X H B h1:=Cov.redo P I ex.cov air1.stay
 unfold cameBackBy
 obtain⟨oe,vs,T,oT,ts,he,hcls,hd,hv1,_⟩:=id tr1
 refine wpAny_bind (wpAny_field (s:={s' with heap:=h1}) he hd hv1 ?_)
 rw[if_neg (show ¬ ((Value.ref T==Value.none)=true)from by simp)]
 rw[P.frm]
 have key:wpAny (model X.prog X.w) X.A (setFlight (.ref a) (some X.env.locals)) (fun _ s''=>XS X R (.ref a) s'') (XS X R) {s' with heap:=h1}:=
   a1m (s:={s' with heap:=h1}) (f:=some X.env.locals) air1' tr1 nd1 fun h2 air2 tr2 nd2 up2=>
     ⟨a,σ,H,B,cls,a0,some (rawInt X.env.locals),rfl,I1.redo cov1 air1'.frm air2.stay up2,⟨air2,tr2,.inr (.inr rfl),Cov.redo P I1 cov1 air2.stay,nd2⟩,r⟩
 first
   |exact wpAny_bind (wpAny_pure key)
   |exact key
end
noncomputable def CXE(P:Program)(w:World):CXT:=fun outer H s E e s'=> ∃a H' B cls a0,e= .ref a/\s'.os=s.os/\AllBare s'.gens/\Un (frs outer) [] H H' s.heap s'.heap/\HOk P w H' s'.heap/\
 Air B outer a s'.heap/\s'.heap.TracedAtW B a cls a0 .none/\NoD H' a s'.heap/\(∀b o,s'.heap.get? b=some o->(H' b≠none\/ ∃o0,s.heap.get? b=some o0)->b∉frs outer->B.get? b=some o)/\E cls none H'
section
variable {X:Cx}{R:RX}{pins:List (Addr×Obj)}{σ:St}{H:Hp}{s s':Shared}{e:Value}{E:XK}
theorem XS.of_call(P:Plain X)(I:Inv X pins σ H s)(h:CXE X.prog X.w X.stack H s E e s')(hE: ∀cls H' a,E cls none H'->R σ H' cls a):XS X R e s':=by
 obtain⟨a,H',B,cls,a0,rfl,os,bare,un,hok,air,tr,nd,cov,q⟩:=h
 have I2:Inv X pins σ H' s':=I.call' os un hok bare fun b z=>absurd z (by simp)
 refine⟨a,σ,H',B,cls,a0,some .none,rfl,I2.pins_of (fun p hp=>absurd hp (by simp)),⟨air,tr,.inr (.inl rfl),fun b o e0 q0 n=>cov b o e0 ?_ n,nd⟩,hE _ _ _ q⟩
 rcases q0 with q0 |q0
 . exact .inl q0
 . right
   rcases q0 with⟨ob,e⟩ | ⟨x,e⟩ | ⟨p,hp,rfl⟩ |rfl
   . exact I.base.there b ob e (by rw[P.ex];simp)
   . obtain⟨v,ob,e,_⟩:=I.cell x b e
     exact⟨ob,e⟩
   . exact⟨_,(I.pin p (List.mem_append_left _ hp)).1⟩
   . obtain⟨m,⟨o,_,_,e,_⟩,_⟩:=I.loc
     exact⟨o,e⟩
theorem Thr.call(T:Thr X R)(P:Plain X)(I:Inv X pins σ H s)(h:CXE X.prog X.w X.stack H s (fun cls _ H'=> ∀a,R σ H' cls a) e s'):X.xe e s':=
 T e s' (XS.of_call P I h fun cls H' a q=>q a)
end
theorem plain_cx{CX:CXT}{P:Program}{w:World}{K:PySem.W.Frag}{mg:Str->Option Value}{base:Heap}{N:List Str}{qual:Str}{scope:Scope}{f:Addr}{cd:Value}{A:Around}{outer:List Env}{s:Shared}{H:Hp}{E:XK}:
   Plain (cxOf CX P w K mg base N qual scope f cd A outer s H E):=⟨rfl,rfl,rfl⟩
theorem b4f{P:Program}{w:World}{K:PySem.W.Frag}{mg:Str->Option Value}{base:Heap}{N:List Str}{qual:Str}{scope:Scope}{f:Addr}{cd:Value}{A:Around}{outer:List Env}{s:Shared}{H:Hp}{E:XK}:
   Thr (cxOf (CXE P w) P w K mg base N qual scope f cd A outer s H E) (fun _ H' cls _=>E cls none H'):=by
 rintro e s' ⟨a,σ,H',B,cls,a0,m,rfl,I,ex,r⟩
 have hfr:(A.deeper (envOfC qual scope s.heap.objs.size f cd)).frames=some (envOfC qual scope s.heap.objs.size f cd::outer):=I.ok.frames
 show wpAny (model P w) (A.deeper (envOfC qual scope s.heap.objs.size f cd)) (leaving (envOfC qual scope s.heap.objs.size f cd) (.ref a)) (fun _ s''=>CXE P w outer H s E (.ref a) s'') (fun e' s''=>CXE P w outer H s E e' s'') s'
 unfold leaving
 refine wpAny_bind (a5e (L:=s.heap.objs.size) hfr rfl ex.air ex.tr ex.nd ex.md fun h1 air1 tr1 nd1 up1=> ?_)
 have I1:Inv (cxOf (CXE P w) P w K mg base N qual scope f cd A outer s H E) [] σ H' {s' with heap:=h1}:=I.redo ex.cov ex.air.frm air1.stay up1
 have cov1:=Cov.redo plain_cx I ex.cov air1.stay
 refine a1m (s:={s' with heap:=h1}) (f:=none) air1 tr1 nd1 fun h2 air2 tr2 nd2 up2=> ?_
 have I2:Inv (cxOf (CXE P w) P w K mg base N qual scope f cd A outer s H E) [] σ H' {s' with heap:=h2}:=I1.redo cov1 air1.frm air2.stay up2
 have cov2:=Cov.redo plain_cx I1 cov1 air2.stay
 refine⟨a,H',B,cls,a0,rfl,I2.os,I2.bare,I2.base,I2.hok,⟨air2.stay,air2.new,?_⟩,tr2,nd2,fun b o e0 q0 n=> ?_,r⟩
 . obtain⟨_,_,k⟩:=air2.frm
   exact k
 . refine cov2 b o e0 ?_ fun z=> ?_
   . rcases q0 with q0 |q0
     . exact .inl q0
     . exact .inr (.inl q0)
   . rcases List.mem_cons.mp (I2.stkSub b z)with q |q
     . subst q
       rcases q0 with q0 | ⟨o0,q0⟩
       . exact q0 I2.free
       . exact absurd (Nat.lt_of_lt_of_le (Heap.lt_size q0) I2.ok.above) (Nat.lt_irrefl _)
     . exact n q
noncomputable abbrev Cx.by(X:Cx)(R:RX):Cx:=X.wish (XS X R)
theorem PSs.unthr{X:Cx}{R:RX}{st:List Stmt}{t:TS}(T:Thr X R)(h:PSs (X.by R) st t):PSs X st t:=fun pins s σ H D I hw=>
 wpAny_mono (h pins s σ H D (I.wish _) hw) (fun _ _ q=>q.unwish) fun e s' q=>T e s' q
abbrev rE(E:XK):RX:=fun _ H' cls _=>E cls none H'
theorem Fun.okX{P:Program}{w:World}{K:PySem.W.Frag}{mg:Str->Option Value}{base:Heap}{x qual:Str}{st:Stmt}{f:Addr}{fd:FuncData}{N ps:List Str}{k:Nat}{sp:Sp}(F:Fun K x qual st f fd)(S:FnScope N ps (a0c st))(len: ∀vs H Q E,sp vs H Q E->vs.length=ps.length)
   (hbody: ∀(cdv:Value) (A:Around) (outer:List Env) (s:Shared) (H:Hp) (vs:List V) (Q:VK) (E:XK),Room k (A.deeper (envOfC qual (a0c st) s.heap.objs.size f cdv))->sp vs H Q E->
     ∃t,PSs ((cxOf (CXE P w) P w K mg base N qual (a0c st) f cdv A outer s H E).by (rE E)) (a04 st) t/\t {nx:=fun _ H'=>Q .non H',rt:=Q} (a2y N vs) H):FnOk P w K mg base (CXE P w) (k+1) f fd ps sp:=by
 obtain⟨oc,od,kV,doc,pm,an,cdv,ct,osl,rfl,lk,hcd⟩:=F.ex
 refine fn_of lk hcd S len fun A outer s H vs Q E hr hsp=> ?_
 obtain⟨t,h,q⟩:=hbody cdv A outer s H vs Q E hr hsp
 exact⟨t,h.unthr b4f,q⟩
section
variable {X:Cx}{k:Nat}{f C:Addr}{fd:FuncData}{ps:List Str}{sp:Sp}{R:RX}{x m:Str}{p pos apos:Pos}{e o:Expr}{es:List Expr}{ta:TE}{t:TA}
theorem a8w{pins:List (Addr×Obj)}{σ:St}{H:Hp}{s:Shared}{Q:VK}{us:List Value}{vs:List V}(F:FnOk X.prog X.w X.K X.mg X.base (CXE X.prog X.w) k f fd ps sp)(hr:Room k X.A)(hb:Binds X.K fd ps [])(T:Thr X R)(Pl:Plain X)
   (I:Inv X pins σ H s) (r:Vals vs us) (h:sp vs H Q (fun cls _ H'=> ∀a,R σ H' cls a)):wpAny (model X.prog X.w) X.A (call (.ref f) us) (EP X pins σ Q) X.xe s:=by
 have hl:us.length=ps.length:=by rw[<-r.length];exact F.len _ _ _ _ h
 have hb':=hb s us I.kIn (by rw[List.append_nil];exact hl)
 rw[List.append_nil]at hb'
 refine wpAny_call (codeAny_mono (F.run X.A X.stack s H ⟨us,[]⟩ us vs Q _ hr I.env0 hb' r h) fun r s' hq=> ?_)
 cases r with
 |error e=>exact T.call Pl I hq
 |ok fl=>
   cases fl with
   |ret u=>exact I.after hq
   |next=>exact False.elim hq
   |brk=>exact False.elim hq
   |cont=>exact False.elim hq
def tCallX(sp:Sp)(R:RX)(t:TA):TE:=fun σ H Q=>t σ H fun vs H1=>sp vs H1 Q (fun cls _ H'=> ∀a,R σ H' cls a)
def tMethX(C:Addr)(m:Str)(sp:Sp)(R:RX)(ta:TE)(t:TA):TE:=fun σ H Q=>ta σ H fun x H1=> ∃a dx fs,x= .ref a/\H1 a=some (.ins C dx fs)/\fs.lookup m=none/\
 t σ H1 fun vs H2=>sp (x::vs) H2 Q (fun cls _ H'=> ∀a,R σ H' cls a)
theorem b33(h:Has X.prog X.w X.K X.mg X.base (CXE X.prog X.w) k x ps sp)(hr:Room k X.A)(hg:Gl X x)(T:Thr X R)(Pl:Plain X)(ha:PA X (e::es) t)
   (hdb:(x==("__debug__":Str))=false:=by decide) (he:starEach (e::es) X.env=(false,eval e X.env)::starEach es X.env:=by rfl) (hpl:(backTo pos (starEach es X.env)).any (·.1)=false:=by rfl):
   PE X (.Call (.Name x p) (e::es) [] pos) (tCallX sp R t):=by
 intro pins s σ H Q I hw
 obtain⟨f,fd,F,hm,hk,hb⟩:=h.ex
 refine wpAny_Call_Name_kw (a2k I hg hm ?_ hdb)
 refine PySem.W.callWith_K (h₀:=X.base) I.ok.mod.kin hk (thn (ha pos pins s σ H _ I hw) fun us s1 ⟨vs,H1,I1,r,q⟩=>⟨I1.kIn,?_⟩) he hpl
 exact a8w F hr hb T Pl I1 r q
structure HasM(P:Program)(w:World)(K:PySem.W.Frag)(mg:Str->Option Value)(base:Heap)(CX:CXT)(k:Nat)(C:Addr)(m:Str)(ps:List Str)(sp:Sp):Prop where
 cl:Cls K C
 ex: ∃f fd,FnOk P w K mg base CX k f fd ps sp/\Meth K C m f/\Binds K fd ps []
theorem b30{pl:Sem Bool}(h:HasM X.prog X.w X.K X.mg X.base (CXE X.prog X.w) k C m ps sp)(hr:Room k X.A)(T:Thr X R)(Pl:Plain X)(ho:PE X o ta)(ha:PA X (e::es) t)
   (hst:starEach (e::es) X.env=(false,eval e X.env)::starEach es X.env:=by rfl) (hpl:(backTo pos (starEach es X.env)).any (·.1)=false:=by rfl)
   (ht:eval (.Call (.Attribute o m apos) (e::es) [] pos) X.env=(do
     let ov <-eval o X.env
     standAt apos.atName
     let (f,first) <-holding [ov] (getMethod ov m pl)
     callWith pos f first (backTo pos (starEach (e::es) X.env)) (backToKw pos (keywordEach [] X.env))):=by rfl):
   PE X (.Call (.Attribute o m apos) (e::es) [] pos) (tMethX C m sp R ta t):=by
 intro pins s σ H Q I hw
 obtain⟨f,fd,F,hm,hb⟩:=h.ex
 refine PySem.W.methodCall_KW (pl:=pl) (thn (ho pins s σ H _ I hw) fun u s1 ⟨x,H1,I1,rx,a,dx,fs,ex,ea,l,q⟩=> ?_) ht
 subst ex
 obtain rfl:u=Value.ref a:=rx
 refine a6h I1 ea h.cl hm l ?_
 refine PySem.W.callWith_K (first:=[.ref a]) (h₀:=X.base) I.ok.mod.kin hm.kp (thn (ha pos pins s1 σ H1 _ I1 q) fun us s2 ⟨vs,H2,I2,r,q2⟩=>⟨I2.kIn,?_⟩) hst hpl
 exact a8w (us:= .ref a::us) (vs:= .ref a::vs) F hr hb T Pl I2 (.cons rfl r) q2
end
abbrev bmV:List Value:=[.type "ValueError",.type "Exception",.type "BaseException",.type "object"]
structure ExCls(K:PySem.W.Frag)(mg:Str->Option Value)(x:Str)(C:Addr):Prop where
 bound:mg x=some (.ref C)
 exc:PySem.W.excIn K C bmV "ValueError.__new__"=true
theorem ExCls.obj{K:PySem.W.Frag}{mg:Str->Option Value}{x:Str}{C:Addr}(O:ExCls K mg x C){h:Heap}(X:K.In h):
   ∃bm N nm q bs hdct sn sub ab col dd k0 k1 k2 k3 k5 mN,h.get? C=some (excClassObj nm q C N bs bm hdct sn sub ab col dd k0 k1 k2 k3 k5 "ValueError.__new__")/\h.Ns N mN/\mN "__init__"=none/\OwnTail h bmV bm:=by
 have q:=O.exc
 unfold PySem.W.excIn at q
 split at q
 . rename_i dd cd sl ho
   split at q
   . rename_i C' bm k0 k1 k2 k3 n k5 hm hs
     simp only[Bool.and_eq_true,beq_iff_eq,Bool.not_eq_true']at q
     obtain⟨⟨⟨⟨⟨rfl,rfl⟩,hdel⟩,ht⟩,hok⟩,hni⟩:=q
     obtain⟨nm,bs,mro,ns,qn,hd,sn,sub,ab,col,del⟩:=cd
     dsimp only at hm hdel hok hni
     subst hm hdel
     have hsl:sl= #[k0,k1,k2,k3,some (.builtin "ValueError.__new__"),k5]:=by
       obtain⟨l⟩:=sl
       simp only at hs
       rw[hs]
     subst hsl
     exact⟨bm,ns,nm,qn,bs,hd,sn,sub,ab,col,dd,k0,k1,k2,k3,k5,_,X _ _ ho,.of_isNs (PySem.W.isNs_of_in X hok),PySem.W.nsMap_none_of_in X hok hni,PySem.W.tail_of_in X ht⟩
   . cases q
 . cases q
section
variable {X:Cx}{R:RX}{x:Str}{C:Addr}{np cpos pos:Pos}{e:Expr}{es:List Expr}{t:TA}
theorem XS.made(Pl:Plain X){pins:List (Addr×Obj)}{σ:St}{H:Hp}{s:Shared}{h':Heap}{a:Addr}{us:List Value}(I:Inv X pins σ H s)(hx:Heap.MadeExcOf s.heap h' a (.ref C) us)(r:R σ H (.ref C) a):XS X R (.ref a) {s with heap:=h'}:=by
 obtain⟨tt,he,htn,htt⟩:=hx.there
 have I1:Inv X [] σ H {s with heap:=h'}:=(I.kept (t':=s.toks) hx.keeps).pins_of fun p hp=>absurd hp (by simp)
 refine⟨a,σ,H,PySem.W.hideAll s.heap (frs X.stack),.ref C,.ref tt,none,rfl,I1,⟨⟨fun b o q=>hx.keeps _ _ (PySem.W.of_hideAll _ q),?_,?_⟩,⟨_,_,he,rfl,rfl,rfl,rfl⟩,.inl rfl,fun b o q old n=> ?_,⟨_,_,he,rfl,rfl,.inl rfl⟩⟩,r⟩
 . cases q:(PySem.W.hideAll s.heap (frs X.stack)).get? a with
   |none=>rfl
   |some o=>
     have:=PySem.W.of_hideAll _ q
     rw[hx.new]at this;cases this
 . refine Heap.FunFrames.of_keeps (fun b o q _=>⟨o,hx.keeps b o q,rfl⟩) (PySem.W.funFrames_hide I.stack fun env he a ha=> ?_)
   exact List.mem_filterMap.mpr ⟨env,he,ha⟩
 . obtain⟨ob,e0⟩:=I.old Pl old
   have e1:=hx.keeps _ _ e0
   rw[q]at e1;cases e1
   exact PySem.W.hideAll_get _ e0 n
noncomputable def tRaise(R:RX)(C:Addr)(t:TA):TS:=fun _ σ H=>t σ H fun vs H1=>vs.length<=sizeLine/\ ∀a,R σ H1 (.ref C) a
theorem b3x(T:Thr X R)(Pl:Plain X)(O:ExCls X.K X.mg x C)(hc:X.calm=true)(hg:Gl X x)(ha:PA X (e::es) t)
   (hd:(x==("__debug__":Str))=false:=by decide) (he:starEach (e::es) X.env=(false,eval e X.env)::starEach es X.env:=by rfl) (hpl:(backTo cpos (starEach es X.env)).any (·.1)=false:=by rfl):
   PS X (.Raise (some (.Call (.Name x np) (e::es) [] cpos)) none pos) (tRaise R C t):=by
 intro pins s σ H D I hw
 obtain⟨tl,N,nm,q,bs,hdct,sn,sub,ab,col,dd,k0,k1,k2,k3,k5,mN,hC,hN,hni,Tl⟩:=O.obj I.ok.mod.kin
 refine wpAny_Raise_call_subT (C:=C) (nm:=nm) (q:=q) (N:=N) (bs:=bs) (bm:=tl) (hdct:=hdct) (sn:=sn) (sub:=sub) (ab:=ab) (col:=col) (dd:=dd) (k0:=k0) (k1:=k1) (k2:=k2) (k3:=k3) (k5:=k5)
   PySem.F.excBase_ValueError (mN:=mN) (Tl.hasType PySem.F.excBase_ValueError.hasBase) (I.ok.hd hc) (by rw[he];show(false||(backTo cpos (starEach es X.env)).any (·.1))=false;rw[hpl];rfl) hni (a2k I hg O.bound ⟨rfl,?_⟩ hd)
 rw[he]
 have h2:=ha cpos pins s σ H _ I hw
 rw[he]at h2
 refine Calls.evalArgs_plain (wpAny_mono h2 (fun us s2 ⟨vs,H2,I2,r2,z2,q2⟩=>⟨rfl,by rw[<-r2.length];exact z2,I2.bk _ _ hC,hN.keeps I2.bk,Tl.keeps I2.bk,fun h' a hx=> ?_⟩) fun _ _ y=>y)
 exact T _ _ (XS.made Pl I2 hx (q2 a))
end
noncomputable abbrev Cx.pin(X:Cx)(pn:List (Addr×Obj)):Cx:={X with pn:=pn}
section
variable {X:Cx}{pins:List (Addr×Obj)}{σ:St}{H:Hp}{s:Shared}
theorem Cx.Ok.pin(ok:X.Ok)(pn:List (Addr×Obj)):(X.pin pn).Ok:=
 ⟨ok.mod,ok.kind,ok.glob,ok.blt,ok.above,ok.inj,ok.has,ok.cab,ok.hd,ok.frames,ok.stk,ok.exf,ok.bs,ok.bsz,ok.noex,ok.exfs,ok.funs,ok.frf⟩
theorem Cx.Ok.unpin{pn:List (Addr×Obj)}(ok:(X.pin pn).Ok):X.Ok:=
 ⟨ok.mod,ok.kind,ok.glob,ok.blt,ok.above,ok.inj,ok.has,ok.cab,ok.hd,ok.frames,ok.stk,ok.exf,ok.bs,ok.bsz,ok.noex,ok.exfs,ok.funs,ok.frf⟩
theorem Inv.topin(I:Inv X pins σ H s):Inv (X.pin (X.pn++pins)) [] σ H s:=
 ⟨I.ok.pin _,I.os,I.bare,I.base,I.loc,I.cell,I.free,I.freeC,fun p hp=>I.pin p (by simpa using hp),I.hok,I.len⟩
theorem Inv.ofpin(I:Inv (X.pin (X.pn++pins)) [] σ H s):Inv X pins σ H s:=
 ⟨I.ok.unpin,I.os,I.bare,I.base,I.loc,I.cell,I.free,I.freeC,fun p hp=>I.pin p (by simpa using hp),I.hok,I.len⟩
theorem SP.ofpin{D:Ends}{f:Flow}{s':Shared}(h:SP (X.pin (X.pn++pins)) [] D f s'):SP X pins D f s':=by
 cases f with
 |next=>obtain⟨σ',H',I,q⟩:=h;exact⟨σ',H',I.ofpin,q⟩
 |brk=>obtain⟨σ',H',I,q⟩:=h;exact⟨σ',H',I.ofpin,q⟩
 |cont=>obtain⟨σ',H',I,q⟩:=h;exact⟨σ',H',I.ofpin,q⟩
 |ret u=>obtain⟨v,σ',H',I,r,q⟩:=h;exact⟨v,σ',H',I.ofpin,r,q⟩
theorem Plain.pin(P:Plain X)(pn:List (Addr×Obj)):Plain (X.pin pn):=⟨P.stk,P.frm,P.ex⟩
end
noncomputable abbrev TH:=Ends->Value->Addr->St->Hp->Prop
def PH(X:Cx)(hs:List ExceptHandler)(t:TH):Prop:=
 ∀(s:Shared) (σ:St) (H:Hp) (D:Ends) (B:Heap) (a:Addr) (cls a0:Value),Inv X [] σ H s->Exn X H B a cls a0 (some .none) s.heap->t D cls a σ H->
   wpAny (model X.prog X.w) X.A (handleBy (.ref a) X.env hs) (SP X [] D) X.xe s
noncomputable def tTry(tb:RX->TS)(th:TH)(to:TS):TS:=fun D σ H=>tb (fun σ' H' cls a=>th D cls a σ' H') {D with nx:=to D} σ H
theorem ps_try{X:Cx}{body orelse:List Stmt}{h₀:ExceptHandler}{hs:List ExceptHandler}{pos:Pos}{tb:RX->TS}{th:TH}{to:TS}(Pl:Plain X)
   (hb: ∀pn R,PSs ((X.pin pn).by R) body (tb R)) (hh: ∀pn,PH (X.pin pn) (h₀::hs) th) (ho:PSs X orelse to):PS X (.Try body (h₀::hs) orelse [] pos) (tTry tb th to):=by
 intro pins s σ H D I hw
 refine wpAny_Try_except (wpAny_mono (hb (X.pn++pins) _ [] s σ H _ (I.topin.wish _) hw) (fun f s1 q=> ?_) (fun e s1 hx=> ?_))
 . have q':SP X pins {D with nx:=to D} f s1:=SP.ofpin (SP.unwish q)
   cases f with
   |next=>
     obtain⟨σ',H',I1,q1⟩:=q'
     exact ho pins s1 σ' H' D I1 q1
   |brk=>exact q'
   |cont=>exact q'
   |ret u=>exact q'
 . obtain⟨a,σ1,H1,B,cls,a0,m,rfl,I1,ex,r⟩:=hx
   have hfr:X.A.frames=some (X.env::X.outer):=by rw[I.ok.frames,Pl.stk]
   have air:Air B (X.env::X.outer) a s1.heap:=by have:=ex.air;rw[show(X.pin (X.pn++pins)).stack=X.env::X.outer from Pl.stk]at this;exact this
   refine a5e hfr Pl.frm air ex.tr ex.nd ex.md fun h1 air1 tr1 nd1 up1=> ?_
   have I2:Inv (X.pin (X.pn++pins)) [] σ1 H1 {s1 with heap:=h1}:=I1.redo ex.cov ex.air.frm air1.stay up1
   have cov2:=Cov.redo (Pl.pin _) I1 ex.cov air1.stay
   have air1':Air B (X.pin (X.pn++pins)).stack a h1:=by rw[show(X.pin (X.pn++pins)).stack=X.env::X.outer from Pl.stk];exact air1
   refine a1m (s:={s1 with heap:=h1}) (f:=none) air1' tr1 nd1 fun h2 air2 tr2 nd2 up2=> ?_
   have I3:Inv (X.pin (X.pn++pins)) [] σ1 H1 {s1 with heap:=h2}:=I2.redo cov2 air1'.frm air2.stay up2
   have cov3:=Cov.redo (Pl.pin _) I2 cov2 air2.stay
   exact wpAny_mono (hh (X.pn++pins) {s1 with heap:=h2} σ1 H1 D B a cls a0 I3 ⟨air2,tr2,.inr (.inl rfl),cov3,nd2⟩ r) (fun f s4 q=>q.ofpin) fun _ _ q=>q
section
variable {X:Cx}{R:RX}
theorem ph_nil(T:Thr X R)(Pl:Plain X):PH X [] (fun _ cls a σ H=>R σ H cls a):=by
 intro s σ H D B a cls a0 I ex r
 obtain⟨oe,vs,Tb,oT,ts,he,hcls,hd,hv1,_⟩:=id ex.tr
 refine wpAny_handleBy_nil ?_
 unfold PySem.passOn
 refine wpAny_bind (wpAny_field he hd hv1 ?_)
 rw[if_neg (show ¬ ((Value.ref Tb==Value.none)=true)from by simp)]
 rw[Pl.frm]
 have key:wpAny (model X.prog X.w) X.A (do setFlight (.ref a) (some X.env.locals);throw (.ref a)) (SP X [] D) X.xe s:=
   wpAny_bind (a1m (f:=some X.env.locals) ex.air ex.tr ex.nd fun h2 air2 tr2 nd2 up2=>wpAny_throw (T _ _ ⟨a,σ,H,B,cls,a0,some (rawInt X.env.locals),rfl,I.redo ex.cov ex.air.frm air2.stay up2,⟨air2,tr2,.inr (.inr rfl),Cov.redo Pl I ex.cov air2.stay,nd2⟩,r⟩))
 first
   |exact wpAny_bind (wpAny_pure key)
   |exact key
theorem Exn.fresh{H:Hp}{B:Heap}{a:Addr}{cls a0:Value}{m:Option Value}{s:Shared}{σ:St}(Pl:Plain X)(I:Inv X [] σ H s)(ex:Exn X H B a cls a0 m s.heap): ¬ Old X H a:=fun old=>by
 obtain⟨oe,vs,he,hd⟩: ∃oe vs,s.heap.get? a=some oe/\oe.data= .fields vs:=by
   have tr:=ex.tr
   cases m with
   |none=>obtain⟨oe,vs,he,_,hd,_⟩:=tr;exact⟨oe,vs,he,hd⟩
   |some fl=>obtain⟨oe,vs,T,oT,ts,he,hcls,hd,_⟩:=tr;exact⟨oe,vs,he,hd⟩
 have:=ex.cov a oe he old fun z=>by
   obtain⟨_,o,e,nd⟩:=ex.air.frm.mem z
   rw[he]at e;cases e
   exact nd _ hd
 rw[ex.air.new]at this
 cases this
theorem Exn.none{H:Hp}{B:Heap}{a:Addr}{cls a0:Value}{m:Option Value}{s:Shared}{σ:St}(Pl:Plain X)(I:Inv X [] σ H s)(ex:Exn X H B a cls a0 m s.heap):H a=none:=by
 cases q:H a with
 |none=>rfl
 |some u=>exact absurd (.inl (by rw[q];simp)) (ex.fresh Pl I)
theorem Exn.which{H:Hp}{B:Heap}{a:Addr}{cls a0:Value}{m:Option Value}{h:Heap}(ex:Exn X H B a cls a0 m h):excφ a cls h\/ ∃b,Chn H b/\excψ a cls b h:=by
 have tr:=ex.tr
 obtain⟨ox,vx,hox,hdx,hvx,hv2⟩:=ex.nd
 have hc:ox.cls=cls:=by
   cases m with
   |none=>obtain⟨oe,vs,he,hc,hd,_⟩:=tr;rw[hox]at he;cases he;exact hc
   |some fl=>obtain⟨oe,vs,T,oT,ts,he,hcls,hd,_⟩:=tr;rw[hox]at he;cases he;exact hcls.1
 rcases hv2 with h2 | ⟨b,h2,hb⟩
 . exact .inl ⟨ox,vx,hox,hc,hdx,hvx,h2⟩
 . exact .inr ⟨b,hb,ox,vx,hox,hc,hdx,hvx,h2⟩
theorem Inv.track{φ:Heap->Prop}{H:Hp}{B:Heap}{a:Addr}{cls a0:Value}{m:Option Value}{s:Shared}{σ:St}(Pl:Plain X)(I:Inv X [] σ H s)(ex:Exn X H B a cls a0 m s.heap)(hφ:φ s.heap)(hst: ∀h1 h2:Heap,φ h1->(∀o,h1.get? a=some o->h2.get? a=some o)->φ h2):Inv X [] σ (upd H a (.ext φ)) s:=by
 have nf:=ex.fresh Pl I
 have hn:=ex.none Pl I
 obtain⟨oe,he⟩: ∃oe,s.heap.get? a=some oe:=by
   obtain⟨ox,vx,hox,_⟩:=ex.nd
   exact⟨ox,hox⟩
 have ne: ∀b u,H b=some u->b≠a:=fun b u q z=>by subst z;rw[hn]at q;cases q
 refine⟨I.ok,I.os,I.bare,⟨I.base.keep,I.base.slot,fun b o e n hx=> ?_,I.base.there,fun b xs e=> ?_,fun b o u e=> ?_,fun b ps e=> ?_⟩,I.loc,I.cell,?_,fun x c e=> ?_,fun p hp=> ?_,fun b u q=> ?_,I.len⟩
 . rw[a0i (show b≠a from fun z=>nf (.inr (.inl ⟨o,by rw[<-z];exact e⟩)))]
   exact I.base.free b o e n hx
 . have e':=I.base.tups b xs e
   rw[a0i (ne b _ e')];exact e'
 . have e':=I.base.frzs b o u e
   rw[a0i (ne b _ e')];exact e'
 . obtain⟨m1,e'⟩:=I.base.tbls b ps e
   exact⟨m1,by rw[a0i (ne b _ e')];exact e'⟩
 . rw[a0i (fun z=>nf (.inr (.inr (.inr (.inr z.symm)))))]
   exact I.free
 . rw[a0i (show c≠a from fun z=>nf (.inr (.inr (.inl ⟨x,by rw[<-z];exact e⟩))))]
   exact I.freeC x c e
 . obtain⟨e,n,n1,n2,d⟩:=I.pin p hp
   have hp':p∈X.pn:=by simpa using hp
   exact⟨e,by rw[a0i (fun z=>nf (.inr (.inr (.inr (.inl ⟨p,hp',z⟩)))))];exact n,n1,n2,d⟩
 . by_cases hb:b=a
   . subst hb
     rw[a0p]at q
     cases q
     exact⟨hφ,⟨oe,he⟩,fun h1 h2 p k=>hst h1 h2 p k⟩
   . rw[a0i hb]at q
     exact(I.hok b u q).stay (fun _ _ _ r=>r) (fun c r=>by rw[a0i (ne c _ r)];exact r) fun c xs r=>by rw[a0i (ne c _ r)];exact r
end
noncomputable abbrev Cx.hand(X:Cx)(a:Addr):Cx:={X with A:=X.A.mark (some (.ref a)),calm:=false,xe:=fun _ _=>False}
section
variable {X:Cx}{pins:List (Addr×Obj)}{σ:St}{H:Hp}{s:Shared}
theorem Cx.Ok.hand(ok:X.Ok)(a:Addr):(X.hand a).Ok:=
 ⟨ok.mod,ok.kind,ok.glob,ok.blt,ok.above,ok.inj,ok.has,ok.cab,fun z=>absurd z (by simp),ok.frames,ok.stk,ok.exf,ok.bs,ok.bsz,ok.noex,ok.exfs,ok.funs,ok.frf⟩
theorem Inv.hand(I:Inv X pins σ H s)(a:Addr):Inv (X.hand a) pins σ H s:=
 ⟨I.ok.hand a,I.os,I.bare,I.base,I.loc,I.cell,I.free,I.freeC,I.pin,I.hok,I.len⟩
theorem Inv.unhand{a:Addr}(ok:X.Ok)(I:Inv (X.hand a) pins σ H s):Inv X pins σ H s:=
 ⟨ok,I.os,I.bare,I.base,I.loc,I.cell,I.free,I.freeC,I.pin,I.hok,I.len⟩
end
section
variable {X:Cx}{x n:Str}{C:Addr}{np hp:Pos}{b₀:Stmt}{suite:List Stmt}{rest:List ExceptHandler}{ts:Addr->TS}{tr:TH}
theorem a5n{s:Shared}{σ:St}{H:Hp}{B:Heap}{a:Addr}{cls a0 c:Value}{b:Bool}{A:Around}{E:Value->Shared->Prop}{Q:Bool->Shared->Prop}(I:Inv X [] σ H s)(ex:Exn X H B a cls a0 (some .none) s.heap)
   (hx:PySem.W.exmOne X.K cls c=some b) (q:Q b s):wpAny (model X.prog X.w) A (excMatches (.ref a) c) Q E s:=by
 obtain⟨oe,vs,Tb,oT,tt,he,hcls,hd,hv1,_⟩:=id ex.tr
 obtain⟨rfl,_⟩:=hcls
 exact(PySem.W.exm_one I.kIn ((PySem.W.Looks.ld he).andThen .now) hx).here q
theorem ph_as{i:Nat}(Pl:Plain X)(hN:X.N.Nodup)(hi:X.N[i]? =some n)(hl:X.env.scope.names.lookup n=some .local)(hm:X.mg x=some (.ref C))(hg:Gl X x)(hs: ∀a,PSs (X.hand a) (b₀::suite) (ts a))(hr:PH X rest tr)
   (hd:(x==("__debug__":Str))=false:=by decide):
   PH X (.ExceptHandler (some (.Name x np)) (some n) (b₀::suite) hp::rest)
     (fun D cls a σ H=> ∃b,PySem.W.exmOne X.K cls (.ref C)=some b/\
       if b=true then H a=none-> ∀φ:Heap->Prop,(φ=excφ a cls\/ ∃b,Chn H b/\φ=excψ a cls b)->ts a {nx:=fun σ' H'=>D.nx (σ'.set i none) H',rt:=D.rt,bk:=fun σ' H'=>D.bk (σ'.set i none) H',ct:=fun σ' H'=>D.ct (σ'.set i none) H'} (σ.set i (some (.ref a))) (upd H a (.ext φ))
       else tr D cls a σ H):=by
 intro s σ H D B a cls a0 I ex hw
 obtain⟨b,hx,hw⟩:=hw
 refine wpAny_handleBy_cons (codeAny_handlers_test ?_) (by intro q;cases q)
 refine a2k (X:=X.hand a) (I.hand a) hg hm (a5n I ex hx ?_) hd
 cases b with
 |false=>exact hr s σ H D B a cls a0 I ex hw
 |true=>
   have hna:H a=none:=by
     cases q:H a with
     |none=>rfl
     |some u=>exact absurd (.inl (by rw[q];simp)) (ex.fresh Pl I)
   have hw:=hw hna
   refine codeAny_handlers_suite_as ?_
   refine a1m (f:=none) ex.air ex.tr ex.nd fun h2 air2 tr2 nd2 up2=> ?_
   have I2:=I.redo ex.cov ex.air.frm air2.stay up2
   have ex2:Exn X H B a cls a0 (some .none) h2:=⟨air2,tr2,.inr (.inl rfl),Cov.redo Pl I ex.cov air2.stay,nd2⟩
   obtain⟨φ,hφ,hst,hw⟩: ∃φ:Heap->Prop,φ h2/\(∀h1 h2:Heap,φ h1->(∀o,h1.get? a=some o->h2.get? a=some o)->φ h2)/\ts a {nx:=fun σ' H'=>D.nx (σ'.set i none) H',rt:=D.rt,bk:=fun σ' H'=>D.bk (σ'.set i none) H',ct:=fun σ' H'=>D.ct (σ'.set i none) H'} (σ.set i (some (.ref a))) (upd H a (.ext φ)):=by
     rcases ex2.which with h | ⟨b,hb,h⟩
     . exact⟨_,h,fun h1 h2 ⟨o,ws,e1,c1⟩ k=>⟨o,ws,k o e1,c1⟩,hw _ (.inl rfl)⟩
     . exact⟨_,h,fun h1 h2 ⟨o,ws,e1,c1⟩ k=>⟨o,ws,k o e1,c1⟩,hw _ (.inr ⟨b,hb,rfl⟩)⟩
   have I3:=Inv.track Pl I2 ex2 hφ hst
   refine a4l (X:=X.hand a) (I3.hand a) hN hi (.inl hl) (v:= .ref a) rfl (fun s3 I4=> ?_) (.inr hl)
   -- behind the suite the name goes
   have goes: ∀{σ':St}{H':Hp}{s':Shared}{A:Around}{E:Value->Shared->Prop}{Q:Unit->Shared->Prop},Inv (X.hand a) [] σ' H' s'->(∀s'',Inv X [] (σ'.set i none) H' s''->Q () s'')->
       wpAny (model X.prog X.w) A (do bindName X.env n .none;unbindBehindTheSuite X.env n hp) Q E s':=by
     intro σ' H' s' A E Q J k
     have J:=J.unhand I.ok
     obtain⟨m,hn,hlk⟩:=id J.loc
     have hcls:(X.env.scope.kind== .class||(X.env.scope.kind== .module&&X.env.locals !=X.env.globals))=false:=by rw[J.ok.kind];rfl
     refine wpAny_nameGoes_keeps (show X.env.kindOf n=some .local from hl) hn hcls fun h' v hn' sb=>k _ ?_
     have hcl: ∀y c,X.env.cells.lookup y=some c-> ∀u,s'.heap.IsCell c u->h'.IsCell c u:=fun y c e u z=>z.sameBut sb (J.cne y c e)
     have sm: ∀b,b≠X.env.locals->h'.get? b=s'.heap.get? b:=fun b hb=>sb.2 b hb
     refine⟨J.ok,J.os,J.bare,⟨fun b o e n hb hx=> ?_,fun b o e n hb hx=> ?_,J.base.free,fun b o e hx=> ?_,J.base.tups,J.base.frzs,J.base.tbls⟩,⟨_,hn',fun j y v' e1 e2 e3=> ?_⟩,fun y c e=> ?_,J.free,J.freeC,fun p hp=> ?_,fun b u q=> ?_,by rw[List.length_set];exact J.len⟩
     . exact(sm b (Nat.ne_of_lt (Nat.lt_of_lt_of_le (Heap.lt_size e) J.ok.above))).trans (J.base.keep b o e n hb hx)
     . obtain⟨sl,e1⟩:=J.base.slot b o e n hb hx
       exact⟨sl,(sm b (Nat.ne_of_lt (Nat.lt_of_lt_of_le (Heap.lt_size e) J.ok.above))).trans e1⟩
     . obtain⟨o',e1⟩:=J.base.there b o e hx
       exact⟨o',(sm b (Nat.ne_of_lt (Nat.lt_of_lt_of_le (Heap.lt_size e) J.ok.above))).trans e1⟩
     . have hj:j≠i:=by
         rintro rfl
         rw[List.getElem?_set_self (by
           have:=(List.getElem?_eq_some_iff.mp hi).1
           rw[J.len];exact this)]at e2
         cases e2
       rw[List.getElem?_set_ne (Ne.symm hj)]at e2
       obtain⟨u,r,l⟩:=hlk j y v' e1 e2 e3
       refine⟨u,r,?_⟩
       rcases l with⟨k1,e⟩ | ⟨k1,c,e,z⟩
       . refine .inl ⟨k1,?_⟩
         have:y≠n:=fun e=>hj (a4q hN e1 (e▸hi))
         simp[this,e]
       . exact .inr ⟨k1,c,e,hcl y c e _ z⟩
     . obtain⟨u,z⟩:=J.cell y c e
       exact⟨u,hcl y c e u z⟩
     . obtain⟨e,n1,n2,n3,d⟩:=J.pin p hp
       exact⟨(sm p.1 n2).trans e,n1,n2,n3,d⟩
     . have hnl: ∀c u,H' c=some u->c≠X.env.locals:=fun c u e z=>by rw[z,J.free]at e;cases e
       refine(J.hok b u q).stay (fun c v hc r=>(sm c ?_).trans r) (fun _ r=>r) fun _ _ r=>r
       rcases hc with rfl |hc
       . exact hnl c _ q
       . exact hnl c _ hc
   refine wpAny_mono (hs a [] s3 _ _ _ I4 hw) (fun f s' q=> ?_) fun _ _ z=>z.elim
   cases f with
   |next=>
     obtain⟨σ',H',J,q⟩:=q
     exact goes J fun s'' J'=>⟨_,H',J',q⟩
   |brk=>
     obtain⟨σ',H',J,q⟩:=q
     exact goes J fun s'' J'=>⟨_,H',J',q⟩
   |cont=>
     obtain⟨σ',H',J,q⟩:=q
     exact goes J fun s'' J'=>⟨_,H',J',q⟩
   |ret u=>
     obtain⟨v,σ',H',J,r,q⟩:=q
     exact goes J fun s'' J'=>⟨v,_,H',J',r,q⟩
end
structure CompOk(X:Cx)(scope:Scope)(cl:List (Str×Addr))(Nc:List Str)(js:List (Option Nat)):Prop where
 clos:closureFor scope X.env=pure cl
 sub: ∀n c,cl.lookup n=some c->X.env.cells.lookup n=some c
 cell: ∀y∈scope.names,y.2≠ .cell
 kind:scope.kind= .function
 names: ∀x∈scope.names,x.2= .local->scope.names.lookup x.1=some .local
 has : ∀ x, ((relabel scope X.env).names.lookup x = some .cell \/ (relabel scope X.env).names.lookup x = some .free) -> ∃ c, cl.lookup x = some c
 len:js.length=Nc.length
 free : ∀ (k j : Nat), js[k]? = some (some j) -> ∃ x c, Nc[k]? = some x /\ X.N[j]? = some x /\ X.env.scope.names.lookup x = some .cell /\ cl.lookup x = some c /\ (relabel scope X.env).names.lookup x = some .cell
noncomputable abbrev a0l(X:Cx)(pins:List (Addr×Obj))(Nc:List Str)(scope:Scope)(cl:List (Str×Addr))(C:Addr)(fp:List Addr)(s:Shared)(H:Hp):Cx:=
 {X with N:=Nc,s₀:=s,H₀:=H,env:=compEnvC scope cl C X.env,outer:=X.stack,stack:=X.stack,ex:=fp,fn:=fun _=>false,pn:=X.pn++pins,xe:=fun _ _=>False}
noncomputable def sigC(js:List (Option Nat))(σ:St):St:=js.map fun o=>o.bind fun j=>(σ[j]?).join
section
variable {X:Cx}{pins:List (Addr×Obj)}{σ:St}{H:Hp}{s:Shared}{Nc:List Str}{scope:Scope}{cl:List (Str×Addr)}{js:List (Option Nat)}{fp:List Addr}
theorem a6k(O:CompOk X scope cl Nc js)(I:Inv X pins σ H s)(hfp: ∀b∈fp,FpOk X pins H b/\b<s.heap.objs.size){h₁:Heap}{t:Nat}(hns:h₁.Ns s.heap.objs.size (fun _=>none))
   (hk: ∀b o,s.heap.get? b=some o->h₁.get? b=some o):
   Inv (a0l X pins Nc scope cl s.heap.objs.size fp s H) [] (sigC js σ) H {s with heap:=h₁,toks:=t}:=by
 have cb: ∀x c,cl.lookup x=some c->c<s.heap.objs.size:=fun x c e=>by
   obtain⟨v,o,e,_⟩:=I.cell x c (O.sub x c e)
   exact Heap.lt_size e
 refine⟨⟨I.ok.mod,O.kind,I.ok.glob,I.ok.blt,Nat.le_refl _,fun x y c e1 e2=>I.ok.inj x y c (O.sub _ _ e1) (O.sub _ _ e2),O.has,fun _ _ z=>absurd z (by simp),I.ok.hd,I.ok.frames,.inl rfl,fun b hb=> ?_,
   I.bs,Nat.le_trans I.ok.bsz I.sz,fun b o e hb=> ?_,fun b hb z=> ?_,I.stack,I.stkFree⟩,rfl,I.bare,Un.kept hk,⟨_,hns,fun k x v e1 e2 e3=> ?_⟩,fun x c e=> ?_,I.hok.fresh (Nat.le_refl _),fun x c e=>I.freeC x c (O.sub x c e),fun p hp=> ?_,I.hok.kept hk,?_⟩
 . exact⟨Nat.ne_of_lt (hfp b hb).2,fun x c e=>(hfp b hb).1.2.2.2.2.1 x c (O.sub x c e)⟩
 . -- a thing of the base is no iterator of ours
   obtain⟨⟨_,_,_,h4,_⟩,_⟩:=hfp b hb
   rcases h4 with z |z
   . exact I.ok.noex b o e z
   . exact absurd (Nat.lt_of_lt_of_le (Heap.lt_size (I.ok.bs b o e).1) z) (Nat.lt_irrefl _)
 . rcases List.mem_cons.mp (I.stkSub b z)with q |q
   . exact(hfp b hb).1.2.1 q
   . exact(hfp b hb).1.2.2.1 q
 . unfold sigC at e2
   rw[List.getElem?_map]at e2
   cases ej:js[k]? with
   |none=>rw[ej]at e2;cases e2
   |some oj=>
     rw[ej]at e2
     cases oj with
     |none=>cases e2
     |some j=>
       have e2:(σ[j]?).join=some v:=Option.some.inj e2
       obtain⟨x',c,f1,f2,f3,f4,f5⟩:=O.free k j ej
       rw[show Nc[k]? =some x from e1]at f1
       cases f1
       have e2':σ[j]? =some (some v):=by
         cases q:σ[j]? with
         |none=>rw[q]at e2;cases e2
         |some q'=>rw[q]at e2;cases q' with
           |none=>cases e2
           |some z=>cases e2;rfl
       obtain⟨m,hn,hl⟩:=I.loc
       obtain⟨u,r,l⟩:=hl j x v f2 e2' (.inr (.inl f3))
       refine⟨u,r,.inr ⟨.inl f5,c,f4,?_⟩⟩
       rcases l with⟨k1,_⟩ | ⟨_,c',g1,g2⟩
       . have:X.env.scope.names.lookup x=some .local:=k1
         rw[f3]at this;cases this
       . rw[O.sub x c f4]at g1
         cases g1
         obtain⟨o,ho,hd⟩:=g2
         exact⟨o,hk _ _ ho,hd⟩
 . obtain⟨v,o,ho,hd⟩:=I.cell x c (O.sub x c e)
   exact⟨v,o,hk _ _ ho,hd⟩
 . have hp:p∈X.pn++pins:=by simpa using hp
   obtain⟨e,n,n1,n2,d⟩:=I.pin p hp
   refine⟨hk _ _ e,n,Nat.ne_of_lt (Heap.lt_size e),fun z=> ?_,d⟩
   rcases List.mem_cons.mp (I.stkSub _ z)with q |q
   . exact n1 q
   . exact n2 q
 . show(js.map _).length=Nc.length
   rw[List.length_map,O.len]
theorem b0l{C:Addr}{σ':St}{H':Hp}{s':Shared}{qs:List (Addr×Obj)}(I:Inv X pins σ H s)(hfp: ∀b∈fp,FpOk X pins H b)(J:Inv (a0l X pins Nc scope cl C fp s H) qs σ' H' s'):Inv X pins σ H' s':=
 I.call' (ch:=fp) J.os J.base J.hok J.bare fun b hb=>by
   obtain⟨_,h2,_,h4,h5,h6⟩:=hfp b hb
   exact⟨h4,h2,h5,h6⟩
end
noncomputable def a3o(env:Env)(ifs:List Expr):Sem Bool:=forIn ifs true fun c r=>if r=true then do let ok <-isTrue c env (eval c env);pure (ForInStep.yield ok)else pure (ForInStep.yield r)
theorem ifs_nil{M:Model}{A:Around}{E:Value->Shared->Prop}{s:Shared}{env:Env}{Q:Bool->Shared->Prop}(h:Q true s):wpAny M A (a3o env []) Q E s:=wpAny_pure h
theorem a9k{prog:Program}{w:World}{A:Around}{R:Result->Shared->Prop}{s:Shared}{elt target iter:Expr}{ifs:List Expr}{scope:Scope}{pos:Pos}{it acc:Value}{env:Env}(I:Nat->Shared->Prop)
   (turn: ∀n s,I n s->wpAny (model prog w) A (pyNext it) (fun r s₁=>match r with
     |none=>R (.ok .next) s₁
     |some v=>wpAny (model prog w) A (letOwnedTupleGo target it v) (fun _ s₂=>wpAny (model prog w) A (assign target env v) (fun _ s₃=>wpAny (model prog w) A (a3o env ifs) (fun b s₄=>
         if b=true then wpAny (model prog w) A (eval elt env) (fun x s₅=>wpAny (model prog w) A (call (.builtin "list.append") [acc,x]) (fun _ s₆=> ∃m,m<n/\I m s₆) (fun _ _=>False) s₅) (fun _ _=>False) s₄
         else ∃m,m<n/\I m s₄) (fun _ _=>False) s₃) (fun _ _=>False) s₂) (fun _ _=>False) s₁) (fun _ _=>False) s)
   (n:Nat) (h:I n s):
   codeAny (model prog w) A (.compLoop (.ListComp elt [⟨target,iter,ifs,0⟩] scope pos) 0 it acc env) R s:=by
 refine codeAny_loop rfl I (fun n s hI=> ?_) n h
 show wpAny _ _ ((compTurn (.ListComp elt [⟨target,iter,ifs,0⟩] scope pos) 0 it acc env).onRaise (fun x=>do noteFrame x env;theTreesLotGoes x)) _ _ s
 refine wpAny_noted ?_
 have no: ∀{E:Value->Shared->Prop} (e:Value) (s':Shared),False->E e s':=fun _ _ f=>f.elim
 rw[compTurn_list]
 refine wpAny_bind (wpAny_standAt (wpAny_bind (wpAny_mono (turn n s hI) (fun r s₁ h₁=> ?_) no)))
 cases r with
 |none=>exact wpAny_pure h₁
 |some v=>
   refine wpAny_bind (wpAny_mono h₁ (fun _ s₂ h₂=>wpAny_bind (wpAny_mono h₂ (fun _ s₃ h₃=> ?_) no)) no)
   show wpAny (model prog w) A (a3o env ifs>>=_) _ _ s₃
   refine wpAny_bind (wpAny_mono h₃ (fun b s₄ h₄=> ?_) no)
   cases b with
   |true=>
     rw[if_pos rfl]at h₄
     exact wpAny_bind (wpAny_bind (wpAny_mono h₄ (fun x s₅ h5=>wpAny_bind (wpAny_mono h5 (fun _ s₆ h6=>wpAny_pure (wpAny_pure ⟨rfl,h6⟩)) no)) no))
   |false=>
     rw[if_neg Bool.false_ne_true]at h₄
     exact wpAny_bind (wpAny_pure (wpAny_pure ⟨rfl,h₄⟩))
def PIfs(X:Cx)(ifs:List Expr)(t:TT):Prop:=
 ∀(pins:List (Addr×Obj)) (s:Shared) (σ:St) (H:Hp) (Q:Bool->Hp->Prop),Inv X pins σ H s->t σ H Q->wpAny (model X.prog X.w) X.A (a3o X.env ifs) (TP X pins σ Q) X.xe s
theorem pif_nil{X:Cx}:PIfs X [] (fun _ H Q=>Q true H):=fun _ _ _ H _ I h=>ifs_nil ⟨H,I,h⟩
def tCompW(J:It)(l:Addr)(g:TG)(ti:TT)(te:TE)(Qk:Hp->Prop)(W:Nat->Nat->List V->St->Hp->Prop):Prop:=
 ∀i m ys σ H,W i m ys σ H->H l=some (.lst ys)/\((J.stop i H/\Qk H)\/(J.go i H/\ys.length<sizeLine/\ ∀x H',J.yld i H x H'->g x σ H' fun σ2 H2=>ti σ2 H2 fun b H3=>
   if b=true then te σ2 H3 fun y H4=>H4 l=some (.lst ys)/\ ∃m',m'<m/\W (i+1) m' (ys++[y]) σ2 (upd H4 l (.lst (ys++[y])))else ∃m',m'<m/\W (i+1) m' ys σ2 H3))
def tComp(js:List (Option Nat))(wi:TI)(g:TG)(ti:TT)(te:TE):TE:=fun σ H Q=>wi σ H fun J H1=> ∀l,H1 l=none-> ∃W:Nat->Nat->List V->St->Hp->Prop,(∃m,W 0 m [] (sigC js σ) (upd H1 l (.lst [])))/\tCompW J l g ti te (Q (.ref l)) W
section
variable {X:Cx}{Nc:List Str}{scope:Scope}{cl:List (Str×Addr)}{js:List (Option Nat)}{tg iter elt:Expr}{ifs:List Expr}{g:TG}{ti:TT}{te:TE}{wi:TI}{pos:Pos}
theorem b0k{pins:List (Addr×Obj)}{H₀:Hp}{s₀ s:Shared}{C l it:Addr}{fp:List Addr}{J:It}{tn:Nat->Heap->Prop}{Qk:Hp->Prop}{W:Nat->Nat->List V->St->Hp->Prop}{RR:Result->Shared->Prop}{σc:St}{H:Hp}(hc:X.calm=true)
   (hg: ∀pins C fp s H,PG (a0l X pins Nc scope cl C fp s H) tg g) (hti: ∀pins C fp s H,PIfs (a0l X pins Nc scope cl C fp s H) ifs ti) (he: ∀pins C fp s H,PE (a0l X pins Nc scope cl C fp s H) elt te)
   (T:Turn X.prog X.w X.K tg J fp it tn) (w:tCompW J l g ti te Qk W) {m0:Nat} (w0:W 0 m0 [] σc H)
   (I:Inv (a0l X pins Nc scope cl C fp s₀ H₀) [] σc H s) (st:tn 0 s.heap) (hfp: ∀b∈fp,FpOk (a0l X pins Nc scope cl C fp s₀ H₀) [] H b)
   (hRR: ∀qs σ' H' s',Inv (a0l X pins Nc scope cl C fp s₀ H₀) qs σ' H' s'->(∀b∈fp,H' b=none)->Qk H'->RR (.ok .next) s'):
   codeAny (model X.prog X.w) X.A (.compLoop (.ListComp elt [⟨tg,iter,ifs,0⟩] scope pos) 0 (.ref it) (.ref l) (compEnvC scope cl C X.env)) RR s:=by
 have stat: ∀{H':Hp},(∀b∈fp,H' b=none)-> ∀b∈fp,FpOk (a0l X pins Nc scope cl C fp s₀ H₀) [] H' b:=fun hn b hb=>⟨hn b hb,(hfp b hb).2⟩
 refine a9k (fun n s'=> ∃i ys σ' H',Inv (a0l X pins Nc scope cl C fp s₀ H₀) [] σ' H' s'/\tn i s'.heap/\(∀b∈fp,H' b=none)/\W i n ys σ' H') ?_ m0 ⟨0,[],σc,H,I,st,fun b hb=>(hfp b hb).1,w0⟩
 rintro n s3 ⟨i,ys,σ3,H3,I3,st3,fr3,w3⟩
 obtain⟨hl,w4⟩:=w i n ys σ3 H3 w3
 rcases w4 with⟨stop,qn⟩ | ⟨go,hz,step⟩
 . refine thn (T.done (a0l X pins Nc scope cl C fp s₀ H₀) rfl rfl rfl hc i [] s3 σ3 H3 _ I3 (stat fr3) st3 stop) fun r s4 zz9=> ?_
   obtain⟨hr,I4⟩:=zz9
   subst hr
   exact hRR [] σ3 H3 s4 I4 fr3 qn
 . refine thn (T.item (a0l X pins Nc scope cl C fp s₀ H₀) rfl rfl rfl hc i [] s3 σ3 H3 _ I3 (stat fr3) st3 go) fun r s4 zz9=> ?_
   obtain⟨u,hr,h4⟩:=zz9
   subst hr
   refine thn h4 fun _ s5 zz9=> ?_
   obtain⟨x,H5,I5,r5,y5,st5,fr5⟩:=zz9
   have I5':=I5.pinned (stat fr5) (T.obj _ _ st5)
   refine thn (hg pins C fp s₀ H₀ _ s5 σ3 H5 x u _ I5' r5 (step x H5 y5)) fun _ s6 zz9=> ?_
   obtain⟨σ6,H6,I6,q6⟩:=zz9
   refine thn (hti pins C fp s₀ H₀ _ s6 σ6 H6 _ I6 q6) fun b s7 zz9=> ?_
   obtain⟨H7,I7,q7⟩:=zz9
   have again: ∀{σ7:St}{H8:Hp}{s8:Shared}{ys':List V},Inv (a0l X pins Nc scope cl C fp s₀ H₀) ([]++a47 fp s5.heap) σ7 H8 s8->(∃m',m'<n/\W (i+1) m' ys' σ7 H8)->
       ∃m,m<n/\ ∃i ys σ' H',Inv (a0l X pins Nc scope cl C fp s₀ H₀) [] σ' H' s8/\tn i s8.heap/\(∀b∈fp,H' b=none)/\W i m ys σ' H':=fun {σ7 H8 s8 ys'} I8 w8=>by
     obtain⟨m',hm,w8⟩:=w8
     refine⟨m',hm,i+1,ys',σ7,H8,I8.unpinned,T.keep _ _ _ st5 fun b hb o e=>(I8.pin (b,o) (List.mem_append_right _ (List.mem_append_right _ (a13 hb e)))).1,fun b hb=> ?_,w8⟩
     obtain⟨o,e,d⟩:=T.obj _ _ st5 b hb
     exact(I8.pin (b,o) (List.mem_append_right _ (List.mem_append_right _ (a13 hb e)))).2.1
   cases b with
   |true=>
     rw[if_pos rfl]at q7 |-
     refine thn (he pins C fp s₀ H₀ _ s7 σ6 H7 _ I7 q7) fun y s8 zz9=> ?_
     obtain⟨vy,H8,I8,r8,hl8,q8⟩:=zz9
     refine thn (a1b (X:=a0l X pins Nc scope cl C fp s₀ H₀) _ s8 σ6 H8 (.ref l) [vy] (.ref l) [y] (fun _ H9=>H9=upd H8 l (.lst (ys++[vy]))) I8 rfl (.cons r8 .nil) ⟨l,ys,vy,rfl,rfl,hl8,hz,rfl⟩) fun _ s9 zz9=> ?_
     obtain⟨_,H9,I9,_,e9⟩:=zz9
     subst e9
     exact again I9 q8
   |false=>
     rw[if_neg Bool.false_ne_true]at q7 |-
     exact again I7 q7
theorem pe_comp(O:CompOk X scope cl Nc js)(hc:X.calm=true)(hi:PI X tg iter wi)(hg: ∀pins C fp s H,PG (a0l X pins Nc scope cl C fp s H) tg g)(hti: ∀pins C fp s H,PIfs (a0l X pins Nc scope cl C fp s H) ifs ti)
   (he: ∀pins C fp s H,PE (a0l X pins Nc scope cl C fp s H) elt te) (hs: ∀x,foldedSetIterable iter X.env x=pure x:=by intro _;rfl):
   PE X (.ListComp elt [⟨tg,iter,ifs,0⟩] scope pos) (tComp js wi g ti te):=by
 intro pins s σ H Q I hw
 rw[eval_ListComp]
 refine wpAny_comprehension_free (use:=none) rfl hs O.clos O.kind O.names (thn (hi pins s σ H _ I hw) fun v s1 h1=>thn h1 fun itv s2 h2=> ?_)
 obtain⟨it,fp,tn,J,H2,e,I2,T,st2,f2,r2⟩:=h2
 subst e
 refine wpAny_newObj_type ?_
 have hl0:H2 s2.heap.objs.size=none:=I2.hok.fresh (Nat.le_refl _)
 obtain⟨W,⟨m0,w0⟩,w⟩:=r2 s2.heap.objs.size hl0
 have k3: ∀b o,s2.heap.get? b=some o->(s2.heap.push {cls:= .type "list",data:= .seq ([]:List Value).toArray}).get? b=some o:=fun b o e=>Heap.get?_push_of_some _ e
 have I3:Inv X pins σ (upd H2 s2.heap.objs.size (.lst [])) {s2 with heap:=s2.heap.push {cls:= .type "list",data:= .seq ([]:List Value).toArray}}:=
   I2.laid (t':=s2.toks) k3 (Nat.le_refl _) ⟨Nat.zero_le _,[],0,.nil,Heap.get?_push_size _ rfl⟩
 have fpl: ∀b∈fp,b<s2.heap.objs.size:=fun b hb=>by
   obtain⟨o,e,_⟩:=T.obj _ _ st2 b hb
   exact Heap.lt_size e
 have f3: ∀b∈fp,FpOk X pins (upd H2 s2.heap.objs.size (.lst [])) b:=fun b hb=>⟨by rw[a0i (Nat.ne_of_lt (fpl b hb))];exact(f2 b hb).1,(f2 b hb).2⟩
 have sz3:(s2.heap.push {cls:= .type "list",data:= .seq ([]:List Value).toArray}).objs.size=s2.heap.objs.size+1:=Heap.size_push _ _
 refine wpAny_newFunctionEnv O.cell (by intro y hy;simp at hy) (fun h₁ hns₁ hsb₁=> ?_) O.kind
 have k4: ∀b o,(s2.heap.push {cls:= .type "list",data:= .seq ([]:List Value).toArray}).get? b=some o->h₁.get? b=some o:=fun b o e=>
   (hsb₁.2 b (Nat.ne_of_lt (Heap.lt_size e))).trans (Heap.get?_push_of_some _ e)
 have Ic:=a6k (Nc:=Nc) (js:=js) (fp:=fp) (t:=s2.toks) O I3 (fun b hb=>⟨f3 b hb,by show b< (s2.heap.push _).objs.size;rw[sz3];exact Nat.lt_succ_of_lt (fpl b hb)⟩) (h₁:=h₁) hns₁ k4
 have st4:tn 0 h₁:=T.keep _ _ _ st2 fun b hb o e=>k4 b o (k3 b o e)
 have fC:FpOk X pins (upd H2 s2.heap.objs.size (.lst [])) (s2.heap.push {cls:= .type "list",data:= .seq ([]:List Value).toArray}).objs.size:=I3.fpOk (Nat.le_refl _) (I3.hok.fresh (Nat.le_refl _))
 have loop: ∀s4:Shared,s4={s2 with heap:=h₁,toks:=s2.toks}->codeAny (model X.prog X.w) X.A (.compLoop (.ListComp elt [⟨tg,iter,ifs,0⟩] scope pos) 0 (.ref it) (.ref s2.heap.objs.size) (compEnvC scope cl (s2.heap.push {cls:= .type "list",data:= .seq ([]:List Value).toArray}).objs.size X.env))
     (compPost (model X.prog X.w) X.A X.xe none (EP X pins σ Q) (.ref s2.heap.objs.size) (s2.heap.push {cls:= .type "list",data:= .seq ([]:List Value).toArray}).objs.size) s4:=by
   rintro s4 rfl
   refine b0k (s₀:={s2 with heap:=s2.heap.push {cls:= .type "list",data:= .seq ([]:List Value).toArray}}) hc hg hti he T w w0 Ic st4 (fun b hb=> ?_) fun qs σ' H' s' J' fr' q'=> ?_
   . obtain⟨g1,g2,g3,g4,g5,g6⟩:=f3 b hb
     refine⟨g1,Nat.ne_of_lt (by show b< (s2.heap.push _).objs.size;rw[sz3];exact Nat.lt_succ_of_lt (fpl b hb)),fun z=> ?_,.inl hb,fun x c e=>g5 x c (O.sub x c e),fun p hp=>g6 p (by simpa using hp)⟩
     rcases List.mem_cons.mp (I3.stkSub b z)with q |q
     . exact g2 q
     . exact g3 q
   . obtain⟨mC,hnC,_⟩:=J'.loc
     have I5:Inv X pins σ H' s':=b0l I3 f3 J'
     refine⟨mC,hnC,fun h' sb=>⟨.ref s2.heap.objs.size,H',?_,rfl,q'⟩⟩
     exact I5.turned (t':=s'.toks) (fun b o hb e=>(sb.2 b hb).trans e) J'.free fC.2.1 fC.2.2.2.1 fC.2.2.2.2.1 fC.2.2.2.2.2
 exact codeAny_compStart_list (loop _ rfl) (T.self X.A 0 _ _ _ st4 (loop _ rfl))
theorem b15{i:Nat}{y:Str}{py spos:Pos}(hN:X.N.Nodup)(hiN:X.N[i]? =some y)(hyl:X.env.scope.names.lookup y=some .local)(O:CompOk X scope cl Nc js)(hc:X.calm=true)(hi:PI X tg iter wi)(hg: ∀pins C fp s H,PG (a0l X pins Nc scope cl C fp s H) tg g)(hti: ∀pins C fp s H,PIfs (a0l X pins Nc scope cl C fp s H) ifs ti)
   (he: ∀pins C fp s H,PE (a0l X pins Nc scope cl C fp s H) elt te) (hsw:swapsWith (.ListComp elt [⟨tg,iter,ifs,0⟩] scope pos) (some (.Name y py)) spos.line X.env=pure true) (hs: ∀x,foldedSetIterable iter X.env x=pure x:=by intro _;rfl):
   PS X (.Assign [.Name y py] (.ListComp elt [⟨tg,iter,ifs,0⟩] scope pos) spos) (tAsg (tComp js wi g ti te) (gName i)):=by
 intro pins s σ H D I hw
 rw[exec_Assign_Name_used _ _ _ _ hsw]
 refine wpAny_bind (wpAny_standAt (wpAny_bind ?_))
 show wpAny _ X.A (do let _ <-comprehension (.ListComp elt [⟨tg,iter,ifs,0⟩] scope pos) scope X.env _ (newList []) false (eval iter X.env) (some (assign (.Name y py) X.env))) _ _ s
 refine wpAny_bind (wpAny_mono (wpAny_comprehension_free (use:=some (assign (.Name y py) X.env)) (Q:=fun _ s'=>SP X pins D .next s') rfl hs O.clos O.kind O.names ?_) (fun _ s' hq=>wpAny_pure (wpAny_pure hq)) fun _ _ e=>e)
 refine(thn (hi pins s σ H _ I hw) fun v s1 h1=>thn h1 fun itv s2 h2=> ?_)
 obtain⟨it,fp,tn,J,H2,e,I2,T,st2,f2,r2⟩:=h2
 subst e
 refine wpAny_newObj_type ?_
 have hl0:H2 s2.heap.objs.size=none:=I2.hok.fresh (Nat.le_refl _)
 obtain⟨W,⟨m0,w0⟩,w⟩:=r2 s2.heap.objs.size hl0
 have k3: ∀b o,s2.heap.get? b=some o->(s2.heap.push {cls:= .type "list",data:= .seq ([]:List Value).toArray}).get? b=some o:=fun b o e=>Heap.get?_push_of_some _ e
 have I3:Inv X pins σ (upd H2 s2.heap.objs.size (.lst [])) {s2 with heap:=s2.heap.push {cls:= .type "list",data:= .seq ([]:List Value).toArray}}:=
   I2.laid (t':=s2.toks) k3 (Nat.le_refl _) ⟨Nat.zero_le _,[],0,.nil,Heap.get?_push_size _ rfl⟩
 have fpl: ∀b∈fp,b<s2.heap.objs.size:=fun b hb=>by
   obtain⟨o,e,_⟩:=T.obj _ _ st2 b hb
   exact Heap.lt_size e
 have f3: ∀b∈fp,FpOk X pins (upd H2 s2.heap.objs.size (.lst [])) b:=fun b hb=>⟨by rw[a0i (Nat.ne_of_lt (fpl b hb))];exact(f2 b hb).1,(f2 b hb).2⟩
 have sz3:(s2.heap.push {cls:= .type "list",data:= .seq ([]:List Value).toArray}).objs.size=s2.heap.objs.size+1:=Heap.size_push _ _
 refine wpAny_newFunctionEnv O.cell (by intro y hy;simp at hy) (fun h₁ hns₁ hsb₁=> ?_) O.kind
 have k4: ∀b o,(s2.heap.push {cls:= .type "list",data:= .seq ([]:List Value).toArray}).get? b=some o->h₁.get? b=some o:=fun b o e=>
   (hsb₁.2 b (Nat.ne_of_lt (Heap.lt_size e))).trans (Heap.get?_push_of_some _ e)
 have Ic:=a6k (Nc:=Nc) (js:=js) (fp:=fp) (t:=s2.toks) O I3 (fun b hb=>⟨f3 b hb,by show b< (s2.heap.push _).objs.size;rw[sz3];exact Nat.lt_succ_of_lt (fpl b hb)⟩) (h₁:=h₁) hns₁ k4
 have st4:tn 0 h₁:=T.keep _ _ _ st2 fun b hb o e=>k4 b o (k3 b o e)
 have fC:FpOk X pins (upd H2 s2.heap.objs.size (.lst [])) (s2.heap.push {cls:= .type "list",data:= .seq ([]:List Value).toArray}).objs.size:=I3.fpOk (Nat.le_refl _) (I3.hok.fresh (Nat.le_refl _))
 have loop: ∀s4:Shared,s4={s2 with heap:=h₁,toks:=s2.toks}->codeAny (model X.prog X.w) X.A (.compLoop (.ListComp elt [⟨tg,iter,ifs,0⟩] scope pos) 0 (.ref it) (.ref s2.heap.objs.size) (compEnvC scope cl (s2.heap.push {cls:= .type "list",data:= .seq ([]:List Value).toArray}).objs.size X.env))
     (compPost (model X.prog X.w) X.A X.xe (some (assign (.Name y py) X.env)) (fun _ s'=>SP X pins D .next s') (.ref s2.heap.objs.size) (s2.heap.push {cls:= .type "list",data:= .seq ([]:List Value).toArray}).objs.size) s4:=by
   rintro s4 rfl
   refine b0k (s₀:={s2 with heap:=s2.heap.push {cls:= .type "list",data:= .seq ([]:List Value).toArray}}) hc hg hti he T w w0 Ic st4 (fun b hb=> ?_) fun qs σ' H' s' J' fr' q'=> ?_
   . obtain⟨g1,g2,g3,g4,g5,g6⟩:=f3 b hb
     refine⟨g1,Nat.ne_of_lt (by show b< (s2.heap.push _).objs.size;rw[sz3];exact Nat.lt_succ_of_lt (fpl b hb)),fun z=> ?_,.inl hb,fun x c e=>g5 x c (O.sub x c e),fun p hp=>g6 p (by simpa using hp)⟩
     rcases List.mem_cons.mp (I3.stkSub b z)with q |q
     . exact g2 q
     . exact g3 q
   . obtain⟨mC,hnC,_⟩:=J'.loc
     have I5:Inv X pins σ H' s':=b0l I3 f3 J'
     have neC:(s2.heap.push {cls:= .type "list",data:= .seq ([]:List Value).toArray}).objs.size≠X.env.locals:=fC.2.1
     show wpAny _ X.A (assign (.Name y py) X.env (.ref s2.heap.objs.size)) _ _ s'
     refine wpAny_assign_Name (a7i I5 hN hiN (.inl hyl) (v:= .ref s2.heap.objs.size) rfl (fun s6 I6 ⟨a6,sb6,ha6⟩=> ?_) (.inr hyl))
     have nea:a6≠(s2.heap.push {cls:= .type "list",data:= .seq ([]:List Value).toArray}).objs.size:=by
       rcases ha6 with z |z
       . rw[z];exact fun z=>neC z.symm
       . exact fC.2.2.2.2.1 y a6 z
     refine⟨mC,hnC.sameBut sb6 nea.symm,fun h' sb=>⟨_,H',?_,q'⟩⟩
     exact I6.turned (t':=s6.toks) (fun b o hb e=>(sb.2 b hb).trans e) J'.free fC.2.1 fC.2.2.2.1 fC.2.2.2.2.1 fC.2.2.2.2.2
 exact codeAny_compStart_list (loop _ rfl) (T.self X.A 0 _ _ _ st4 (loop _ rfl))
end
mutual
inductive Rep(K:PySem.W.Frag)(H:Hp):V->PyData->Prop where
 |non:Rep K H .non .none
 |bl (b:Bool):Rep K H (.bl b) (.bool b)
 |int (i:Int):Rep K H (.int i) (.int i)
 |str (x:Str):Rep K H (.str x) (.str x)
 |lst {a:Addr}{xs:List V}{ds:List PyData} (e:SqL K H a xs) (r:Reps K H xs ds):Rep K H (.ref a) (.list ds)
 |tup {a:Addr}{xs:List V}{ds:List PyData} (e:SqT K H a xs) (r:Reps K H xs ds):Rep K H (.ref a) (.tuple ds)
inductive Reps(K:PySem.W.Frag)(H:Hp):List V->List PyData->Prop where
 |nil:Reps K H [] []
 |cons {x:V}{d:PyData}{xs:List V}{ds:List PyData} (h:Rep K H x d) (t:Reps K H xs ds):Reps K H (x::xs) (d::ds)
end
section
variable {X:Cx}{pins:List (Addr×Obj)}{σ:St}{H:Hp}{s:Shared}
mutual
theorem Rep.reads(I:Inv X pins σ H s): ∀{x:V}{d:PyData}{v:Value},Rep X.K H x d->RelV x v-> ∃as,Reads s.heap v d as
 |_,_,_,.non,r=>by cases(show _=Value.none from r);exact⟨_,.none⟩
 |_,_,_,.bl b,r=>by cases(show _=Value.bool b from r);exact⟨_,.bool b⟩
 |_,_,_,.int i,r=>by obtain⟨t,rfl⟩:=r;exact⟨_,.int i t⟩
 |_,_,_,.str x,r=>by obtain⟨t,rfl⟩:=r;exact⟨_,.str x t⟩
 |_,_,_,@Rep.lst _ _ a xs ds e rs,r=>by
   cases(show _=Value.ref a from r)
   obtain⟨its,rv,pl,_⟩:=I.list e
   obtain⟨as,q⟩:=Reps.reads I rs rv
   obtain⟨o,ho,hc,n,hd⟩:=pl.isList
   exact⟨_,.list ho hc hd (by simpa using q)⟩
 |_,_,_,@Rep.tup _ _ a xs ds e rs,r=>by
   cases(show _=Value.ref a from r)
   obtain⟨its,rv,⟨o,ho,hc,n,hd⟩,_⟩:=I.tuple e
   obtain⟨as,q⟩:=Reps.reads I rs rv
   exact⟨_,.tuple ho hc hd (by simpa using q)⟩
theorem Reps.reads(I:Inv X pins σ H s): ∀{xs:List V}{ds:List PyData}{us:List Value},Reps X.K H xs ds->Vals xs us-> ∃as,ReadsAll s.heap us ds as
 |_,_,_,.nil,r=>by cases r;exact⟨_,.nil⟩
 |_,_,_,.cons h t,r=>by
   cases r with
   |cons r1 r2=>
     obtain⟨as,q1⟩:=Rep.reads I h r1
     obtain⟨bs,q2⟩:=Reps.reads I t r2
     exact⟨_,.cons q1 q2⟩
end
end
def rEqD(K:PySem.W.Frag)(neg:Bool):R2:=fun x y H Q=> ∃dx dy,Rep K H x dx/\Rep K H y dy/\SeqAt.shaped dx=true/\SeqAt.shaped dy=true/\Q (.bl (if neg then !PyData.eqv dx dy else PyData.eqv dx dy)) H
section
variable {X:Cx}
theorem op_eqD(hu:X.A.units+64<cLine):OpR X (compareOp .Eq) (rEqD X.K false):=by
 intro pins s σ H x y v u Q I rx ry h
 obtain⟨dx,dy,h1,h2,s1,s2,q⟩:=h
 obtain⟨as,r1⟩:=h1.reads I rx
 obtain⟨bs,r2⟩:=h2.reads I ry
 exact SeqAt.compareEq_shaped r1 r2 s1 s2 hu ⟨.bl _,H,I,rfl,q⟩
theorem op_neD(hu:X.A.units+64<cLine):OpR X (compareOp .NotEq) (rEqD X.K true):=by
 intro pins s σ H x y v u Q I rx ry h
 obtain⟨dx,dy,h1,h2,s1,s2,q⟩:=h
 obtain⟨as,r1⟩:=h1.reads I rx
 obtain⟨bs,r2⟩:=h2.reads I ry
 exact SeqAt.compareNe_shaped r1 r2 s1 s2 hu ⟨.bl _,H,I,rfl,q⟩
end
mutual
theorem b0e: ∀d:PyData,d.canLay0=true->PyData.eqv d d=true
 | .none,_=>by simp[PyData.eqv]
 | .bool b,_=>by simp[PyData.eqv]
 | .int i,_=>by simp[PyData.eqv]
 | .str x,_=>by simp[PyData.eqv]
 | .list xs,h=>by rw[PyData.eqv];exact a29 xs (by simpa only[PyData.canLay0]using h)
 | .tuple xs,h=>by rw[PyData.eqv];exact a29 xs (by simpa only[PyData.canLay0]using h)
 | .dict _,h=>by simp[PyData.canLay0]at h
theorem a29: ∀ds:List PyData,PyData.canLayAll0 ds=true->PyData.eqvAll ds ds=true
 | [],_=>by simp[PyData.eqvAll]
 |d::ds,h=>by
   have h:d.canLay0=true/\PyData.canLayAll0 ds=true:=by simpa only[PyData.canLayAll0,Bool.and_eq_true]using h
   rw[PyData.eqvAll,b0e d h.1,a29 ds h.2]
   rfl
end
noncomputable def Itw(n:Nat)(f:Nat->V):It:=⟨fun i _=>i<n,fun i H x H'=>H'=H/\x=f i,fun i _=>i=n⟩
theorem a3q{P:Program}{w:World}{K:PySem.W.Frag}{tg:Expr}{it:Addr}{n:Nat}{f:Nat->V}{Pv:Nat->Value->Prop}{tn:Nat->Heap->Prop}
   (W: ∀A:Around,A.handled=none->Walks P w A it [it] [it] n Pv tn) (hv: ∀i v,i<n->Pv i v->RelV (f i) v)
   (ho: ∀i h,tn i h-> ∃o nm vs,h.get? it=some o/\o.cls= .type nm/\o.data= .fields vs/\["enumerate","zip","dict_itemiterator","dict_reverseitemiterator","odict_iterator","itertools.zip_longest","itertools.pairwise"].contains nm=false)
   (self: ∀(A:Around) (i:Nat) (s:Shared) (Q:Value->Shared->Prop) (E:Value->Shared->Prop),tn i s.heap->Q (.ref it) s->wpAny (model P w) A (pyIter (.ref it)) Q E s):
   Turn P w K tg (Itw n f) [it] it tn where
 mem:=by simp
 obj:=fun i h st b hb=>by
   have e:b=it:=by simpa using hb
   subst e
   obtain⟨o,nm,vs,e,_,d,_⟩:=ho i h st
   exact⟨o,e,fun v z=>by rw[d]at z;cases z⟩
 keep:=fun i h h' st k=>(W {depth:=0,handled:=none} rfl).frame i h h' st k
 item:=by
   intro X hP hw hK hc i pins s σ H E I hf st hg
   subst hP hw hK
   obtain⟨f0,f1,f2,f3,f4,f5⟩:=hf it (by simp)
   refine(W X.A (I.ok.hd hc)).item i s _ _ hg st fun v h' tk hpv st' kk=> ?_
   have I1:Inv X pins σ H {s with heap:=h',toks:=tk}:=I.turned (fun b o hb e=>kk b o (by simpa using hb) e) f0 f1 f3 f4 f5
   obtain⟨o,nm,vs,e,c,d,nn⟩:=ho _ _ st'
   exact⟨v,rfl,b4o (s:={s with heap:=h',toks:=tk}) e c d nn ⟨f i,H,I1,hv i v hg hpv,⟨rfl,rfl⟩,st',fun b hb=>(hf b hb).1⟩⟩
 done:=by
   intro X hP hw hK hc i pins s σ H E I hf st hg
   subst hP hw hK
   obtain⟨f0,f1,f2,f3,f4,f5⟩:=hf it (by simp)
   have hg:i=n:=hg
   subst hg
   exact(W X.A (I.ok.hd hc)).done s _ _ st fun h' tk kk=>⟨rfl,I.turned (fun b o hb e=>kk b o (by simpa using hb) e) f0 f1 f3 f4 f5⟩
 self:=self
section
variable {X:Cx}{tg:Expr}
noncomputable def signV(x:Str)(i:Nat):V:= .str ⟨#[x.cps.getD i 0]⟩
def iStr(tl:TE):TI:=fun σ H R=>tl σ H fun v H1=> ∃x,v= .str x/\R (Itw x.cps.size (signV x)) H1
theorem a9t{x:Str}{i:Nat}{v:Value}(hi:i<x.cps.size)(h:SignAt x i v):RelV (signV x i) v:=by
 obtain⟨c,u,e,rfl⟩:=h
 refine⟨u,?_⟩
 have e2:x.cps.getD i 0=c:=by simp[e]
 rw[e2]
theorem pi_str{l:Expr}{tl:TE}(hl:PE X l tl):PI X tg l (iStr tl):=by
 intro pins s σ H R I h
 refine thn (hl pins s σ H _ I h) fun v s1 zz9=> ?_
 obtain⟨y,H1,I1,r1,x,e1,q1⟩:=zz9
 subst e1
 obtain⟨t,rfl⟩:=r1
 cases ha:x.cps.all (· <128)
 . refine wpAny_pyIter_wide ha ?_
   exact⟨s1.heap.objs.size,[s1.heap.objs.size],_,_,H1,rfl,I1.kept (t':=s1.toks) fun b o e=>Heap.get?_push_of_some _ e,a3q (fun A hA=>Walks.strWide hA _ x t) (fun i v hi hp=>a9t hi hp)
     (fun i h ⟨o,e,c,d⟩=>⟨o,_,_,e,c,d,by decide⟩) (fun _ _ _ _ _ st q=>wpAny_pyIter_striter_wide st q),⟨_,Heap.get?_push_size _ rfl,rfl,rfl⟩,
     fun b hb=>by
       have e:b=s1.heap.objs.size:=by simpa using hb
       subst e
       exact I1.fpOk (Nat.le_refl _) (I1.hok.fresh (Nat.le_refl _)),q1⟩
 . refine wpAny_pyIter_ascii ha ?_
   exact⟨s1.heap.objs.size,[s1.heap.objs.size],_,_,H1,rfl,I1.kept (t':=s1.toks) fun b o e=>Heap.get?_push_of_some _ e,a3q (fun A hA=>Walks.strAscii hA _ x t) (fun i v hi hp=>a9t hi hp)
     (fun i h ⟨o,e,c,d⟩=>⟨o,_,_,e,c,d,by decide⟩) (fun _ _ _ _ _ st q=>wpAny_pyIter_striter_ascii st q),⟨_,Heap.get?_push_size _ rfl,rfl,rfl⟩,
     fun b hb=>by
       have e:b=s1.heap.objs.size:=by simpa using hb
       subst e
       exact I1.fpOk (Nat.le_refl _) (I1.hok.fresh (Nat.le_refl _)),q1⟩
def rSlS:V->Option Int->Option Int->Hp->VK->Prop:=fun x lo hi H Q=> ∃z,x= .str z/\z.length<=sizeLine/\Q (.str (Txt.slice z lo hi)) H
theorem sl_str:SlR X rSlS:=by
 intro pins s σ H x v vl vu lo hi sl Q I rx hs pl pu h
 obtain⟨z,rfl,hz,q⟩:=h
 obtain⟨t,rfl⟩:=rx
 have fin: ∀t' k,EP X pins σ Q (.str (Txt.slice z lo hi) t') {s with toks:=k}:=fun t' k=>⟨.str _,H,I.tok _,⟨t',rfl⟩,q⟩
 have hle:(Txt.slice z lo hi).length<=sizeLine:=Nat.le_trans (Txt.slice_le z _ _) hz
 refine⟨"str",_,F.slot_str_getitem.lookup,typeIs_str _ _ _,?_⟩
 cases pl with
 |none=>
   cases pu with
   |none=>exact wpAny_getItem_str_slice (l:=none) (u:=none) (st:=none) hs rfl (post_val_or_str ⟨hle,fun t' k=>fin t' k⟩)
   |int j uj=>exact wpAny_getItem_str_slice (l:=none) (u:=some (j,uj)) (st:=none) hs rfl (post_val_or_str ⟨hle,fun t' k=>fin t' k⟩)
 |int i ui=>
   cases pu with
   |none=>exact wpAny_getItem_str_slice (l:=some (i,ui)) (u:=none) (st:=none) hs rfl (post_val_or_str ⟨hle,fun t' k=>fin t' k⟩)
   |int j uj=>exact wpAny_getItem_str_slice (l:=some (i,ui)) (u:=some (j,uj)) (st:=none) hs rfl (post_val_or_str ⟨hle,fun t' k=>fin t' k⟩)
end
open PySem PySem.W PySem.Spec PySem.Calls PyProof.Rows
structure ExLook(K:Frag)(D:Addr):Prop where
 cl:(clsIn K D).isSome=true
 ga:findIn K (.ref D) "__getattribute__"=some (some (.builtin "BaseException.__getattribute__"))
 gn:findIn K (.ref D) "__getattr__"=some none
 ha:findIn K (.ref D) "__class__"=some (some (.builtin "object.__class__"))
 hn:specialIn K (.builtin "object.__class__") "__get__"=some (some (.builtin "getset_descriptor.__get__"))
 tk:takesIn K (.builtin "object.__class__")=some true
 hm:mroIn K D (.type "object")=some true
 hb:mroIn K D (.type "BaseException")=some true
section
variable {prog:Program}{w:World}{A:Around}{E:Value->Shared->Prop}{s:Shared}{K:Frag}{x D:Addr}{ox:Obj}
theorem b4q(L:ExLook K D):findObj K D none "__class__"=some (.bind (.builtin "getset_descriptor.__get__") (.builtin "object.__class__")):=by
 obtain⟨cd,hc⟩:=Option.isSome_iff_exists.mp L.cl
 unfold findObj
 rw[hc,Option.bind_some,L.ha,Option.bind_some]
 simp[L.hn,L.tk]
theorem exc_ga{tk:Tok}{R:Result->Shared->Prop}(L:ExLook K D)(X:K.In s.heap)(I:InstAt s.heap x ox D none)(h:R (.ok (.ret (.ref D))) s):
   codeAny (model prog w) A (.call (.builtin "BaseException.__getattribute__") ⟨[.ref x,.str "__class__" tk],[]⟩) R s:=by
 obtain⟨hh,g,d,t,os⟩:=s
 have L0:=I.type (M:=model prog w)
 have L1:=looks_find (M:=model prog w) X I (b4q L)
 have L2:=looks_mroIn (M:=model prog w) X L.hb
 refine codeAny_call_builtin F.attr_ValueError.ga.plain F.entry_bexc_ga ?_
 have hk:builtinKind "BaseException.__getattribute__"=some .slot:=by decide+kernel
 have hsplit:splitId "BaseException.__getattribute__"=some ("BaseException","__getattribute__"):=by decide+kernel
 have ha:=F.args_bexc_ga (.ref x) (.str "__class__" tk)
 have chk: ∀{Q:Unit->Shared->Prop}{E:Value->Shared->Prop}{A':Around},Q () ⟨hh,g,d,t,os⟩->wpAny (model prog w) A' (checkBuiltinCall "BaseException.__getattribute__" ⟨[.ref x,.str "__class__" tk],[]⟩) Q E ⟨hh,g,d,t,os⟩:=by
   intro Q E A' hq
   simp only[checkBuiltinCall,hk,hsplit]
   refine wpAny_bind ?_
   unfold isInstance
   refine wpAny_bind (L0.at (L2.at ?_))
   rw[if_neg (by decide)]
   repeat (first |wp_step)
   all_goals exact hq
 refine chk ?_
 unfold Builtin.«object.__getattribute__»
 refine wpAny_bind (wpAny_pure ?_)
 refine wpAny_bind (wpAny_pure ?_)
 refine wpAny_bind (L0.at (wpAny_bind (L1.at ?_)))
 show wpAny _ _ (holding [_] (call (.builtin "getset_descriptor.__get__") [.builtin "object.__class__",.ref x,.ref D])>>=ret) _ _ _
 refine wpAny_bind (wpAny_holding (wpAny_call (class_get (s:=⟨hh,g,d,t,os⟩) X I L.hm ?_)))
 exact wpAny_pure h
theorem b29{Q:Option Value->Shared->Prop}(L:ExLook K D)(X:K.In s.heap)(I:InstAt s.heap x ox D none)(h:Q (some (.ref D)) {s with toks:=s.toks+1}):
   wpAny (model prog w) A (getAttr? (.ref x) "__class__") Q E s:=by
 obtain⟨hh,g,d,t,os⟩:=s
 have L0:=I.type (M:=model prog w)
 have L1:=looks_findIn (M:=model prog w) X L.ga
 have L2:=looks_findIn (M:=model prog w) X L.gn
 unfold getAttr? getAttrBy? getAttrBy
 refine wpAny_bind (wpAny_mkText (wpAny_bind (wpAny_attempt (wpAny_holding (wpAny_bind (L0.at (wpAny_bind (L1.at ?_))))))))
 have hx2:(Value.builtin "BaseException.__getattribute__"==Value.builtin "object.__getattribute__")=false:=by decide+kernel
 dsimp only
 rw[if_neg (by rw[hx2];simp)]
 unfold getAttrByItsOwn hookBefore callGetattribute boundAndCalled
 rw[if_pos (show onTheHeap (Value.ref D)=true from rfl)]
 refine wpAny_bind (L2.at ?_)
 refine wpAny_bind (wpAny_attempt (wpAny_holding ?_))
 rw[if_neg (by simp)]
 refine wpAny_bind (wpAny_of_eq (F.attr_ValueError.ga.bind (.ref x)) ?_)
 refine wpAny_call (exc_ga (s:=⟨hh,g,d,t+1,os⟩) L X I ?_)
 refine handed_on rfl ?_
 exact wpAny_pure h
theorem b4g{a:Addr}(L:ExLook K D):KitX K (.ref a) (.ref D) (fun h=> ∃ox,InstAt h a ox D none) where
 ty:=fun _ _ _ ⟨_,I⟩=>I.type
 it:=fun _ _ X _=>by
   obtain⟨cdD,hcD⟩:=Option.isSome_iff_exists.mp L.cl
   unfold clsIn at hcD
   split at hcD
   . rename_i c' d' cd' sl' ho
     intro A' Q' E' s' k q
     unfold isType loadHead
     exact wpAny_bind (wpAny_loadPart (k _ _ (X _ _ ho)) (wpAny_pure q))
   . cases hcD
 ne:=fun h tp dd its n sl X htp=>by
   obtain⟨cdD,hcD⟩:=Option.isSome_iff_exists.mp L.cl
   refine Bool.eq_false_iff.mpr fun q=> ?_
   have e:D=tp:=Value.ref.inj (beq_iff_eq.mp q)
   subst e
   unfold clsIn at hcD
   split at hcD
   . rename_i c' d' cd' sl' ho
     have z:=(X _ _ ho).symm.trans htp
     cases z
   . cases hcD
 ca:=fun X ⟨_,I⟩ k=>b29 L X I k
theorem excφ.inst{a:Addr}{h:Heap}(e:excφ a (.ref D) h): ∃ox,InstAt h a ox D none:=by
 obtain⟨o,vs,e1,e2,e3,e4,_⟩:=e
 refine⟨o,e1,e2,?_,?_⟩
 . unfold notCls;rw[e4]
 . rw[e3];trivial
theorem excψ.inst{a b:Addr}{h:Heap}(e:excψ a (.ref D) b h): ∃ox,InstAt h a ox D none:=by
 obtain⟨o,vs,e1,e2,e3,e4,_⟩:=e
 refine⟨o,e1,e2,?_,?_⟩
 . unfold notCls;rw[e4]
 . rw[e3];trivial
end
noncomputable def clsV:V->Option Value
 | .ref a=>some (.ref a)
 | .ty n=>some (.type n)
 |_=>none
theorem b0m{y:V}{cv u:Value}(e:clsV y=some cv)(r:RelV y u):u=cv:=by
 cases y<;>first | (cases e;done) | (cases e;exact r)
theorem a4d{X:Cx}:CallR X (.builtin "isinstance") (fun xs H Q=> ∃a D y cv b,xs=[.ref a,y]/\ExcIs H a (.ref D)/\ExLook X.K D/\clsV y=some cv/\kitOne X.K (.ref D) cv=some b/\Q (.bl b) H):=by
 intro pins s σ H xs us Q I r h
 obtain⟨a,D,y,cv,b,rfl,hH,L,hy,e,q⟩:=h
 obtain⟨u,u',rfl,rx,ru⟩:=vals2 r
 cases(show u=Value.ref a from rx)
 cases b0m hy ru
 have hφ: ∃ox,InstAt s.heap a ox D none:=by
   rcases hH with hH | ⟨b,hH,_⟩
   . exact excφ.inst (I.hok a _ hH).1
   . exact excψ.inst (I.hok a _ hH).1
 exact kia_one (b4g L) I.kIn hφ e (fun z=>nomatch z) fun tk=>⟨.bl b,H,I.tok tk,rfl,q⟩
theorem a8h{X:Cx}:CallR X (.builtin "isinstance") (fun xs H Q=> ∃x y t cv b,xs=[x,y]/\TyOf X.K H x t/\clsV y=some cv/\kitOne X.K t cv=some b/\Q (.bl b) H):=by
 intro pins s σ H xs us Q I r h
 obtain⟨x,y,t,cv,b,rfl,ty,hy,e,q⟩:=h
 obtain⟨u,u',rfl,rx,ru⟩:=vals2 r
 cases b0m hy ru
 exact b20 I rx ty e fun tk=>⟨.bl b,H,I.tok tk,rfl,q⟩
theorem a3p : entryFor table "proto.unchain" = some Builtin.«proto.unchain» := entryFor_of_tree (by kernel_rfl)
inductive WalkN(G:Addr->Obj->Prop):Addr->Prop where
 |nil {a:Addr}{oe:Obj}{vs:Array Value} (he:G a oe) (hd:oe.data= .fields vs) (h2:vs[2]? =some .none):WalkN G a
 |cons {a b:Addr}{oe:Obj}{vs:Array Value} (he:G a oe) (hd:oe.data= .fields vs) (h2:vs[2]? =some (.ref b)) (hb:WalkN G b):WalkN G a
theorem WalkN.imp{G G':Addr->Obj->Prop}{a:Addr}(h: ∀b o,G b o->G' b o)(W:WalkN G a):WalkN G' a:=by
 induction W with
 |nil he hd h2=>exact .nil (h _ _ he) hd h2
 |cons he hd h2 _ ih=>exact .cons (h _ _ he) hd h2 ih
inductive Pth(G:Addr->Obj->Prop):Addr->Addr->Prop where
 |refl (a:Addr):Pth G a a
 |step {a b c:Addr}{oe:Obj}{vs:Array Value} (he:G a oe) (hd:oe.data= .fields vs) (h2:vs[2]? =some (.ref b)) (h:Pth G b c):Pth G a c
theorem Pth.snoc{G:Addr->Obj->Prop}{a b c:Addr}{oe:Obj}{vs:Array Value}(p:Pth G a b)(he:G b oe)(hd:oe.data= .fields vs)(h2:vs[2]? =some (.ref c)):Pth G a c:=by
 induction p with
 |refl=>exact .step he hd h2 (.refl _)
 |step he' hd' h2' _ ih=>exact .step he' hd' h2' (ih he)
section
variable {prog:Program}{w:World}{A:Around}{R:Except Value Flow->Shared->Prop}{s:Shared}{v:Value}
theorem a7f{G:Addr->Obj->Prop}(hk: ∀b o,G b o->s.heap.get? b=some o/\Value.ref b≠v)(hR:R (.ok (.ret .none)) s){o:Addr}(W:WalkN G o): ∀(sl:Addr) (tg:Bool),(if tg=true then ∃n os vs,G sl os/\os.data= .fields vs/\vs[2]? =some (.ref n)/\Pth G n o else Pth G sl o)->
   codeAny (model prog w) A (.builtin "proto.unchain" ⟨[v,.ref o,.ref sl,.bool tg],[]⟩) R s:=by
 induction W with
 |nil he hd h2=>
   intro sl tg _
   refine codeAny_builtin a3p ?_
   unfold Builtin.«proto.unchain»
   refine wpAny_bind (wpAny_field (hk _ _ he).1 hd h2 ?_)
   rw[if_pos (by decide)]
   refine wpAny_bind (wpAny_pure ?_)
   exact wpAny_pure hR
 | @cons o b oe vs he hd h2 hb ih=>
   intro sl tg hp
   have hbv:Value.ref b≠v:=by
     cases hb with
     |nil he' _ _=>exact(hk _ _ he').2
     |cons he' _ _ _=>exact(hk _ _ he').2
   refine codeAny_builtin a3p ?_
   unfold Builtin.«proto.unchain»
   refine wpAny_bind (wpAny_field (hk _ _ he).1 hd h2 ?_)
   rw[if_neg (show ¬ ((Value.ref b==Value.none)=true)from by simp)]
   rw[if_neg (show ¬ ((Value.ref b==v)=true)from fun z=>hbv (beq_iff_eq.mp z))]
   by_cases hbs:b=sl
   . rw[if_pos (show(Value.ref b==Value.ref sl)=true from beq_iff_eq.mpr (by rw[hbs]))]
     refine wpAny_bind (wpAny_rule ?_)
     refine wpAny_bind (wpAny_pure ?_)
     exact wpAny_pure hR
   . rw[if_neg (show ¬ ((Value.ref b==Value.ref sl)=true)from fun z=>hbs (Value.ref.inj (beq_iff_eq.mp z)))]
     cases tg with
     |false=>
       rw[if_neg Bool.false_ne_true]at hp
       refine wpAny_bind (wpAny_pure (wpAny_pure ⟨Code.quiet_builtin _ (by decide+kernel),?_⟩))
       refine ih sl true ?_
       rw[if_pos rfl]
       cases hp with
       |refl=>exact⟨b,oe,vs,he,hd,h2,.refl _⟩
       |step e1 e2 e3 p=>exact⟨_,_,_,e1,e2,e3,p.snoc he hd h2⟩
     |true=>
       rw[if_pos rfl]at hp
       obtain⟨n,os,vs',g1,g2,g3,p⟩:=hp
       rw[if_pos rfl]
       refine wpAny_bind (wpAny_field (hk _ _ g1).1 g2 g3 (wpAny_pure ⟨Code.quiet_builtin _ (by decide+kernel),?_⟩))
       refine ih n false ?_
       rw[if_neg (by decide)]
       exact p.snoc he hd h2
theorem a56{G:Addr->Obj->Prop}{a:Addr}(W:WalkN G a)(hk: ∀b o,G b o->s.heap.get? b=some o/\Value.ref b≠v)(hR:R (.ok (.ret .none)) s):codeAny (model prog w) A (.builtin "proto.unchain" ⟨[v,.ref a,.ref a,.bool false],[]⟩) R s:=
 a7f hk hR W a false (by rw[if_neg Bool.false_ne_true];exact .refl _)
end
theorem Chn.walk{P:Program}{w:World}{H:Hp}{h:Heap}{a:Addr}(hok:HOk P w H h)(c:Chn H a):WalkN (fun b o=>H b≠none/\h.get? b=some o) a:=by
 induction c with
 |one e=>
   obtain⟨o,vs,e1,_,_,e4,e5⟩:=(hok _ _ e).1
   exact .nil ⟨by rw[e];simp,e1⟩ e4 e5
 |more e _ ih=>
   obtain⟨o,vs,e1,_,_,e4,e5⟩:=(hok _ _ e).1
   exact .cons ⟨by rw[e];simp,e1⟩ e4 e5 ih
theorem a52{prog:Program}{w:World}{A:Around}{E:Value->Shared->Prop}{s:Shared}{it l a:Addr}{i:Nat}{items}{Q:Option Value->Shared->Prop}(hh:A.handled=some (.ref a))
   (W:WalkN (fun b o=>b≠it/\s.heap.get? b=some o) a)
   (hit:s.heap.IsListIter it l i) (hl:s.heap.IsList l items) (hx:items[i]? =none)
   (hQ: ∀h',Heap.ExtBut it s.heap h'->Q none {s with heap:=h'}):wpAny (model prog w) A (pyNext (.ref it)) Q E s:=by
 obtain⟨o,ho,hc,hd⟩:=id hit
 obtain⟨ol,hol,_,nl,hdl⟩:=hl
 unfold pyNext
 refine wpAny_bind (wpAny_attempt (wpAny_callSpecial?_slot (name:=Str.ofString "__next__") hit.typeIs slot_listiter_next
   (wpAny_call_entry slot_listiter_next hit.typeIs entry_listiter_next ?_ (args_listiter_next _))))
 show wpAny _ _ (field (.ref it) 0>>=_) _ _ s
 refine wpAny_bind (wpAny_field ho hd (x:= .ref l) rfl ?_)
 show wpAny _ _ (if(Value.ref l==Value.none)=true then _ else _) _ _ s
 rw[if_neg (show ¬ ((Value.ref l==Value.none)=true)from Bool.false_ne_true)]
 show wpAny _ _ (field (.ref it) 1>>=_) _ _ s
 refine wpAny_bind (wpAny_field ho hd (x:= .int i 0) rfl ?_)
 show wpAny _ _ (seqItems? (.ref l)>>=_) _ _ s
 refine wpAny_bind (wpAny_seqItems hol hdl ?_)
 simp only[Int.toNat_natCast,hx]
 refine wpAny_bind (wpAny_rule (wpAny_bind (wpAny_setField ho hd (by simp) ?_)))
 obtain⟨oe,hai,he⟩: ∃oe,a≠it/\s.heap.get? a=some oe:=by
   cases W with
   |nil he _ _=>exact⟨_,he⟩
   |cons he _ _ _=>exact⟨_,he⟩
 have hae:(s.heap.update it (Obj.mapFields (·.setIfInBounds 0 Value.none))).get? a=some oe:=(Heap.get?_update_other _ _ (Ne.symm hai)).trans he
 show wpAny _ _ (newExc (.type "StopIteration") []>>=_) _ _ _
 refine wpAny_bind ?_
 simp only[newExc,newTuple]
 refine wpAny_bind (wpAny_newObj_type ?_ (by size_fits))
 refine wpAny_bind (m:=firstArgMember _ _) (wpAny_of_eq (a:=Value.none) (by first |rfl | (simp only[firstArgMember];rfl)) ?_)
 refine wpAny_newObj_type ?_ (by size_fits)
 simp only[raiseNew]
 refine wpAny_bind (wpAny_handled ?_)
 rw[show A.in1.handled=some (.ref a)from hh]
 have hlt:a< ((s.heap.update it (Obj.mapFields (·.setIfInBounds 0 Value.none))).push {cls:= .type "tuple",data:= .seq #[]}).objs.size:=by
   rw[Heap.size_push]
   exact Nat.lt_succ_of_lt (Heap.lt_size hae)
 have keep:Heap.ExtBut it s.heap (((s.heap.update it (Obj.mapFields (·.setIfInBounds 0 Value.none))).push {cls:= .type "tuple",data:= .seq #[]}).push {cls:= .type "StopIteration",data:= .fields (#[.ref (s.heap.update it (Obj.mapFields (·.setIfInBounds 0 Value.none))).objs.size,.none,.none,.none,.bool false,.none]++ownMembersOf (.type "StopIteration") [])}):=
   ((Heap.SameBut.update ..).extBut.push _).push _
 have hN:=Heap.get?_push_size ((s.heap.update it (Obj.mapFields (·.setIfInBounds 0 Value.none))).push {cls:= .type "tuple",data:= .seq #[]}) (o:={cls:= .type "StopIteration",data:= .fields (#[.ref (s.heap.update it (Obj.mapFields (·.setIfInBounds 0 Value.none))).objs.size,.none,.none,.none,.bool false,.none]++ownMembersOf (.type "StopIteration") [])}) rfl
 have ha2:=Heap.get?_push_of_some (h:=(s.heap.update it (Obj.mapFields (·.setIfInBounds 0 Value.none))).push {cls:= .type "tuple",data:= .seq #[]}) {cls:= .type "StopIteration",data:= .fields (#[.ref (s.heap.update it (Obj.mapFields (·.setIfInBounds 0 Value.none))).objs.size,.none,.none,.none,.bool false,.none]++ownMembersOf (.type "StopIteration") [])} (Heap.get?_push_of_some {cls:= .type "tuple",data:= .seq #[]} hae)
 have old: ∀b o,s.heap.get? b=some o->b< ((s.heap.update it (Obj.mapFields (·.setIfInBounds 0 Value.none))).push {cls:= .type "tuple",data:= .seq #[]}).objs.size:=fun b o e=>by
   rw[Heap.size_push,Heap.size_after_update]
   exact Nat.lt_succ_of_lt (Heap.lt_size e)
 generalize hN':((s.heap.update it (Obj.mapFields (·.setIfInBounds 0 Value.none))).push {cls:= .type "tuple",data:= .seq #[]}).objs.size=N at hlt hN old |-
 generalize hH:((s.heap.update it (Obj.mapFields (·.setIfInBounds 0 Value.none))).push {cls:= .type "tuple",data:= .seq #[]}).push {cls:= .type "StopIteration",data:= .fields (#[.ref (s.heap.update it (Obj.mapFields (·.setIfInBounds 0 Value.none))).objs.size,.none,.none,.none,.bool false,.none]++ownMembersOf (.type "StopIteration") [])}=HH at keep hN ha2 |-
 dsimp only
 have hne:a≠N:=Nat.ne_of_lt hlt
 rw[if_pos (show(Value.ref a !=Value.ref N)=true from bne_iff_ne.mpr fun z=>hne (Value.ref.inj z))]
 refine wpAny_bind (wpAny_holding (wpAny_runValue (a56 (s:={s with heap:=HH}) W (fun b o ⟨hb,e⟩=>⟨keep b o hb e,fun z=>Nat.ne_of_lt (old b o e) (Value.ref.inj z)⟩) ?_)))
 show wpAny _ _ (updateField N 2 (.ref a)>>=fun _=>throw (.ref N)) _ _ {s with heap:=HH}
 refine wpAny_bind ?_
 unfold updateField
 refine wpAny_bind (wpAny_load hN ?_)
 dsimp only
 rw[if_pos (by simp;omega)]
 refine wpAny_update hN (wpAny_throw ?_)
 refine wpAny_bind (wpAny_isInstance (T:="StopIteration") (b:=true) ⟨_,Heap.get?_update_self _ hN rfl,rfl⟩ isSubtype_stop ?_)
 refine wpAny_pure (hQ _ fun b o hb e=> ?_)
 rw[Heap.get?_update_other _ _ (Nat.ne_of_gt (old b o e))]
 exact keep b o hb e
noncomputable def tForH(K:PySem.W.Frag)(a:Addr)(tl:TE)(g:TG)(tb:TS):TS:=fun D σ H=>tl σ H fun x H1=> ∃p xs,x= .ref p/\SqL K H1 p xs/\ ∃W:Nat->Nat->St->Hp->Prop,(∃m,W 0 m σ H1)/\
 ∀i m σ H,W i m σ H->SqL K H p xs/\(∃cls,ExcIs H a cls)/\((xs.length<=i/\D.nx σ H)\/
   ∃x,xs[i]? =some x/\ ∃N:St->Hp->Prop,(∀σ' H',N σ' H'-> ∃m',m'<m/\W (i+1) m' σ' H')/\g x σ H fun σ2 H2=>tb {D with nx:=N,ct:=N,bk:=D.nx} σ2 H2)
section
variable {X:Cx}{tg l:Expr}{body:List Stmt}{tl:TE}{g:TG}{tb:TS}{pos:Pos}{a:Addr}
theorem ps_forH(hp:PassesOwn (model X.prog X.w) X.A X.env X.xe)(hh:X.A.handled=some (.ref a))(hl:PE X l tl)(hg:PG X tg g)(hb:PSs X body tb)
   (hs: ∀x,foldedSetIterable l X.env x=pure x:=by intro _;rfl):PS X (.For tg l body [] pos) (tForH X.K a tl g tb):=by
 intro pins s σ H D I h
 refine wpAny_For (thn (hl pins s σ H _ I h) fun v s1 ⟨y,H1,I1,r1,p,xs,e1,hq,W,⟨m0,w0⟩,turn⟩=> ?_) hs
 subst e1
 cases r1
 obtain⟨its,rv,pl,hz⟩:=I1.list hq
 refine wpAny_pyIter_list pl.isList ?_
 have I2:Inv X pins σ H1 {s1 with heap:=s1.heap.push {cls:= .type "list_iterator",data:= .fields #[.ref p,.int 0 0]}}:=I1.kept (t':=s1.toks) fun b o e=>Heap.get?_push_of_some _ e
 have f2:FpOk X pins H1 s1.heap.objs.size:=I1.fpOk (Nat.le_refl _) (I1.hok.fresh (Nat.le_refl _))
 have stat: ∀{H':Hp},H' s1.heap.objs.size=none->FpOk X pins H' s1.heap.objs.size:=fun hn=>⟨hn,f2.2⟩
 refine codeAny_forLoop_any (fun n s'=> ∃i σ' H',Inv X pins σ' H' s'/\s'.heap.IsListIter s1.heap.objs.size p i/\H' s1.heap.objs.size=none/\W i n σ' H') ?_ m0 ⟨0,σ,H1,I2,⟨_,Heap.get?_push_size _ rfl,rfl,rfl⟩,f2.1,w0⟩
 rintro n s3 ⟨i,σ3,H3,I3,st3,fr3,w3⟩
 obtain⟨hq3,⟨cls,ha3⟩,w4⟩:=turn i n σ3 H3 w3
 obtain⟨its3,rv3,pl3,_⟩:=I3.list hq3
 obtain⟨f0,f1,fz,f3,f4,f5⟩:=stat fr3
 rcases w4 with⟨stop,qn⟩ | ⟨x,hx,N,hN,step⟩
 . have W3:WalkN (fun b o=>b≠s1.heap.objs.size/\s3.heap.get? b=some o) a:=(ha3.chn.walk I3.hok).imp fun b o ⟨h1,h2⟩=>⟨fun z=>h1 (by rw[z];exact fr3),h2⟩
   refine wpAny_passesOwn hp (a52 hh W3 st3 pl3.isList (by have:=rv3.length;simp;omega) fun h' eb=> ?_)
   exact wpAny_execs_nil ⟨σ3,H3,I3.turned (t':=s3.toks) (fun b o hb e=>eb b o hb e) f0 f1 f3 f4 f5,qn⟩
 . obtain⟨u,hu,ru⟩:=rv3.get hx
   refine wpAny_passesOwn hp (wpAny_pyNext_list_item st3 pl3.isList (x:=u) (by simpa using hu) fun h' st' sb=> ?_)
   have I4:Inv X pins σ3 H3 {s3 with heap:=h'}:=I3.turned (t':=s3.toks) (fun b o hb e=>(sb.2 b hb).trans e) f0 f1 f3 f4 f5
   obtain⟨o,e,c,d⟩:=id st'
   refine wpAny_passesOwn hp (b4o (s:={s3 with heap:=h'}) e c d (by decide) ?_)
   have I4':Inv X (pins++a47 [s1.heap.objs.size] h') σ3 H3 {s3 with heap:=h'}:=I4.pinned (fun b hb=>by
       have e:b=s1.heap.objs.size:=by simpa using hb
       subst e
       exact stat fr3) fun b hb=>by
       have e':b=s1.heap.objs.size:=by simpa using hb
       subst e'
       exact⟨o,e,fun v z=>by rw[d]at z;cases z⟩
   refine wpAny_passesOwn hp (thn (hg _ {s3 with heap:=h'} σ3 H3 x u _ I4' ru step) fun _ s6 zz9=> ?_)
   obtain⟨σ6,H6,I6,q6⟩:=zz9
   refine wpAny_passesOwn hp (thn (hb _ s6 σ6 H6 _ I6 q6) fun f s7 q7=> ?_)
   have again: ∀{σ7:St}{H7:Hp},Inv X (pins++a47 [s1.heap.objs.size] h') σ7 H7 s7->N σ7 H7-> ∃m,m<n/\ ∃i σ' H',Inv X pins σ' H' s7/\s7.heap.IsListIter s1.heap.objs.size p i/\H' s1.heap.objs.size=none/\W i m σ' H':=fun {σ7 H7} I7 n7=>by
     obtain⟨m',hm,w7⟩:=hN σ7 H7 n7
     have pin:=I7.pin (s1.heap.objs.size,o) (List.mem_append_right _ (List.mem_append_right _ (a13 (by simp) e)))
     exact⟨m',hm,i+1,σ7,H7,I7.unpinned,⟨o,pin.1,c,d⟩,pin.2.1,w7⟩
   cases f with
   |next=>obtain⟨σ7,H7,I7,n7⟩:=q7;exact again I7 n7
   |cont=>obtain⟨σ7,H7,I7,n7⟩:=q7;exact again I7 n7
   |brk=>obtain⟨σ7,H7,I7,q7⟩:=q7;exact⟨σ7,H7,I7.unpinned,q7⟩
   |ret v=>obtain⟨x7,σ7,H7,I7,r7,q7⟩:=q7;exact⟨x7,σ7,H7,I7.unpinned,r7,q7⟩
end
structure RoomH(k:Nat)(A:Around):Prop where
 dp:A.depth+3 *k+5<recursionLimit
 un:A.units+16 *k+200<cLine
theorem Room.hand{k:Nat}{A:Around}(r:Room k A)(a:Addr):RoomH k (A.mark (some (.ref a))):=⟨r.dp,r.un⟩
theorem RoomH.deeper{k:Nat}{A:Around}(r:RoomH (k+1) A)(env:Env):RoomH k (A.deeper env):=
 ⟨by have:=r.dp;show A.depth+1+3 *k+5<_;omega,by have:=r.un;show A.units+3+16 *k+200<_;omega⟩
structure FnOkH(P:Program)(w:World)(K:PySem.W.Frag)(mg:Str->Option Value)(base:Heap)(k:Nat)(f:Addr)(fd:FuncData)(ps:List Str)(sp:Addr->Sp):Prop where
 len: ∀a vs H Q E,sp a vs H Q E->vs.length=ps.length
 run: ∀(A:Around) (a:Addr) (outer:List Env) (s:Shared) (H:Hp) (args:Args) (us:List Value) (vs:List V) (Q:VK) (E:XK),RoomH k A->A.handled=some (.ref a)->Env0 P w K mg base A outer s H->BindsTo s fd args (ps.zip us)->Vals vs us->sp a vs H Q E->
   codeAny (model P w) A (.call (.ref f) args) (CR CX0 outer P w H s Q E) s
structure HasH(P:Program)(w:World)(K:PySem.W.Frag)(mg:Str->Option Value)(base:Heap)(k:Nat)(x:Str)(ps:List Str)(sp:Addr->Sp):Prop where
 ex: ∃f fd,FnOkH P w K mg base k f fd ps sp/\mg x=some (.ref f)/\PySem.W.keepIn K (.ref f)=true/\Binds K fd ps []
section
variable {X:Cx}{k:Nat}{ps:List Str}{sp:Addr->Sp}{x:Str}{p pos:Pos}{e:Expr}{es:List Expr}{t:TA}{a:Addr}
theorem b2b(h:HasH X.prog X.w X.K X.mg X.base k x ps sp)(hr:RoomH k X.A)(hh:X.A.handled=some (.ref a))(hg:Gl X x)(ha:PA X (e::es) t)
   (hdb:(x==("__debug__":Str))=false:=by decide) (he:starEach (e::es) X.env=(false,eval e X.env)::starEach es X.env:=by rfl) (hpl:(backTo pos (starEach es X.env)).any (·.1)=false:=by rfl):
   PE X (.Call (.Name x p) (e::es) [] pos) (tCall (sp a) [] E0 t):=by
 intro pins s σ H Q I hw
 obtain⟨f,fd,F,hm,hk,hb⟩:=h.ex
 refine wpAny_Call_Name_kw (a2k I hg hm ?_ hdb)
 refine PySem.W.callWith_K (h₀:=X.base) I.ok.mod.kin hk (thn (ha pos pins s σ H _ I hw) fun us s1 ⟨vs,H1,I1,r,q⟩=>⟨I1.kIn,?_⟩) he hpl
 have q:sp a vs H1 Q E0:=by
   have q':sp a (vs++[]) H1 Q E0:=q
   rw[List.append_nil]at q'
   exact q'
 have hl:us.length=ps.length:=by rw[<-r.length];exact F.len _ _ _ _ _ q
 have hb':=hb s1 us I1.kIn (by rw[List.append_nil];exact hl)
 rw[List.append_nil]at hb'
 refine wpAny_call (codeAny_mono (F.run X.A a X.stack s1 H1 ⟨us,[]⟩ us vs Q _ hr hh I1.env0 hb' r q) fun r s' hq=> ?_)
 cases r with
 |error e=>exact False.elim hq
 |ok fl=>
   cases fl with
   |ret u=>exact I1.after hq
   |next=>exact False.elim hq
   |brk=>exact False.elim hq
   |cont=>exact False.elim hq
end
noncomputable abbrev cxH(P:Program)(w:World)(K:PySem.W.Frag)(mg:Str->Option Value)(base:Heap)(N:List Str)(qual:Str)(scope:Scope)(f:Addr)(cd:Value)(A:Around)(outer:List Env)(s:Shared)(H:Hp)(E:XK):Cx:=
 {cxOf CX0 P w K mg base N qual scope f cd A outer s H E with calm:=false,xe:=fun _ _=>False}
theorem b1d{P:Program}{w:World}{K:PySem.W.Frag}{mg:Str->Option Value}{base:Heap}{N ps:List Str}{qual:Str}{scope:Scope}{f:Addr}{cd:Value}{A:Around}{outer:List Env}{s s1:Shared}{H:Hp}{E:XK}{us:List Value}{vs:List V}
   (S:FnScope N ps scope) (e0:Env0 P w K mg base A outer s H) (hl:vs.length=ps.length) (r:Vals vs us)
   (x:InCallC s s.heap.objs.size (bindL (envOfC qual scope s.heap.objs.size f cd).kindOf (ps.zip us) fun _=>none) (cellsFrom (s.heap.objs.size+1) scope.names []) (bindC (envOfC qual scope s.heap.objs.size f cd).kindOf (ps.zip us) fun _=>none) s1):
   Inv (cxH P w K mg base N qual scope f cd A outer s H E) [] (a2y N vs) H s1:=by
 have e1:Env0 P w K mg base {A with handled:=none} outer s H:=⟨e0.frames,e0.mod,e0.bs,e0.bsz,e0.funs,e0.frf,e0.hok,e0.bare⟩
 have I:=a79 (CX:=CX0) (E:=E) (A:={A with handled:=none}) S rfl e1 hl r x
 have ok:=I.ok
 exact⟨⟨ok.mod,ok.kind,ok.glob,ok.blt,ok.above,ok.inj,ok.has,ok.cab,fun z=>absurd z (by simp),Around.frames_deeper e0.frames,ok.stk,ok.exf,ok.bs,ok.bsz,ok.noex,ok.exfs,ok.funs,ok.frf⟩,
   I.os,I.bare,I.base,I.loc,I.cell,I.free,I.freeC,I.pin,I.hok,I.len⟩
theorem Fun.okH{P:Program}{w:World}{K:PySem.W.Frag}{mg:Str->Option Value}{base:Heap}{x qual:Str}{st:Stmt}{f:Addr}{fd:FuncData}{N ps:List Str}{k:Nat}{sp:Addr->Sp}(F:Fun K x qual st f fd)(S:FnScope N ps (a0c st))(len: ∀a vs H Q E,sp a vs H Q E->vs.length=ps.length)
   (hbody: ∀(cdv:Value) (A:Around) (a:Addr) (outer:List Env) (s:Shared) (H:Hp) (vs:List V) (Q:VK) (E:XK),RoomH k (A.deeper (envOfC qual (a0c st) s.heap.objs.size f cdv))->(A.deeper (envOfC qual (a0c st) s.heap.objs.size f cdv)).handled=some (.ref a)->sp a vs H Q E->
     ∃t,PSs (cxH P w K mg base N qual (a0c st) f cdv A outer s H E) (a04 st) t/\t {nx:=fun _ H'=>Q .non H',rt:=Q} (a2y N vs) H):FnOkH P w K mg base (k+1) f fd ps sp:=by
 obtain⟨oc,od,kV,doc,pm,an,cdv,ct,osl,rfl,lk,hcd⟩:=F.ex
 refine⟨len,fun A a outer s H args us vs Q E hr hh e0 hb r hsp=> ?_⟩
 have hl:=len _ _ _ _ _ hsp
 have KX:K.In s.heap:=e0.mod.kin.keeps fun b o e=>(e0.bs b o e).1
 have lim:s.heap.NoLimit:=e0.mod.nolimit.keeps fun b o e=>(e0.bs b o e).1
 have hkind: ∀y∈ps.zip us,(a0c st).names.lookup y.1=some .local\/((a0c st).names.lookup y.1=some .cell/\((cellsFrom (s.heap.objs.size+1) (a0c st).names []).lookup y.1).isSome=true):=fun ⟨n,v⟩ hy=>by
   rcases S.par n (List.of_mem_zip hy).1 with q |q
   . exact .inl q
   . exact .inr ⟨q,PySem.W.cellsFrom_some _ _ _ (.inl q)⟩
 refine codeAny_call_function (by have:=hr.dp;omega) (KX _ _ lk) rfl S.co S.gen rfl (PySem.W.codeRec_of KX hcd) (hb _ _ _ _ ?_)
 refine wpAny_newFunctionEnv_cells S.kind hkind fun env he s1 x=> ?_
 subst he
 refine⟨lim.keeps x.toInCall.keep,codeAny_func ?_⟩
 obtain⟨t,ht,hq⟩:=hbody cdv A a outer s H vs Q E (hr.deeper _) hh hsp
 have I:Inv (cxH P w K mg base N qual (a0c st) f cdv A outer s H E) [] (a2y N vs) H s1:=b1d S e0 hl r x
 refine wpAny_mono (ht [] s1 (a2y N vs) H _ I hq) (fun fl s' hs=> ?_) fun e s' hs=>hs.elim
 have fin: ∀{σ':St}{H':Hp}{v:V}{u:Value},Inv (cxH P w K mg base N qual (a0c st) f cdv A outer s H E) [] σ' H' s'->RelV v u->Q v H'->CE outer P w H s Q u s':=
   fun {σ' H' v u} J rv q=>⟨v,H',J.os,J.bare,J.base,J.hok,rv,q⟩
 cases fl with
 |ret u=>
   obtain⟨v,σ',H',J,rv,q⟩:=hs
   exact fin J rv q
 |next=>
   obtain⟨σ',H',J,q⟩:=hs
   exact fin (v:=V.non) (u:=Value.none) J rfl q
 |brk=>
   obtain⟨_,_,_,q⟩:=hs
   exact False.elim q
 |cont=>
   obtain⟨_,_,_,q⟩:=hs
   exact False.elim q
section
variable {M:Model}{A:Around}{E:Value->Shared->Prop}{env:Env}
variable {nm q:Str}{C N:Addr}{bs bm:List Value}{hdct:Bool}{sn:List Str}{sub:List Value}{ab:Bool}{col:Option Bool}{dd:Option Addr}{k0 k1 k2 k3 k5:Option Value}{newId:String}
noncomputable def a1g(h:Heap)(e a:Addr):Heap:=(((h.update e (Obj.mapFields (·.setIfInBounds 3 (.ref a)))).update e (Obj.mapFields (·.setIfInBounds 4 (.bool true)))).update e (Obj.mapFields (·.setIfInBounds 2 (.ref a))))
theorem a5x{prog:Program}{w:World}{s:Shared}{x c:Sem Value}{Q:Flow->Shared->Prop}{a:Addr}(hbase:bm.contains (.type "BaseException")=true)(hh:A.handled=some (.ref a))
   (h:wpAny (model prog w) A x (fun v s₁=> ∃e t,v= .ref e/\wpAny (model prog w) A c (fun u s₂=>u= .ref a/\s₂.heap.get? C=some (excClassObj nm q C N bs bm hdct sn sub ab col dd k0 k1 k2 k3 k5 newId)/\
     s₂.heap.get? e=some {cls:= .ref C,data:= .fields #[.ref t,.none,.none,.none,.bool false,.none]}/\e≠a/\(∃oa va D,s₂.heap.get? a=some oa/\oa.cls= .ref D/\oa.data= .fields va/\WalkN (fun b o=>b≠e/\s₂.heap.get? b=some o) a/\PySem.W.Looks (model prog w) s₂.heap (isSubtype (.ref D) (.type "BaseException")) true)/\E (.ref e) {s₂ with heap:=a1g s₂.heap e a}) E s₁) E s):
   wpAny (model prog w) A (raiseStmt env (some x) (some c)) Q E s:=by
 have hcB:(Value.ref C::bm).contains (.type "BaseException")=true:=by rw[List.contains_cons,hbase,Bool.or_true]
 unfold raiseStmt
 refine wpAny_bind (wpAny_mono h (fun v s₁ h₁=> ?_) fun _ _ x=>x)
 obtain⟨e,t,rfl,h₁⟩:=h₁
 refine wpAny_bind (wpAny_holding (wpAny_mono h₁ (fun u s₂ h₂=> ?_) fun _ _ x=>x))
 obtain⟨rfl,hC,he,hea,⟨oa,va,D,ha,hac,had,ha2,haL⟩,hE⟩:=h₂
 refine wpAny_bind (wpAny_pure ?_)
 obtain⟨hp,g,d,tk,os⟩:=s₂
 dsimp only at hC he ha haL hE
 -- the new one is an exception
 have new: ∀{msg:String}{Q:Value->Shared->Prop},Q (.ref e) ⟨hp,g,d,tk,os⟩->wpAny (model prog w) A (excFromValue (.ref e) msg) Q E ⟨hp,g,d,tk,os⟩:=by
   intro msg Q hQ
   unfold excFromValue isExcClass
   repeat (first |with_reducible refine wpAny_loadPart_at he ?_ |with_reducible refine wpAny_loadPart_at hC ?_ | (with_reducible refine wpAny_isSubtype_exc hC ?_;rw[hcB]) |wp_step)
   exact hQ
 refine wpAny_bind (wpAny_holding (new ?_))
 have old: ∀{msg:String}{Q:Value->Shared->Prop},Q (.ref a) ⟨hp,g,d,tk,os⟩->wpAny (model prog w) A (excFromValue (.ref a) msg) Q E ⟨hp,g,d,tk,os⟩:=by
   intro msg Q hQ
   obtain⟨oc,od,odt,osl⟩:=oa
   dsimp only at hac had
   subst hac had
   unfold excFromValue isExcClass isInstance
   repeat (first |with_reducible refine wpAny_loadPart_at ha ?_ |with_reducible refine wpAny_bind (haL.here ?_) |with_reducible refine haL.here ?_ |wp_step)
   exact hQ
 dsimp only
 rw[if_neg (show ¬ ((Value.ref a==Value.none)=true)from by simp)]
 refine wpAny_bind (wpAny_holding (old ?_))
 have he1:=Heap.get?_update_self (Obj.mapFields (·.setIfInBounds 3 (Value.ref a))) he rfl
 refine wpAny_bind (wpAny_setField (s:=⟨hp,g,d,tk,os⟩) he rfl (by simp) ?_)
 refine wpAny_bind (wpAny_setField (s:=⟨_,g,d,tk,os⟩) he1 rfl (by simp[Obj.mapFields]) ?_)
 have he2:=Heap.get?_update_self (Obj.mapFields (·.setIfInBounds 4 (Value.bool true))) he1 rfl
 generalize hH2:(hp.update e (Obj.mapFields (·.setIfInBounds 3 (Value.ref a)))).update e (Obj.mapFields (·.setIfInBounds 4 (Value.bool true)))=hp2 at *
 have hec:e≠C:=fun z=>by
   rw[z]at he
   have:=he.symm.trans hC
   simp[excClassObj]at this
 have keep: ∀b,b≠e->hp2.get? b=hp.get? b:=fun b hb=>by
   rw[<-hH2,Heap.get?_update_other _ _ (Ne.symm hb),Heap.get?_update_other _ _ (Ne.symm hb)]
 have he3:hp2.get? e=some {cls:= .ref C,data:= .fields #[.ref t,.none,.none,.ref a,.bool true,.none]}:=he2
 have hC2:=(keep C (Ne.symm hec)).trans hC
 have ha3:=(keep a (Ne.symm hea)).trans ha
 dsimp only
 repeat (first |with_reducible refine wpAny_loadPart_at he3 ?_ |with_reducible refine wpAny_loadPart_at hC2 ?_ | (with_reducible refine wpAny_isSubtype_exc hC2 ?_;rw[hcB]) |wp_step)
 unfold raiseNew
 refine wpAny_bind (wpAny_handled ?_)
 rw[hh]
 dsimp only
 rw[if_pos (show(Value.ref a !=Value.ref e)=true from bne_iff_ne.mpr fun z=>hea (Value.ref.inj z).symm)]
 refine wpAny_bind (wpAny_holding (wpAny_runValue (a56 (s:=⟨hp2,g,d,tk,os⟩) ha2 (fun b o ⟨hb,eo⟩=>⟨(keep b hb).trans eo,fun z=>hb (Value.ref.inj z)⟩) ?_)))
 show wpAny (model prog w) A (updateField e 2 (.ref a)>>=fun _=>throw (.ref e)) Q E ⟨hp2,g,d,tk,os⟩
 refine wpAny_bind ?_
 unfold updateField
 refine wpAny_bind (wpAny_load he3 ?_)
 dsimp only
 rw[if_pos (by simp)]
 refine wpAny_update he3 (wpAny_throw ?_)
 rw[<-hH2]
 exact hE
end
section
variable {prog:Program}{w:World}{A:Around}{E:Value->Shared->Prop}{s:Shared}{env:Env}
variable {nm q:Str}{C N:Addr}{bs bm bmB:List Value}{hdct:Bool}{sn:List Str}{sub:List Value}{ab:Bool}{col:Option Bool}{dd:Option Addr}{k0 k1 k2 k3 k5:Option Value}{B newId initId:String}
theorem b1h(F:ExcBaseFacts B newId initId bmB){mN:Str->Option Value}{x:Str}{np cpos pos:Pos}{args:List Expr}{ce:Expr}{a:Addr}{Q:Flow->Shared->Prop}
   (hbase:bm.contains (.type "BaseException")=true) (hh:A.handled=some (.ref a)) (hplain:(backTo cpos (starEach args env)).any (·.1)=false) (hni:mN "__init__"=none)
   (h:wpAny (model prog w) A (eval (.Name x np) env) (fun f s₁=>f= .ref C/\wpAny (model prog w) A (evalArgs (.ref C) true (backTo cpos (starEach args env)) [])
     (fun r s₂=>r.kw=[]/\r.pos.length<=sizeLine/\s₂.heap.get? C=some (excClassObj nm q C N bs bm hdct sn sub ab col dd k0 k1 k2 k3 k5 newId)/\s₂.heap.Ns N mN/\OwnTail s₂.heap bmB bm/\
       ∀h' e,Heap.MadeExcOf s₂.heap h' e (.ref C) r.pos->wpAny (model prog w) A (eval ce env) (fun u s₄=>u= .ref a/\s₄={s₂ with heap:=h'}/\(∃oa va D,s₂.heap.get? a=some oa/\oa.cls= .ref D/\oa.data= .fields va/\WalkN (fun b o=>s₂.heap.get? b=some o) a/\PySem.W.Looks (model prog w) h' (isSubtype (.ref D) (.type "BaseException")) true)/\E (.ref e) {s₂ with heap:=a1g h' e a}) E {s₂ with heap:=h'}) E s₁) E s):
   wpAny (model prog w) A (exec (.Raise (some (.Call (.Name x np) args [] cpos)) (some ce) pos) env) Q E s:=by
 rw[arm_exec_Raise]
 simp only[evalOpt,Option.map]
 refine wpAny_bind (wpAny_standAt (a5x (C:=C) (nm:=nm) (q:=q) (N:=N) (bs:=bs) (bm:=bm) (hdct:=hdct) (sn:=sn) (sub:=sub) (ab:=ab) (col:=col) (dd:=dd) (k0:=k0) (k1:=k1) (k2:=k2) (k3:=k3) (k5:=k5) (newId:=newId) (a:=a) hbase hh
   (wpAny_bind (wpAny_mono (wpAny_Call_ofName (wpAny_mono h (fun f s₁ h₁=> ?_) fun _ _ x=>x)) (fun v s₃ h₃=>wpAny_bind (wpAny_standAt (wpAny_pure h₃))) fun _ _ x=>x))))
 obtain⟨rfl,h₁⟩:=h₁
 unfold callWith
 refine wpAny_bind (wpAny_holding (wpAny_mono h₁ (fun r s₂ h₂=>wpAny_bind (wpAny_standAt ?_)) fun _ _ x=>x))
 obtain⟨apos,akw⟩:=r
 obtain⟨hkw,hlen,hC,hn,T,h₂⟩:=h₂
 obtain rfl:akw=[]:=hkw
 obtain⟨hp,g,d,tk,os⟩:=s₂
 simp only[hplain]
 refine wpAny_bind (wpAny_keeperOf_exc hC ?_)
 refine wpAny_bind (wpAny_call_exc_subT (hrest:=hlen) F T hC hn hni fun h' e hm=>wpAny_bind (wpAny_holding (wpAny_point (wpAny_pure ?_))))
 obtain⟨t,ht,_,_⟩:=hm.there
 refine⟨e,t,rfl,?_⟩
 refine wpAny_bind (wpAny_mono (h₂ h' e hm) (fun u s₄ h₄=>wpAny_bind (wpAny_standAt (wpAny_pure ?_))) fun _ _ x=>x)
 obtain⟨rfl,rfl,⟨oa,va,D,ha,hac,had,ha2,haL⟩,hE⟩:=h₄
 have hne:e≠a:=fun z=>by
   have:=hm.new
   rw[z]at this
   have:=this.symm.trans ha
   cases this
 have nw: ∀b o,hp.get? b=some o->b≠e:=fun b o eo z=>by
   have:=hm.new
   rw[<-z]at this
   have:=this.symm.trans eo
   cases this
 exact⟨rfl,hm.keeps _ _ hC,ht,hne,⟨oa,va,D,hm.keeps _ _ ha,hac,had,ha2.imp fun b o eo=>⟨nw b o eo,hm.keeps _ _ eo⟩,haL⟩,hE⟩
end
section
variable {X:Cx}{R:RX}{x y n:Str}{C CY:Addr}{np np2 cpos p2 pos hp:Pos}{e:Expr}{es:List Expr}{rest:List ExceptHandler}{t:Addr->TA}{tr:TH}
theorem a68{h:Heap}{e a b:Addr}(hb:b≠e):(a1g h e a).get? b=h.get? b:=by
 unfold a1g
 rw[Heap.get?_update_other _ _ (Ne.symm hb),Heap.get?_update_other _ _ (Ne.symm hb),Heap.get?_update_other _ _ (Ne.symm hb)]
theorem a67{h:Heap}{e a t:Addr}{c:Value}(he:h.get? e=some {cls:=c,data:= .fields #[.ref t,.none,.none,.none,.bool false,.none]}):(a1g h e a).get? e=some {cls:=c,data:= .fields #[.ref t,.none,.ref a,.ref a,.bool true,.none]}:=by
 unfold a1g
 exact Heap.get?_update_self _ (Heap.get?_update_self _ (Heap.get?_update_self _ he rfl) rfl) rfl
theorem XS.madeFrom(Pl:Plain X){pins:List (Addr×Obj)}{σ:St}{H:Hp}{s:Shared}{h':Heap}{a e:Addr}{us:List Value}(I:Inv X pins σ H s)(hx:Heap.MadeExcOf s.heap h' e (.ref C) us)(ch:Chn H a)(r:R σ H (.ref C) e):XS X R (.ref e) {s with heap:=a1g h' e a}:=by
 obtain⟨tt,he,htn,htt⟩:=hx.there
 have new: ∀b o,s.heap.get? b=some o->b≠e:=fun b o q z=>by rw[z,hx.new]at q;cases q
 have keeps: ∀b o,s.heap.get? b=some o->(a1g h' e a).get? b=some o:=fun b o q=>by rw[a68 (new b o q)];exact hx.keeps b o q
 have I1:Inv X [] σ H {s with heap:=a1g h' e a}:=(I.kept (t':=s.toks) keeps).pins_of fun p hp=>absurd hp (by simp)
 have he2:=a67 (a:=a) he
 refine⟨e,σ,H,PySem.W.hideAll s.heap (frs X.stack),.ref C,.ref tt,none,rfl,I1,⟨⟨fun b o q=>keeps _ _ (PySem.W.of_hideAll _ q),?_,?_⟩,⟨_,_,he2,rfl,rfl,rfl,rfl⟩,.inl rfl,fun b o q old n=> ?_,⟨_,_,he2,rfl,rfl,.inr ⟨a,rfl,ch⟩⟩⟩,r⟩
 . cases q:(PySem.W.hideAll s.heap (frs X.stack)).get? e with
   |none=>rfl
   |some o=>
     have:=PySem.W.of_hideAll _ q
     rw[hx.new]at this;cases this
 . refine Heap.FunFrames.of_keeps (fun b o q _=>⟨o,keeps b o q,rfl⟩) (PySem.W.funFrames_hide I.stack fun env he a ha=> ?_)
   exact List.mem_filterMap.mpr ⟨env,he,ha⟩
 . obtain⟨ob,e0⟩:=I.old Pl old
   have e1:=keeps _ _ e0
   rw[q]at e1;cases e1
   exact PySem.W.hideAll_get _ e0 n
theorem b4c{i:Nat}(hN:X.N.Nodup)(hi:X.N[i]? =some n)(hl:X.env.scope.names.lookup n=some .local){σ':St}{H':Hp}{s':Shared}{A:Around}{E:Value->Shared->Prop}{Q:Unit->Shared->Prop}(J:Inv X [] σ' H' s')(k: ∀s'',Inv X [] (σ'.set i none) H' s''->(∀b,b≠X.env.locals->s''.heap.get? b=s'.heap.get? b)->Q () s''):
   wpAny (model X.prog X.w) A (do bindName X.env n .none;unbindBehindTheSuite X.env n hp) Q E s':=by
 obtain⟨m,hn,hlk⟩:=id J.loc
 have hcls:(X.env.scope.kind== .class||(X.env.scope.kind== .module&&X.env.locals !=X.env.globals))=false:=by rw[J.ok.kind];rfl
 refine wpAny_nameGoes_keeps (show X.env.kindOf n=some .local from hl) hn hcls fun h' v hn' sb=>k _ ?_ (fun b hb=>sb.2 b hb)
 have hcl: ∀y c,X.env.cells.lookup y=some c-> ∀u,s'.heap.IsCell c u->h'.IsCell c u:=fun y c e u z=>z.sameBut sb (J.cne y c e)
 have sm: ∀b,b≠X.env.locals->h'.get? b=s'.heap.get? b:=fun b hb=>sb.2 b hb
 refine⟨J.ok,J.os,J.bare,⟨fun b o e n hb hx=> ?_,fun b o e n hb hx=> ?_,J.base.free,fun b o e hx=> ?_,J.base.tups,J.base.frzs,J.base.tbls⟩,⟨_,hn',fun j y v' e1 e2 e3=> ?_⟩,fun y c e=> ?_,J.free,J.freeC,fun p hp=> ?_,fun b u q=> ?_,by rw[List.length_set];exact J.len⟩
 . exact(sm b (Nat.ne_of_lt (Nat.lt_of_lt_of_le (Heap.lt_size e) J.ok.above))).trans (J.base.keep b o e n hb hx)
 . obtain⟨sl,e1⟩:=J.base.slot b o e n hb hx
   exact⟨sl,(sm b (Nat.ne_of_lt (Nat.lt_of_lt_of_le (Heap.lt_size e) J.ok.above))).trans e1⟩
 . obtain⟨o',e1⟩:=J.base.there b o e hx
   exact⟨o',(sm b (Nat.ne_of_lt (Nat.lt_of_lt_of_le (Heap.lt_size e) J.ok.above))).trans e1⟩
 . have hj:j≠i:=by
     rintro rfl
     rw[List.getElem?_set_self (by
       have:=(List.getElem?_eq_some_iff.mp hi).1
       rw[J.len];exact this)]at e2
     cases e2
   rw[List.getElem?_set_ne (Ne.symm hj)]at e2
   obtain⟨u,r,l⟩:=hlk j y v' e1 e2 e3
   refine⟨u,r,?_⟩
   rcases l with⟨k1,e⟩ | ⟨k1,c,e,z⟩
   . refine .inl ⟨k1,?_⟩
     have:y≠n:=fun e=>hj (a4q hN e1 (e▸hi))
     simp[this,e]
   . exact .inr ⟨k1,c,e,hcl y c e _ z⟩
 . obtain⟨u,z⟩:=J.cell y c e
   exact⟨u,hcl y c e u z⟩
 . obtain⟨e,n1,n2,n3,d⟩:=J.pin p hp
   exact⟨(sm p.1 n2).trans e,n1,n2,n3,d⟩
 . have hnl: ∀c u,H' c=some u->c≠X.env.locals:=fun c u e z=>by rw[z,J.free]at e;cases e
   refine(J.hok b u q).stay (fun c v hc r=>(sm c ?_).trans r) (fun _ r=>r) fun _ _ r=>r
   rcases hc with rfl |hc
   . exact hnl c _ q
   . exact hnl c _ hc
theorem ld_loc{E:Value->Shared->Prop}{pins:List (Addr×Obj)}{s:Shared}{σ:St}{H:Hp}{i:Nat}{a:Addr}{Q:Value->Shared->Prop}(I:Inv X pins σ H s)(hi:X.N[i]? =some n)(hl:X.env.scope.names.lookup n=some .local)(hs:σ[i]? =some (some (.ref a)))(h:Q (.ref a) s)
   (hd:(n==("__debug__":Str))=false:=by decide) (hcd:(n==("__classdict__":Str))=false:=by decide):wpAny (model X.prog X.w) X.A (eval (.Name n p2) X.env) Q E s:=by
 obtain⟨m,hn,hlk⟩:=id I.loc
 obtain⟨u,r,l⟩:=hlk i n (.ref a) hi hs (.inl hl)
 cases(show u=Value.ref a from r)
 rcases l with⟨hk,hm⟩ | ⟨hk,c,hc,hcell⟩
 . exact wpAny_Name (wpAny_loadName_local I.ok.kind hk hn hm h) hd
 . rcases hk with hk |hk
   . exact wpAny_Name (wpAny_loadName_cell I.ok.kind hk hc hcell h) hd
   . exact wpAny_Name (wpAny_loadName_free I.ok.kind hk hc hcell h hcd) hd
theorem a66{h h' base:Heap}{L0:Addr}(sm: ∀b,b≠L0->h'.get? b=h.get? b){o0:Obj}(h0:h'.get? L0=some o0)(hd0: ∀vs,o0.data≠ .fields vs){l:List Env}(hl:h.FunFrames base l):h'.FunFrames base l:=by
 induction l with
 |nil=>trivial
 |cons env rest ih=>
   obtain⟨hk,⟨L,o,hf,hn,ho,hd⟩,hr⟩:=hl
   refine⟨hk,?_,ih hr⟩
   by_cases z:L=L0
   . subst z;exact⟨L,o0,hf,hn,h0,hd0⟩
   . exact⟨L,o,hf,hn,(sm L z).trans ho,hd⟩
theorem Exn.goes{H:Hp}{B:Heap}{a:Addr}{cls a0 fl:Value}{s s2:Shared}{σ σ2:St}(Pl:Plain X)(I:Inv X [] σ H s)(ex:Exn X H B a cls a0 (some fl) s.heap)(J:Inv X [] σ2 H s2)(sm: ∀b,b≠X.env.locals->s2.heap.get? b=s.heap.get? b):Exn X H B a cls a0 (some fl) s2.heap:=by
 obtain⟨m,⟨o1,es1,ep1,e1,d1,_⟩,_⟩:=id I.loc
 obtain⟨m2,⟨o2,es2,ep2,e2,d2,_⟩,_⟩:=id J.loc
 have nl: ∀b o vs,s.heap.get? b=some o->o.data= .fields vs->b≠X.env.locals:=fun b o vs e d z=>by
   rw[z,e1]at e;cases e
   rw[d1]at d;cases d
 have nB:B.get? X.env.locals=Option.none:=(ex.air.frm.mem (by rw[Pl.stk];exact List.mem_filterMap.mpr ⟨X.env,List.mem_cons_self,Pl.frm⟩)).1
 have st:B.StaysIn s2.heap:=fun b o e=>by rw[sm b (fun z=>by rw[z,nB]at e;cases e)];exact ex.air.stay b o e
 obtain⟨oe,vs,T,oT,ts,he,hcls,hd,h1,hnT,hTe,hT,hdT,h3⟩:=ex.tr
 obtain⟨ox,vx,hox,hdx,hvx,hv2⟩:=ex.nd
 exact⟨⟨st,ex.air.new,a66 sm e2 (fun vs z=>by rw[d2]at z;cases z) ex.air.frm⟩,
   ⟨oe,vs,T,oT,ts,(sm _ (nl _ _ _ he hd)).trans he,hcls,hd,h1,hnT,hTe,(sm _ (nl _ _ _ hT hdT)).trans hT,hdT,h3⟩,ex.md,Cov.redo Pl I ex.cov st,⟨ox,vx,(sm _ (nl _ _ _ hox hvx)).trans hox,hdx,hvx,hv2⟩⟩
theorem ph_from{i:Nat}(T:Thr X R)(Pl:Plain X)(hN:X.N.Nodup)(hi:X.N[i]? =some n)(hl:X.env.scope.names.lookup n=some .local)(hm:X.mg x=some (.ref C))(hg:Gl X x)(O:ExCls X.K X.mg y CY)(hgy:Gl X y)(ha: ∀a,PA (X.hand a) (e::es) (t a))(hr:PH X rest tr)
   (hd:(x==("__debug__":Str))=false:=by decide) (hdy:(y==("__debug__":Str))=false:=by decide) (hdn:(n==("__debug__":Str))=false:=by decide) (hcn:(n==("__classdict__":Str))=false:=by decide)
   (he:starEach (e::es) X.env=(false,eval e X.env)::starEach es X.env:=by rfl) (hpl:(backTo cpos (starEach es X.env)).any (·.1)=false:=by rfl):
   PH X (.ExceptHandler (some (.Name x np)) (some n) [.Raise (some (.Call (.Name y np2) (e::es) [] cpos)) (some (.Name n p2)) pos] hp::rest)
     (fun D cls a σ H=> ∃b,PySem.W.exmOne X.K cls (.ref C)=some b/\
       if b=true then(∃Dc,cls= .ref Dc/\PySem.W.mroIn X.K Dc (.type "BaseException")=some true)/\(H a=none-> ∀φ:Heap->Prop,(φ=excφ a cls\/ ∃b,Chn H b/\φ=excψ a cls b)->t a (σ.set i (some (.ref a))) (upd H a (.ext φ)) fun vs H1=>vs.length<=sizeLine/\H1=upd H a (.ext φ)/\ ∀e',R (σ.set i none) H1 (.ref CY) e')
       else tr D cls a σ H):=by
 intro s σ H D B a cls a0 I ex hw
 obtain⟨b,hx,hw⟩:=hw
 refine wpAny_handleBy_cons (codeAny_handlers_test ?_) (by intro q;cases q)
 refine a2k (X:=X.hand a) (I.hand a) hg hm (a5n I ex hx ?_) hd
 cases b with
 |false=>exact hr s σ H D B a cls a0 I ex hw
 |true=>
   obtain⟨⟨Dc,rfl,hmro⟩,hw⟩:=hw
   have hw:=hw (ex.none Pl I)
   refine codeAny_handlers_suite_as ?_
   refine a1m (f:=none) ex.air ex.tr ex.nd fun h2 air2 tr2 nd2 up2=> ?_
   have I2:=I.redo ex.cov ex.air.frm air2.stay up2
   have ex2:Exn X H B a (.ref Dc) a0 (some .none) h2:=⟨air2,tr2,.inr (.inl rfl),Cov.redo Pl I ex.cov air2.stay,nd2⟩
   have hna:=ex.none Pl I
   obtain⟨φ,hφ,hst,hch,hw⟩: ∃φ:Heap->Prop,φ h2/\(∀h1 h2:Heap,φ h1->(∀o,h1.get? a=some o->h2.get? a=some o)->φ h2)/\ExcIs (upd H a (.ext φ)) a (.ref Dc)/\t a (σ.set i (some (.ref a))) (upd H a (.ext φ)) fun vs H1=>vs.length<=sizeLine/\H1=upd H a (.ext φ)/\ ∀e',R (σ.set i none) H1 (.ref CY) e':=by
     rcases ex2.which with h | ⟨b,hb,h⟩
     . exact⟨_,h,fun h1 h2 ⟨o,ws,e1,c1⟩ k=>⟨o,ws,k o e1,c1⟩,.inl a0p,hw _ (.inl rfl)⟩
     . exact⟨_,h,fun h1 h2 ⟨o,ws,e1,c1⟩ k=>⟨o,ws,k o e1,c1⟩,.inr ⟨b,a0p,hb.up hna⟩,hw _ (.inr ⟨b,hb,rfl⟩)⟩
   have I3:=Inv.track Pl I2 ex2 hφ hst
   refine a4l (X:=X.hand a) (I3.hand a) hN hi (.inl hl) (v:= .ref a) rfl (fun s3 I4=> ?_) (.inr hl)
   obtain⟨tl,N,nm,q,bs,hdct,sn,sub,ab,col,dd,k0,k1,k2,k3,k5,mN,hC,hNs,hni,Tl⟩:=O.obj I.ok.mod.kin
   refine wpAny_execs_cons (b1h (C:=CY) (nm:=nm) (q:=q) (N:=N) (bs:=bs) (bm:=tl) (hdct:=hdct) (sn:=sn) (sub:=sub) (ab:=ab) (col:=col) (dd:=dd) (k0:=k0) (k1:=k1) (k2:=k2) (k3:=k3) (k5:=k5) (a:=a)
     PySem.F.excBase_ValueError (mN:=mN) (Tl.hasType PySem.F.excBase_ValueError.hasBase) rfl (by rw[he];show(false||(backTo cpos (starEach es X.env)).any (·.1))=false;rw[hpl];rfl) hni (a2k (X:=X.hand a) I4 hgy O.bound ⟨rfl,?_⟩ hdy))
   rw[he]
   have h2:=ha a cpos [] s3 _ _ _ I4 hw
   rw[he]at h2
   refine Calls.evalArgs_plain (wpAny_mono h2 (fun us s2 ⟨vs,H2,I5,r2,z2,eH,q2⟩=>⟨rfl,by rw[<-r2.length];exact z2,I5.bk _ _ hC,hNs.keeps I5.bk,Tl.keeps I5.bk,fun h' e' hx=> ?_⟩) fun _ _ z=>z.elim)
   subst eH
   have J5:Inv (X.hand a) [] (σ.set i (some (.ref a))) (upd H a (.ext φ)) {s2 with heap:=h'}:=I5.kept (t':=s2.toks) hx.keeps
   have hlen:i<σ.length:=by rw[I.len];exact(List.getElem?_eq_some_iff.mp hi).1
   refine ld_loc (X:=X.hand a) J5 hi hl (List.getElem?_set_self hlen) ⟨rfl,rfl,?_,?_⟩ hdn hcn
   . have W:=(hch.chn.walk I5.hok).imp (G':=fun b o=>s2.heap.get? b=some o) fun b o h=>h.2
     have L:=PySem.W.looks_mroIn (M:=model X.prog X.w) J5.kIn hmro
     rcases hch with e | ⟨b,e,_⟩
     . obtain⟨o,vs,e1,e2,_,e4,_⟩:=(I5.hok a _ e).1
       exact⟨o,vs,Dc,e1,e2,e4,W,L⟩
     . obtain⟨o,vs,e1,e2,_,e4,_⟩:=(I5.hok a _ e).1
       exact⟨o,vs,Dc,e1,e2,e4,W,L⟩
   . have xs:XS X (fun σ' H' cls _=>σ'=σ.set i (some (.ref a))/\H'=upd H a (.ext φ)/\cls= .ref CY) (.ref e') {s2 with heap:=a1g h' e' a}:=XS.madeFrom Pl (I5.unhand I.ok) hx hch.chn ⟨rfl,rfl,rfl⟩
     obtain⟨e1,σ1,H1,B1,cls1,a1,m1,ee,K1,ex1,rfl,rfl,rfl⟩:=xs
     cases ee
     have hfr:(X.A.mark (some (.ref a))).frames=some (X.env::X.outer):=by show X.A.frames=_;rw[I.ok.frames,Pl.stk]
     have air0:Air B1 (X.env::X.outer) e' (a1g h' e' a):=by have:=ex1.air;rw[Pl.stk]at this;exact this
     refine a5e (s:={s2 with heap:=a1g h' e' a}) hfr Pl.frm air0 ex1.tr ex1.nd ex1.md fun h1 air1 tr1 nd1 up1=> ?_
     have air1':Air B1 X.stack e' h1:=by rw[Pl.stk];exact air1
     have K2:Inv X [] (σ.set i (some (.ref a))) (upd H a (.ext φ)) {s2 with heap:=h1}:=K1.redo ex1.cov ex1.air.frm air1.stay up1
     have ex3:Exn X (upd H a (.ext φ)) B1 e' (.ref CY) a1 (some (rawInt X.env.locals)) h1:=⟨air1',tr1,.inr (.inr rfl),Cov.redo Pl K1 ex1.cov air1.stay,nd1⟩
     refine b4c hN hi hl K2 fun s4 K4 sm=> ?_
     rw[List.set_set]at K4
     have ex4:=Exn.goes Pl K2 ex3 K4 sm
     obtain⟨oe,vs',Tb,oT,ts,he4,hcls4,hd4,hv4,_⟩:=id ex4.tr
     unfold PySem.passOn
     refine wpAny_bind (wpAny_field he4 hd4 hv4 ?_)
     rw[if_neg (show ¬ ((Value.ref Tb==Value.none)=true)from by simp)]
     rw[Pl.frm]
     refine wpAny_bind (a1m (f:=some X.env.locals) ex4.air ex4.tr ex4.nd fun h5 air5 tr5 nd5 up5=>wpAny_throw ?_)
     have K5:=K4.redo ex4.cov ex4.air.frm air5.stay up5
     have cov5:=Cov.redo Pl K4 ex4.cov air5.stay
     have air5':Air B1 (X.env::X.outer) e' h5:=by have:=air5;rw[Pl.stk]at this;exact this
     unfold notedBy
     refine a5e (s:={s4 with heap:=h5}) (m:=some (rawInt X.env.locals)) hfr Pl.frm air5' tr5 nd5 (.inr (.inr rfl)) fun h6 air6 tr6 nd6 up6=> ?_
     have air6':Air B1 X.stack e' h6:=by rw[Pl.stk];exact air6
     have K6:Inv X [] (σ.set i none) (upd H a (.ext φ)) {s4 with heap:=h6}:=K5.redo cov5 air5.frm air6.stay up6
     have cov6:=Cov.redo Pl K5 cov5 air6.stay
     dsimp only
     unfold cameBackBy
     obtain⟨oe6,vs6,Tb6,oT6,ts6,he6,hcls6,hd6,hv6,_⟩:=id tr6
     refine wpAny_bind (wpAny_field (s:={s4 with heap:=h6}) he6 hd6 hv6 ?_)
     rw[if_neg (show ¬ ((Value.ref Tb6==Value.none)=true)from by simp)]
     rw[Pl.frm]
     have key:wpAny (model X.prog X.w) X.A (setFlight (.ref e') (some X.env.locals)) (fun _ s''=>X.xe (.ref e') s'') X.xe {s4 with heap:=h6}:=
       a1m (s:={s4 with heap:=h6}) (f:=some X.env.locals) air6' tr6 nd6 fun h7 air7 tr7 nd7 up7=>
         T _ _ ⟨e',σ.set i none,upd H a (.ext φ),B1,.ref CY,a1,some (rawInt X.env.locals),rfl,K6.redo cov6 air6'.frm air7.stay up7,⟨air7,tr7,.inr (.inr rfl),Cov.redo Pl K6 cov6 air7.stay,nd7⟩,q2 e'⟩
     first
       |exact wpAny_bind (wpAny_pure key)
       |exact key
end
section
variable {X:Cx}{pins:List (Addr×Obj)}{σ:St}{H:Hp}{s:Shared}
theorem Inv.adopt{b:Addr}{o:HO}(I:Inv X pins σ H s)(f:FpOk X pins H b)(hs:X.s₀.heap.objs.size<=b)(ok:ObjOk X.prog X.w (upd H b o) s.heap b o):Inv X pins σ (upd H b o) s:=by
 obtain⟨hn,hL,hfs,_,hc,hp⟩:=f
 have ne: ∀c u,H c=some u->c≠b:=fun c u q z=>by subst z;rw[hn]at q;cases q
 refine⟨I.ok,I.os,I.bare,⟨I.base.keep,I.base.slot,fun c oc e n hx=> ?_,I.base.there,fun c xs e=> ?_,fun c oc u e=> ?_,fun c ps e=> ?_⟩,I.loc,I.cell,?_,fun x c e=> ?_,fun p hp'=> ?_,fun c u q=> ?_,I.len⟩
 . rw[a0i (show c≠b from fun z=>absurd (Nat.lt_of_lt_of_le (Heap.lt_size e) (by rw[z];exact hs)) (Nat.lt_irrefl _))]
   exact I.base.free c oc e n hx
 . have e':=I.base.tups c xs e
   rw[a0i (ne c _ e')];exact e'
 . have e':=I.base.frzs c oc u e
   rw[a0i (ne c _ e')];exact e'
 . obtain⟨m1,e'⟩:=I.base.tbls c ps e
   exact⟨m1,by rw[a0i (ne c _ e')];exact e'⟩
 . rw[a0i (Ne.symm hL)];exact I.free
 . rw[a0i (hc x c e)];exact I.freeC x c e
 . obtain⟨e,n,n1,n2,d⟩:=I.pin p hp'
   exact⟨e,by rw[a0i (hp p hp')];exact n,n1,n2,d⟩
 . by_cases hb:c=b
   . subst hb
     rw[a0p]at q
     cases q
     exact ok
   . rw[a0i hb]at q
     exact(I.hok c u q).stay (fun _ _ _ r=>r) (fun c' r=>by rw[a0i (ne c' _ r)];exact r) fun c' xs r=>by rw[a0i (ne c' _ r)];exact r
def viewφ(T:String)(p a:Addr):Heap->Prop:=fun h=>h.get? p=some {cls:= .type T,data:= .fields #[.ref a]}
def rView(T:String):V->List V->Hp->VK->Prop:=fun x vs H Q=> ∃a kvs,x= .ref a/\vs=[]/\Rd H a (.dK kvs)/\ ∀p,H p=none->Q (.ref p) (upd H p (.ext (viewφ T p a)))
theorem b1i{T:String}{a:Addr}{Q:VK}(I:Inv X pins σ H s)(h: ∀p,H p=none->Q (.ref p) (upd H p (.ext (viewφ T p a)))):
   EP X pins σ Q (.ref s.heap.objs.size) {s with heap:=s.heap.push {cls:= .type T,data:= .fields #[.ref a]}}:=by
 refine⟨.ref s.heap.objs.size,_,I.laid (t':=s.toks) (fun b ob q=>Heap.get?_push_of_some _ q) (Nat.le_refl _) ?_,rfl,h _ (I.hok.fresh (Nat.le_refl _))⟩
 exact⟨Heap.get?_push_size _ rfl,⟨_,Heap.get?_push_size _ rfl⟩,fun h1 h2 e k=>k _ e⟩
theorem b2m:MtR X "dict.values" (rView "dict_values"):=by
 intro pins s σ H x vs v us Q I rx rv h
 obtain⟨a,kvs,rfl,rfl,hd,q⟩:=h
 cases rx;cases rv
 obtain⟨_,lo,ws,_,hD⟩:=a7b I.hok hd
 exact call_meetsIn PySem.F.slot_dict_values hD.typeIs PySem.F.entry_dict_values (PySem.F.args_dict_values_1 _) (meets_dict_values (a06 X.prog X.w) a lo) ⟨⟨ws,hD⟩,b1i I q⟩
theorem b4d:MtR X "dict.items" (rView "dict_items"):=by
 intro pins s σ H x vs v us Q I rx rv h
 obtain⟨a,kvs,rfl,rfl,hd,q⟩:=h
 cases rx;cases rv
 obtain⟨_,lo,ws,_,hD⟩:=a7b I.hok hd
 exact call_meetsIn PySem.F.slot_dict_items hD.typeIs PySem.F.entry_dict_items (PySem.F.args_dict_items_1 _) (meets_dict_items (a06 X.prog X.w) a lo) ⟨⟨ws,hD⟩,b1i I q⟩
theorem b3n{kvs:List (Key×V)}{ws:List (Key×Value)}(r:KV kvs ws):Vals (kvs.map (·.2)) (ws.map (·.2)):=by
 induction r with
 |nil=>exact .nil
 |cons h _ ih=>exact .cons h.2 ih
theorem KV.at{kvs:List (Key×V)}{ws:List (Key×Value)}(r:KV kvs ws){j:Nat}{k:Key}{u:Value}(h:ws[j]? =some (k,u)): ∃v,kvs[j]? =some (k,v)/\RelV v u:=by
 induction r generalizing j with
 |nil=>simp at h
 |cons h1 _ ih=>
   cases j with
   |zero=>
     simp only[List.getElem?_cons_zero,Option.some.injEq]at h
     rename_i p q _ _ _
     subst h
     refine⟨p.2,?_,h1.2⟩
     simp only[List.getElem?_cons_zero,Option.some.injEq]
     exact Prod.ext h1.1 rfl
   |succ j=>exact ih (by simpa using h)
theorem a4h(hc:X.calm=true):CallR X (.type "list") (fun xs H Q=> ∃p a kvs,xs=[.ref p]/\H p=some (.ext (viewφ "dict_values" p a))/\Rd H a (.dK kvs)/\ ∀l,H l=none->Q (.ref l) (upd H l (.lst (kvs.map (·.2))))):=by
 intro pins s σ H xs us Q I r h
 obtain⟨p,a,kvs,rfl,hp,hd,q⟩:=h
 obtain⟨u,rfl,ru⟩:=r.one
 cases ru
 obtain⟨hz,lo,ws,rel,hD⟩:=a7b I.hok hd
 obtain⟨ep,hat⟩:=hD.dictAt
 have hv:s.heap.get? p=some {cls:= .type "dict_values",data:= .fields #[.ref a]}:=(I.hok p _ hp).1
 refine PySem.W.kdl_call (PySem.W.kdl_values (knd:=a06 X.prog X.w) (kvs:=ws) (ep:=ep)) (I.ok.hd hc) ⟨⟨_,hv,rfl,rfl⟩,hat⟩ (by rw[<-rel.length];exact hz) fun h' tk acc c hk hl hi=> ?_
 have e:acc.toList=ws.map (·.2):=PySem.W.kdl_vals_eq acc.toList (by rw[Array.length_toList];exact hi.1) fun j v e=>hi.2 j v (by rw[<-Array.getElem?_toList];exact e)
 refine⟨.ref s.heap.objs.size,_,I.laid (t':=tk) (o:= .lst (kvs.map (·.2))) hk (Nat.le_refl _) ⟨by rw[List.length_map];exact hz,ws.map (·.2),c,b3n rel,?_⟩,rfl,q _ (I.hok.fresh (Nat.le_refl _))⟩
 rw[hl,<-e]
def Prs(H:Hp):List Addr->List (Key×V)->Prop:=Paired fun a kv=>H a=some (.tup [kV kv.1,kv.2])
theorem a9w{kvs:List (Key×V)}{ws:List (Key×Value)}{lo:Addr}(rel:KV kvs ws)(hs:X.s₀.heap.objs.size<=lo):
   ∀{as:List Addr}{j:Nat}{H:Hp},Inv X pins σ H s->(∀a∈as,lo<a/\FpOk X pins H a)->as.Pairwise (· < ·)->as.length+j=ws.length->
     (∀(i:Nat) (a:Addr),as[i]? =some a-> ∃key k x,ws[j+i]? =some (k,x)/\(a06 X.prog X.w).is k key=true/\s.heap.get? a=some {cls:= .type "tuple",data:= .seq #[key,x]})->
     ∃H',Inv X pins σ H' s/\(∀b,(∀a∈as,b≠a)->H' b=H b)/\Prs H' as (kvs.drop j)
 | [],j,H,I,_,_,hl,_=>⟨H,I,fun _ _=>rfl,by
     rw[List.drop_of_length_le (by rw[rel.length];simp at hl;omega)]
     exact .nil⟩
 |a::as,j,H,I,hf,hp,hl,hv=>by
   obtain⟨key,k,x,e1,hk,e2⟩:=hv 0 a rfl
   obtain⟨v,e3,rv⟩:=rel.at e1
   have rk:RelV (kV k) key:=by
     rcases a02 hk with⟨i,t,rfl,rfl⟩ | ⟨x,t,rfl,rfl⟩
     . exact⟨t,rfl⟩
     . exact⟨t,rfl⟩
   obtain⟨hlo,fa⟩:=hf a List.mem_cons_self
   have hpa:=List.pairwise_cons.mp hp
   have I1:Inv X pins σ (upd H a (.tup [kV k,v])) s:=I.adopt fa (Nat.le_trans hs (Nat.le_of_lt hlo)) ⟨by show 2<=sizeLine;decide,[key,x],.cons rk (.cons rv .nil),_,e2,rfl,_,rfl⟩
   have hne: ∀b∈as,b≠a:=fun b hb z=>absurd (hpa.1 b hb) (by rw[z];exact Nat.lt_irrefl _)
   obtain⟨H',I',k1,k2⟩:=a9w rel hs (as:=as) (j:=j+1) I1 (fun b hb=>⟨(hf b (List.mem_cons_of_mem _ hb)).1,by
     have f:=(hf b (List.mem_cons_of_mem _ hb)).2
     exact⟨by rw[a0i (hne b hb)];exact f.1,f.2⟩⟩) hpa.2 (by simp at hl |-;omega) (fun i b hb=>by
     obtain⟨key',k',x',g1,g2,g3⟩:=hv (i+1) b (by simpa using hb)
     exact⟨key',k',x',by rw[<-g1];congr 1;omega,g2,g3⟩)
   refine⟨H',I',fun b hb=> ?_,?_⟩
   . rw[k1 b fun c hc=>hb c (List.mem_cons_of_mem _ hc),a0i (hb a List.mem_cons_self)]
   . have e3':kvs[j]? =some (k,v):=by simpa using e3
     have hlt:j<kvs.length:=(List.getElem?_eq_some_iff.mp e3').1
     have hd:kvs.drop j=(k,v)::kvs.drop (j+1):=by
       rw[List.drop_eq_getElem_cons hlt]
       congr 1
       exact(List.getElem?_eq_some_iff.mp e3').2
     rw[hd]
     refine .cons ?_ k2
     rw[k1 a fun b hb z=>hne b hb z.symm,a0p]
theorem a5r(hc:X.calm=true):CallR X (.type "list") (fun xs H Q=> ∃p a kvs,xs=[.ref p]/\H p=some (.ext (viewφ "dict_items" p a))/\Rd H a (.dK kvs)/\
   ∀l as H1,H l=none->(∀a∈as,H a=none/\a≠l)->(∀b,(∀a∈as,b≠a)->H1 b=upd H l (.lst (as.map V.ref)) b)->Prs H1 as kvs->Q (.ref l) H1):=by
 intro pins s σ H xs us Q I r h
 obtain⟨p,a,kvs,rfl,hp,hd,q⟩:=h
 obtain⟨u,rfl,ru⟩:=r.one
 cases ru
 obtain⟨hz,lo,ws,rel,hD⟩:=a7b I.hok hd
 obtain⟨ep,hat⟩:=hD.dictAt
 have hv:s.heap.get? p=some {cls:= .type "dict_items",data:= .fields #[.ref a]}:=(I.hok p _ hp).1
 refine PySem.W.kdx_call (knd:=a06 X.prog X.w) (kvs:=ws) (ep:=ep) (I.ok.hd hc) ⟨_,hv,rfl,rfl⟩ hat (by rw[<-rel.length];exact hz) fun h' tk acc c as hk hl hlen hG hacc=> ?_
 have hl0:=I.hok.fresh (Nat.le_refl s.heap.objs.size)
 have vr:Vals (as.map V.ref) (as.map Value.ref):=by
   clear hlen hG hacc
   induction as with
   |nil=>exact .nil
   |cons _ _ ih=>exact .cons rfl ih
 have I1:Inv X pins σ (upd H s.heap.objs.size (.lst (as.map V.ref))) {s with heap:=h',toks:=tk}:=I.laid hk (Nat.le_refl _) ⟨by rw[List.length_map,hlen,<-rel.length];exact hz,as.map Value.ref,c,vr,by rw[hl,<-hacc]⟩
 have fa: ∀b∈as,s.heap.objs.size<b/\FpOk X pins (upd H s.heap.objs.size (.lst (as.map V.ref))) b:=fun b hb=>by
   have hlt:=hG.above b hb
   refine⟨hlt,I.fpOk (Nat.le_of_lt hlt) ?_⟩
   rw[a0i (Nat.ne_of_gt hlt)]
   exact I.hok.fresh (Nat.le_of_lt hlt)
 obtain⟨H',I',k1,k2⟩:=a9w (j:=0) rel I.sz I1 fa hG.rise (by omega) (fun i b hb=>by
   obtain⟨key,k,x,g1,g2,g3⟩:=hG.pairs i b hb
   exact⟨key,k,x,by simpa using g1,g2,g3⟩)
 exact⟨.ref s.heap.objs.size,H',I',rfl,q _ as H' hl0 (fun b hb=>⟨I.hok.fresh (Nat.le_of_lt (fa b hb).1),Nat.ne_of_gt (fa b hb).1⟩) k1 (by simpa using k2)⟩
end
inductive D where
 |non |bl (b:Bool) |int (i:Int) |str (x:Str) |lst (ds:List D) |tup (ds:List D) |scr (ds:List D) |ctp (ds:List D) |obj (p:Addr)
mutual
inductive RD(K:PySem.W.Frag)(F:Hp):V->D->Prop where
 |non:RD K F .non .non
 |bl (b:Bool):RD K F (.bl b) (.bl b)
 |int (i:Int):RD K F (.int i) (.int i)
 |str (x:Str):RD K F (.str x) (.str x)
 |lst {a:Addr}{xs:List V}{ds:List D} (e:F a=some (.lst xs)) (r:RDs K F xs ds):RD K F (.ref a) (.lst ds)
 |scr {a:Addr}{xs:List V}{ds:List D} (e:SqL K F a xs) (r:RDs K F xs ds):RD K F (.ref a) (.scr ds)
 |tup {a:Addr}{xs:List V}{ds:List D} (e:F a=some (.tup xs)) (r:RDs K F xs ds):RD K F (.ref a) (.tup ds)
 |ctp {a:Addr}{xs:List V}{ds:List D} (e:SqT K F a xs) (r:RDs K F xs ds):RD K F (.ref a) (.ctp ds)
 |obj (p:Addr):RD K F (.ref p) (.obj p)
inductive RDs(K:PySem.W.Frag)(F:Hp):List V->List D->Prop where
 |nil:RDs K F [] []
 |cons {x:V}{d:D}{xs:List V}{ds:List D} (h:RD K F x d) (t:RDs K F xs ds):RDs K F (x::xs) (d::ds)
end
theorem Same.seqT{K:PySem.W.Frag}{H H':Hp}{a:Addr}{xs:List V}(e:Same H H')(h:SqT K H a xs):SqT K H' a xs:=by
 rcases h with(h | ⟨o,h⟩) |h
 . exact .inl (.inl (e _ _ h))
 . exact .inl (.inr ⟨o,e _ _ h⟩)
 . exact .inr h
mutual
theorem RD.up{K:PySem.W.Frag}{F F':Hp}(e:Same F F'): ∀{x:V}{d:D},RD K F x d->RD K F' x d
 |_,_,.non=> .non
 |_,_,.bl b=> .bl b
 |_,_,.int i=> .int i
 |_,_,.str x=> .str x
 |_,_,.lst q rs=> .lst (e _ _ q) (RDs.up e rs)
 |_,_,.scr q rs=> .scr (e.seq q) (RDs.up e rs)
 |_,_,.tup q rs=> .tup (e _ _ q) (RDs.up e rs)
 |_,_,.ctp q rs=> .ctp (e.seqT q) (RDs.up e rs)
 |_,_,.obj p=> .obj p
theorem RDs.up{K:PySem.W.Frag}{F F':Hp}(e:Same F F'): ∀{xs:List V}{ds:List D},RDs K F xs ds->RDs K F' xs ds
 |_,_,.nil=> .nil
 |_,_,.cons h t=> .cons (RD.up e h) (RDs.up e t)
end
section
variable {K:PySem.W.Frag}{F:Hp}
theorem RDs.length: ∀{xs:List V}{ds:List D},RDs K F xs ds->xs.length=ds.length
 |_,_,.nil=>rfl
 |_,_,.cons _ t=>by simp[RDs.length t]
theorem RDs.get: ∀{xs:List V}{ds:List D}{i:Nat}{d:D},RDs K F xs ds->ds[i]? =some d-> ∃x,xs[i]? =some x/\RD K F x d
 |_,_,_,_,.nil,e=>by simp at e
 |_,_,0,_,.cons h _,e=>by simp at e;subst e;exact⟨_,rfl,h⟩
 |_,_,i+1,d,.cons _ t,e=>by
   obtain⟨x,h1,h2⟩:=RDs.get (i:=i) (d:=d) t (by simpa using e)
   exact⟨x,by simpa using h1,h2⟩
theorem RDs.append: ∀{xs ys:List V}{ds es:List D},RDs K F xs ds->RDs K F ys es->RDs K F (xs++ys) (ds++es)
 |_,_,_,_,.nil,s=>s
 |_,_,_,_,.cons h t,s=> .cons h (RDs.append t s)
theorem RDs.set{x:V}{d:D}(r:RD K F x d): ∀{xs:List V}{ds:List D} (i:Nat),RDs K F xs ds->RDs K F (xs.set i x) (ds.set i d)
 |_,_,_,.nil=> .nil
 |_,_,0,.cons _ t=> .cons r t
 |_,_,i+1,.cons q t=> .cons q (RDs.set r i t)
theorem RDs.take: ∀{xs:List V}{ds:List D} (n:Nat),RDs K F xs ds->RDs K F (xs.take n) (ds.take n)
 |_,_,0,_=> .nil
 |_,_,_+1,.nil=> .nil
 |_,_,n+1,.cons r t=> .cons r (RDs.take n t)
theorem RDs.drop: ∀{xs:List V}{ds:List D} (n:Nat),RDs K F xs ds->RDs K F (xs.drop n) (ds.drop n)
 |_,_,0,r=>r
 |_,_,_+1,.nil=> .nil
 |_,_,n+1,.cons _ t=>RDs.drop n t
theorem RDs.one'{xs:List V}{d:D}(r:RDs K F xs [d]): ∃x,xs=[x]/\RD K F x d:=by
 cases r with |cons h t=>cases t;exact⟨_,rfl,h⟩
theorem RDs.two'{xs:List V}{d e:D}(r:RDs K F xs [d,e]): ∃x y,xs=[x,y]/\RD K F x d/\RD K F y e:=by
 cases r with |cons h t=>obtain⟨y,rfl,hy⟩:=t.one';exact⟨_,_,rfl,h,hy⟩
end
inductive MO where
 |lst (ds:List D) |dic (kvs:List (Key×D)) |ins (C:Addr) (fs:List (Str×D)) |exc (cls:Value) |raw (u:HO)
noncomputable abbrev Mem:=Addr->Option MO
noncomputable def put(M:Mem)(p:Addr)(o:MO):Mem:=fun b=>if b=p then some o else M b
noncomputable def del(M:Mem)(p:Addr):Mem:=fun b=>if b=p then none else M b
theorem a0d{M:Mem}{p:Addr}{o:MO}:put M p o p=some o:=by unfold put;rw[if_pos rfl]
theorem a0h{M:Mem}{p q:Addr}{o:MO}(h:q≠p):put M p o q=M q:=by unfold put;rw[if_neg h]
theorem a28{M:Mem}{p:Addr}{o u:MO}:put (put M p o) p u=put M p u:=by funext b;unfold put;split<;>rfl
theorem b0i{M:Mem}{p:Addr}:del M p p=none:=by unfold del;rw[if_pos rfl]
theorem b0j{M:Mem}{p q:Addr}(h:q≠p):del M p q=M q:=by unfold del;rw[if_neg h]
theorem a3a{M:Mem}{p:Addr}{o:MO}(h:M p=none):del (put M p o) p=M:=by
 funext b;unfold del put
 by_cases hb:b=p
 . rw[if_pos hb,hb,h]
 . rw[if_neg hb,if_neg hb]
theorem b3v{M:Mem}{p q:Addr}{o u:MO}(h:p≠q):put (put M p o) q u=put (put M q u) p o:=by
 funext b;unfold put
 by_cases h1:b=p
 . subst h1;rw[if_neg h,if_pos rfl,if_pos rfl]
 . by_cases h2:b=q
   . rw[if_pos h2,if_neg h1,if_pos h2]
   . rw[if_neg h2,if_neg h1,if_neg h1,if_neg h2]
def Sub(M M':Mem):Prop:= ∀p o,M p=some o->M' p=some o
theorem Sub.refl(M:Mem):Sub M M:=fun _ _ h=>h
theorem Sub.put{M:Mem}{p:Addr}{o:MO}(h:M p=none):Sub M (put M p o):=fun q u e=>by
 rw[a0h (by rintro rfl;rw[h]at e;cases e)];exact e
theorem Sub.trans{M M1 M2:Mem}(a:Sub M M1)(b:Sub M1 M2):Sub M M2:=fun p o h=>b p o (a p o h)
def PF{κ:Type}(K:PySem.W.Frag)(F:Hp):List (κ×V)->List (κ×D)->Prop:=Paired fun p q=>p.1=q.1/\RD K F p.2 q.2
theorem PF.up{κ:Type}{K:PySem.W.Frag}{F F':Hp}(e:Same F F'){a:List (κ×V)}{b:List (κ×D)}(h:PF K F a b):PF K F' a b:=Paired.mapP h fun _ _ q=>⟨q.1,q.2.up e⟩
def RO(K:PySem.W.Frag)(F:Hp)(a:Addr):MO->HO->Prop
 | .lst ds,.lst vs=>RDs K F vs ds
 | .dic kvs,.dK ws=>PF K F ws kvs
 | .ins C fs,.ins C' _ ws=>C'=C/\PF K F ws fs
 | .exc c,.ext φ=>φ=excφ a c
 | .raw u,u'=>u'=u
 |_,_=>False
theorem RO.up{K:PySem.W.Frag}{F F':Hp}(e:Same F F'){a:Addr}: ∀{o:MO}{u:HO},RO K F a o u->RO K F' a o u:=by
 intro o u h
 cases o<;>cases u<;>first
   |exact(False.elim h)
   |exact RDs.up e h
   |exact PF.up e h
   |exact⟨h.1,PF.up e h.2⟩
   |exact h
section
variable {K:PySem.W.Frag}{F:Hp}{a:Addr}{u:HO}
theorem RO.isL{ds:List D}(h:RO K F a (.lst ds) u): ∃vs,u= .lst vs/\RDs K F vs ds:=by
 cases u<;>first |exact(False.elim h) |exact⟨_,rfl,h⟩
theorem RO.isD{kvs:List (Key×D)}(h:RO K F a (.dic kvs) u): ∃ws,u= .dK ws/\PF K F ws kvs:=by
 cases u<;>first |exact(False.elim h) |exact⟨_,rfl,h⟩
theorem RO.isI{C:Addr}{fs:List (Str×D)}(h:RO K F a (.ins C fs) u): ∃dx ws,u= .ins C dx ws/\PF K F ws fs:=by
 cases u<;>first |exact(False.elim h) | (obtain⟨rfl,h⟩:=h;exact⟨_,_,rfl,h⟩)
theorem RO.isX{c:Value}(h:RO K F a (.exc c) u):u= .ext (excφ a c):=by
 cases u<;>first |exact(False.elim h) | (cases h;rfl)
end
structure AM(K:PySem.W.Frag)(F:Hp)(M:Mem)(H:Hp):Prop where
 sub:Same F H
 dj: ∀p o,M p=some o->F p=none
 mem: ∀p o,M p=some o-> ∃u,H p=some u/\RO K F p o u
 nx: ∀p φ,F p≠some (.ext φ)
theorem nx_upd{F:Hp}{p:Addr}{u:HO}(h: ∀p φ,F p≠some (.ext φ))(hu: ∀φ,u≠ .ext φ): ∀q φ,upd F p u q≠some (.ext φ):=fun q φ e=>by
 by_cases hq:q=p
 . subst hq;rw[a0p]at e;cases e;exact hu _ rfl
 . rw[a0i hq]at e;exact h q φ e
theorem a05{F:Hp}{p:Addr}{u:HO}(h:F p=none):Same F (upd F p u):=fun b o e=>by
 rw[a0i (by rintro rfl;rw[h]at e;cases e)];exact e
section
variable {K:PySem.W.Frag}{F:Hp}{M:Mem}{H:Hp}{p:Addr}{o:MO}{u:HO}
theorem AM.fF(m:AM K F M H)(h:H p=none):F p=none:=m.sub.free h
theorem AM.fM(m:AM K F M H)(h:H p=none):M p=none:=by
 cases q:M p with
 |none=>rfl
 |some o=>obtain⟨u,e,_⟩:=m.mem p o q;rw[h]at e;cases e
theorem AM.new(m:AM K F M H)(h:H p=none)(r:RO K F p o u):AM K F (put M p o) (upd H p u):=by
 refine⟨fun b x e=> ?_,fun b x e=> ?_,fun b x e=> ?_,m.nx⟩
 . exact a05 h b x (m.sub b x e)
 . by_cases hb:b=p
   . subst hb;exact m.fF h
   . rw[a0h hb]at e;exact m.dj b x e
 . by_cases hb:b=p
   . subst hb;rw[a0d]at e;cases e;exact⟨u,a0p,r⟩
   . rw[a0h hb]at e
     obtain⟨y,e1,r1⟩:=m.mem b x e
     exact⟨y,by rw[a0i hb];exact e1,r1⟩
theorem AM.frz(m:AM K F M H)(h:H p=none)(hu: ∀φ,u≠ .ext φ:=by intro φ z;cases z):AM K (upd F p u) M (upd H p u):=by
 have hs:=a05 (u:=u) (m.fF h)
 refine⟨fun b x e=> ?_,fun b x e=> ?_,fun b x e=> ?_,nx_upd m.nx hu⟩
 . by_cases hb:b=p
   . subst hb;rw[a0p]at e |-;exact e
   . rw[a0i hb]at e |-;exact m.sub b x e
 . have hb:b≠p:=by rintro rfl;rw[m.fM h]at e;cases e
   rw[a0i hb];exact m.dj b x e
 . have hb:b≠p:=by rintro rfl;rw[m.fM h]at e;cases e
   obtain⟨y,e1,r1⟩:=m.mem b x e
   exact⟨y,by rw[a0i hb];exact e1,r1.up hs⟩
theorem AM.more(m:AM K F M H)(h:H p=none):AM K F M (upd H p u):=by
 refine⟨fun b x e=>a05 h b x (m.sub b x e),m.dj,fun b x e=> ?_,m.nx⟩
 have hb:b≠p:=by rintro rfl;rw[m.fM h]at e;cases e
 obtain⟨y,e1,r1⟩:=m.mem b x e
 exact⟨y,by rw[a0i hb];exact e1,r1⟩
theorem AM.set{o':MO}(m:AM K F M H)(h:M p=some o)(r:RO K F p o' u):AM K F (put M p o') (upd H p u):=by
 refine⟨fun b x e=> ?_,fun b x e=> ?_,fun b x e=> ?_,m.nx⟩
 . have hb:b≠p:=by rintro rfl;rw[m.dj _ _ h]at e;cases e
   rw[a0i hb];exact m.sub b x e
 . by_cases hb:b=p
   . subst hb;exact m.dj _ _ h
   . rw[a0h hb]at e;exact m.dj b x e
 . by_cases hb:b=p
   . subst hb;rw[a0d]at e;cases e;exact⟨u,a0p,r⟩
   . rw[a0h hb]at e
     obtain⟨y,e1,r1⟩:=m.mem b x e
     exact⟨y,by rw[a0i hb];exact e1,r1⟩
theorem AM.freeze{ds:List D}(m:AM K F M H)(h:M p=some (.lst ds)): ∃F',Same F F'/\AM K F' (del M p) H/\RD K F' (.ref p) (.lst ds):=by
 obtain⟨y,e,r⟩:=m.mem p _ h
 obtain⟨vs,rfl,r⟩:=r.isL
 have hs:=a05 (u:= .lst vs) (m.dj _ _ h)
 refine⟨upd F p (.lst vs),hs,⟨fun b x q=> ?_,fun b x q=> ?_,fun b x q=> ?_,nx_upd m.nx (fun φ z=>by cases z)⟩,.lst a0p (r.up hs)⟩
 . by_cases hb:b=p
   . subst hb;rw[a0p]at q;cases q;exact e
   . rw[a0i hb]at q;exact m.sub b x q
 . have hb:b≠p:=by rintro rfl;rw[b0i]at q;cases q
   rw[b0j hb]at q
   rw[a0i hb];exact m.dj b x q
 . have hb:b≠p:=by rintro rfl;rw[b0i]at q;cases q
   rw[b0j hb]at q
   obtain⟨y,e1,r1⟩:=m.mem b x q
   exact⟨y,e1,r1.up hs⟩
theorem AM.less{M':Mem}(m:AM K F M H)(h:Sub M' M):AM K F M' H:=⟨m.sub,fun p o e=>m.dj p o (h p o e),fun p o e=>m.mem p o (h p o e),m.nx⟩
end
inductive ChM(M:Mem):Addr->Prop where
 |one {b:Addr}{k:Value} (h:M b=some (.exc k)):ChM M b
 |more {b c:Addr}{k:Value} (h:M b=some (.raw (.ext (excψ b k c)))) (hc:ChM M c):ChM M b
def ExcM(M:Mem)(a:Addr)(cls:Value):Prop:=M a=some (.exc cls)\/ ∃b,M a=some (.raw (.ext (excψ a cls b)))/\ChM M b
section
variable {K:PySem.W.Frag}{F:Hp}{M:Mem}{H:Hp}{a:Addr}{cls:Value}
theorem AM.chn(m:AM K F M H)(c:ChM M a):Chn H a:=by
 induction c with
 |one h=>
   obtain⟨u,e,r⟩:=m.mem _ _ h
   obtain rfl:=r.isX
   exact .one e
 |more h _ ih=>
   obtain⟨u,e,r⟩:=m.mem _ _ h
   have r:u=_:=r
   subst r
   exact .more e ih
theorem AM.exc(m:AM K F M H)(c:ExcM M a cls):ExcIs H a cls:=by
 rcases c with h | ⟨b,h,c⟩
 . obtain⟨u,e,r⟩:=m.mem _ _ h
   obtain rfl:=r.isX
   exact .inl e
 . obtain⟨u,e,r⟩:=m.mem _ _ h
   have r:u=_:=r
   subst r
   exact .inr ⟨b,e,m.chn c⟩
open Classical in
noncomputable def exM(M:Mem)(H:Hp):Mem:=fun p=>if h: ∃k,H p=some (.ext (excφ p k))then some (.exc h.choose)else if ∃k c,H p=some (.ext (excψ p k c))then(H p).map .raw else M p
theorem a9g{p:Addr}(h: ∃k,H p=some (.ext (excφ p k))): ∃k,exM M H p=some (.exc k)/\H p=some (.ext (excφ p k)):=⟨h.choose,by unfold exM;rw[dif_pos h],h.choose_spec⟩
theorem b0c{p:Addr}(h: ¬ ∃k,H p=some (.ext (excφ p k)))(h2: ∃k c,H p=some (.ext (excψ p k c))):exM M H p=(H p).map .raw:=by unfold exM;rw[dif_neg h,if_pos h2]
theorem b0d{p:Addr}(h: ¬ ∃k,H p=some (.ext (excφ p k)))(h2: ¬ ∃k c,H p=some (.ext (excψ p k c))):exM M H p=M p:=by unfold exM;rw[dif_neg h,if_neg h2]
theorem AM.exm(m:AM K F M H):AM K F (exM M H) H:=by
 have nF: ∀p φ,H p=some (.ext φ)->F p=none:=fun p φ e=>by
   cases q:F p with
   |none=>rfl
   |some u=>
     have:=m.sub p u q
     rw[e]at this;cases this
     exact absurd q (m.nx p _)
 refine⟨m.sub,fun p o e=> ?_,fun p o e=> ?_,m.nx⟩
 . by_cases h: ∃k,H p=some (.ext (excφ p k))
   . obtain⟨k,h⟩:=h;exact nF p _ h
   . by_cases h2: ∃k c,H p=some (.ext (excψ p k c))
     . obtain⟨k,c,h2⟩:=h2;exact nF p _ h2
     . rw[b0d h h2]at e;exact m.dj p o e
 . by_cases h: ∃k,H p=some (.ext (excφ p k))
   . obtain⟨k,e1,e2⟩:=a9g (M:=M) h
     rw[e1]at e;cases e
     exact⟨_,e2,rfl⟩
   . by_cases h2: ∃k c,H p=some (.ext (excψ p k c))
     . rw[b0c h h2]at e
       obtain⟨k,c,h2⟩:=h2
       rw[h2]at e;cases e
       exact⟨_,h2,rfl⟩
     . rw[b0d h h2]at e;exact m.mem p o e
theorem ChM.of{a:Addr}(c:Chn H a):ChM (exM M H) a:=by
 induction c with
 |one h=>
   obtain⟨k,e,_⟩:=a9g (M:=M) ⟨_,h⟩
   exact .one e
 | @more b c k h _ ih=>
   by_cases h1: ∃k,H b=some (.ext (excφ b k))
   . obtain⟨k,e,_⟩:=a9g (M:=M) h1
     exact .one e
   . refine .more (k:=k) (c:=c) ?_ ih
     rw[b0c h1 ⟨k,c,h⟩,h];rfl
theorem ChM.up{b a:Addr}{o:MO}(c:ChM M a)(hb:M b=none):ChM (put M b o) a:=by
 induction c with
 |one h=>exact .one (by rw[a0h (fun z=>by rw[z,hb]at h;cases h)];exact h)
 |more h _ ih=>exact .more (by rw[a0h (fun z=>by rw[z,hb]at h;cases h)];exact h) ih
end
noncomputable abbrev G:=List (Option D)
structure AG(K:PySem.W.Frag)(F:Hp)(Γ:G)(σ:St):Prop where
 len:Γ.length=σ.length
 at': ∀(i:Nat) (d:D),Γ[i]? =some (some d)-> ∃v,σ[i]? =some (some v)/\RD K F v d
theorem AG.up{K:PySem.W.Frag}{F F':Hp}{Γ:G}{σ:St}(a:AG K F Γ σ)(e:Same F F'):AG K F' Γ σ:=⟨a.len,fun i d h=>let ⟨v,h1,h2⟩:=a.at' i d h;⟨v,h1,h2.up e⟩⟩
theorem AG.set{K:PySem.W.Frag}{F:Hp}{Γ:G}{σ:St}{v:V}{d:D}(a:AG K F Γ σ)(r:RD K F v d)(i:Nat):AG K F (Γ.set i (some d)) (σ.set i (some v)):=by
 refine⟨by simp[a.len],fun j e h=> ?_⟩
 by_cases hj:i=j
 . subst hj
   rw[List.getElem?_set]at h
   simp only[if_true]at h
   split at h
   . rename_i hl
     cases h
     refine⟨v,?_,r⟩
     rw[List.getElem?_set,if_pos rfl,if_pos (by rw[<-a.len];exact hl)]
   . cases h
 . rw[List.getElem?_set_ne hj]at h |-
   exact a.at' j e h
theorem AG.unset{K:PySem.W.Frag}{F:Hp}{Γ:G}{σ:St}(a:AG K F Γ σ)(i:Nat):AG K F (Γ.set i none) (σ.set i none):=by
 refine⟨by simp[a.len],fun j e h=> ?_⟩
 by_cases hj:i=j
 . subst hj
   rw[List.getElem?_set]at h
   simp only[if_true]at h
   split at h<;>cases h
 . rw[List.getElem?_set_ne hj]at h |-
   exact a.at' j e h
noncomputable abbrev AK:=D->Mem->Prop
noncomputable abbrev AE:=G->Mem->AK->Prop
noncomputable abbrev AT:=G->Mem->(Bool->Mem->Prop)->Prop
noncomputable abbrev AA:=G->Mem->(List D->Mem->Prop)->Prop
structure AEnds where
 nx:G->Mem->Prop
 rt:AK
 bk:G->Mem->Prop:=fun _ _=>False
 ct:G->Mem->Prop:=fun _ _=>False
noncomputable abbrev AS:=AEnds->G->Mem->Prop
def selfE(X:Cx)(e:Expr):TE:=fun σ H Q=> ∀pins s,Inv X pins σ H s->wpAny (model X.prog X.w) X.A (eval e X.env) (EP X pins σ Q) X.xe s
noncomputable def selfT(X:Cx)(e:Expr):TT:=fun σ H Q=> ∀pins s,Inv X pins σ H s->wpAny (model X.prog X.w) X.A (isTrue e X.env (eval e X.env)) (TP X pins σ Q) X.xe s
noncomputable def selfW(X:Cx)(e:Expr):TT:=fun σ H Q=> ∀whole pins s,Inv X pins σ H s->wpAny (model X.prog X.w) X.A (isTrue e X.env whole) (TP X pins σ Q) X.xe s
def selfA(X:Cx)(es:List Expr):TA:=fun σ H Q=> ∀pos pins s,Inv X pins σ H s->wpAny (model X.prog X.w) X.A (spliced (backTo pos (starEach es X.env))) (AP X pins σ Q) X.xe s
noncomputable def selfS(X:Cx)(st:Stmt):TS:=fun D σ H=> ∀pins s,Inv X pins σ H s->wpAny (model X.prog X.w) X.A (exec st X.env) (SP X pins D) X.xe s
noncomputable def selfSs(X:Cx)(st:List Stmt):TS:=fun D σ H=> ∀pins s,Inv X pins σ H s->wpAny (model X.prog X.w) X.A (execs st X.env) (SP X pins D) X.xe s
def selfG(X:Cx)(tg:Expr):TG:=fun v σ H Q=> ∀pins s u,Inv X pins σ H s->RelV v u->wpAny (model X.prog X.w) X.A (assign tg X.env u) (fun _ s'=> ∃σ' H',Inv X pins σ' H' s'/\Q σ' H') X.xe s
def selfGs(X:Cx)(ts:List Expr):TGs:=fun vs σ H Q=> ∀pins s us,Inv X pins σ H s->Vals vs us->wpAny (model X.prog X.w) X.A (assignInOrder ((assignEach ts X.env).map (·.2)) us) (fun _ s'=> ∃σ' H',Inv X pins σ' H' s'/\Q σ' H') X.xe s
section
variable {X:Cx}{e:Expr}{es:List Expr}{st:Stmt}{sts:List Stmt}{σ:St}{H:Hp}
theorem a0k:PE X e (selfE X e):=fun pins s _ _ _ I h=>h pins s I
theorem a3z:PT X e (selfT X e):=fun pins s _ _ _ I h=>h pins s I
theorem b12:PW X e (selfW X e):=fun w pins s _ _ _ I h=>h w pins s I
theorem a1h:PA X es (selfA X es):=fun pos pins s _ _ _ I h=>h pos pins s I
theorem b14:PS X st (selfS X st):=fun pins s _ _ _ I h=>h pins s I
theorem a1u:PSs X sts (selfSs X sts):=fun pins s _ _ _ I h=>h pins s I
theorem a80:PG X e (selfG X e):=fun pins s _ _ _ u _ I r h=>h pins s u I r
theorem a9v:PGs X es (selfGs X es):=fun pins s _ _ _ us _ I r h=>h pins s us I r
theorem PE.to{t:TE}{Q:VK}(h:PE X e t)(hw:t σ H Q):selfE X e σ H Q:=fun pins s I=>h pins s σ H Q I hw
theorem PT.to{t:TT}{Q:Bool->Hp->Prop}(h:PT X e t)(hw:t σ H Q):selfT X e σ H Q:=fun pins s I=>h pins s σ H Q I hw
theorem PW.to{t:TT}{Q:Bool->Hp->Prop}(h:PW X e t)(hw:t σ H Q):selfW X e σ H Q:=fun w pins s I=>h w pins s σ H Q I hw
theorem PA.to{t:TA}{Q:List V->Hp->Prop}(h:PA X es t)(hw:t σ H Q):selfA X es σ H Q:=fun pos pins s I=>h pos pins s σ H Q I hw
theorem PS.to{t:TS}{D:Ends}(h:PS X st t)(hw:t D σ H):selfS X st D σ H:=fun pins s I=>h pins s σ H D I hw
theorem PSs.to{t:TS}{D:Ends}(h:PSs X sts t)(hw:t D σ H):selfSs X sts D σ H:=fun pins s I=>h pins s σ H D I hw
theorem PG.to{t:TG}{v:V}{Q:St->Hp->Prop}(h:PG X e t)(hw:t v σ H Q):selfG X e v σ H Q:=fun pins s u I r=>h pins s σ H v u Q I r hw
theorem PGs.to{t:TGs}{vs:List V}{Q:St->Hp->Prop}(h:PGs X es t)(hw:t vs σ H Q):selfGs X es vs σ H Q:=fun pins s us I r=>h pins s σ H vs us Q I r hw
theorem selfE.mono{Q Q':VK}(h:selfE X e σ H Q)(k: ∀v H',Q v H'->Q' v H'):selfE X e σ H Q':=fun pins s I=>thn (h pins s I) fun _ _ ⟨v,H',J,r,q⟩=>⟨v,H',J,r,k v H' q⟩
theorem selfT.mono{Q Q':Bool->Hp->Prop}(h:selfT X e σ H Q)(k: ∀v H',Q v H'->Q' v H'):selfT X e σ H Q':=fun pins s I=>thn (h pins s I) fun b _ ⟨H',J,q⟩=>⟨H',J,k b H' q⟩
theorem selfW.mono{Q Q':Bool->Hp->Prop}(h:selfW X e σ H Q)(k: ∀v H',Q v H'->Q' v H'):selfW X e σ H Q':=fun w pins s I=>thn (h w pins s I) fun b _ ⟨H',J,q⟩=>⟨H',J,k b H' q⟩
theorem selfA.mono{Q Q':List V->Hp->Prop}(h:selfA X es σ H Q)(k: ∀v H',Q v H'->Q' v H'):selfA X es σ H Q':=fun pos pins s I=>thn (h pos pins s I) fun _ _ ⟨v,H',J,r,q⟩=>⟨v,H',J,r,k v H' q⟩
theorem selfG.mono{v:V}{Q Q':St->Hp->Prop}(h:selfG X e v σ H Q)(k: ∀σ' H',Q σ' H'->Q' σ' H'):selfG X e v σ H Q':=fun pins s u I r=>thn (h pins s u I r) fun _ _ ⟨σ',H',J,q⟩=>⟨σ',H',J,k σ' H' q⟩
theorem selfGs.mono{vs:List V}{Q Q':St->Hp->Prop}(h:selfGs X es vs σ H Q)(k: ∀σ' H',Q σ' H'->Q' σ' H'):selfGs X es vs σ H Q':=fun pins s u I r=>thn (h pins s u I r) fun _ _ ⟨σ',H',J,q⟩=>⟨σ',H',J,k σ' H' q⟩
structure EndsTo(D D':Ends):Prop where
 nx: ∀σ H,D.nx σ H->D'.nx σ H
 rt: ∀v H,D.rt v H->D'.rt v H
 bk: ∀σ H,D.bk σ H->D'.bk σ H
 ct: ∀σ H,D.ct σ H->D'.ct σ H
theorem SP.to{pins:List (Addr×Obj)}{D D':Ends}(k:EndsTo D D'){f:Flow}{s:Shared}(h:SP X pins D f s):SP X pins D' f s:=by
 cases f with
 |next=>obtain⟨σ',H',I,q⟩:=h;exact⟨σ',H',I,k.nx _ _ q⟩
 |brk=>obtain⟨σ',H',I,q⟩:=h;exact⟨σ',H',I,k.bk _ _ q⟩
 |cont=>obtain⟨σ',H',I,q⟩:=h;exact⟨σ',H',I,k.ct _ _ q⟩
 |ret u=>obtain⟨v,σ',H',I,r,q⟩:=h;exact⟨v,σ',H',I,r,k.rt _ _ q⟩
theorem selfS.mono{D D':Ends}(h:selfS X st D σ H)(k:EndsTo D D'):selfS X st D' σ H:=fun pins s I=>thn (h pins s I) fun _ _ q=>q.to k
theorem selfSs.mono{D D':Ends}(h:selfSs X sts D σ H)(k:EndsTo D D'):selfSs X sts D' σ H:=fun pins s I=>thn (h pins s I) fun _ _ q=>q.to k
end
def PQ(K:PySem.W.Frag)(F:Hp)(Q:AK):VK:=fun v H'=> ∃d F' M',Same F F'/\AM K F' M' H'/\RD K F' v d/\Q d M'
def PQb(K:PySem.W.Frag)(F:Hp)(Q:Bool->Mem->Prop):Bool->Hp->Prop:=fun b H'=> ∃F' M',Same F F'/\AM K F' M' H'/\Q b M'
def PQs(K:PySem.W.Frag)(F:Hp)(Q:List D->Mem->Prop):List V->Hp->Prop:=fun vs H'=> ∃ds F' M',Same F F'/\AM K F' M' H'/\RDs K F' vs ds/\Q ds M'
def PQg(K:PySem.W.Frag)(F:Hp)(Q:G->Mem->Prop):St->Hp->Prop:=fun σ' H'=> ∃F' Γ' M',Same F F'/\AG K F' Γ' σ'/\AM K F' M' H'/\Q Γ' M'
noncomputable def PQD(K:PySem.W.Frag)(F:Hp)(E:AEnds):Ends:=⟨PQg K F E.nx,PQ K F E.rt,PQg K F E.bk,PQg K F E.ct⟩
section
variable {K:PySem.W.Frag}{F F1:Hp}
theorem PQ.dn{Q:AK}(e:Same F F1){v:V}{H:Hp}(h:PQ K F1 Q v H):PQ K F Q v H:=let ⟨d,F',M',a,b,c,q⟩:=h;⟨d,F',M',e.trans a,b,c,q⟩
theorem PQb.dn{Q:Bool->Mem->Prop}(e:Same F F1){v:Bool}{H:Hp}(h:PQb K F1 Q v H):PQb K F Q v H:=let ⟨F',M',a,b,q⟩:=h;⟨F',M',e.trans a,b,q⟩
theorem PQg.dn{Q:G->Mem->Prop}(e:Same F F1){v:St}{H:Hp}(h:PQg K F1 Q v H):PQg K F Q v H:=let ⟨d,F',M',a,b,c,q⟩:=h;⟨d,F',M',e.trans a,b,c,q⟩
theorem PQD.dn{E:AEnds}(e:Same F F1):EndsTo (PQD K F1 E) (PQD K F E):=⟨fun _ _ h=>PQg.dn e h,fun _ _ h=>PQ.dn e h,fun _ _ h=>PQg.dn e h,fun _ _ h=>PQg.dn e h⟩
end
structure PEA(X:Cx)(F0:Hp)(e:Expr)(t:AE):Prop where
 run: ∀F Γ M σ H Q,Same F0 F->AG X.K F Γ σ->AM X.K F M H->t Γ M Q->selfE X e σ H (PQ X.K F Q)
structure PTA(X:Cx)(F0:Hp)(e:Expr)(t:AT):Prop where
 run: ∀F Γ M σ H Q,Same F0 F->AG X.K F Γ σ->AM X.K F M H->t Γ M Q->selfT X e σ H (PQb X.K F Q)
structure PWA(X:Cx)(F0:Hp)(e:Expr)(t:AT):Prop where
 run: ∀F Γ M σ H Q,Same F0 F->AG X.K F Γ σ->AM X.K F M H->t Γ M Q->selfW X e σ H (PQb X.K F Q)
structure PAA(X:Cx)(F0:Hp)(es:List Expr)(t:AA):Prop where
 run: ∀F Γ M σ H Q,Same F0 F->AG X.K F Γ σ->AM X.K F M H->t Γ M Q->selfA X es σ H (PQs X.K F Q)
structure PSA(X:Cx)(F0:Hp)(st:Stmt)(t:AS):Prop where
 run: ∀F Γ M σ H E,Same F0 F->AG X.K F Γ σ->AM X.K F M H->t E Γ M->selfS X st (PQD X.K F E) σ H
structure PSsA(X:Cx)(F0:Hp)(sts:List Stmt)(t:AS):Prop where
 run: ∀F Γ M σ H E,Same F0 F->AG X.K F Γ σ->AM X.K F M H->t E Γ M->selfSs X sts (PQD X.K F E) σ H
noncomputable abbrev AGt:=D->G->Mem->(G->Mem->Prop)->Prop
noncomputable abbrev AGts:=List D->G->Mem->(G->Mem->Prop)->Prop
structure PGA(X:Cx)(F0:Hp)(tg:Expr)(t:AGt):Prop where
 run: ∀F Γ M σ H v d Q,Same F0 F->AG X.K F Γ σ->AM X.K F M H->RD X.K F v d->t d Γ M Q->selfG X tg v σ H (PQg X.K F Q)
structure PGsA(X:Cx)(F0:Hp)(ts:List Expr)(t:AGts):Prop where
 run: ∀F Γ M σ H vs ds Q,Same F0 F->AG X.K F Γ σ->AM X.K F M H->RDs X.K F vs ds->t ds Γ M Q->selfGs X ts vs σ H (PQg X.K F Q)
def aV(i:Nat):AE:=fun Γ M Q=>match Γ[i]? with |some (some d)=>Q d M |_=>False
def aC(d:D):AE:=fun _ M Q=>Q d M
theorem PQ.here{K:PySem.W.Frag}{F:Hp}{M:Mem}{H:Hp}{Q:AK}{v:V}{d:D}(m:AM K F M H)(r:RD K F v d)(q:Q d M):PQ K F Q v H:=⟨d,F,M,.refl F,m,r,q⟩
theorem PQb.here{K:PySem.W.Frag}{F:Hp}{M:Mem}{H:Hp}{Q:Bool->Mem->Prop}{v:Bool}(m:AM K F M H)(q:Q v M):PQb K F Q v H:=⟨F,M,.refl F,m,q⟩
theorem PQg.here{K:PySem.W.Frag}{F:Hp}{M:Mem}{H:Hp}{Q:G->Mem->Prop}{Γ:G}{σ:St}(m:AM K F M H)(g:AG K F Γ σ)(q:Q Γ M):PQg K F Q σ H:=⟨F,Γ,M,.refl F,g,m,q⟩
section
variable {X:Cx}{F0:Hp}{a b e:Expr}{es:List Expr}{pos:Pos}{ta tb te:AE}{i:Nat}{x:Str}
theorem paV(h:PE X e (tVar i)):PEA X F0 e (aV i):=by
 refine⟨?_⟩
 intro F Γ M σ H Q f0 g m hw
 unfold aV at hw
 split at hw
 . rename_i d hd
   obtain⟨v,e1,r⟩:=g.at' i d hd
   exact h.to ⟨v,e1,.here m r hw⟩
 . exact hw.elim
theorem paC{v:V}{d:D}(h:PE X e (tC v))(r: ∀F,RD X.K F v d):PEA X F0 e (aC d):=⟨fun F Γ M σ H Q _ _ m hw=>h.to (PQ.here m (r F) hw)⟩
theorem paI{n:Int}{j}:PEA X F0 (.Constant (.int n) j pos) (aC (.int n)):=paC pe_int fun _=> .int _
theorem paB{n:Bool}{j}:PEA X F0 (.Constant (.bool n) j pos) (aC (.bl n)):=paC pe_bl fun _=> .bl _
theorem paN{j}:PEA X F0 (.Constant .none j pos) (aC .non):=paC pe_non fun _=> .non
theorem paS{n:Str}{j}:PEA X F0 (.Constant (.str n) j pos) (aC (.str n)):=paC pe_str fun _=> .str _
theorem two(ha:PEA X F0 a ta)(hb:PEA X F0 b tb){F:Hp}{Γ:G}{M:Mem}{σ:St}{H:Hp}{R:D->D->Mem->Prop}(f0:Same F0 F)(g:AG X.K F Γ σ)(m:AM X.K F M H)(h:ta Γ M fun x M1=>tb Γ M1 fun y M2=>R x y M2)
   {Q:V->V->Hp->Prop} (k: ∀F2 M2 H2 v u x y,Same F F2->AM X.K F2 M2 H2->RD X.K F2 v x->RD X.K F2 u y->R x y M2->Q v u H2):selfE X a σ H fun v H1=>selfE X b σ H1 fun u H2=>Q v u H2:=by
 refine(ha.run F Γ M σ H _ f0 g m h).mono fun v H1 zz9=> ?_
 obtain⟨x,F1,M1,s1,m1,r1,q1⟩:=zz9
 refine(hb.run F1 Γ M1 σ H1 _ (f0.trans s1) (g.up s1) m1 q1).mono fun u H2 zz9=> ?_
 obtain⟨y,F2,M2,s2,m2,r2,q2⟩:=zz9
 exact k F2 M2 H2 v u x y (s1.trans s2) m2 (r1.up s2) r2 q2
noncomputable abbrev A2:=D->D->Mem->AK->Prop
def aOp(r:A2)(ta tb:AE):AE:=fun Γ M Q=>ta Γ M fun x M1=>tb Γ M1 fun y M2=>r x y M2 Q
def LO(K:PySem.W.Frag)(r:R2)(a:A2):Prop:= ∀(F:Hp) (M:Mem) (H:Hp) (x y:V) (dx dy:D) (Q:AK) (R:VK),AM K F M H->RD K F x dx->RD K F y dy->a dx dy M Q->(∀v H',PQ K F Q v H'->R v H')->r x y H R
theorem paOp{op:Operator}{r:R2}{o:A2}(ho:OpR X (binaryOp op) r)(l:LO X.K r o)(ha:PEA X F0 a ta)(hb:PEA X F0 b tb):PEA X F0 (.BinOp a op b pos) (aOp o ta tb):=by
 refine⟨?_⟩
 intro F Γ M σ H Q f0 g m h
 exact(pe_op ho a0k a0k).to (two ha hb f0 g m h fun F2 M2 H2 v u x y s m2 r1 r2 q=>l F2 M2 H2 v u x y Q _ m2 r1 r2 q fun _ _ z=>z.dn s)
theorem paCmp{op:CmpOp}{r:R2}{o:A2}(ho:OpR X (compareOp op) r)(l:LO X.K r o)(ha:PEA X F0 a ta)(hb:PEA X F0 b tb)(hm:behindInMarks op b=false):PEA X F0 (.Compare a [op] [b] pos) (aOp o ta tb):=by
 refine⟨?_⟩
 intro F Γ M σ H Q f0 g m h
 exact(pe_cmpR ho a0k a0k hm).to (two ha hb f0 g m h fun F2 M2 H2 v u x y s m2 r1 r2 q=>l F2 M2 H2 v u x y Q _ m2 r1 r2 q fun _ _ z=>z.dn s)
def aT(t:AE):AT:=fun Γ M Q=>t Γ M fun d M'=>match d with | .bl b=>Q b M' |_=>False
theorem PQ.bool{K:PySem.W.Frag}{F:Hp}{Q:Bool->Mem->Prop}{v:V}{H:Hp}(h:PQ K F (fun d M'=>match d with | .bl b=>Q b M' |_=>False) v H): ∃k,v= .bl k/\PQb K F Q k H:=by
 obtain⟨d,F',M',s,m,r,q⟩:=h
 cases r<;>first
   |exact⟨_,rfl,F',M',s,m,q⟩
   |exact q.elim
theorem a0s{op:CmpOp}{r:R2}{o:A2}(ho:OpR X (compareOp op) r)(l:LO X.K r o)(ha:PEA X F0 a ta)(hb:PEA X F0 b tb)(hm:behindInMarks op b=false):PTA X F0 (.Compare a [op] [b] pos) (aT (aOp o ta tb)):=by
 refine⟨?_⟩
 intro F Γ M σ H Q f0 g m h
 refine(pt_cmpR ho a0k a0k hm).to (two ha hb f0 g m h fun F2 M2 H2 v u x y s m2 r1 r2 q=>l F2 M2 H2 v u x y _ _ m2 r1 r2 q fun _ _ z=> ?_)
 exact PQ.bool (z.dn s)
theorem ptV(h:PEA X F0 e te)(he: ∀whole,isTrue e X.env whole=(do let v <-whole;standAt e.pos;holding [v] (truthy v)):=by intro _;rfl):PTA X F0 e (aT te):=by
 refine⟨?_⟩
 intro F Γ M σ H Q f0 g m hw
 refine(pt_val a0k he).to ((h.run F Γ M σ H _ f0 g m hw).mono fun v H1 z=>PQ.bool z)
def aAnd(t u:AT):AT:=fun Γ M Q=>t Γ M fun c M1=>if c=true then u Γ M1 Q else Q false M1
def aOr(t u:AT):AT:=fun Γ M Q=>t Γ M fun c M1=>if c=true then Q true M1 else u Γ M1 Q
def aNot(t:AT):AT:=fun Γ M Q=>t Γ M fun c M1=>Q (!c) M1
variable {tA tB:AT}{rest:List Expr}
theorem a46(ha:PTA X F0 a tA):PTA X F0 (.UnaryOp .Not a pos) (aNot tA):=by
 refine⟨?_⟩
 intro F Γ M σ H Q f0 g m h
 exact(pt_not a3z).to ((ha.run F Γ M σ H _ f0 g m h).mono fun c H1 z=>z)
theorem a7p(ha:PTA X F0 a tA):PWA X F0 (.BoolOp .And [a] pos) tA:=⟨fun F Γ M σ H Q f0 g m h=>(pw_and1 a3z).to (ha.run F Γ M σ H Q f0 g m h)⟩
theorem a26(ha:PTA X F0 a tA):PWA X F0 (.BoolOp .Or [a] pos) tA:=⟨fun F Γ M σ H Q f0 g m h=>(pw_or1 a3z).to (ha.run F Γ M σ H Q f0 g m h)⟩
theorem b13(ha:PTA X F0 a tA)(hb:PWA X F0 (.BoolOp .And (b::rest) pos) tB):PWA X F0 (.BoolOp .And (a::b::rest) pos) (aAnd tA tB):=by
 refine⟨?_⟩
 intro F Γ M σ H Q f0 g m h
 refine(pw_and a3z b12).to ((ha.run F Γ M σ H _ f0 g m h).mono fun c H1 zz9=> ?_)
 obtain⟨F1,M1,s1,m1,q1⟩:=zz9
 cases c with
 |true=>
   rw[if_pos rfl]at q1 |-
   exact(hb.run F1 Γ M1 σ H1 Q (f0.trans s1) (g.up s1) m1 q1).mono fun _ _ z=>z.dn s1
 |false=>
   rw[if_neg Bool.false_ne_true]at q1 |-
   exact⟨F1,M1,s1,m1,q1⟩
theorem pwOr(ha:PTA X F0 a tA)(hb:PWA X F0 (.BoolOp .Or (b::rest) pos) tB):PWA X F0 (.BoolOp .Or (a::b::rest) pos) (aOr tA tB):=by
 refine⟨?_⟩
 intro F Γ M σ H Q f0 g m h
 refine(pw_or a3z b12).to ((ha.run F Γ M σ H _ f0 g m h).mono fun c H1 zz9=> ?_)
 obtain⟨F1,M1,s1,m1,q1⟩:=zz9
 cases c with
 |true=>
   rw[if_pos rfl]at q1 |-
   exact⟨F1,M1,s1,m1,q1⟩
 |false=>
   rw[if_neg Bool.false_ne_true]at q1 |-
   exact(hb.run F1 Γ M1 σ H1 Q (f0.trans s1) (g.up s1) m1 q1).mono fun _ _ z=>z.dn s1
theorem PWA.pt{t:AT}(h:PWA X F0 e t):PTA X F0 e t:=⟨fun F Γ M σ H Q f0 g m hw pins s I=>h.run F Γ M σ H Q f0 g m hw _ pins s I⟩
def aAndV(ta tb:AE):AE:=fun Γ M Q=>aT ta Γ M fun c M1=>if c=true then tb Γ M1 Q else Q (.bl false) M1
def aOrV(ta tb:AE):AE:=fun Γ M Q=>aT ta Γ M fun c M1=>if c=true then Q (.bl true) M1 else tb Γ M1 Q
def aNotV(ta:AE):AE:=fun Γ M Q=>aT ta Γ M fun c M1=>Q (.bl (!c)) M1
theorem b35{op}(h:PEA X F0 a ta):PEA X F0 (.BoolOp op [a] pos) ta:=⟨fun F Γ M σ H Q f0 g m hw=>(pe_one a0k).to (h.run F Γ M σ H Q f0 g m hw)⟩
theorem b36(ha:PEA X F0 a ta)(hb:PEA X F0 (.BoolOp .And (b::rest) pos) tb):PEA X F0 (.BoolOp .And (a::b::rest) pos) (aAndV ta tb):=by
 refine⟨?_⟩
 intro F Γ M σ H Q f0 g m h
 refine(pe_and a0k a0k).to ((ha.run F Γ M σ H _ f0 g m h).mono fun v H1 z=> ?_)
 obtain⟨c,rfl,F1,M1,s1,m1,q1⟩:=PQ.bool z
 refine⟨c,rfl,?_⟩
 cases c with
 |true=>
   rw[if_pos rfl]at q1 |-
   exact(hb.run F1 Γ M1 σ H1 Q (f0.trans s1) (g.up s1) m1 q1).mono fun _ _ z=>z.dn s1
 |false=>
   rw[if_neg Bool.false_ne_true]at q1 |-
   exact⟨_,F1,M1,s1,m1,.bl _,q1⟩
theorem paNot(ha:PEA X F0 a ta):PEA X F0 (.UnaryOp .Not a pos) (aNotV ta):=by
 refine⟨?_⟩
 intro F Γ M σ H Q f0 g m h
 refine(pe_not a0k).to ((ha.run F Γ M σ H _ f0 g m h).mono fun v H1 z=> ?_)
 obtain⟨c,rfl,F1,M1,s1,m1,q1⟩:=PQ.bool z
 exact⟨c,rfl,_,F1,M1,s1,m1,.bl _,q1⟩
def aUn(r:D->Mem->AK->Prop)(ta:AE):AE:=fun Γ M Q=>ta Γ M fun x M1=>r x M1 Q
def LU(K:PySem.W.Frag)(r:V->Hp->VK->Prop)(a:D->Mem->AK->Prop):Prop:= ∀(F:Hp) (M:Mem) (H:Hp) (x:V) (dx:D) (Q:AK) (R:VK),AM K F M H->RD K F x dx->a dx M Q->(∀v H',PQ K F Q v H'->R v H')->r x H R
theorem paUn{op:UnaryOp}{r:V->Hp->VK->Prop}{o:D->Mem->AK->Prop}(ho:UnR X (unaryOp op) r)(l:LU X.K r o)(ha:PEA X F0 a ta):PEA X F0 (.UnaryOp op a pos) (aUn o ta):=by
 refine⟨?_⟩
 intro F Γ M σ H Q f0 g m h
 exact(pe_un ho a0k).to ((ha.run F Γ M σ H _ f0 g m h).mono fun v H1 ⟨x,F1,M1,s1,m1,r1,q1⟩=>l F1 M1 H1 v x Q _ m1 r1 q1 fun _ _ z=>z.dn s1)
theorem paIx{r:R2}{o:A2}(ho:IxR X r)(l:LO X.K r o)(ha:PEA X F0 a ta)(hb:PEA X F0 b tb)(hs:b3l b):PEA X F0 (.Subscript a b pos) (aOp o ta tb):=by
 refine⟨?_⟩
 intro F Γ M σ H Q f0 g m h
 exact(pe_ix ho a0k a0k hs).to (two ha hb f0 g m h fun F2 M2 H2 v u x y s m2 r1 r2 q=>l F2 M2 H2 v u x y Q _ m2 r1 r2 q fun _ _ z=>z.dn s)
def aNil:AA:=fun _ M Q=>Q [] M
def a55(ta:AE)(tr:AA):AA:=fun Γ M Q=>ta Γ M fun x M1=>tr Γ M1 fun xs M2=>Q (x::xs) M2
variable {tt:AA}
theorem a0e:PAA X F0 [] aNil:=⟨fun F Γ M σ H Q _ _ m h=>pa_nil.to ⟨[],F,M,.refl F,m,.nil,h⟩⟩
theorem a0a(ha:PEA X F0 e te)(hr:PAA X F0 es tt)(hs:starEach (e::es) X.env=(false,eval e X.env)::starEach es X.env:=by rfl):PAA X F0 (e::es) (a55 te tt):=by
 refine⟨?_⟩
 intro F Γ M σ H Q f0 g m h
 refine(a1y a0k a1h hs).to ((ha.run F Γ M σ H _ f0 g m h).mono fun v H1 zz9=> ?_)
 obtain⟨x,F1,M1,s1,m1,r1,q1⟩:=zz9
 exact(hr.run F1 Γ M1 σ H1 _ (f0.trans s1) (g.up s1) m1 q1).mono fun vs H2 ⟨xs,F2,M2,s2,m2,r2,q2⟩=>⟨x::xs,F2,M2,s1.trans s2,m2,.cons (r1.up s2) r2,q2⟩
def aTup(t:AA):AE:=fun Γ M Q=>t Γ M fun ds M1=>ds.length<=1000/\Q (.tup ds) M1
def aLst(t:AA):AE:=fun Γ M Q=>t Γ M fun ds M1=>ds.length<=1000/\Q (.lst ds) M1
def b40(t:AA):AE:=fun Γ M Q=>t Γ M fun ds M1=>ds.length<=1000/\ ∀p,M1 p=none->Q (.obj p) (put M1 p (.lst ds))
theorem a62{n:Nat}(h:n<=1000):n<=sizeLine:=Nat.le_of_lt (a3d h)
theorem b2e{x1}(h:PAA X F0 es tt):PEA X F0 (.Tuple es x1 pos) (aTup tt):=by
 refine⟨?_⟩
 intro F Γ M σ H Q f0 g m hw
 refine(pe_tup a1h).to ((h.run F Γ M σ H _ f0 g m hw).mono fun vs H1 zz9=> ?_)
 obtain⟨ds,F1,M1,s1,m1,r1,hl,q1⟩:=zz9
 refine⟨by rw[r1.length];exact a62 hl,fun p hp=>⟨.tup ds,upd F1 p (.tup vs),M1,s1.trans (a05 (m1.fF hp)),m1.frz hp,.tup a0p (r1.up (a05 (m1.fF hp))),q1⟩⟩
theorem a31(h:PAA X F0 es tt):PEA X F0 (.List es pos) (aLst tt):=by
 refine⟨?_⟩
 intro F Γ M σ H Q f0 g m hw
 refine(pe_lst a1h).to ((h.run F Γ M σ H _ f0 g m hw).mono fun vs H1 zz9=> ?_)
 obtain⟨ds,F1,M1,s1,m1,r1,hl,q1⟩:=zz9
 refine⟨by rw[r1.length];exact a62 hl,fun p hp=>⟨.lst ds,upd F1 p (.lst vs),M1,s1.trans (a05 (m1.fF hp)),m1.frz hp,.lst a0p (r1.up (a05 (m1.fF hp))),q1⟩⟩
theorem a9y(h:PAA X F0 es tt):PEA X F0 (.List es pos) (b40 tt):=by
 refine⟨?_⟩
 intro F Γ M σ H Q f0 g m hw
 refine(pe_lst a1h).to ((h.run F Γ M σ H _ f0 g m hw).mono fun vs H1 zz9=> ?_)
 obtain⟨ds,F1,M1,s1,m1,r1,hl,q1⟩:=zz9
 exact⟨by rw[r1.length];exact a62 hl,fun p hp=>⟨.obj p,F1,_,s1,m1.new (o:= .lst ds) hp r1,.obj p,q1 p (m1.fM hp)⟩⟩
def aFz(t:AE):AE:=fun Γ M Q=>t Γ M fun d M'=>match d with | .obj p=>(match M' p with |some (.lst ds)=>Q (.lst ds) (del M' p) |_=>False) |_=>False
theorem paFz(h:PEA X F0 e te):PEA X F0 e (aFz te):=by
 refine⟨?_⟩
 intro F Γ M σ H Q f0 g m hw
 refine(h.run F Γ M σ H _ f0 g m hw).mono fun v H1 zz9=> ?_
 obtain⟨d,F1,M1,s1,m1,r1,q1⟩:=zz9
 cases r1 with
 |obj p=>
   try dsimp only at q1
   split at q1
   . rename_i ds hd
     obtain⟨F2,s2,m2,r2⟩:=m1.freeze hd
     exact⟨_,F2,_,s1.trans s2,m2,r2,q1⟩
   . exact q1.elim
 |_=>exact q1.elim
noncomputable abbrev A1s:=List D->Mem->AK->Prop
def b1g(r:A1s)(t:AA):AE:=fun Γ M Q=>t Γ M fun ds M1=>r ds M1 Q
def LC(K:PySem.W.Frag)(r:List V->Hp->VK->Prop)(a:A1s):Prop:= ∀(F:Hp) (M:Mem) (H:Hp) (xs:List V) (ds:List D) (Q:AK) (R:VK),AM K F M H->RDs K F xs ds->a ds M Q->(∀v H',PQ K F Q v H'->R v H')->r xs H R
variable {p:Pos}{id T:String}{r:List V->Hp->VK->Prop}{o:A1s}
theorem a0r(hc:CallR X (.builtin id) r)(l:LC X.K r o)(hg:Gl X x)(hm:X.mg x=none)(hv:bootBuiltins x=some (.builtin id))(ha:PAA X F0 (e::es) tt)(hn:x≠ "__name__":=by decide)(hdb:(x==("__debug__":Str))=false:=by decide)
   (he:starEach (e::es) X.env=(false,eval e X.env)::starEach es X.env:=by rfl) (hpl:(backTo pos (starEach es X.env)).any (·.1)=false:=by rfl):PEA X F0 (.Call (.Name x p) (e::es) [] pos) (b1g o tt):=by
 refine⟨?_⟩
 intro F Γ M σ H Q f0 g m hw
 exact(a3j hc hg hm hv a1h hn hdb he hpl).to ((ha.run F Γ M σ H _ f0 g m hw).mono fun vs H1 ⟨ds,F1,M1,s1,m1,r1,q1⟩=>l F1 M1 H1 vs ds Q _ m1 r1 q1 fun _ _ z=>z.dn s1)
theorem a2c(hc:CallR X (.type T) r)(l:LC X.K r o)(hg:Gl X x)(hm:X.mg x=none)(hv:bootBuiltins x=some (.type T))(ha:PAA X F0 (e::es) tt)(hn:x≠ "__name__":=by decide)(hdb:(x==("__debug__":Str))=false:=by decide)
   (he:starEach (e::es) X.env=(false,eval e X.env)::starEach es X.env:=by rfl) (hpl:(backTo pos (starEach es X.env)).any (·.1)=false:=by rfl):PEA X F0 (.Call (.Name x p) (e::es) [] pos) (b1g o tt):=by
 refine⟨?_⟩
 intro F Γ M σ H Q f0 g m hw
 exact(a48 hc hg hm hv a1h hn hdb he hpl).to ((ha.run F Γ M σ H _ f0 g m hw).mono fun vs H1 ⟨ds,F1,M1,s1,m1,r1,q1⟩=>l F1 M1 H1 vs ds Q _ m1 r1 q1 fun _ _ z=>z.dn s1)
noncomputable abbrev A1m:=D->List D->Mem->AK->Prop
def LM(K:PySem.W.Frag)(r:V->List V->Hp->VK->Prop)(a:A1m):Prop:= ∀(F:Hp) (M:Mem) (H:Hp) (x:V) (d:D) (xs:List V) (ds:List D) (Q:AK) (R:VK),AM K F M H->RD K F x d->RDs K F xs ds->a d ds M Q->(∀v H',PQ K F Q v H'->R v H')->r x xs H R
noncomputable def a2d(M:Mem):D->String
 | .lst _=>"list" | .scr _=>"list" | .str _=>"str" | .tup _=>"tuple"
 | .obj p=>(match M p with |some (.lst _)=>"list" |some (.dic _)=>"dict" |_=>"")
 |_=>""
def aBM(T:String)(r:A1m)(to:AE)(t:AA):AE:=fun Γ M Q=>to Γ M fun x M1=>a2d M1 x=T/\t Γ M1 fun xs M2=>r x xs M2 Q
end
def both{α β:Type}(a:Option α)(b:Option β)(R:α->β->Prop):Prop:=match a,b with |some x,some y=>R x y |_,_=>False
def opt{α:Type}(a:Option α)(R:α->Prop):Prop:=match a with |some x=>R x |none=>False
theorem b3g{α β:Type}{x:α}{y:β}{R:α->β->Prop}:both (some x) (some y) R=R x y:=rfl
theorem a4o{α:Type}{x:α}{R:α->Prop}:opt (some x) R=R x:=rfl
theorem a57{α β:Type}{a:Option α}{b:Option β}{R:α->β->Prop}(h:both a b R): ∃x y,a=some x/\b=some y/\R x y:=by
 unfold both at h
 split at h
 . exact⟨_,_,rfl,rfl,h⟩
 . exact h.elim
theorem a18{α:Type}{a:Option α}{R:α->Prop}(h:opt a R): ∃x,a=some x/\R x:=by
 unfold opt at h
 split at h
 . exact⟨_,rfl,h⟩
 . exact h.elim
noncomputable def dl(M:Mem):D->Option (List D)
 | .lst ds=>some ds
 | .obj p=>(match M p with |some (.lst ds)=>some ds |_=>none)
 |_=>none
noncomputable def dr(M:Mem):D->Option (List D)
 | .lst ds=>some ds
 | .scr ds=>some ds
 | .obj p=>(match M p with |some (.lst ds)=>some ds |_=>none)
 |_=>none
noncomputable def dq(M:Mem):D->Option (List D)
 | .lst ds=>some ds
 | .scr ds=>some ds
 | .tup ds=>some ds
 | .ctp ds=>some ds
 | .obj p=>(match M p with |some (.lst ds)=>some ds |_=>none)
 |_=>none
noncomputable def dd(M:Mem):D->Option (List (Key×D))
 | .obj p=>(match M p with |some (.dic kvs)=>some kvs |_=>none)
 |_=>none
section
variable {K:PySem.W.Frag}{F:Hp}{M:Mem}{H:Hp}{x:V}{d:D}{ds:List D}
theorem b0h(m:AM K F M H)(r:RD K F x d)(h:dl M d=some ds): ∃p vs,x= .ref p/\H p=some (.lst vs)/\RDs K F vs ds:=by
 cases r<;>first
   | (unfold dl at h;cases h;done)
   |skip
 . rename_i a xs es e r
   cases h
   exact⟨a,xs,rfl,m.sub _ _ e,r⟩
 . rename_i p
   unfold dl at h
   dsimp only at h
   split at h
   . rename_i ds' hd
     cases h
     obtain⟨u,e,r⟩:=m.mem _ _ hd
     obtain⟨vs,rfl,r⟩:=r.isL
     exact⟨p,vs,rfl,e,r⟩
   . cases h
theorem a5o(m:AM K F M H)(r:RD K F x d)(h:dr M d=some ds): ∃p vs,x= .ref p/\SqL K H p vs/\RDs K F vs ds:=by
 cases r<;>first
   | (unfold dr at h;cases h;done)
   |skip
 . rename_i a xs es e r
   cases h
   exact⟨a,xs,rfl,.of (m.sub _ _ e),r⟩
 . rename_i a xs es e r
   cases h
   exact⟨a,xs,rfl,m.sub.seq e,r⟩
 . rename_i p
   unfold dr at h
   dsimp only at h
   split at h
   . rename_i ds' hd
     cases h
     obtain⟨u,e,r⟩:=m.mem _ _ hd
     obtain⟨vs,rfl,r⟩:=r.isL
     exact⟨p,vs,rfl,.of e,r⟩
   . cases h
theorem a8e(m:AM K F M H)(r:RD K F x d)(h:dq M d=some ds): ∃p vs,x= .ref p/\(SqL K H p vs\/SqT K H p vs)/\RDs K F vs ds:=by
 cases r<;>first
   | (unfold dq at h;cases h;done)
   |skip
 . rename_i a xs es e r
   cases h
   exact⟨a,xs,rfl,.inl (.of (m.sub _ _ e)),r⟩
 . rename_i a xs es e r
   cases h
   exact⟨a,xs,rfl,.inl (m.sub.seq e),r⟩
 . rename_i a xs es e r
   cases h
   exact⟨a,xs,rfl,.inr (.of (m.sub _ _ e)),r⟩
 . rename_i a xs es e r
   cases h
   exact⟨a,xs,rfl,.inr (m.sub.seqT e),r⟩
 . rename_i p
   unfold dq at h
   dsimp only at h
   split at h
   . rename_i ds' hd
     cases h
     obtain⟨u,e,r⟩:=m.mem _ _ hd
     obtain⟨vs,rfl,r⟩:=r.isL
     exact⟨p,vs,rfl,.inl (.of e),r⟩
   . cases h
theorem a6j{kvs:List (Key×D)}(m:AM K F M H)(r:RD K F x d)(h:dd M d=some kvs): ∃p ws,x= .ref p/\d= .obj p/\M p=some (.dic kvs)/\H p=some (.dK ws)/\PF K F ws kvs:=by
 cases r<;>first
   | (unfold dd at h;cases h;done)
   |skip
 rename_i p
 unfold dd at h
 dsimp only at h
 split at h
 . rename_i ds' hd
   cases h
   obtain⟨u,e,r⟩:=m.mem _ _ hd
   obtain⟨vs,rfl,r⟩:=r.isD
   exact⟨p,vs,rfl,rfl,hd,e,r⟩
 . cases h
end
noncomputable def addF:D->D->Option D
 | .int i,.int j=>some (.int (i+j))
 | .str s,.str t=>some (.str (s++t))
 |_,_=>none
def addC:D->D->Prop
 | .str s,.str t=>s.length+t.length<=sizeLine
 |_,_=>True
def oAdd:A2:=fun x y M Q=>addC x y/\opt (addF x y) fun d=>Q d M
def rAdds:R2:=fun x y H Q=>rI0 (fun i j=> .int (i+j)) x y H Q\/(∃i j,x= .str i/\y= .str j/\i.length+j.length<=sizeLine/\Q (.str (i++j)) H)
def oCatM:A2:=fun x y M Q=>both (dl M x) (dl M y) fun xs ys=>xs.length+ys.length<=1000/\ ∀p,M p=none->Q (.obj p) (put M p (.lst (xs++ys)))
def oCat:A2:=fun x y M Q=>both (dl M x) (dl M y) fun xs ys=>xs.length+ys.length<=1000/\Q (.lst (xs++ys)) M
def oI(g:Int->Int->D):A2:=fun x y M Q=>match x,y with | .int i,.int j=>Q (g i j) M |_,_=>False
def oIc(C:Int->Int->Prop)(g:Int->Int->D):A2:=fun x y M Q=>match x,y with | .int i,.int j=>C i j/\Q (g i j) M |_,_=>False
section
variable {X:Cx}{K:PySem.W.Frag}
theorem a0f:OpR X (binaryOp .Add) rAdds:=op_add.or b00
theorem lAdd:LO K rAdds oAdd:=by
 intro F M H x y dx dy Q R m rx ry h k
 obtain⟨hc,h⟩:=h
 cases rx<;>cases ry<;>first
   |exact h.elim
   |exact .inl ⟨_,_,rfl,rfl,k _ _ (.here m (.int _) h)⟩
   |exact .inr ⟨_,_,rfl,rfl,hc,k _ _ (.here m (.str _) h)⟩
theorem lCatM:LO K rCat oCatM:=by
 intro F M H x y dx dy Q R m rx ry h k
 obtain⟨xs,ys,h1,h2,hl,q⟩:=a57 h
 obtain⟨p,vs,rfl,e1,r1⟩:=b0h m rx h1
 obtain⟨p',ws,rfl,e2,r2⟩:=b0h m ry h2
 refine⟨p,p',vs,ws,rfl,rfl,e1,e2,by rw[r1.length,r2.length];exact a62 hl,fun l hn=>k _ _ ⟨.obj l,F,_,.refl F,m.new (o:= .lst (xs++ys)) hn (r1.append r2),.obj l,q l (m.fM hn)⟩⟩
theorem lCat:LO K rCat oCat:=by
 intro F M H x y dx dy Q R m rx ry h k
 obtain⟨xs,ys,h1,h2,hl,q⟩:=a57 h
 obtain⟨p,vs,rfl,e1,r1⟩:=b0h m rx h1
 obtain⟨p',ws,rfl,e2,r2⟩:=b0h m ry h2
 refine⟨p,p',vs,ws,rfl,rfl,e1,e2,by rw[r1.length,r2.length];exact a62 hl,fun l hn=>k _ _ ⟨.lst (xs++ys),_,M,a05 (m.fF hn),m.frz hn,.lst a0p ((r1.append r2).up (a05 (m.fF hn))),q⟩⟩
theorem lI{g:Int->Int->V}{g':Int->Int->D}(e: ∀i j F,RD K F (g i j) (g' i j)):LO K (rI0 g) (oI g'):=by
 intro F M H x y dx dy Q R m rx ry h k
 cases rx<;>cases ry<;>first
   |exact h.elim
   |exact⟨_,_,rfl,rfl,k _ _ (.here m (e _ _ F) h)⟩
theorem lIc{C:Int->Int->Prop}{g:Int->Int->V}{g':Int->Int->D}(e: ∀i j F,RD K F (g i j) (g' i j)):LO K (rI C g) (oIc C g'):=by
 intro F M H x y dx dy Q R m rx ry h k
 cases rx<;>cases ry<;>first
   |exact h.elim
   |exact⟨_,_,rfl,rfl,h.1,k _ _ (.here m (e _ _ F) h.2)⟩
abbrev oSub:A2:=oI fun i j=> .int (i- j)
abbrev oMul:A2:=oIc IntMulOk fun i j=> .int (i *j)
abbrev oMod:A2:=oIc (fun _ j=>0<j) fun i j=> .int (i % j)
abbrev oPow:A2:=oIc CPow fun i j=> .int (i^j.toNat)
abbrev oLt:A2:=oI fun i j=> .bl (decide (i<j))
abbrev oGt:A2:=oI fun i j=> .bl (decide (j<i))
abbrev oGe:A2:=oI fun i j=> .bl (decide (j<=i))
abbrev oDiv:A2:=oIc CDiv fun i j=> .int (i/j)
theorem lSub:LO K (rI0 fun i j=> .int (i- j)) oSub:=lI fun _ _ _=> .int _
theorem lMul:LO K (rI IntMulOk fun i j=> .int (i *j)) oMul:=lIc fun _ _ _=> .int _
theorem lMod:LO K (rI (fun _ j=>0<j) fun i j=> .int (i % j)) oMod:=lIc fun _ _ _=> .int _
theorem lPow:LO K (rI CPow fun i j=> .int (i^j.toNat)) oPow:=lIc fun _ _ _=> .int _
theorem lLt:LO K (rI0 fun i j=> .bl (decide (i<j))) oLt:=lI fun _ _ _=> .bl _
theorem lGt:LO K (rI0 fun i j=> .bl (decide (j<i))) oGt:=lI fun _ _ _=> .bl _
theorem lGe:LO K (rI0 fun i j=> .bl (decide (j<=i))) oGe:=lI fun _ _ _=> .bl _
theorem lDiv:LO K (rI CDiv fun i j=> .int (i/j)) oDiv:=lIc fun _ _ _=> .int _
def oNeg:D->Mem->AK->Prop:=fun x M Q=>match x with | .int i=>Q (.int (-i)) M |_=>False
theorem lNeg:LU K (rU fun i=> .int (-i)) oNeg:=by
 intro F M H x dx Q R m rx h k
 cases rx<;>first
   |exact h.elim
   |exact⟨_,rfl,k _ _ (.here m (.int _) h)⟩
mutual
noncomputable def D.py:D->PyData
 | .non=> .none | .bl b=> .bool b | .int i=> .int i | .str x=> .str x
 | .lst ds=> .list (D.pys ds) | .scr ds=> .list (D.pys ds) | .tup ds=> .tuple (D.pys ds) | .ctp ds=> .tuple (D.pys ds) | .obj _=> .none
noncomputable def D.pys:List D->List PyData
 | []=>[]
 |d::ds=>D.py d::D.pys ds
end
mutual
/-- no thing of the store in it -/
noncomputable def D.flat:D->Bool
 | .lst ds=>D.flats ds | .scr ds=>D.flats ds | .tup ds=>D.flats ds | .ctp ds=>D.flats ds | .obj _=>false
 |_=>true
noncomputable def D.flats:List D->Bool
 | []=>true
 |d::ds=>D.flat d&&D.flats ds
end
mutual
theorem RD.rep{F H:Hp}(s:Same F H): ∀{x:V}{d:D},RD K F x d->d.flat=true->Rep K H x d.py
 |_,_,.non,_=>by simp only[D.py];exact .non
 |_,_,.bl b,_=>by simp only[D.py];exact .bl b
 |_,_,.int i,_=>by simp only[D.py];exact .int i
 |_,_,.str x,_=>by simp only[D.py];exact .str x
 |_,_,.lst q rs,h=>by simp only[D.py];exact .lst (.of (s _ _ q)) (RDs.rep s rs (by simpa only[D.flat]using h))
 |_,_,.scr q rs,h=>by simp only[D.py];exact .lst (s.seq q) (RDs.rep s rs (by simpa only[D.flat]using h))
 |_,_,.tup q rs,h=>by simp only[D.py];exact .tup (.of (s _ _ q)) (RDs.rep s rs (by simpa only[D.flat]using h))
 |_,_,.ctp q rs,h=>by simp only[D.py];exact .tup (s.seqT q) (RDs.rep s rs (by simpa only[D.flat]using h))
 |_,_,.obj p,h=>by simp[D.flat]at h
theorem RDs.rep{F H:Hp}(s:Same F H): ∀{xs:List V}{ds:List D},RDs K F xs ds->D.flats ds=true->Reps K H xs (D.pys ds)
 |_,_,.nil,_=>by simp only[D.pys];exact .nil
 |_,_,.cons h t,e=>by
   simp only[D.flats,Bool.and_eq_true]at e
   simp only[D.pys]
   exact .cons (RD.rep s h e.1) (RDs.rep s t e.2)
end
noncomputable def drf(M:Mem):D->D
 | .obj p=>(match M p with |some (.lst ds)=> .lst ds |_=> .obj p)
 |d=>d
theorem a7a{F:Hp}{M:Mem}{H:Hp}{x:V}{d:D}(m:AM K F M H)(r:RD K F x d)(h:(drf M d).flat=true):Rep K H x (drf M d).py:=by
 cases d with
 |obj p=>
   unfold drf at h |-
   dsimp only at h |-
   cases r
   split at h
   . rename_i ds hd
     obtain⟨u,e,r⟩:=m.mem _ _ hd
     obtain⟨vs,rfl,r⟩:=r.isL
     simp only[D.py]
     exact .lst (.of e) (r.rep m.sub (by simpa only[D.flat]using h))
   . simp[D.flat]at h
 |_=>exact r.rep m.sub h
noncomputable def a3u:D->D->Bool
 | .non,.non=>true | .non,.int _=>true | .int _,.non=>true | .non,.bl _=>true | .bl _,.non=>true | .non,.str _=>true | .str _,.non=>true
 | .int _,.int _=>true | .bl _,.bl _=>true | .str _,.str _=>true
 | .int _,.str _=>true | .str _,.int _=>true | .bl _,.str _=>true | .str _,.bl _=>true
 |_,_=>false
noncomputable def eqS:D->D->Bool
 | .non,.non=>true
 | .int a,.int b=>decide (a=b)
 | .bl a,.bl b=>decide (a=b)
 | .str a,.str b=>decide (a=b)
 |_,_=>false
noncomputable def eqD(x y:D):Bool:=PyData.eqv x.py y.py
noncomputable def shD(d:D):Bool:=d.flat&&SeqAt.shaped d.py
noncomputable def eqB(M:Mem)(x y:D):Bool:=if a3u x y=true then eqS x y else eqD (drf M x) (drf M y)
def eqC(M:Mem)(x y:D):Prop:=a3u x y=true\/(shD (drf M x)=true/\shD (drf M y)=true)
def oEq(neg:Bool):A2:=fun x y M Q=>eqC M x y/\Q (.bl (if neg then !eqB M x y else eqB M x y)) M
def rEqs(K:PySem.W.Frag):R2:=fun x y H Q=>rEq x y H Q\/rEqD K false x y H Q
def rNes(K:PySem.W.Frag):R2:=fun x y H Q=>rNe x y H Q\/rEqD K true x y H Q
theorem a1e(hu:X.A.units+64<cLine):OpR X (compareOp .Eq) (rEqs X.K):=op_eq.or (op_eqD hu)
theorem op_nes(hu:X.A.units+64<cLine):OpR X (compareOp .NotEq) (rNes X.K):=op_ne.or (op_neD hu)
theorem b1w{F:Hp}{x y:V}{dx dy:D}(rx:RD K F x dx)(ry:RD K F y dy)(h:a3u dx dy=true):scal x y=true/\decide (x=y)=eqS dx dy:=by
 cases rx<;>cases ry<;>first
   | (simp[a3u]at h;done)
   |exact⟨rfl,by simp[eqS]⟩
theorem lEq:LO K (rEqs K) (oEq false):=by
 intro F M H x y dx dy Q R m rx ry h k
 obtain⟨hc,h⟩:=h
 by_cases hs:a3u dx dy=true
 . obtain⟨h1,h2⟩:=b1w rx ry hs
   refine .inl ⟨h1,k _ _ (.here m (.bl _) ?_)⟩
   rw[h2]
   simpa[eqB,hs]using h
 . rcases hc with hc | ⟨h1,h2⟩
   . exact absurd hc hs
   unfold shD at h1 h2
   simp only[Bool.and_eq_true]at h1 h2
   exact .inr ⟨_,_,a7a m rx h1.1,a7a m ry h2.1,h1.2,h2.2,k _ _ (.here m (.bl _) (by simpa[eqB,hs,eqD]using h))⟩
theorem lNe:LO K (rNes K) (oEq true):=by
 intro F M H x y dx dy Q R m rx ry h k
 obtain⟨hc,h⟩:=h
 by_cases hs:a3u dx dy=true
 . obtain⟨h1,h2⟩:=b1w rx ry hs
   refine .inl ⟨h1,k _ _ (.here m (.bl _) ?_)⟩
   rw[h2]
   simpa[eqB,hs]using h
 . rcases hc with hc | ⟨h1,h2⟩
   . exact absurd hc hs
   unfold shD at h1 h2
   simp only[Bool.and_eq_true]at h1 h2
   exact .inr ⟨_,_,a7a m rx h1.1,a7a m ry h2.1,h1.2,h2.2,k _ _ (.here m (.bl _) (by simpa[eqB,hs,eqD]using h))⟩
noncomputable def b21:D->Bool | .non=>true |_=>false
def oIsN(neg:Bool):A2:=fun x y M Q=>match y with | .non=>Q (.bl (if neg then !b21 x else b21 x)) M |_=>False
theorem non_of{F:Hp}{x:V}{d:D}(r:RD K F x d):decide (x= .non)=b21 d:=by cases r<;>simp[b21]
theorem lIs:LO K (fun x y H Q=>y= .non/\Q (.bl (decide (x= .non))) H) (oIsN false):=by
 intro F M H x y dx dy Q R m rx ry h k
 cases ry<;>first
   |exact h.elim
   |exact⟨rfl,k _ _ (.here m (.bl _) (by rw[non_of rx];simpa[oIsN]using h))⟩
noncomputable def flD:D->Bool | .non=>true | .bl _=>true | .int _=>true | .str _=>true |_=>false
noncomputable def eqF:D->D->Bool
 | .non,.non=>true
 | .bl a,.bl b=>a==b
 | .bl a,.int b=>(if a then 1 else 0)==b
 | .int a,.bl b=>a==(if b then 1 else 0)
 | .int a,.int b=>a==b
 | .str a,.str b=>a==b
 |_,_=>false
noncomputable def inD(x:D)(ds:List D):Bool:=ds.any fun y=>eqF y x
theorem b28{F:Hp}{x:V}{d:D}(r:RD K F x d):a4g x=flD d:=by cases r<;>rfl
theorem a99{F:Hp}: ∀{xs:List V}{ds:List D},RDs K F xs ds->xs.all a4g=ds.all flD
 |_,_,.nil=>rfl
 |_,_,.cons h t=>by simp only[List.all_cons,b28 h,a99 t]
theorem eqF_of{F:Hp}{x y:V}{d e:D}(r:RD K F x d)(q:RD K F y e)(h:flD d=true)(h':flD e=true):eqV x y=eqF d e:=by
 cases r<;>cases q<;>first |rfl | (simp[flD]at h;done) | (simp[flD]at h';done)
theorem inD_of{F:Hp}{x:V}{d:D}(r:RD K F x d)(h:flD d=true): ∀{xs:List V}{ds:List D},RDs K F xs ds->ds.all flD=true->inV x xs=inD d ds
 |_,_,.nil,_=>rfl
 |_,_,.cons q t,e=>by
   simp only[List.all_cons,Bool.and_eq_true]at e
   have ih:=inD_of r h t e.2
   unfold inV inD at ih |-
   rw[List.any_cons,List.any_cons,eqF_of q r e.1 h,ih]
noncomputable def hasS(j i:Str):Bool:= !(Builtin.Str.occurrences j i 0 j.length 1).isEmpty
noncomputable def inB(M:Mem):D->D->Option Bool
 | .str i,.str j=>some (hasS j i)
 |x,y=>(dq M y).bind fun ds=>if(flD x&&ds.all flD)=true then some (inD x ds)else none
def oIn(neg:Bool):A2:=fun x y M Q=>opt (inB M x y) fun b=>Q (.bl (if neg then !b else b)) M
def rIns(K:PySem.W.Frag):R2:=fun x y H Q=>rIn K false x y H Q\/(∃i j,x= .str i/\y= .str j/\Q (.bl (hasS j i)) H)
def b11(K:PySem.W.Frag):R2:=fun x y H Q=>rIn K true x y H Q\/(∃i j,x= .str i/\y= .str j/\Q (.bl (!hasS j i)) H)
theorem a90:OpR X (compareOp .In) (rIns X.K):=op_in_seq.or b2f
theorem a1r:OpR X (compareOp .NotIn) (b11 X.K):=op_notIn_seq.or a7t
theorem lInG{neg:Bool}{r:R2}(hs: ∀i j H R,R (.bl (if neg then !hasS j i else hasS j i)) H->r (.str i) (.str j) H R)(hq: ∀x p vs H R,(SqL K H p vs\/SqT K H p vs)->a4g x=true->vs.all a4g=true->R (.bl (if neg then !inV x vs else inV x vs)) H->r x (.ref p) H R):LO K r (oIn neg):=by
 intro F M H x y dx dy Q R m rx ry h k
 obtain⟨b,hb,h⟩:=a18 h
 unfold inB at hb
 split at hb
 . cases rx;cases ry;cases hb
   exact hs _ _ _ _ (k _ _ (.here m (.bl _) h))
 . cases hd:dq M dy with
   |none=>rw[hd]at hb;cases hb
   |some ds=>
     rw[hd]at hb
     simp only[Option.bind_some]at hb
     split at hb
     . rename_i hf
       cases hb
       simp only[Bool.and_eq_true]at hf
       obtain⟨p,vs,rfl,e,r'⟩:=a8e m ry hd
       refine hq _ _ _ _ _ e (by rw[b28 rx];exact hf.1) (by rw[a99 r'];exact hf.2) ?_
       rw[inD_of rx hf.1 r' hf.2]
       exact k _ _ (.here m (.bl _) h)
     . cases hb
theorem lIn:LO K (rIns K) (oIn false):=lInG (fun i j H R h=> .inr ⟨i,j,rfl,rfl,by simpa using h⟩) fun x p vs H R e h1 h2 h=> .inl ⟨p,vs,rfl,e,h1,h2,by simpa using h⟩
theorem a5j:LO K (b11 K) (oIn true):=lInG (fun i j H R h=> .inr ⟨i,j,rfl,rfl,by simpa using h⟩) fun x p vs H R e h1 h2 h=> .inl ⟨p,vs,rfl,e,h1,h2,by simpa using h⟩
theorem RDs.atI{F:Hp}{xs:List V}{ds:List D}{i:Int}{d:D}(r:RDs K F xs ds)(h:L2.atI ds i=some d): ∃x,L2.atI xs i=some x/\RD K F x d:=by
 unfold L2.atI at h |-
 rw[r.length]
 cases q:ixN ds.length i with
 |none=>rw[q]at h;cases h
 |some j=>
   rw[q]at h
   exact r.get h
noncomputable def ixF(M:Mem):D->D->Option D
 | .str z,.int i=>(atI z.cps.toList i).map fun c=> .str ⟨#[c]⟩
 |x,.int i=>(dq M x).bind fun ds=>atI ds i
 |_,_=>none
def ixC:D->D->Prop
 | .str z,.int _=>z.length<=sizeLine
 |_,_=>True
def oIx:A2:=fun x y M Q=>ixC x y/\opt (ixF M x y) fun d=>Q d M
theorem lIx:LO K (rIx K) oIx:=by
 intro F M H x y dx dy Q R m rx ry h k
 obtain⟨hc,h⟩:=h
 obtain⟨d,hd,hz⟩:=a18 h
 unfold ixF at hd
 split at hd
 . rename_i z i
   cases rx;cases ry
   cases ha:atI z.cps.toList i with
   |none=>rw[ha]at hd;cases hd
   |some c=>
     rw[ha]at hd
     cases hd
     exact .inr (.inr ⟨_,_,c,rfl,rfl,hc,ha,k _ _ (.here m (.str _) hz)⟩)
 . rename_i i _
   cases hq:dq M dx with
   |none=>rw[hq]at hd;cases hd
   |some ds=>
     rw[hq]at hd
     have hd:atI ds i=some d:=hd
     obtain⟨p,vs,rfl,e,r⟩:=a8e m rx hq
     obtain⟨v,hv,rv⟩:=r.atI hd
     cases ry
     rcases e with e |e
     . exact .inl ⟨p,vs,_,v,rfl,rfl,e,hv,k _ _ (.here m rv hz)⟩
     . exact .inr (.inl ⟨p,vs,_,v,rfl,rfl,e,hv,k _ _ (.here m rv hz)⟩)
 . cases hd
end
noncomputable abbrev AO:=G->Mem->(Option Int->Mem->Prop)->Prop
noncomputable def selfO(X:Cx)(e:Option Expr):TO:=fun σ H Q=> ∀pins s,Inv X pins σ H s->wpAny (model X.prog X.w) X.A (evalPart e X.env) (fun u s'=> ∃o H',Inv X pins σ H' s'/\IsPart u o/\Q o H') X.xe s
theorem b16{X:Cx}{e:Option Expr}:PO X e (selfO X e):=fun pins s _ _ _ I h=>h pins s I
theorem PO.to{X:Cx}{e:Option Expr}{σ:St}{H:Hp}{t:TO}{Q:Option Int->Hp->Prop}(h:PO X e t)(hw:t σ H Q):selfO X e σ H Q:=fun pins s I=>h pins s σ H Q I hw
theorem selfO.mono{X:Cx}{e:Option Expr}{σ:St}{H:Hp}{Q Q':Option Int->Hp->Prop}(h:selfO X e σ H Q)(k: ∀v H',Q v H'->Q' v H'):selfO X e σ H Q':=fun pins s I=>thn (h pins s I) fun _ _ ⟨o,H',J,r,q⟩=>⟨o,H',J,r,k o H' q⟩
def PQo(K:PySem.W.Frag)(F:Hp)(Q:Option Int->Mem->Prop):Option Int->Hp->Prop:=fun o H'=> ∃F' M',Same F F'/\AM K F' M' H'/\Q o M'
structure POA(X:Cx)(F0:Hp)(e:Option Expr)(t:AO):Prop where
 run: ∀F Γ M σ H Q,Same F0 F->AG X.K F Γ σ->AM X.K F M H->t Γ M Q->selfO X e σ H (PQo X.K F Q)
noncomputable def aNoPart:AO:=fun _ M Q=>Q none M
noncomputable def aPart(t:AE):AO:=fun Γ M Q=>t Γ M fun d M1=>match d with | .int i=>Q (some i) M1 |_=>False
def aSl(r:D->Option Int->Option Int->Mem->AK->Prop)(te:AE)(tl th:AO):AE:=fun Γ M Q=>te Γ M fun x M1=>tl Γ M1 fun l M2=>th Γ M2 fun u M3=>r x l u M3 Q
def LS(K:PySem.W.Frag)(r:V->Option Int->Option Int->Hp->VK->Prop)(a:D->Option Int->Option Int->Mem->AK->Prop):Prop:=
 ∀(F:Hp) (M:Mem) (H:Hp) (x:V) (d:D) (lo hi:Option Int) (Q:AK) (R:VK),AM K F M H->RD K F x d->a d lo hi M Q->(∀v H',PQ K F Q v H'->R v H')->r x lo hi H R
noncomputable def cut(ds:List D)(lo hi:Option Int):List D:=(ds.drop (HT.sIx ds.length 0 lo)).take (HT.sIx ds.length ds.length hi- HT.sIx ds.length 0 lo)
noncomputable def slF(M:Mem)(lo hi:Option Int):D->Option D
 | .str z=>some (.str (Txt.slice z lo hi))
 |x=>(dr M x).map fun ds=> .lst (cut ds lo hi)
def slC:D->Prop
 | .str z=>z.length<=sizeLine
 |_=>True
def oSl:D->Option Int->Option Int->Mem->AK->Prop:=fun x lo hi M Q=>slC x/\opt (slF M lo hi x) fun d=>Q d M
def oSlM:D->Option Int->Option Int->Mem->AK->Prop:=fun x lo hi M Q=>(match dr M x with |some ds=> ∀p,M p=none->Q (.obj p) (put M p (.lst (cut ds lo hi))) |none=>False)
def rSls(K:PySem.W.Frag):V->Option Int->Option Int->Hp->VK->Prop:=fun x lo hi H Q=>rSlS x lo hi H Q\/rSlL K x lo hi H Q
section
variable {X:Cx}{F0:Hp}{e:Expr}{pos p2:Pos}{te:AE}{lo hi:Option Expr}{tl th:AO}{K:PySem.W.Frag}
theorem poN:POA X F0 none aNoPart:=⟨fun F Γ M σ H Q _ _ m h=>po_none.to ⟨F,M,.refl F,m,h⟩⟩
theorem poS(h:PEA X F0 e te):POA X F0 (some e) (aPart te):=by
 refine⟨?_⟩
 intro F Γ M σ H Q f0 g m hw
 refine(po_some a0k).to ((h.run F Γ M σ H _ f0 g m hw).mono fun v H1 zz9=> ?_)
 obtain⟨d,F1,M1,s1,m1,r1,q1⟩:=zz9
 cases r1<;>first
   |exact q1.elim
   |exact⟨_,rfl,F1,M1,s1,m1,q1⟩
theorem paSl{r:V->Option Int->Option Int->Hp->VK->Prop}{o:D->Option Int->Option Int->Mem->AK->Prop}(hr:SlR X r)(l:LS X.K r o)(he:PEA X F0 e te)(hl:POA X F0 lo tl)(hh:POA X F0 hi th):
   PEA X F0 (.Subscript e (.Slice lo hi none p2) pos) (aSl o te tl th):=by
 refine⟨?_⟩
 intro F Γ M σ H Q f0 g m hw
 refine(b3z hr a0k b16 b16).to ((he.run F Γ M σ H _ f0 g m hw).mono fun v H1 zz9=> ?_)
 obtain⟨d,F1,M1,s1,m1,r1,q1⟩:=zz9
 refine(hl.run F1 Γ M1 σ H1 _ (f0.trans s1) (g.up s1) m1 q1).mono fun l1 H2 zz9=> ?_
 obtain⟨F2,M2,s2,m2,q2⟩:=zz9
 refine(hh.run F2 Γ M2 σ H2 _ (f0.trans (s1.trans s2)) (g.up (s1.trans s2)) m2 q2).mono fun u1 H3 zz9=> ?_
 obtain⟨F3,M3,s3,m3,q3⟩:=zz9
 exact l F3 M3 H3 v d l1 u1 Q _ m3 (r1.up (s2.trans s3)) q3 fun _ _ z=>z.dn (s1.trans (s2.trans s3))
theorem cut_rep{F:Hp}{vs:List V}{ds:List D}(r:RDs K F vs ds)(lo hi:Option Int):RDs K F (cutV vs lo hi) (cut ds lo hi):=by
 unfold cutV cut
 rw[r.length]
 exact(r.drop _).take _
theorem a2w:SlR X (rSls X.K):=sl_str.or sl_list
theorem lSl:LS K (rSls K) oSl:=by
 intro F M H x d lo hi Q R m rx h k
 obtain⟨hc,h⟩:=h
 obtain⟨d',hd,hz⟩:=a18 h
 unfold slF at hd
 split at hd
 . cases rx;cases hd
   exact .inl ⟨_,rfl,hc,k _ _ (.here m (.str _) hz)⟩
 . cases hq:dr M d with
   |none=>rw[hq]at hd;cases hd
   |some ds=>
     rw[hq]at hd
     cases hd
     obtain⟨p,vs,rfl,e,r⟩:=a5o m rx hq
     exact .inr ⟨p,vs,rfl,e,fun l hn=>k _ _ ⟨_,_,M,a05 (m.fF hn),m.frz hn,.lst a0p ((cut_rep r lo hi).up (a05 (m.fF hn))),hz⟩⟩
end
section
variable {X:Cx}{K:PySem.W.Frag}
noncomputable def lenF(M:Mem):D->Option Nat
 | .str z=>some z.length
 |d=>(match dd M d with |some kvs=>some kvs.length |none=>(dq M d).map List.length)
def lenC:D->Prop
 | .str z=>z.length<=sizeLine
 |_=>True
noncomputable def oLen:A1s:=fun ds M Q=>match ds with
 | [d]=>lenC d/\opt (lenF M d) fun n=>Q (.int n) M
 |_=>False
def rLens(K:PySem.W.Frag):List V->Hp->VK->Prop:=fun xs H Q=>(∃x n,xs=[x]/\LenV K x H n/\Q (.int n) H)\/(∃a kvs,xs=[V.ref a]/\H a=some (.dK kvs)/\Q (.int kvs.length) H)
theorem a0j:CallR X (.builtin "len") (rLens X.K):=call_len.or b3f
theorem PF.length{κ:Type}{F:Hp}{a:List (κ×V)}{b:List (κ×D)}(h:PF K F a b):a.length=b.length:=Paired.length h
theorem lLen:LC K (rLens K) oLen:=by
 intro F M H xs ds Q R m r h k
 unfold oLen at h
 split at h
 . rename_i d
   obtain⟨x,rfl,rx⟩:=r.one'
   obtain⟨hc,h⟩:=h
   obtain⟨n,hn,hz⟩:=a18 h
   unfold lenF at hn
   split at hn
   . cases rx;cases hn
     exact .inl ⟨_,_,rfl,⟨hc,rfl⟩,k _ _ (.here m (.int _) hz)⟩
   . split at hn
     . rename_i kvs hd
       cases hn
       obtain⟨p,ws,rfl,rfl,_,e,pf⟩:=a6j m rx hd
       exact .inr ⟨p,ws,rfl,e,k _ _ (.here m (.int _) (by rw[pf.length];exact hz))⟩
     . cases hq:dq M d with
       |none=>rw[hq]at hn;cases hn
       |some ds=>
         rw[hq]at hn
         cases hn
         obtain⟨p,vs,rfl,e,r⟩:=a8e m rx hq
         refine .inl ⟨_,vs.length,rfl,?_,k _ _ (.here m (.int _) (by rw[r.length];exact hz))⟩
         rcases e with e |e
         . exact .inl ⟨vs,e,rfl⟩
         . exact .inr ⟨vs,e,rfl⟩
 . exact h.elim
noncomputable def oList:A1s:=fun ds M Q=>match ds with | [d]=>(match dq M d with |some xs=>Q (.lst xs) M |none=>False) |_=>False
noncomputable def oListM:A1s:=fun ds M Q=>match ds with | [d]=>(match dq M d with |some xs=> ∀p,M p=none->Q (.obj p) (put M p (.lst xs)) |none=>False) |_=>False
theorem lList:LC K (fun xs H Q=> ∃p ys,xs=[.ref p]/\(SqL K H p ys\/SqT K H p ys)/\ ∀l,H l=none->Q (.ref l) (upd H l (.lst ys))) oList:=by
 intro F M H xs ds Q R m r h k
 unfold oList at h
 split at h
 . obtain⟨x,rfl,rx⟩:=r.one'
   split at h
   . rename_i ds hd
     obtain⟨p,vs,rfl,e,r⟩:=a8e m rx hd
     exact⟨p,vs,rfl,e,fun l hn=>k _ _ ⟨_,_,M,a05 (m.fF hn),m.frz hn,.lst a0p (r.up (a05 (m.fF hn))),h⟩⟩
   . exact h.elim
 . exact h.elim
theorem lListM:LC K (fun xs H Q=> ∃p ys,xs=[.ref p]/\(SqL K H p ys\/SqT K H p ys)/\ ∀l,H l=none->Q (.ref l) (upd H l (.lst ys))) oListM:=by
 intro F M H xs ds Q R m r h k
 unfold oListM at h
 split at h
 . obtain⟨x,rfl,rx⟩:=r.one'
   split at h
   . rename_i ds hd
     obtain⟨p,vs,rfl,e,r⟩:=a8e m rx hd
     exact⟨p,vs,rfl,e,fun l hn=>k _ _ ⟨.obj l,F,_,.refl F,m.new (o:= .lst ds) hn r,.obj l,h l (m.fM hn)⟩⟩
   . exact h.elim
 . exact h.elim
end
section
variable {X:Cx}{F0:Hp}{e o:Expr}{es:List Expr}{apos cpos:Pos}{to:AE}{tt:AA}{K:PySem.W.Frag}{T id:String}{name:Str}{r:V->List V->Hp->VK->Prop}{q:A1m}
theorem b4i{F:Hp}{M:Mem}{H:Hp}{x:V}{d:D}(m:AM K F M H)(rx:RD K F x d)(h:a2d M d=T)(hT:T="list"\/T="dict"\/T="str"):tyV K T x H:=by
 cases rx<;>(unfold a2d at h;dsimp only at h)<;>first
   | (subst h;exact absurd hT (by decide))
   | (subst h;rfl)
   |skip
 . rename_i a xs ds e r
   subst h;exact .inl ⟨rfl,xs,.of (m.sub _ _ e)⟩
 . rename_i a xs ds e r
   subst h;exact .inl ⟨rfl,xs,m.sub.seq e⟩
 . rename_i p
   split at h
   . rename_i ds hd
     subst h
     obtain⟨u,e,r⟩:=m.mem _ _ hd
     obtain⟨vs,rfl,r⟩:=r.isL
     exact .inl ⟨rfl,vs,.of e⟩
   . rename_i ds hd
     subst h
     obtain⟨u,e,r⟩:=m.mem _ _ hd
     obtain⟨vs,rfl,r⟩:=r.isD
     exact .inr (.inr (.inl ⟨rfl,.inl ⟨vs,e⟩⟩))
   . subst h;exact absurd hT (by decide)
theorem paBM(pa:PlainAttrs T)(slot:Slot T name id)(hty:typeOf (.builtin id)=pure (.type "method_descriptor"))(hm:MtR X id r)(l:LM X.K r q)(ho:PEA X F0 o to)(ha:PAA X F0 (e::es) tt)(hT:T="list"\/T="dict"\/T="str":=by decide)
   (hbase:attributeBase o name X.env (eval o X.env)=eval o X.env:=by rfl)
   (hfew:((backTo cpos (starEach (e::es) X.env)).all (fun x=> !x.1)&&(backToKw cpos (keywordEach [] X.env)).all (fun x=>x.1.isSome)
     &&decide ((e::es).length+([]:List Keyword).length+(if([]:List Keyword).isEmpty then 0 else 1)<30))=true:=by rfl)
   (hline:(apos.endLine==cpos.line)=true:=by rfl) (hs:starEach (e::es) X.env=(false,eval e X.env)::starEach es X.env:=by rfl) (hplain:(backTo cpos (starEach es X.env)).any (·.1)=false:=by rfl):
   PEA X F0 (.Call (.Attribute o name apos) (e::es) [] cpos) (aBM T q to tt):=by
 refine⟨?_⟩
 intro F Γ M σ H Q f0 g m hw
 refine(pe_bm pa slot hty hm a0k a1h hbase hfew hline hs hplain).to ((ho.run F Γ M σ H _ f0 g m hw).mono fun v H1 ⟨d,F1,M1,s1,m1,r1,hk,q1⟩=>⟨b4i m1 r1 hk hT,?_⟩)
 refine(ha.run F1 Γ M1 σ H1 _ (f0.trans s1) (g.up s1) m1 q1).mono fun vs H2 zz9=> ?_
 obtain⟨ds,F2,M2,s2,m2,r2,q2⟩:=zz9
 exact l F2 M2 H2 v d vs ds Q _ m2 (r1.up s2) r2 q2 fun _ _ z=>z.dn (s1.trans s2)
theorem b2i{F:Hp}{M:Mem}{H:Hp}{p:Addr}{ds:List D}(m:AM K F M H)(h:M p=some (.lst ds)): ∃vs,H p=some (.lst vs)/\RDs K F vs ds:=by
 obtain⟨u,e,r⟩:=m.mem _ _ h
 obtain⟨vs,rfl,r⟩:=r.isL
 exact⟨vs,e,r⟩
def oAppend:A1m:=fun x vs M Q=>match x,vs with
 | .obj p,[y]=>(match M p with |some (.lst ds)=>ds.length<1000/\Q .non (put M p (.lst (ds++[y]))) |_=>False)
 |_,_=>False
theorem a1z:LM K rAppend oAppend:=by
 intro F M H x d xs ds Q R m rx r h k
 unfold oAppend at h
 split at h
 . cases rx
   rename_i p y
   split at h
   . rename_i es hd
     obtain⟨vs,e,rr⟩:=b2i m hd
     obtain⟨w,rfl,rw'⟩:=r.one'
     exact⟨p,vs,w,rfl,rfl,e,by rw[rr.length];exact a3d (Nat.le_of_lt h.1),k _ _ (.here (m.set hd (u:= .lst (vs++[w])) (o':= .lst (es++[y])) (rr.append (.cons rw' .nil))) .non h.2)⟩
   . exact h.elim
 . exact h.elim
end
noncomputable abbrev AX:=G->Mem->Value->Prop
def b06(K:PySem.W.Frag)(F0:Hp)(R:AX):RX:=fun σ H cls _=> ∃F Γ M,Same F0 F/\AG K F Γ σ/\AM K F M H/\R Γ M cls
theorem XS.imp{X:Cx}{R R':RX}(h: ∀σ H cls a,R σ H cls a->R' σ H cls a){e:Value}{s':Shared}(x:XS X R e s'):XS X R' e s':=by
 obtain⟨a,σ,H,B,cls,a0,m,e1,I,ex,r⟩:=x
 exact⟨a,σ,H,B,cls,a0,m,e1,I,ex,h _ _ _ _ r⟩
theorem Thr.imp{X:Cx}{R R':RX}(T:Thr X R')(h: ∀σ H cls a,R σ H cls a->R' σ H cls a):Thr X R:=fun e s' x=>T e s' (x.imp h)
structure Cat(X:Cx)(F0:Hp)(R:AX):Prop where
 thr:Thr X (b06 X.K F0 R)
 pl:Plain X
 calm:X.calm=true
 pass:X.A.frames=some X.stack->PassesOwn (model X.prog X.w) X.A X.env X.xe
 un:X.A.units+64<cLine
theorem un64{X:Cx}{F0:Hp}{R:AX}(c:Cat X F0 R):X.A.units+64<cLine:=c.un
theorem un1{X:Cx}{F0:Hp}{R:AX}(c:Cat X F0 R):X.A.units+1<cLine:=Nat.lt_of_le_of_lt (Nat.add_le_add_left (by decide:1<=64) _) c.un
noncomputable abbrev SpA:=List D->Mem->AK->(Value->Mem->Prop)->Prop
noncomputable def a0m(K:PySem.W.Frag)(sa:SpA):Sp:=fun vs H Q E=> ∃F ds M Qa Ea,AM K F M H/\RDs K F vs ds/\sa ds M Qa Ea/\(∀v H',PQ K F Qa v H'->Q v H')/\ ∀cls H',(∃F' M',Same F F'/\AM K F' M' H'/\Ea cls M')->E cls none H'
def Rt(Q:AK):AK:=fun d M=>(∃M',Sub M' M/\Q d M')\/ ∃p ds M',d= .obj p/\M p=some (.lst ds)/\Sub M' (del M p)/\Q (.lst ds) M'
theorem Rt.now{Q:AK}{d:D}{M:Mem}(h:Q d M):Rt Q d M:= .inl ⟨M,.refl M,h⟩
theorem Rt.sub{Q:AK}{d:D}{M M':Mem}(s:Sub M' M)(h:Q d M'):Rt Q d M:= .inl ⟨M',s,h⟩
theorem Sub.del{M:Mem}{p:Addr}{o:MO}(h:M p=none):Sub M (del (L2.put M p o) p):=by rw[a3a h];exact .refl M
theorem Rt.fz{Q:AK}{p:Addr}{M:Mem}{ds:List D}(hp:M p=none)(h:Q (.lst ds) M):Rt Q (.obj p) (put M p (.lst ds)):= .inr ⟨p,ds,M,rfl,a0d,.del hp,h⟩
theorem PQ.rt{K:PySem.W.Frag}{F:Hp}{Q:AK}{v:V}{H:Hp}(h:PQ K F (Rt Q) v H):PQ K F Q v H:=by
 obtain⟨d,F',M',s,m,r,q⟩:=h
 rcases q with⟨M2,hs,q⟩ | ⟨p,ds,M2,rfl,hp,hs,q⟩
 . exact⟨d,F',M2,s,m.less hs,r,q⟩
 . obtain⟨F2,s2,m2,r2⟩:=m.freeze hp
   cases r
   exact⟨_,F2,M2,s.trans s2,m2.less hs,r2,q⟩
section
variable {X:Cx}{F0:Hp}{R:AX}{k:Nat}{x:Str}{ps:List Str}{sa:SpA}{p pos apos:Pos}{e o:Expr}{es:List Expr}{tt:AA}{to:AE}{C:Addr}{m:Str}
def aFun(sa:SpA)(R:AX)(t:AA):AE:=fun Γ M Q=>t Γ M fun ds M1=>sa ds M1 Q fun cls M'=>R Γ M' cls
theorem a1d(h:Has X.prog X.w X.K X.mg X.base (CXE X.prog X.w) k x ps (a0m X.K sa))(hr:Room k X.A)(hg:Gl X x)(c:Cat X F0 R)(ha:PAA X F0 (e::es) tt)
   (hdb:(x==("__debug__":Str))=false:=by decide) (he:starEach (e::es) X.env=(false,eval e X.env)::starEach es X.env:=by rfl) (hpl:(backTo pos (starEach es X.env)).any (·.1)=false:=by rfl):
   PEA X F0 (.Call (.Name x p) (e::es) [] pos) (aFun sa R tt):=by
 refine⟨?_⟩
 intro F Γ M σ H Q f0 g mm hw
 refine(b33 h hr hg c.thr c.pl a1h hdb he hpl).to ((ha.run F Γ M σ H _ f0 g mm hw).mono fun vs H1 zz9=> ?_)
 obtain⟨ds,F1,M1,s1,m1,r1,q1⟩:=zz9
 exact⟨F1,ds,M1,_,_,m1,r1,q1,fun v H' z=>z.dn s1,fun cls H' ⟨F',M',s',m',q'⟩ a=>⟨F',Γ,M',f0.trans (s1.trans s'),g.up (s1.trans s'),m',q'⟩⟩
def a9c(o:Option MO)(C:Addr)(R:List (Str×D)->Prop):Prop:=match o with |some (.ins C' fs)=>C'=C/\R fs |_=>False
theorem a16{C:Addr}{fs:List (Str×D)}{R:List (Str×D)->Prop}:a9c (some (.ins C fs)) C R=R fs:=by
 unfold a9c;simp
theorem a96{o:Option MO}{C:Addr}{R:List (Str×D)->Prop}(h:a9c o C R): ∃fs,o=some (.ins C fs)/\R fs:=by
 unfold a9c at h
 split at h
 . obtain⟨rfl,h⟩:=h;exact⟨_,rfl,h⟩
 . exact h.elim
def b3i(C:Addr)(m:Str)(sa:SpA)(R:AX)(to:AE)(t:AA):AE:=fun Γ M Q=>to Γ M fun x M1=>match x with
 | .obj p=>a9c (M1 p) C fun fs=>fs.lookup m=none/\t Γ M1 fun ds M2=>sa (.obj p::ds) M2 Q fun cls M'=>R Γ M' cls
 |_=>False
theorem PF.lookup{K:PySem.W.Frag}{F:Hp}{f:Str}: ∀{a:List (Str×V)}{b:List (Str×D)},PF K F a b->(b.lookup f=none->a.lookup f=none)/\ ∀d,b.lookup f=some d-> ∃v,a.lookup f=some v/\RD K F v d
 |_,_,.nil=>⟨fun _=>rfl,fun d h=>by cases h⟩
 | (n,v)::a,(n',d)::b,.cons ⟨h1,h2⟩ t=>by
   dsimp only at h1 h2
   subst h1
   simp only[List.lookup_cons]
   split
   . refine⟨fun h=> ?_,fun d' h=> ?_⟩
     . cases h
     . cases h;exact⟨_,rfl,h2⟩
   . exact PF.lookup t
theorem b2a{pl:Sem Bool}{sp:Sp}{R:RX}{ta:TE}(h:HasM X.prog X.w X.K X.mg X.base (CXE X.prog X.w) k C m ps sp)(hr:Room k X.A)(T:Thr X R)(Pl:Plain X)(ho:PE X o ta)
   (ht:eval (.Call (.Attribute o m apos) [] [] pos) X.env=(do
     let ov <-eval o X.env
     standAt apos.atName
     let (f,first) <-holding [ov] (getMethod ov m pl)
     callWith pos f first (backTo pos (starEach [] X.env)) (backToKw pos (keywordEach [] X.env))):=by rfl):
   PE X (.Call (.Attribute o m apos) [] [] pos) (tMethX C m sp R ta tNil):=by
 intro pins s σ H Q I hw
 obtain⟨f,fd,F,hm,hb⟩:=h.ex
 refine PySem.W.methodCall_KW (pl:=pl) (thn (ho pins s σ H _ I hw) fun u s1 ⟨x,H1,I1,rx,a,dx,fs,ex,ea,l,q⟩=> ?_) ht
 subst ex
 obtain rfl:u=Value.ref a:=rx
 refine a6h I1 ea h.cl hm l ?_
 exact PySem.W.callWith_K0 (first:=[.ref a]) I1.kIn hm.kp (a8w (us:=[.ref a]) (vs:=[.ref a]) F hr hb T Pl I1 (.cons rfl .nil) q)
theorem a9x{pl:Sem Bool}(h:HasM X.prog X.w X.K X.mg X.base (CXE X.prog X.w) k C m ps (a0m X.K sa))(hr:Room k X.A)(c:Cat X F0 R)(ho:PEA X F0 o to)(ha:PAA X F0 (e::es) tt)
   (hst:starEach (e::es) X.env=(false,eval e X.env)::starEach es X.env:=by rfl) (hpl:(backTo pos (starEach es X.env)).any (·.1)=false:=by rfl)
   (ht:eval (.Call (.Attribute o m apos) (e::es) [] pos) X.env=(do
     let ov <-eval o X.env
     standAt apos.atName
     let (f,first) <-holding [ov] (getMethod ov m pl)
     callWith pos f first (backTo pos (starEach (e::es) X.env)) (backToKw pos (keywordEach [] X.env))):=by rfl):
   PEA X F0 (.Call (.Attribute o m apos) (e::es) [] pos) (b3i C m sa R to tt):=by
 refine⟨?_⟩
 intro F Γ M σ H Q f0 g mm hw
 refine(b30 h hr c.thr c.pl a0k a1h hst hpl ht).to ((ho.run F Γ M σ H _ f0 g mm hw).mono fun v H1 zz9=> ?_)
 obtain⟨d,F1,M1,s1,m1,r1,q1⟩:=zz9
 obtain⟨pp,rfl,rfl⟩: ∃pp,v= .ref pp/\d= .obj pp:=by cases r1<;>first |exact q1.elim |exact⟨_,rfl,rfl⟩
 obtain⟨fs,hp,hl,q1⟩:=a96 q1
 obtain⟨u,e1,ro⟩:=m1.mem _ _ hp
 obtain⟨dx,ws,rfl,pf⟩:=ro.isI
 refine⟨pp,dx,ws,rfl,e1,pf.lookup.1 hl,?_⟩
 refine(ha.run F1 Γ M1 σ H1 _ (f0.trans s1) (g.up s1) m1 q1).mono fun vs H2 zz9=> ?_
 obtain⟨ds,F2,M2,s2,m2,r2,q2⟩:=zz9
 exact⟨F2,.obj pp::ds,M2,_,_,m2,.cons (.obj pp) r2,q2,fun v H' z=>z.dn (s1.trans s2),fun cls H' ⟨F',M',s',m',q'⟩ a=>⟨F',Γ,M',f0.trans (s1.trans (s2.trans s')),g.up (s1.trans (s2.trans s')),m',q'⟩⟩
theorem a30{pl:Sem Bool}(h:HasM X.prog X.w X.K X.mg X.base (CXE X.prog X.w) k C m ps (a0m X.K sa))(hr:Room k X.A)(c:Cat X F0 R)(ho:PEA X F0 o to)
   (ht:eval (.Call (.Attribute o m apos) [] [] pos) X.env=(do
     let ov <-eval o X.env
     standAt apos.atName
     let (f,first) <-holding [ov] (getMethod ov m pl)
     callWith pos f first (backTo pos (starEach [] X.env)) (backToKw pos (keywordEach [] X.env))):=by rfl):
   PEA X F0 (.Call (.Attribute o m apos) [] [] pos) (b3i C m sa R to aNil):=by
 refine⟨?_⟩
 intro F Γ M σ H Q f0 g mm hw
 refine(b2a h hr c.thr c.pl a0k ht).to ((ho.run F Γ M σ H _ f0 g mm hw).mono fun v H1 zz9=> ?_)
 obtain⟨d,F1,M1,s1,m1,r1,q1⟩:=zz9
 obtain⟨pp,rfl,rfl⟩: ∃pp,v= .ref pp/\d= .obj pp:=by cases r1<;>first |exact q1.elim |exact⟨_,rfl,rfl⟩
 obtain⟨fs,hp,hl,q1⟩:=a96 q1
 obtain⟨u,e1,ro⟩:=m1.mem _ _ hp
 obtain⟨dx,ws,rfl,pf⟩:=ro.isI
 refine⟨pp,dx,ws,rfl,e1,pf.lookup.1 hl,?_⟩
 exact⟨F1,[.obj pp],M1,_,_,m1,.cons (.obj pp) .nil,q1,fun v H' z=>z.dn s1,fun cls H' ⟨F',M',s',m',q'⟩ a=>⟨F',Γ,M',f0.trans (s1.trans s'),g.up (s1.trans s'),m',q'⟩⟩
structure Pln(K:PySem.W.Frag)(C:Addr)(f:Str):Prop where
 cl:Cls K C
 no:NoAttr K C f
def aFldC(C:Addr)(f:Str)(to:AE):AE:=fun Γ M Q=>to Γ M fun x M1=>match x with
 | .obj p=>a9c (M1 p) C fun fs=>opt (fs.lookup f) fun d=>Q d M1
 |_=>False
theorem a4e{f:Str}(P:Pln X.K C f)(ho:PEA X F0 e to)(hb:attributeBase e f X.env (eval e X.env)=eval e X.env):PEA X F0 (.Attribute e f pos) (aFldC C f to):=by
 refine⟨?_⟩
 intro F Γ M σ H Q f0 g mm hw
 refine(pe_fld a0k hb).to ((ho.run F Γ M σ H _ f0 g mm hw).mono fun v H1 zz9=> ?_)
 obtain⟨d,F1,M1,s1,m1,r1,q1⟩:=zz9
 obtain⟨pp,rfl,rfl⟩: ∃pp,v= .ref pp/\d= .obj pp:=by cases r1<;>first |exact q1.elim |exact⟨_,rfl,rfl⟩
 obtain⟨fs,hp,q1⟩:=a96 q1
 obtain⟨d,hl,q⟩:=a18 q1
 obtain⟨u,e1,ro⟩:=m1.mem _ _ hp
 obtain⟨dx,ws,rfl,pf⟩:=ro.isI
 obtain⟨v,lv,rv⟩:=pf.lookup.2 d hl
 exact⟨pp,C,dx,ws,v,rfl,e1,P.cl,P.no,lv,d,F1,M1,s1,m1,rv,q⟩
noncomputable def putD(f:Str)(v:D):List (Str×D)->List (Str×D)
 | []=>[(f,v)]
 | (g,x)::r=>if g=f then(g,v)::r else(g,x)::putD f v r
end
section
variable {X:Cx}{F0:Hp}{R:AX}{e o c:Expr}{es:List Expr}{pos pos':Pos}{te t_o:AE}{tt:AA}{t u:AS}{st:Stmt}{rest a b:List Stmt}{tc:AT}
def aNext:AS:=fun E Γ M=>E.nx Γ M
def aSeq(t u:AS):AS:=fun E Γ M=>t {E with nx:=u E} Γ M
theorem a0y:PSsA X F0 [] aNext:=⟨fun F Γ M σ H E _ g m h=>pss_nil.to (PQg.here m g h)⟩
theorem a0b(h1:PSA X F0 st t)(h2:PSsA X F0 rest u):PSsA X F0 (st::rest) (aSeq t u):=by
 refine⟨?_⟩
 intro F Γ M σ H E f0 g m h
 refine(b3w b14 a1u).to ((h1.run F Γ M σ H _ f0 g m h).mono ⟨fun σ1 H1 ⟨F1,Γ1,M1,s1,g1,m1,q1⟩=> ?_,fun _ _ z=>z,fun _ _ z=>z,fun _ _ z=>z⟩)
 exact(h2.run F1 Γ1 M1 σ1 H1 E (f0.trans s1) g1 m1 q1).mono (PQD.dn s1)
theorem a0g(h1:PSA X F0 st t):PSsA X F0 [st] t:=⟨fun F Γ M σ H E f0 g m h=>(pss_one b14).to (h1.run F Γ M σ H E f0 g m h)⟩
def b3k(te:AE):AS:=fun E Γ M=>te Γ M fun _ M1=>E.nx Γ M1
theorem a2u(he:PEA X F0 e te)(hs:swapsWith e none pos.line X.env=pure false:=by rfl):PSA X F0 (.Expr e pos) (b3k te):=by
 refine⟨?_⟩
 intro F Γ M σ H E f0 g m h
 exact(ps_expr a0k hs).to ((he.run F Γ M σ H _ f0 g m h).mono fun v H1 ⟨d,F1,M1,s1,m1,_,q1⟩=>⟨F1,Γ,M1,s1,g.up s1,m1,q1⟩)
def aRet(te:AE):AS:=fun E Γ M=>te Γ M E.rt
theorem sRet(he:PEA X F0 e te):PSA X F0 (.Return (some e) pos) (aRet te):=⟨fun F Γ M σ H E f0 g m h=>(ps_ret a0k).to (he.run F Γ M σ H _ f0 g m h)⟩
def aRetN:AS:=fun E _ M=>E.rt .non M
def aIf(c:AT)(t u:AS):AS:=fun E Γ M=>c Γ M fun b M1=>if b=true then t E Γ M1 else u E Γ M1
theorem sIf(hc:PTA X F0 c tc)(ha:PSsA X F0 a t)(hb:PSsA X F0 b u):PSA X F0 (.If c a b pos) (aIf tc t u):=by
 refine⟨?_⟩
 intro F Γ M σ H E f0 g m h
 refine(ps_if a3z a1u a1u).to ((hc.run F Γ M σ H _ f0 g m h).mono fun k H1 zz9=> ?_)
 obtain⟨F1,M1,s1,m1,q1⟩:=zz9
 cases k with
 |true=>
   rw[if_pos rfl]at q1 |-
   exact(ha.run F1 Γ M1 σ H1 E (f0.trans s1) (g.up s1) m1 q1).mono (PQD.dn s1)
 |false=>
   rw[if_neg Bool.false_ne_true]at q1 |-
   exact(hb.run F1 Γ M1 σ H1 E (f0.trans s1) (g.up s1) m1 q1).mono (PQD.dn s1)
def gaN(i:Nat):AGt:=fun d Γ M Q=>Q (Γ.set i (some d)) M
theorem a0t{i:Nat}{x:Str}(hN:X.N.Nodup)(hi:X.N[i]? =some x)(hx:Loc X.env.scope x)(hf:X.fn x=true\/X.env.scope.names.lookup x=some .local:=by first |exact .inl rfl |exact .inr rfl |assumption):PGA X F0 (.Name x pos) (gaN i):=
 ⟨fun F Γ M σ H v d Q _ g m r h=>(pg_name hN hi hx hf).to (PQg.here m (g.set r i) h)⟩
def gaNil:AGts:=fun ds Γ M Q=>ds=[]/\Q Γ M
def a5m(t:AGt)(u:AGts):AGts:=fun ds Γ M Q=>match ds with |d::r=>t d Γ M fun Γ' M'=>u r Γ' M' Q | []=>False
theorem a58:PGsA X F0 [] gaNil:=by
 refine⟨?_⟩
 intro F Γ M σ H vs ds Q _ g m r h
 obtain⟨rfl,h⟩:=h
 cases r
 exact pgs_nil.to ⟨rfl,PQg.here m g h⟩
theorem a08{gt:AGt}{gu:AGts}(h1:PGA X F0 e gt)(h2:PGsA X F0 es gu)(hs:(assignEach (e::es) X.env).map (·.2)=assign e X.env::(assignEach es X.env).map (·.2):=by rfl):PGsA X F0 (e::es) (a5m gt gu):=by
 refine⟨?_⟩
 intro F Γ M σ H vs ds Q f0 g m r h
 cases r with
 |nil=>exact h.elim
 |cons r1 r2=>
   refine(b3y a80 a9v hs).to ⟨_,_,rfl,?_⟩
   refine(h1.run F Γ M σ H _ _ _ f0 g m r1 h).mono fun σ1 H1 zz9=> ?_
   obtain⟨F1,Γ1,M1,s1,g1,m1,q1⟩:=zz9
   exact(h2.run F1 Γ1 M1 σ1 H1 _ _ Q (f0.trans s1) g1 m1 (r2.up s1) q1).mono fun _ _ z=>z.dn s1
def a9f(n:Nat)(t:AGts):AGt:=fun d Γ M Q=>match d with | .tup ds=>ds.length=n/\t ds Γ M Q |_=>False
theorem b0s{k:Nat}{gu:AGts}{n:Nat}(hc:X.calm=true)(h:PGsA X F0 es gu)
   (hn:(assignEach es X.env).length=n:=by rfl) (hst:(assignEach es X.env).findIdx? (·.1)=none:=by rfl):PGA X F0 (.Tuple es k pos) (a9f n gu):=by
 refine⟨?_⟩
 intro F Γ M σ H v d Q f0 g m r hw
 cases r<;>first |exact hw.elim |skip
 rename_i a xs ds e r
 exact(pg_tup hc a9v hn hst).to ⟨a,xs,rfl,.of (m.sub _ _ e),by rw[r.length];exact hw.1,h.run F Γ M σ H xs ds Q f0 g m r hw.2⟩
def gaLst(n:Nat)(t:AGts):AGt:=fun d Γ M Q=>match dr M d with |some ds=>ds.length=n/\t ds Γ M Q |none=>False
def gaSub(to ti:AE):AGt:=fun d Γ M Q=>to Γ M fun x M1=>ti Γ M1 fun y M2=>match x,y with
 | .obj p,.int k=>(match M2 p with |some (.lst ds)=>(match ixN ds.length k with |some j=>Q Γ (put M2 p (.lst (ds.set j d))) |none=>False) |_=>False)
 |_,_=>False
theorem tgSub{i:Expr}{ti:AE}(ho:PEA X F0 o t_o)(hi:PEA X F0 i ti)
   (ha: ∀v,assign (.Subscript o i pos) X.env v=(do
     let ov <-holding [v] (eval o X.env)
     let iv <-holding [v,ov] (eval i X.env)
     standAt pos
     holding [v,ov,iv] (setItem ov iv v)
     release [v,ov,iv] []):=by intro _;rfl):PGA X F0 (.Subscript o i pos) (gaSub t_o ti):=by
 refine⟨?_⟩
 intro F Γ M σ H v d Q f0 g m r hw
 refine(pg_sub a0k a0k b3p ha).to (two ho hi f0 g m hw fun F2 M2 H2 v1 u1 x y s m2 r1 r2 q=> ?_)
 cases r1<;>first |exact q.elim |skip
 cases r2<;>first |exact q.elim |skip
 rename_i p k
 dsimp only at q
 split at q
 . rename_i ds hd
   split at q
   . rename_i j hj
     obtain⟨vs,e,rr⟩:=b2i m2 hd
     exact⟨p,vs,k,j,rfl,rfl,e,by rw[rr.length];exact hj,F2,Γ,_,s,g.up s,m2.set hd (u:= .lst (vs.set j v)) (o':= .lst (ds.set j d)) (RDs.set (r.up s) j rr),q⟩
   . exact q.elim
 . exact q.elim
def aAsg(te:AE)(gt:AGt):AS:=fun E Γ M=>te Γ M fun d M1=>gt d Γ M1 E.nx
def aSet(i:Nat)(te:AE):AS:=fun E Γ M=>te Γ M fun d M1=>E.nx (Γ.set i (some d)) M1
theorem sSet{i:Nat}{x:Str}(hN:X.N.Nodup)(hi:X.N[i]? =some x)(hx:Loc X.env.scope x)(he:PEA X F0 e te)(hs:swapsWith e (some (.Name x pos')) pos.line X.env=pure false:=by rfl)(hf:X.fn x=true\/X.env.scope.names.lookup x=some .local:=by first |exact .inl rfl |exact .inr rfl |assumption):
   PSA X F0 (.Assign [.Name x pos'] e pos) (aSet i te):=by
 refine⟨?_⟩
 intro F Γ M σ H E f0 g m h
 exact(ps_set hN hi hx a0k hs hf).to ((he.run F Γ M σ H _ f0 g m h).mono fun v H1 ⟨d,F1,M1,s1,m1,r1,q1⟩=>⟨F1,_,M1,s1,(g.up s1).set r1 i,m1,q1⟩)
def aPar(i j:Nat)(t:AA):AS:=fun E Γ M=>t Γ M fun ds M1=>match ds with | [v,w]=>E.nx ((Γ.set i (some v)).set j (some w)) M1 |_=>False
def aSetF(C:Addr)(f:Str)(to te:AE):AS:=fun E Γ M=>te Γ M fun y M1=>to Γ M1 fun x M2=>match x with
 | .obj p=>a9c (M2 p) C fun fs=>fs.length<1000/\E.nx Γ (put M2 p (.ins C (putD f y fs)))
 |_=>False
theorem PF.put{K:PySem.W.Frag}{F:Hp}{f:Str}{v:V}{d:D}(r:RD K F v d): ∀{a:List (Str×V)}{b:List (Str×D)},PF K F a b->PF K F (putF f v a) (putD f d b)
 |_,_,.nil=> .cons ⟨rfl,r⟩ .nil
 | (n,_)::_,(n',_)::_,.cons ⟨h1,h2⟩ t=>by
   dsimp only at h1 h2
   subst h1
   unfold putF putD
   split
   . exact .cons ⟨rfl,r⟩ t
   . exact .cons ⟨rfl,h2⟩ (PF.put r t)
theorem b3r{C:Addr}{f:Str}(P:Pln X.K C f)(ho:PEA X F0 o t_o)(he:PEA X F0 e te)(hs:swapsWith e (some (.Attribute o f pos')) pos.line X.env=pure false):PSA X F0 (.Assign [.Attribute o f pos'] e pos) (aSetF C f t_o te):=by
 refine⟨?_⟩
 intro F Γ M σ H E f0 g m h
 refine(ps_fld a0k a0k hs).to (two he ho f0 g m h fun F2 M2 H2 v u x y s m2 r1 r2 q=> ?_)
 cases r2<;>first |exact q.elim |skip
 rename_i p
 obtain⟨fs,hp,hl,q⟩:=a96 q
 obtain⟨w,e1,ro⟩:=m2.mem _ _ hp
 obtain⟨dx,ws,rfl,pf⟩:=ro.isI
 exact⟨p,C,dx,ws,rfl,e1,P.cl,P.no,by rw[pf.length];exact hl,F2,Γ,_,s,g.up s,m2.set hp (u:= .ins C dx (putF f v ws)) (o':= .ins C (putD f x fs)) ⟨rfl,pf.put r1⟩,q⟩
def aRaise(R:AX)(C:Addr)(t:AA):AS:=fun _ Γ M=>t Γ M fun ds M1=>ds.length<=1000/\R Γ M1 (.ref C)
theorem a2e{x:Str}{C:Addr}{np cpos:Pos}(k:Cat X F0 R)(O:ExCls X.K X.mg x C)(hg:Gl X x)(ha:PAA X F0 (e::es) tt)
   (hd:(x==("__debug__":Str))=false:=by decide) (he:starEach (e::es) X.env=(false,eval e X.env)::starEach es X.env:=by rfl) (hpl:(backTo cpos (starEach es X.env)).any (·.1)=false:=by rfl):
   PSA X F0 (.Raise (some (.Call (.Name x np) (e::es) [] cpos)) none pos) (aRaise R C tt):=by
 refine⟨?_⟩
 intro F Γ M σ H E f0 g m h
 refine(b3x k.thr k.pl O k.calm hg a1h hd he hpl).to ((ha.run F Γ M σ H _ f0 g m h).mono fun vs H1 zz9=> ?_)
 obtain⟨ds,F1,M1,s1,m1,r1,hl,q1⟩:=zz9
 exact⟨by rw[r1.length];exact a62 hl,fun a=>⟨F1,Γ,M1,f0.trans s1,g.up s1,m1,q1⟩⟩
structure Src where
 n:Nat
 item:Nat->D
 held:Mem->Prop
noncomputable abbrev AI:=G->Mem->(Src->Mem->Prop)->Prop
def b3q(X:Cx)(tg iter:Expr):TI:=fun σ H Rr=> ∀pins s,Inv X pins σ H s->wpAny (model X.prog X.w) X.A (eval iter X.env) (fun v s1=>wpAny (model X.prog X.w) X.A (pyIter v) (PIE X pins σ tg Rr) X.xe s1) X.xe s
theorem a6y{tg iter:Expr}:PI X tg iter (b3q X tg iter):=fun pins s _ _ _ I h=>h pins s I
theorem PI.to{tg iter:Expr}{σ:St}{H:Hp}{wi:TI}{Rr:It->Hp->Prop}(h:PI X tg iter wi)(hw:wi σ H Rr):b3q X tg iter σ H Rr:=fun pins s I=>h pins s σ H Rr I hw
structure ItS(K:PySem.W.Frag)(F:Hp)(J:It)(S:Src):Prop where
 go: ∀i F' M H,Same F F'->AM K F' M H->S.held M->i<S.n->J.go i H
 yld: ∀i F' M H x H',Same F F'->AM K F' M H->S.held M->i<S.n->J.yld i H x H'-> ∃F2,Same F' F2/\AM K F2 M H'/\RD K F2 x (S.item i)
 stop: ∀F' M H,Same F F'->AM K F' M H->S.held M->J.stop S.n H
structure PIA(X:Cx)(F0:Hp)(tg iter:Expr)(t:AI):Prop where
 run: ∀F Γ M σ H Q,Same F0 F->AG X.K F Γ σ->AM X.K F M H->t Γ M Q->b3q X tg iter σ H fun J H1=> ∃S F1 M1,Same F F1/\AM X.K F1 M1 H1/\ItS X.K F1 J S/\Q S M1
def LoopP(S:Src)(gt:AGt)(tb:AS):AS:=fun E Γ M=> ∃W:Nat->G->Mem->Prop,W 0 Γ M/\ ∀i Γ M,W i Γ M->S.held M/\if i<S.n then gt (S.item i) Γ M fun Γ2 M2=>tb {E with nx:=W (i+1),ct:=W (i+1),bk:=E.nx} Γ2 M2 else E.nx Γ M
theorem LoopP.by{S:Src}{gt:AGt}{tb:AS}{E:AEnds}{Γ:G}{M:Mem}(W:Nat->G->Mem->Prop)(h0:W 0 Γ M)(hl: ∀i Γ M,W i Γ M->S.held M)
   (step: ∀i Γ M,i<S.n->W i Γ M->gt (S.item i) Γ M fun Γ2 M2=>tb {E with nx:=fun Γ' M'=>i+1<=S.n/\W (i+1) Γ' M',ct:=fun Γ' M'=>i+1<=S.n/\W (i+1) Γ' M',bk:=E.nx} Γ2 M2) (done: ∀Γ M,W S.n Γ M->E.nx Γ M):LoopP S gt tb E Γ M:=by
 refine⟨fun i Γ M=>i<=S.n/\W i Γ M,⟨Nat.zero_le _,h0⟩,fun i Γ M ⟨hi,w⟩=>⟨hl i Γ M w,?_⟩⟩
 by_cases h:i<S.n
 . rw[if_pos h];exact step i Γ M h w
 . rw[if_neg h]
   have e:i=S.n:=by omega
   subst e
   exact done Γ M w
def aFor(wi:AI)(gt:AGt)(tb:AS):AS:=fun E Γ M=>wi Γ M fun S M1=>LoopP S gt tb E Γ M1
theorem sFor{tg iter:Expr}{body:List Stmt}{wi:AI}{gt:AGt}{tb:AS}(k:Cat X F0 R)(hi:PIA X F0 tg iter wi)(hg:PGA X F0 tg gt)(hb:PSsA X F0 body tb)
   (hs: ∀x,foldedSetIterable iter X.env x=pure x:=by intro _;rfl):PSA X F0 (.For tg iter body [] pos) (aFor wi gt tb):=by
 refine⟨?_⟩
 intro F Γ M σ H E f0 g m h
 intro pins0 s0 I0
 refine(ps_for (k.pass I0.ok.frames) k.calm a6y a80 a1u hs).to ?_ pins0 s0 I0
 intro pins s I
 refine thn (hi.run F Γ M σ H _ f0 g m h pins s I) fun v s1 h1=>thn h1 fun itv s2 zz9=> ?_
 obtain⟨it,fp,tn,J,H2,e1,I2,T,st,fo,S,F1,M1,s1,m1,iS,W,w0,turn⟩:=zz9
 refine⟨it,fp,tn,J,H2,e1,I2,T,st,fo,fun i n σ' H'=>n=S.n- i/\i<=S.n/\ ∃F' Γ' M',Same F1 F'/\AG X.K F' Γ' σ'/\AM X.K F' M' H'/\W i Γ' M',⟨S.n,rfl,Nat.zero_le _,F1,Γ,M1,.refl _,g.up s1,m1,w0⟩,?_⟩
 rintro i n σ3 H3 ⟨rfl,hle,F3,Γ3,M3,s3,g3,m3,w3⟩
 obtain⟨hh,w3⟩:=turn i Γ3 M3 w3
 by_cases hlt:i<S.n
 . rw[if_pos hlt]at w3
   refine .inr ⟨iS.go i F3 M3 H3 s3 m3 hh hlt,PQg X.K F1 (W (i+1)),fun σ' H' ⟨F',Γ',M',s',g',m',w'⟩=>⟨S.n- (i+1),by omega,rfl,hlt,F',Γ',M',s',g',m',w'⟩,fun x H' y=> ?_⟩
   obtain⟨F4,s4,m4,r4⟩:=iS.yld i F3 M3 H3 x H' s3 m3 hh hlt y
   refine(hg.run F4 Γ3 M3 σ3 H' x _ _ (f0.trans (s1.trans (s3.trans s4))) (g3.up s4) m4 r4 w3).mono fun σ5 H5 zz9=> ?_
   obtain⟨F5,Γ5,M5,s5,g5,m5,q5⟩:=zz9
   have sx:=s3.trans (s4.trans s5)
   refine(hb.run F5 Γ5 M5 σ5 H5 _ (f0.trans (s1.trans sx)) g5 m5 q5).mono ⟨fun _ _ z=>PQg.dn sx z,fun _ _ z=>PQ.dn (s1.trans sx) z,fun _ _ z=>PQg.dn (s1.trans sx) z,fun _ _ z=>PQg.dn sx z⟩
 . rw[if_neg hlt]at w3
   have hin:i=S.n:=by omega
   have w3:E.nx Γ3 M3:=w3
   exact .inl ⟨by rw[hin];exact iS.stop F3 M3 H3 s3 m3 hh,F3,Γ3,M3,s1.trans s3,g3,m3,w3⟩
def iaL(tl:AE):AI:=fun Γ M Q=>tl Γ M fun d M1=>match dr M1 d with
 |some ds=>Q ⟨ds.length,fun i=>ds.getD i .non,fun M=>dr M d=some ds⟩ M1
 |none=>False
theorem a2l{tg l:Expr}{tl:AE}(hl:PEA X F0 l tl):PIA X F0 tg l (iaL tl):=by
 refine⟨?_⟩
 intro F Γ M σ H Q f0 g m h
 refine(pi_list a0k).to ((hl.run F Γ M σ H _ f0 g m h).mono fun v H1 zz9=> ?_)
 obtain⟨d,F1,M1,s1,m1,r1,q1⟩:=zz9
 try dsimp only at q1
 split at q1
 . rename_i ds hd
   obtain⟨p,vs,rfl,e,rr⟩:=a5o m1 r1 hd
   refine⟨p,rfl,⟨vs,e⟩,_,F1,M1,s1,m1,⟨fun i F' M' H' s' m' hh hi=> ?_,fun i F' M' H' x H'' s' m' hh hi y=> ?_,fun F' M' H' s' m' hh=> ?_⟩,q1⟩
   . obtain⟨p',ws,e1,e2,r2⟩:=a5o m' (r1.up s') hh
     cases e1
     obtain⟨w,e3,_⟩:=r2.get (i:=i) (d:=ds[i]) (by simp[hi])
     exact⟨ws,w,e2,e3⟩
   . obtain⟨p',ws,e1,e2,r2⟩:=a5o m' (r1.up s') hh
     cases e1
     obtain⟨rfl,y⟩:=y
     obtain⟨w,e3,r3⟩:=r2.get (i:=i) (d:=ds[i]) (by simp[hi])
     have hx:=y ws e2
     rw[e3]at hx
     have hx:=Option.some.inj hx
     subst hx
     refine⟨F',.refl _,m',?_⟩
     have e4:ds.getD i .non=ds[i]:=by simp[List.getD,List.getElem?_eq_getElem hi]
     show RD X.K F' _ (ds.getD i .non)
     rw[e4];exact r3
   . obtain⟨p',ws,e1,e2,r2⟩:=a5o m' (r1.up s') hh
     cases e1
     exact⟨ws,e2,by rw[r2.length];exact Nat.le_refl _⟩
 . exact q1.elim
def iaR1(tt:AA):AI:=fun Γ M Q=>tt Γ M fun ds M1=>match ds with
 | [.int j]=> -(2^62)<=j/\j<2^62/\Q ⟨j.toNat,fun i=> .int i,fun _=>True⟩ M1
 |_=>False
theorem itr_src{K:PySem.W.Frag}{F:Hp}{lo:Int}{n:Nat}:ItS K F (Itr lo n) ⟨n,fun i=> .int (lo+i),fun _=>True⟩:=
 ⟨fun i _ _ _ _ _ _ h=>h,fun i F' M H x H' _ m _ _ ⟨e1,e2⟩=>by subst e1 e2;exact⟨F',.refl _,m,.int _⟩,fun _ _ _ _ _ _=>Nat.le_refl _⟩
theorem a64{tg a:Expr}{p:Pos}(hg:Gl X "range")(hm:X.mg "range"=none)(ha:PAA X F0 [a] tt)(hs:starEach [a] X.env=[(false,eval a X.env)]:=by rfl):PIA X F0 tg (.Call (.Name "range" p) [a] [] pos) (iaR1 tt):=by
 refine⟨?_⟩
 intro F Γ M σ H Q f0 g m h
 refine(b18 hg hm a1h hs).to ((ha.run F Γ M σ H _ f0 g m h).mono fun vs H1 zz9=> ?_)
 obtain⟨ds,F1,M1,s1,m1,r1,q1⟩:=zz9
 try dsimp only at q1
 split at q1
 . rename_i j
   obtain⟨x,rfl,rx⟩:=r1.one'
   obtain rfl:x= .int j:=by cases rx;rfl
   refine⟨j,rfl,q1.1,q1.2.1,⟨j.toNat,fun i=> .int i,fun _=>True⟩,F1,M1,s1,m1,?_,q1.2.2⟩
   have:=itr_src (K:=X.K) (F:=F1) (lo:=0) (n:=j.toNat)
   simpa using this
 . exact q1.elim
def iaR2(tt:AA):AI:=fun Γ M Q=>tt Γ M fun ds M1=>match ds with
 | [.int i,.int j]=>(-(2^62)<=i/\i<2^62/\ -(2^62)<=j/\j<2^62)/\Q ⟨(j- i).toNat,fun k=> .int (i+k),fun _=>True⟩ M1
 |_=>False
def iaS(tl:AE):AI:=fun Γ M Q=>tl Γ M fun d M1=>match d with
 | .str x=>Q ⟨x.cps.size,fun i=> .str ⟨#[x.cps.getD i 0]⟩,fun _=>True⟩ M1
 |_=>False
theorem b4l{tg l:Expr}{tl:AE}(hl:PEA X F0 l tl):PIA X F0 tg l (iaS tl):=by
 refine⟨?_⟩
 intro F Γ M σ H Q f0 g m h
 refine(pi_str a0k).to ((hl.run F Γ M σ H _ f0 g m h).mono fun v H1 zz9=> ?_)
 obtain⟨d,F1,M1,s1,m1,r1,q1⟩:=zz9
 obtain⟨x,rfl,rfl⟩: ∃x,v= .str x/\d= .str x:=by cases r1<;>first |exact q1.elim |exact⟨_,rfl,rfl⟩
 exact⟨x,rfl,⟨x.cps.size,fun i=> .str ⟨#[x.cps.getD i 0]⟩,fun _=>True⟩,F1,M1,s1,m1,⟨fun i _ _ _ _ _ _ h=>h,fun i F' M H x H' _ m _ _ ⟨e1,e2⟩=>by subst e1 e2;exact⟨F',.refl _,m,.str _⟩,fun _ _ _ _ _ _=>rfl⟩,q1⟩
end
noncomputable def a4u(N:List Str)(ds:List D):G:=ds.map some++List.replicate (N.length- ds.length) none
theorem a9q{K:PySem.W.Frag}{F:Hp}: ∀{vs:List V}{ds:List D}{n i:Nat}{d:D},RDs K F vs ds->(ds.map some++List.replicate n none:G)[i]? =some (some d)-> ∃v,(vs.map some++List.replicate n none:St)[i]? =some (some v)/\RD K F v d
 |_,_,n,i,d,.nil,h=>by
   simp only[List.map_nil,List.nil_append,List.getElem?_replicate]at h
   split at h<;>cases h
 |_,_,n,0,d,.cons r _,h=>by simp at h;subst h;exact⟨_,by simp,r⟩
 |_,_,n,i+1,d,.cons _ t,h=>by
   obtain⟨v,e,r⟩:=a9q (i:=i) t (by simpa using h)
   exact⟨v,by simpa using e,r⟩
theorem a9p{K:PySem.W.Frag}{F:Hp}{N:List Str}{vs:List V}{ds:List D}(r:RDs K F vs ds):AG K F (a4u N ds) (a2y N vs):=by
 refine⟨by simp[a4u,a2y,r.length],fun i d h=> ?_⟩
 unfold a2y
 rw[r.length]
 exact a9q r h
theorem Cat.of{P:Program}{w:World}{K:PySem.W.Frag}{mg:Str->Option Value}{base:Heap}{N:List Str}{qual:Str}{scope:Scope}{f:Addr}{cd:Value}{A:Around}{outer:List Env}{s:Shared}{H:Hp}{E:XK}{F:Hp}{Ea:Value->Mem->Prop}
   (hE: ∀cls H',(∃F' M',Same F F'/\AM K F' M' H'/\Ea cls M')->E cls none H') (hu:(A.deeper (envOfC qual scope s.heap.objs.size f cd)).units+64<cLine):Cat ((cxOf (CXE P w) P w K mg base N qual scope f cd A outer s H E).by (rE E)) F (fun _ M cls=>Ea cls M):=
 ⟨Thr.imp a9n fun _ H' cls _ ⟨F',_,M',s',_,m',q⟩=>hE cls H' ⟨F',M',s',m',q⟩,plain_cx.wish _,rfl,fun fr=>a7r plain_cx fr,hu⟩
theorem Fun.okA{P:Program}{w:World}{K:PySem.W.Frag}{mg:Str->Option Value}{base:Heap}{x qual:Str}{st:Stmt}{f:Addr}{fd:FuncData}{N ps:List Str}{k:Nat}{sa:SpA}(Fn:Fun K x qual st f fd)(S:FnScope N ps (a0c st))(len: ∀ds M Q E,sa ds M Q E->ds.length=ps.length)
   (hbody: ∀(cdv:Value) (A:Around) (outer:List Env) (s:Shared) (H:Hp) (E:XK) (F0:Hp) (ds:List D) (M:Mem) (Q:AK) (Ea:Value->Mem->Prop),Room k (A.deeper (envOfC qual (a0c st) s.heap.objs.size f cdv))->
     Cat ((cxOf (CXE P w) P w K mg base N qual (a0c st) f cdv A outer s H E).by (rE E)) F0 (fun _ M cls=>Ea cls M)->sa ds M Q Ea->
     ∃t,PSsA ((cxOf (CXE P w) P w K mg base N qual (a0c st) f cdv A outer s H E).by (rE E)) F0 (a04 st) t/\t {nx:=fun _ M'=>Rt Q .non M',rt:=Rt Q} (a4u N ds) M):FnOk P w K mg base (CXE P w) (k+1) f fd ps (a0m K sa):=by
 refine Fn.okX S (fun vs H Q E ⟨F,ds,M,Qa,Ea,m,r,h,_⟩=>by rw[r.length];exact len _ _ _ _ h) ?_
 intro cdv A outer s H vs Q E hr ⟨F,ds,M,Qa,Ea,m,r,h,hQ,hE⟩
 obtain⟨t,ht,q⟩:=hbody cdv A outer s H E F ds M Qa Ea hr (Cat.of hE hr.units) h
 refine⟨_,a1u,?_⟩
 refine(ht.run F _ M _ H _ (.refl F) (a9p r) m q).mono ⟨fun σ' H' ⟨F',Γ',M',s',g',m',q'⟩=> ?_,fun v H' z=> ?_,fun _ _ ⟨_,_,_,_,_,_,q'⟩=>q'.elim,fun _ _ ⟨_,_,_,_,_,_,q'⟩=>q'.elim⟩
 . exact hQ _ _ (PQ.rt ⟨.non,F',M',s',m',.non,q'⟩)
 . exact hQ _ _ (PQ.rt z)
theorem passE{X:Cx}:b3m (CXE X.prog X.w) X E0:=fun _ _ _ _ _ _ _ ⟨_,_,_,_,_,_,_,_,_,_,_,_,_,_,q⟩=>q.elim
section
variable {X:Cx}{F0:Hp}{R:AX}{k:Nat}{x:Str}{sa:SpA}{p pos:Pos}{C:Addr}
structure HasC(P:Program)(w:World)(K:PySem.W.Frag)(mg:Str->Option Value)(base:Heap)(k:Nat)(x:Str)(C:Addr)(sa:SpA):Prop where
 bound:mg x=some (.ref C)
 ex: ∃f fd,FnOk P w K mg base (CXE P w) k f fd ["self"] (a0m K sa)/\Mk K C f/\Binds K fd ["self"] []
def aMake(C:Addr)(sa:SpA):AE:=fun _ M Q=> ∀p,M p=none->sa [.obj p] (put M p (.ins C [])) (fun d M'=>d= .non/\Q (.obj p) M') fun _ _=>False
theorem paMake(h:HasC X.prog X.w X.K X.mg X.base k x C sa)(hr:Room (k+1) X.A)(hg:Gl X x)(hdb:(x==("__debug__":Str))=false:=by decide):PEA X F0 (.Call (.Name x p) [] [] pos) (aMake C sa):=by
 refine⟨?_⟩
 intro F Γ M σ H Q f0 g m hw
 obtain⟨f,fd,Fn,mk,hb⟩:=h.ex
 refine(b31 mk Fn hr hg h.bound hb .nil passE hdb).to ?_
 intro q dx hq hdx hne
 have hs:=hw q (m.fM hq)
 have hq2:upd H dx (.own q) q=none:=by rw[a0i (Ne.symm hne)];exact hq
 refine⟨F,[.obj q],put M q (.ins C []),_,_,(m.more (u:= .own q) hdx).new (o:= .ins C []) hq2 ⟨rfl,.nil⟩,.cons (.obj q) .nil,hs,fun v H' ⟨d,F',M',s',m',r',hd,q'⟩=> ?_,fun _ _ ⟨_,_,_,_,z⟩=>z.elim⟩
 subst hd
 cases r'
 exact⟨rfl,.obj q,F',M',s',m',.obj q,q'⟩
end
noncomputable def keyD:D->Option Key
 | .int i=>some (.inl i)
 | .str x=>some (.inr x)
 |_=>none
noncomputable def getK(kvs:List (Key×D))(k:Key):Option D:=(kvs.find? fun kv=>decide (kv.1=k)).map (·.2)
noncomputable def a6x(kvs:List (Key×D))(k:Key)(v:D):List (Key×D):=if(getK kvs k).isSome then kvs.map fun kv=>if kv.1=k then(kv.1,v)else kv else kvs++[(k,v)]
noncomputable def a6i(kvs:List (Key×D))(k:Key):List (Key×D):=kvs.filter fun kv=>decide (kv.1≠k)
section
variable {K:PySem.W.Frag}{F:Hp}
theorem a94{x:V}{d:D}{k:Key}(r:RD K F x d)(h:keyD d=some k):x=kV k:=by
 cases r<;>first | (cases h;done) | (cases h;rfl)
theorem PF.get(k:Key): ∀{a:List (Key×V)}{b:List (Key×D)},PF K F a b->(getK b k=none->valV a k=none)/\ ∀d,getK b k=some d-> ∃v,valV a k=some v/\RD K F v d
 |_,_,.nil=>⟨fun _=>rfl,fun d h=>by cases h⟩
 | (n,v)::a,(n',d)::b,.cons ⟨h1,h2⟩ t=>by
   dsimp only at h1 h2
   subst h1
   obtain⟨i1,i2⟩:=PF.get k t
   by_cases hn:n=k
   . rw[a4i (p:=(n,v)) hn]
     have:getK ((n,d)::b) k=some d:=by simp[getK,List.find?_cons,hn]
     rw[this]
     refine⟨fun h=> ?_,fun d' h=> ?_⟩
     . cases h
     . cases h;exact⟨v,rfl,h2⟩
   . rw[a4j (p:=(n,v)) hn]
     have:getK ((n,d)::b) k=getK b k:=by simp[getK,List.find?_cons,hn]
     rw[this]
     exact⟨i1,i2⟩
theorem PF.append{κ:Type}: ∀{a a':List (κ×V)}{b b':List (κ×D)},PF K F a b->PF K F a' b'->PF K F (a++a') (b++b')
 |_,_,_,_,.nil,s=>s
 |_,_,_,_,.cons h t,s=> .cons h (PF.append t s)
theorem PF.mapK{k:Key}{v:V}{d:D}(r:RD K F v d): ∀{a:List (Key×V)}{b:List (Key×D)},PF K F a b->PF K F (a.map fun kv=>if kv.1=k then(kv.1,v)else kv) (b.map fun kv=>if kv.1=k then(kv.1,d)else kv)
 |_,_,.nil=> .nil
 | (n,_)::_,(n',_)::_,.cons ⟨h1,h2⟩ t=>by
   dsimp only at h1 h2
   subst h1
   simp only[List.map_cons]
   refine .cons ?_ (PF.mapK r t)
   split
   . exact⟨rfl,r⟩
   . exact⟨rfl,h2⟩
theorem PF.putK{k:Key}{v:V}{d:D}(r:RD K F v d){a:List (Key×V)}{b:List (Key×D)}(h:PF K F a b):PF K F (L2.putK a k v) (a6x b k d):=by
 unfold L2.putK a6x
 rw[a6m]
 cases q:getK b k with
 |none=>
   rw[(h.get k).1 q]
   simp only[Option.isSome_none,Bool.false_eq_true,if_false]
   exact h.append (.cons ⟨rfl,r⟩ .nil)
 |some d'=>
   obtain⟨v',e,_⟩:=(h.get k).2 d' q
   rw[e]
   simp only[Option.isSome_some,if_true]
   exact PF.mapK r h
theorem PF.dropK{k:Key}: ∀{a:List (Key×V)}{b:List (Key×D)},PF K F a b->PF K F (L2.dropK a k) (a6i b k)
 |_,_,.nil=> .nil
 | (n,_)::_,(n',_)::_,.cons ⟨h1,h2⟩ t=>by
   dsimp only at h1 h2
   subst h1
   unfold L2.dropK a6i
   simp only[List.filter_cons]
   split
   . exact .cons ⟨rfl,h2⟩ (PF.dropK t)
   . exact PF.dropK t
end
section
variable {X:Cx}{F0:Hp}{e o i:Expr}{pos pos':Pos}{td ti tv:AE}
def aDGet(td ti:AE):AE:=fun Γ M Q=>td Γ M fun x M1=>ti Γ M1 fun y M2=>both (dd M2 x) (keyD y) fun kvs k=>opt (getK kvs k) fun d=>Q d M2
def oDIn(neg:Bool):A2:=fun y x M Q=>both (dd M x) (keyD y) fun kvs k=>Q (.bl (if neg then !(getK kvs k).isSome else(getK kvs k).isSome)) M
theorem PF.some{K:PySem.W.Frag}{F:Hp}{a:List (Key×V)}{b:List (Key×D)}(h:PF K F a b)(k:Key):(valV a k).isSome=(getK b k).isSome:=by
 cases q:getK b k with
 |none=>rw[(h.get k).1 q];rfl
 |some d=>obtain⟨v,e,_⟩:=(h.get k).2 d q;rw[e];rfl
structure PCA(X:Cx)(F0:Hp)(op:CmpOp)(a b:Expr)(t:AE):Prop where
 run: ∀F Γ M σ H Q,Same F0 F->AG X.K F Γ σ->AM X.K F M H->t Γ M Q-> ∃tc:TE,PC X op a b tc/\ ∀Rv:VK,(∀v H',PQ X.K F Q v H'->Rv v H')->tc σ H Rv
theorem pcDIn(hu:X.A.units+1<cLine)(hi:PEA X F0 i ti)(ho:PEA X F0 o td):PCA X F0 .In i o (aOp (oDIn false) ti td):=by
 refine⟨?_⟩
 intro F Γ M σ H Q f0 g m hw
 refine⟨_,pc_din hu a0k a0k,fun Rv kk=>two hi ho f0 g m hw fun F2 M2 H2 v u y x s m2 r1 r2 q0=> ?_⟩
 obtain⟨kvs,k,h1,h2,q⟩:=a57 q0
 obtain⟨p,ws,rfl,rfl,_,e1,pf⟩:=a6j m2 r2 h1
 refine⟨p,_,rfl,by rw[a94 r1 h2];exact DGet.k e1,kk _ _ ⟨_,F2,M2,s,m2,.bl _,?_⟩⟩
 rw[pf.some k];simpa using q
theorem a6z(hu:X.A.units+1<cLine)(hi:PEA X F0 i ti)(ho:PEA X F0 o td):PCA X F0 .NotIn i o (aOp (oDIn true) ti td):=by
 refine⟨?_⟩
 intro F Γ M σ H Q f0 g m hw
 refine⟨_,b2d hu a0k a0k,fun Rv kk=>two hi ho f0 g m hw fun F2 M2 H2 v u y x s m2 r1 r2 q0=> ?_⟩
 obtain⟨kvs,k,h1,h2,q⟩:=a57 q0
 obtain⟨p,ws,rfl,rfl,_,e1,pf⟩:=a6j m2 r2 h1
 refine⟨p,_,rfl,by rw[a94 r1 h2];exact DGet.k e1,kk _ _ ⟨_,F2,M2,s,m2,.bl _,?_⟩⟩
 rw[pf.some k];simpa using q
theorem ptPC{op:CmpOp}{a b:Expr}{t:AE}(h:PCA X F0 op a b t)(h1:behindInMarks op b=false:=by first |exact nobehind _ (by decide) (by decide) |rfl):PTA X F0 (.Compare a [op] [b] pos) (aT t):=by
 refine⟨?_⟩
 intro F Γ M σ H Q f0 g m hw
 obtain⟨tc,pc,k⟩:=h.run F Γ M σ H _ f0 g m hw
 refine(pt_cmp pc h1).to (k _ fun v H' z=> ?_)
 exact PQ.bool z
def aDPut(td ti tv:AE):AS:=fun E Γ M=>tv Γ M fun v M1=>td Γ M1 fun x M2=>ti Γ M2 fun y M3=>match x with
 | .obj p=>both (dd M3 (.obj p)) (keyD y) fun kvs k=>kvs.length<1000/\E.nx Γ (put M3 p (.dic (a6x kvs k v)))
 |_=>False
theorem dd_obj{M:Mem}{p:Addr}{kvs:List (Key×D)}(h:dd M (.obj p)=some kvs):M p=some (.dic kvs):=by
 unfold dd at h
 dsimp only at h
 split at h
 . rename_i h';cases h;exact h'
 . cases h
theorem sPutD(hu:X.A.units+1<cLine)(ho:PEA X F0 o td)(hi:PEA X F0 i ti)(hv:PEA X F0 e tv)(hs:swapsWith e (some (.Subscript o i pos')) pos.line X.env=pure false):PSA X F0 (.Assign [.Subscript o i pos'] e pos) (aDPut td ti tv):=by
 refine⟨?_⟩
 intro F Γ M σ H E f0 g m hw
 refine(ps_dput hu a0k a0k a0k hs).to ?_
 refine(hv.run F Γ M σ H _ f0 g m hw).mono fun v H1 zz9=> ?_
 obtain⟨dv,F1,M1,s1,m1,r1,q1⟩:=zz9
 refine two ho hi (f0.trans s1) (g.up s1) m1 q1 fun F2 M2 H2 u w x y s m2 r2 r3 q=> ?_
 cases r2<;>first |exact q.elim |skip
 rename_i p
 obtain⟨kvs,k,hp,hk,hl,q⟩:=a57 q
 have hp:=dd_obj hp
 obtain⟨u',e1,ro⟩:=m2.mem _ _ hp
 obtain⟨ws,rfl,pf⟩:=ro.isD
 refine⟨p,_,rfl,?_,F2,Γ,put M2 p (.dic (a6x kvs k dv)),s1.trans s,g.up (s1.trans s),m2.set hp (u:= .dK (putK ws k v)) (o':= .dic (a6x kvs k dv)) (pf.putK (r1.up s)),q⟩
 rw[a94 r3 hk]
 exact DPut.k e1 (by rw[pf.length];exact a3d (Nat.le_of_lt hl))
def aDNew:AE:=fun _ M Q=> ∀p,M p=none->Q (.obj p) (put M p (.dic []))
theorem paDNew:PEA X F0 (.Dict [] [] pos) aDNew:=by
 refine⟨?_⟩
 intro F Γ M σ H Q f0 g m hw
 exact pe_dnewK.to fun p hp=>⟨.obj p,F,_,.refl F,m.new (o:= .dic []) hp .nil,.obj p,hw p (m.fM hp)⟩
variable {apos cpos:Pos}
def aDPop(td ti:AE):AE:=fun Γ M Q=>td Γ M fun x M1=>(dd M1 x).isSome=true/\ti Γ M1 fun y M2=>match x with
 | .obj p=>both (dd M2 (.obj p)) (keyD y) fun kvs k=>opt (getK kvs k) fun d=>Q d (put M2 p (.dic (a6i kvs k)))
 |_=>False
theorem paDPop(ho:PEA X F0 o td)(he:PEA X F0 e ti)(mm:M1 X o "pop" apos e cpos):PEA X F0 (.Call (.Attribute o "pop" apos) [e] [] cpos) (aDPop td ti):=by
 refine⟨?_⟩
 intro F Γ M σ H Q f0 g m hw
 refine(b32 a0k a0k mm).to ((ho.run F Γ M σ H _ f0 g m hw).mono fun v H1 zz9=> ?_)
 obtain⟨x,F1,M1,s1,m1,r1,hd,q1⟩:=zz9
 cases hdd:dd M1 x with
 |none=>rw[hdd]at hd;cases hd
 |some kvs0=>
   obtain⟨p,ws,rfl,rfl,hp,e1,pf⟩:=a6j m1 r1 hdd
   refine⟨p,rfl,.inl ⟨ws,.inl e1⟩,(he.run F1 Γ M1 σ H1 _ (f0.trans s1) (g.up s1) m1 q1).mono fun u H2 zz9=> ?_⟩
   obtain⟨y,F2,M2,s2,m2,r2,q2⟩:=zz9
   obtain⟨kvs,k,hp2,hk,q2⟩:=a57 q2
   obtain⟨d,hg,q⟩:=a18 q2
   have hp2:=dd_obj hp2
   obtain⟨u',e2,ro⟩:=m2.mem _ _ hp2
   obtain⟨ws2,rfl,pf2⟩:=ro.isD
   obtain⟨w,e3,rw'⟩:=(pf2.get k).2 d hg
   exact⟨ws2,k,w,e2,a94 r2 hk,e3,d,F2,_,s1.trans s2,m2.set hp2 (u:= .dK (dropK ws2 k)) (o':= .dic (a6i kvs k)) pf2.dropK,rw',q⟩
def aDGet1(td ti:AE):AE:=fun Γ M Q=>td Γ M fun x M1=>(dd M1 x).isSome=true/\ti Γ M1 fun y M2=>both (dd M2 x) (keyD y) fun kvs k=>Q ((getK kvs k).getD .non) M2
end
noncomputable def jsOf(n:Nat)(fs:List Nat):List (Option Nat):=List.replicate n none++fs.map some
noncomputable def frG(fs:List Nat)(Γ:G):G:=fs.map fun j=>(Γ[j]?).join
noncomputable def outs(f:Nat->Option D)(n:Nat):List D:=(List.range n).filterMap f
theorem a7s(f:Nat->Option D)(n:Nat):outs f (n+1)=outs f n++(f n).toList:=by
 unfold outs
 rw[List.range_succ,List.filterMap_append]
 cases h:f n<;>simp[h]
theorem outs_le(f:Nat->Option D)(n:Nat):(outs f n).length<=n:=by
 unfold outs
 exact Nat.le_trans (List.length_filterMap_le _ _) (by simp)
def a2x(n:Nat)(fs:List Nat)(wi:AI)(gt:AGt)(ti:AT)(te:AE):AE:=fun Γ M Q=>wi Γ M fun S M1=> ∃out:Nat->Option D,S.n<=1000/\
 (∀M',Sub M1 M'->S.held M'/\ ∀i,i<S.n-> ∀own:G,own.length=n->gt (S.item i) (own++frG fs Γ) M' fun Γ2 M2=>M2=M'/\(∃own',own'.length=n/\Γ2=own'++frG fs Γ)/\
   ti Γ2 M' fun b M3=>M3=M'/\if b=true then te Γ2 M' fun y M4=>M4=M'/\out i=some y else out i=none)/\
 ∀p,M1 p=none->Q (.obj p) (put M1 p (.lst (outs out S.n)))
def aYes:AT:=fun _ M Q=>Q true M
section
variable {X:Cx}{F0:Hp}{Nc:List Str}{scope:Scope}{cl:List (Str×Addr)}{n:Nat}{fs:List Nat}{tg iter elt:Expr}{ifs:List Expr}{gt:AGt}{ti:AT}{te:AE}{wi:AI}{pos:Pos}
structure PIfsA(X:Cx)(F0:Hp)(ifs:List Expr)(t:AT):Prop where
 run: ∀F Γ M σ H Q,Same F0 F->AG X.K F Γ σ->AM X.K F M H->t Γ M Q-> ∀pins s,Inv X pins σ H s->wpAny (model X.prog X.w) X.A (a3o X.env ifs) (TP X pins σ (PQb X.K F Q)) X.xe s
theorem a69:PIfsA X F0 [] aYes:=⟨fun F Γ M σ H Q _ _ m h pins s I=>pif_nil pins s σ H _ I (PQb.here m h)⟩
theorem frG_ok{K:PySem.W.Frag}{F:Hp}{Γ:G}{σ:St}(g:AG K F Γ σ)(n:Nat)(fs:List Nat):AG K F (List.replicate n none++frG fs Γ) (sigC (jsOf n fs) σ):=by
 have e:sigC (jsOf n fs) σ=List.replicate n none++fs.map fun j=>(σ[j]?).join:=by
   unfold sigC jsOf
   rw[List.map_append,List.map_replicate,List.map_map]
   rfl
 rw[e]
 refine⟨by simp[frG],fun i d h=> ?_⟩
 by_cases hi:i<n
 . rw[List.getElem?_append_left (by simpa using hi),List.getElem?_replicate,if_pos hi]at h
   cases h
 . rw[List.getElem?_append_right (by simp;omega)]at h |-
   simp only[List.length_replicate,frG,List.getElem?_map]at h |-
   cases q:fs[i- n]? with
   |none=>rw[q]at h;cases h
   |some j=>
     rw[q]at h
     simp only[Option.map_some,Option.some.injEq]at h |-
     have h2:Γ[j]? =some (some d):=by
       cases q2:Γ[j]? with
       |none=>rw[q2]at h;cases h
       |some z=>rw[q2]at h;cases z<;>cases h;rfl
     obtain⟨v,e1,r⟩:=g.at' j d h2
     exact⟨v,by rw[e1];rfl,r⟩
theorem a5p{σ:St}{H:Hp}{F:Hp}{Γ:G}{M:Mem}{Q:AK}{Rv:VK}(f0:Same F0 F)(g:AG X.K F Γ σ)(m:AM X.K F M H)(hi:PIA X F0 tg iter wi)
   (hg: ∀pins C fp s H,PGA (a0l X pins Nc scope cl C fp s H) F0 tg gt) (hti: ∀pins C fp s H,PIfsA (a0l X pins Nc scope cl C fp s H) F0 ifs ti) (he: ∀pins C fp s H,PEA (a0l X pins Nc scope cl C fp s H) F0 elt te)
   (hw:a2x n fs wi gt ti te Γ M Q) (hR: ∀v H',PQ X.K F Q v H'->Rv v H'):
   tComp (jsOf n fs) (b3q X tg iter) (fun v σ H Q=> ∀pins C fp s H0,selfG (a0l X pins Nc scope cl C fp s H0) tg v σ H Q)
     (fun σ H Q=> ∀pins C fp s H0 pins' s',Inv (a0l X pins Nc scope cl C fp s H0) pins' σ H s'->wpAny (model X.prog X.w) X.A (a3o (a0l X pins Nc scope cl C fp s H0).env ifs) (TP (a0l X pins Nc scope cl C fp s H0) pins' σ Q) (fun _ _=>False) s')
     (fun σ H Q=> ∀pins C fp s H0,selfE (a0l X pins Nc scope cl C fp s H0) elt σ H Q) σ H Rv:=by
 intro pins s I
 refine thn (hi.run F Γ M σ H _ f0 g m hw pins s I) fun v s1 h1=>thn h1 fun itv s2 zz9=> ?_
 obtain⟨it,fp,tn,J,H2,e1,I2,T,st,fo,S,F1,M1,s1,m1,iS,out,hn,turn,q⟩:=zz9
 refine⟨it,fp,tn,J,H2,e1,I2,T,st,fo,fun l hl=> ?_⟩
 have hMl:=m1.fM hl
 refine⟨fun i k ys σ' H'=>k=S.n- i/\i<=S.n/\ ∃F' own,Same F1 F'/\own.length=n/\AG X.K F' (own++frG fs Γ) σ'/\AM X.K F' (put M1 l (.raw (.lst ys))) H'/\RDs X.K F' ys (outs out i),⟨S.n,rfl,Nat.zero_le _,F1,List.replicate n none,.refl _,by simp,frG_ok (g.up s1) n fs,m1.new (o:= .raw (.lst [])) hl rfl,.nil⟩,?_⟩
 rintro i k ys σ3 H3 ⟨rfl,hle,F3,own,s3,ho,g3,m3,hys⟩
 have hs3:Sub M1 (put M1 l (.raw (.lst ys))):= .put hMl
 obtain⟨hh,turn⟩:=turn _ hs3
 have at_l: ∀{F5:Hp}{H5:Hp},AM X.K F5 (put M1 l (.raw (.lst ys))) H5->H5 l=some (.lst ys):=fun m5=>by
   obtain⟨u,e,r⟩:=m5.mem l _ a0d
   rw[e];exact congrArg some r
 refine⟨at_l m3,?_⟩
 by_cases hlt:i<S.n
 . refine .inr ⟨iS.go i F3 _ H3 s3 m3 hh hlt,by rw[hys.length];exact a3d (Nat.le_trans (outs_le out i) (by omega)),fun x H' y pins C fp s H0=> ?_⟩
   obtain⟨F4,s4,m4,r4⟩:=iS.yld i F3 _ H3 x H' s3 m3 hh hlt y
   have ft:=f0.trans (s1.trans (s3.trans s4))
   refine((hg pins C fp s H0).run F4 _ _ σ3 H' x _ _ ft (g3.up s4) m4 r4 (turn i hlt own ho)).mono fun σ5 H5 zz9=> ?_
   obtain⟨F5,Γ5,M5,s5,g5,m5,e5,⟨own5,ho5,eΓ5⟩,q5⟩:=zz9
   subst e5 eΓ5
   intro pinsb Cb fpb sb H0b pins' s' I'
   refine thn ((hti pinsb Cb fpb sb H0b).run F5 _ _ σ5 H5 _ (ft.trans s5) g5 m5 q5 pins' s' I') fun b s6 ⟨H6,I6,F6,M6,s6',m6,e6,q6⟩=>⟨H6,I6,?_⟩
   subst e6
   have sx:=s4.trans (s5.trans s6')
   cases b with
   |true=>
     rw[if_pos rfl]at q6 |-
     intro pinsc Cc fpc sc H0c
     refine((he pinsc Cc fpc sc H0c).run F6 _ _ σ5 H6 _ (ft.trans (s5.trans s6')) (g5.up s6') m6 q6).mono fun vy H7 zz9=> ?_
     obtain⟨y7,F7,M7,s7,m7,r7,e7,q7⟩:=zz9
     subst e7
     refine⟨at_l m7,S.n- (i+1),by omega,rfl,hlt,F7,own5,s3.trans (sx.trans s7),ho5,g5.up (s6'.trans s7),?_,?_⟩
     . have:=m7.set (p:=l) (o':= .raw (.lst (ys++[vy]))) (u:= .lst (ys++[vy])) a0d rfl
       rw[a28]at this
       exact this
     . rw[a7s,q7]
       exact(hys.up (sx.trans s7)).append (.cons r7 .nil)
   |false=>
     rw[if_neg Bool.false_ne_true]at q6 |-
     refine⟨S.n- (i+1),by omega,rfl,hlt,F6,own5,s3.trans sx,ho5,g5.up s6',m6,?_⟩
     rw[a7s,q6]
     simpa using hys.up sx
 . have hin:i=S.n:=by omega
   subst hin
   have m4:AM X.K F3 (put M1 l (.lst (outs out S.n))) H3:=by
     have:=m3.set (p:=l) (o':= .lst (outs out S.n)) (u:= .lst ys) a0d hys
     rw[a28]at this
     have e:upd H3 l (.lst ys)=H3:=by
       funext b
       by_cases hb:b=l
       . subst hb;rw[a0p,at_l m3]
       . rw[a0i hb]
     rw[e]at this
     exact this
   exact .inl ⟨iS.stop F3 _ H3 s3 m3 hh,hR _ _ ⟨.obj l,F3,_,s1.trans s3,m4,.obj l,q l hMl⟩⟩
theorem a5b(O:CompOk X scope cl Nc (jsOf n fs))(hc:X.calm=true)(hi:PIA X F0 tg iter wi)(hg: ∀pins C fp s H,PGA (a0l X pins Nc scope cl C fp s H) F0 tg gt)(hti: ∀pins C fp s H,PIfsA (a0l X pins Nc scope cl C fp s H) F0 ifs ti)
   (he: ∀pins C fp s H,PEA (a0l X pins Nc scope cl C fp s H) F0 elt te) (hs: ∀x,foldedSetIterable iter X.env x=pure x:=by intro _;rfl):
   PEA X F0 (.ListComp elt [⟨tg,iter,ifs,0⟩] scope pos) (a2x n fs wi gt ti te):=by
 refine⟨?_⟩
 intro F Γ M σ H Q f0 g m hw
 refine(pe_comp O hc a6y (g:=fun v σ H Q=> ∀pins C fp s H0,selfG (a0l X pins Nc scope cl C fp s H0) tg v σ H Q)
   (ti:=fun σ H Q=> ∀pins C fp s H0 pins' s',Inv (a0l X pins Nc scope cl C fp s H0) pins' σ H s'->wpAny (model X.prog X.w) X.A (a3o (a0l X pins Nc scope cl C fp s H0).env ifs) (TP (a0l X pins Nc scope cl C fp s H0) pins' σ Q) (fun _ _=>False) s')
   (te:=fun σ H Q=> ∀pins C fp s H0,selfE (a0l X pins Nc scope cl C fp s H0) elt σ H Q)
   (fun pins C fp s H=>fun pins' s' _ _ _ u _ I r h=>h pins C fp s H pins' s' u I r) (fun pins C fp s H=>fun pins' s' _ _ _ I h=>h pins C fp s H pins' s' I) (fun pins C fp s H=>fun pins' s' _ _ _ I h=>h pins C fp s H pins' s' I) hs).to ?_
 exact a5p f0 g m hi hg hti he hw fun _ _ z=>z
theorem sCompM{i:Nat}{y:Str}{py spos:Pos}(hN:X.N.Nodup)(hiN:X.N[i]? =some y)(hyl:X.env.scope.names.lookup y=some .local)(O:CompOk X scope cl Nc (jsOf n fs))(hc:X.calm=true)(hi:PIA X F0 tg iter wi)(hg: ∀pins C fp s H,PGA (a0l X pins Nc scope cl C fp s H) F0 tg gt)
   (hti: ∀pins C fp s H,PIfsA (a0l X pins Nc scope cl C fp s H) F0 ifs ti) (he: ∀pins C fp s H,PEA (a0l X pins Nc scope cl C fp s H) F0 elt te)
   (hsw:swapsWith (.ListComp elt [⟨tg,iter,ifs,0⟩] scope pos) (some (.Name y py)) spos.line X.env=pure true) (hs: ∀x,foldedSetIterable iter X.env x=pure x:=by intro _;rfl):
   PSA X F0 (.Assign [.Name y py] (.ListComp elt [⟨tg,iter,ifs,0⟩] scope pos) spos) (aSet i (a2x n fs wi gt ti te)):=by
 refine⟨?_⟩
 intro F Γ M σ H E f0 g m hw
 refine(b15 hN hiN hyl O hc a6y (g:=fun v σ H Q=> ∀pins C fp s H0,selfG (a0l X pins Nc scope cl C fp s H0) tg v σ H Q)
   (ti:=fun σ H Q=> ∀pins C fp s H0 pins' s',Inv (a0l X pins Nc scope cl C fp s H0) pins' σ H s'->wpAny (model X.prog X.w) X.A (a3o (a0l X pins Nc scope cl C fp s H0).env ifs) (TP (a0l X pins Nc scope cl C fp s H0) pins' σ Q) (fun _ _=>False) s')
   (te:=fun σ H Q=> ∀pins C fp s H0,selfE (a0l X pins Nc scope cl C fp s H0) elt σ H Q)
   (fun pins C fp s H=>fun pins' s' _ _ _ u _ I r h=>h pins C fp s H pins' s' u I r) (fun pins C fp s H=>fun pins' s' _ _ _ I h=>h pins C fp s H pins' s' I) (fun pins C fp s H=>fun pins' s' _ _ _ I h=>h pins C fp s H pins' s' I) hsw hs).to ?_
 refine a5p f0 g m hi hg hti he hw fun v H1 zz9=> ?_
 obtain⟨d,F1,M1,s1,m1,r1,q1⟩:=zz9
 exact⟨F1,_,M1,s1,(g.up s1).set r1 i,m1,q1⟩
theorem sCompZ{i:Nat}{y:Str}{py spos:Pos}(hN:X.N.Nodup)(hiN:X.N[i]? =some y)(hyl:X.env.scope.names.lookup y=some .local)(O:CompOk X scope cl Nc (jsOf n fs))(hc:X.calm=true)(hi:PIA X F0 tg iter wi)(hg: ∀pins C fp s H,PGA (a0l X pins Nc scope cl C fp s H) F0 tg gt)
   (hti: ∀pins C fp s H,PIfsA (a0l X pins Nc scope cl C fp s H) F0 ifs ti) (he: ∀pins C fp s H,PEA (a0l X pins Nc scope cl C fp s H) F0 elt te)
   (hsw:swapsWith (.ListComp elt [⟨tg,iter,ifs,0⟩] scope pos) (some (.Name y py)) spos.line X.env=pure true) (hs: ∀x,foldedSetIterable iter X.env x=pure x:=by intro _;rfl):
   PSA X F0 (.Assign [.Name y py] (.ListComp elt [⟨tg,iter,ifs,0⟩] scope pos) spos) (aSet i (aFz (a2x n fs wi gt ti te))):=by
 refine⟨?_⟩
 intro F Γ M σ H E f0 g m hw
 refine(b15 hN hiN hyl O hc a6y (g:=fun v σ H Q=> ∀pins C fp s H0,selfG (a0l X pins Nc scope cl C fp s H0) tg v σ H Q)
   (ti:=fun σ H Q=> ∀pins C fp s H0 pins' s',Inv (a0l X pins Nc scope cl C fp s H0) pins' σ H s'->wpAny (model X.prog X.w) X.A (a3o (a0l X pins Nc scope cl C fp s H0).env ifs) (TP (a0l X pins Nc scope cl C fp s H0) pins' σ Q) (fun _ _=>False) s')
   (te:=fun σ H Q=> ∀pins C fp s H0,selfE (a0l X pins Nc scope cl C fp s H0) elt σ H Q)
   (fun pins C fp s H=>fun pins' s' _ _ _ u _ I r h=>h pins C fp s H pins' s' u I r) (fun pins C fp s H=>fun pins' s' _ _ _ I h=>h pins C fp s H pins' s' I) (fun pins C fp s H=>fun pins' s' _ _ _ I h=>h pins C fp s H pins' s' I) hsw hs).to ?_
 refine a5p f0 g m hi hg hti he (Q:=fun d M'=>match d with | .obj p=>(match M' p with |some (.lst ds)=>E.nx (Γ.set i (some (.lst ds))) (del M' p) |_=>False) |_=>False) hw fun v H1 zz9=> ?_
 obtain⟨d,F1,M1,s1,m1,r1,q1⟩:=zz9
 cases r1 with
 |obj p=>
   try dsimp only at q1
   split at q1
   . rename_i ds hd
     obtain⟨F2,s2,m2,r2⟩:=m1.freeze hd
     exact⟨F2,_,_,s1.trans s2,(g.up (s1.trans s2)).set r2 i,m2,q1⟩
   . exact q1.elim
 |_=>exact q1.elim
noncomputable def oAll:A1s:=fun ds M Q=>match ds with
 | [d]=>(match dr M d with |some xs=> ∃bs:List Bool,xs=bs.map D.bl/\Q (.bl (bs.all id)) M |none=>False)
 |_=>False
theorem b0o{K:PySem.W.Frag}{F:Hp}: ∀{vs:List V}{bs:List Bool}{us:List Value},RDs K F vs (bs.map D.bl)->Vals vs us->us=bs.map Value.bool
 |_,[],_,r,v=>by cases r;cases v;rfl
 |_,b::bs,_,r,v=>by
   cases r with
   |cons r1 r2=>
     cases r1
     cases v with
     |cons v1 v2=>
       cases(show _=Value.bool b from v1)
       rw[b0o r2 v2];rfl
theorem paAll{tt:AA}{e:Expr}{p:Pos}(hg:Gl X "all")(hm:X.mg "all"=none)(hc:X.calm=true)(ha:PAA X F0 [e] tt)
   (he:starEach [e] X.env=(false,eval e X.env)::starEach [] X.env:=by rfl):PEA X F0 (.Call (.Name "all" p) [e] [] pos) (b1g oAll tt):=by
 refine⟨?_⟩
 intro F Γ M σ H Q f0 g m hw
 have base:CallR X (.builtin "all") (fun vs H Rv=> ∃F1 M1 ds,AM X.K F1 M1 H/\RDs X.K F1 vs ds/\oAll ds M1 (fun d M'=> ∀v,RD X.K F1 v d->AM X.K F1 M' H->Rv v H)):=by
   intro pins s σ H vs us Rv I rv ⟨F1,M1,ds,m1,r1,h⟩
   unfold oAll at h
   split at h
   . obtain⟨x,rfl,rx⟩:=r1.one'
     split at h
     . rename_i xs hd
       obtain⟨bs,rfl,q⟩:=h
       obtain⟨a,ws,rfl,e,rr⟩:=a5o m1 rx hd
       obtain⟨u,rfl,ru⟩:=rv.one
       cases ru
       obtain⟨its,ri,pl,hz⟩:=I.list e
       have hits:=b0o rr ri
       subst hits
       have hl:=pl.isList
       have hlt:a<s.heap.objs.size:=by obtain⟨_,e,_⟩:=hl;exact Heap.lt_size e
       refine call_all_walk (wpAny_pyIter_list hl ?_)
       refine⟨s.heap.objs.size,[s.heap.objs.size,a],[s.heap.objs.size],(bs.map Value.bool).toArray.size,_,_,fun i=>(bs[i]?).getD true,rfl,Walks.list (prog:=X.prog) (w:=X.w) (A:=X.A.in1) (I.ok.hd hc) s.heap.objs.size a (Nat.ne_of_lt hlt) (bs.map Value.bool).toArray,⟨⟨_,Heap.get?_push_size _ rfl,rfl,rfl⟩,hl.push _⟩,fun i v s' Q' E' hP hQ=> ?_,fun h' tk hk=> ?_⟩
       . have hP':(bs.map Value.bool)[i]? =some v:=by simpa using hP
         rw[List.getElem?_map]at hP'
         cases hb:bs[i]? with
         |none=>rw[hb]at hP';cases hP'
         |some b=>
           rw[hb]at hP'
           cases hP'
           have hQ:Q' ((bs[i]?).getD true) s':=hQ
           rw[hb]at hQ
           exact wpAny_truthy_bool hQ
       . have e2:((List.range bs.length).all fun i=>(bs[i]?).getD true)=bs.all id:=by
           rw[Bool.eq_iff_iff,List.all_eq_true,List.all_eq_true]
           constructor
           . intro h b hb
             obtain⟨i,hi,rfl⟩:=List.getElem_of_mem hb
             have:=h i (List.mem_range.mpr hi)
             simpa[List.getElem?_eq_getElem hi]using this
           . intro h i hi
             have hi':=List.mem_range.mp hi
             simpa[List.getElem?_eq_getElem hi']using h _ (List.getElem_mem hi')
         rw[show(bs.map Value.bool).toArray.size=bs.length by simp,e2]
         refine⟨.bl _,H,?_,rfl,q _ (.bl _) m1⟩
         exact I.kept (t':=tk) fun b o e=>hk b o (fun hm=>by rw[List.mem_singleton.mp hm]at e;exact Nat.lt_irrefl _ (Heap.lt_size e)) (Heap.get?_push_of_some _ e)
     . exact h.elim
   . exact h.elim
 refine(a3j base hg hm boot_all a1h (by decide) (by decide) he rfl).to ((ha.run F Γ M σ H _ f0 g m hw).mono fun vs H1 ⟨ds,F1,M1,s1,m1,r1,q1⟩=>⟨F1,M1,ds,m1,r1,?_⟩)
 unfold oAll at q1 |-
 try dsimp only at q1
 split at q1
 . rename_i d
   dsimp only
   cases hd:dr M1 d with
   |none=>rw[hd]at q1;exact q1.elim
   |some xs=>
     rw[hd]at q1
     obtain⟨bs,e,q⟩:=q1
     exact⟨bs,e,fun v rv m'=>⟨_,F1,M1,s1,m1,rv,q⟩⟩
 . exact q1.elim
end
theorem FnOk.noX{P:Program}{w:World}{K:PySem.W.Frag}{mg:Str->Option Value}{base:Heap}{k:Nat}{f:Addr}{fd:FuncData}{ps:List Str}{sp sp':Sp}(Fn:FnOk P w K mg base (CXE P w) k f fd ps sp)
   (h: ∀vs H Q E,sp' vs H Q E->sp vs H Q fun _ _ _=>False):FnOk P w K mg base CX0 k f fd ps sp':=by
 refine⟨fun vs H Q E q=>Fn.len vs H Q _ (h _ _ _ _ q),fun A outer s H args us vs Q E hr he hb hv hs=>codeAny_mono (Fn.run A outer s H args us vs Q _ hr he hb hv (h _ _ _ _ hs)) fun r s' q=> ?_⟩
 cases r with
 |error e=>obtain⟨_,_,_,_,_,_,_,_,_,_,_,_,_,_,z⟩:=q;exact z.elim
 |ok fl=>
   cases fl with
   |ret u=>exact q
   |_=>exact q
noncomputable def a4m(K:PySem.W.Frag):Sp:=fun vs H Q _=> ∃(a:Addr) (ns:List Int),vs=[.ref a]/\SqL K H a (ns.map V.int)/\Script 63 ns/\ ∀H',Q (.bl true) H'
def spTrue:SpA:=fun ds _ Q _=> ∃ns:List Int,ds=[.scr (ns.map D.int)]/\Script 63 ns/\ ∀M',Q (.bl true) M'
theorem b23{K:PySem.W.Frag}{F:Hp}: ∀ns:List Int,RDs K F (ns.map V.int) (ns.map D.int)
 | []=> .nil
 |_::ns=> .cons (.int _) (b23 ns)
open Classical in
theorem law_ok{P:Program}{w:World}{K:PySem.W.Frag}{mg:Str->Option Value}{base:Heap}{k:Nat}{f:Addr}{fd:FuncData}{ps:List Str}(Fn:FnOk P w K mg base (CXE P w) k f fd ps (a0m K spTrue)):FnOk P w K mg base CX0 k f fd ps (a4m K):=by
 refine Fn.noX fun vs H Q E zz9=> ?_
 obtain⟨a,ns,e,hS,hsc,q⟩:=zz9
 subst e
 refine⟨fun b=>if b=a/\(∀φ,H a≠some (.ext φ))then H b else none,[.scr (ns.map D.int)],fun _=>none,fun d _=>d= .bl true,fun _ _=>False,⟨fun b o e=> ?_,fun b o e=> ?_,fun b o e=> ?_,fun b φ e=> ?_⟩,.cons (.scr ?_ (b23 ns)) .nil,⟨ns,rfl,hsc,fun _=>rfl⟩,fun v H' ⟨d,_,_,_,_,r,hd⟩=> ?_,fun _ _ ⟨_,_,_,_,z⟩=>z.elim⟩
 . split at e
   . exact e
   . cases e
 . cases e
 . cases e
 . split at e
   . rename_i hb
     obtain⟨rfl,hb⟩:=hb
     exact hb _ e
   . cases e
 . rcases hS with(h | ⟨o,h⟩) |h
   . exact .inl (.inl (by show(if _ then _ else _)=_;rw[if_pos ⟨rfl,fun φ z=>by rw[h]at z;cases z⟩];exact h))
   . exact .inl (.inr ⟨o,by show(if _ then _ else _)=_;rw[if_pos ⟨rfl,fun φ z=>by rw[h]at z;cases z⟩];exact h⟩)
   . exact .inr h
 . subst hd
   cases r
   exact q H'
theorem a6l{α:Type}(f:α->D)(xs:List α)(j:Int)(h0:0<=j)(h1:j<xs.length): ∃x,atI (xs.map f) j=some (f x)/\x∈xs:=by
 obtain⟨k,rfl⟩:=Int.eq_ofNat_of_zero_le h0
 have hk:k<xs.length:=by omega
 exact⟨xs[k],a1n (by simp[List.getElem?_eq_getElem hk]),List.getElem_mem hk⟩
theorem at0{a:D}{l:List D}:atI (a::l) 0=some a:=a1n (j:=0) rfl
theorem at1{a b:D}{l:List D}:atI (a::b::l) 1=some b:=a1n (j:=1) rfl
theorem at2{a b c:D}{l:List D}:atI (a::b::c::l) 2=some c:=a1n (j:=2) rfl
theorem at3{a b c d:D}{l:List D}:atI (a::b::c::d::l) 3=some d:=a1n (j:=3) rfl
theorem str_at(z:Str)(j:Int)(h0:0<=j)(h1:j<z.length): ∃c,atI z.cps.toList j=some c:=by
 obtain⟨k,rfl⟩:=Int.eq_ofNat_of_zero_le h0
 have hk : k < z.cps.toList.length := by have : z.length = z.cps.toList.length := by simp [Str.length]
                                         omega
 exact⟨_,a1n (List.getElem?_eq_getElem hk)⟩
section
variable {M:Mem}{Q:AK}
theorem eqq_int{i j:Int}:oEq false (.int i) (.int j) M Q=Q (.bl (decide (i=j))) M:=by unfold oEq eqC eqB;simp[a3u,eqS]
theorem eqq_str{i j:PySem.Str}:oEq false (.str i) (.str j) M Q=Q (.bl (decide (i=j))) M:=by unfold oEq eqC eqB;simp[a3u,eqS]
theorem eqq_bl{i j:Bool}:oEq false (.bl i) (.bl j) M Q=Q (.bl (decide (i=j))) M:=by unfold oEq eqC eqB;simp[a3u,eqS]
theorem neq_int{i j:Int}:oEq true (.int i) (.int j) M Q=Q (.bl (!decide (i=j))) M:=by unfold oEq eqC eqB;simp[a3u,eqS]
theorem neq_str{i j:PySem.Str}:oEq true (.str i) (.str j) M Q=Q (.bl (!decide (i=j))) M:=by unfold oEq eqC eqB;simp[a3u,eqS]
theorem neq_bl{i j:Bool}:oEq true (.bl i) (.bl j) M Q=Q (.bl (!decide (i=j))) M:=by unfold oEq eqC eqB;simp[a3u,eqS]
end
theorem a10{c:AT}{t rest:AS}{E:AEnds}{Γ:G}{M:Mem}(h: ∀R:Bool->Mem->Prop,R false M->c Γ M R)(h2:rest E Γ M):aSeq (aIf c t aNext) rest E Γ M:=h _ (by rw[if_neg Bool.false_ne_true];exact h2)
theorem a3f{c:AT}{t u rest:AS}{E:AEnds}{Γ:G}{M:Mem}(h: ∀R:Bool->Mem->Prop,R true M->c Γ M R)(h2:t {E with nx:=rest E} Γ M):aSeq (aIf c t u) rest E Γ M:=h _ (by rw[if_pos rfl];exact h2)
theorem b0f{d:D}{M:Mem}(h:shD (drf M d)=true):eqB M d d=true:=by
 unfold eqB
 split
 . rename_i hs
   cases d<;>first
     | (simp[a3u]at hs;done)
     |simp[eqS]
 . unfold shD at h
   simp only[Bool.and_eq_true]at h
   exact b0e _ (PySem.SeqAt.canLay_of_shaped h.2)
theorem a91{d:D}{M:Mem}{Q:AK}(h:shD (drf M d)=true)(q:Q (.bl false) M):oEq true d d M Q:=⟨.inr ⟨h,h⟩,by rw[b0f h];exact q⟩
open PySem
inductive Gd:Nat->D->Prop where
 |non (n:Nat):Gd n .non
 |bl (n:Nat) (b:Bool):Gd n (.bl b)
 |int (n:Nat) (i:Int):Gd n (.int i)
 |str (n:Nat) (x:Str) (h:PyData.strOk x=true):Gd n (.str x)
 |lst (n:Nat) (ds:List D) (h: ∀d∈ds,Gd n d):Gd (n+1) (.lst ds)
 |tup (n:Nat) (ds:List D) (h: ∀d∈ds,Gd n d):Gd (n+1) (.tup ds)
theorem b27{n:Nat}: ∀{ds:List D},(∀d∈ds,d.flat=true/\d.py.canLay0=true/\d.py.depth<=n)->D.flats ds=true/\PyData.canLayAll0 (D.pys ds)=true/\PyData.depthAll (D.pys ds)<=n
 | [],_=>⟨by simp[D.flats],by simp[D.pys,PyData.canLayAll0],by simp[D.pys,PyData.depthAll]⟩
 |d::ds,h=>by
   obtain⟨h1,h2,h3⟩:=h d List.mem_cons_self
   obtain⟨g1,g2,g3⟩:=b27 fun e he=>h e (List.mem_cons_of_mem _ he)
   refine⟨by simp[D.flats,h1,g1],by simp[D.pys,PyData.canLayAll0,h2,g2],?_⟩
   simp only[D.pys,PyData.depthAll]
   omega
theorem Gd.ok{n:Nat}{d:D}(h:Gd n d):d.flat=true/\d.py.canLay0=true/\d.py.depth<=n:=by
 induction h with
 |non n=>simp[D.flat,D.py,PyData.canLay0,PyData.depth]
 |bl n b=>simp[D.flat,D.py,PyData.canLay0,PyData.depth]
 |int n i=>simp[D.flat,D.py,PyData.canLay0,PyData.depth]
 |str n x h=>simp[D.flat,D.py,PyData.canLay0,PyData.depth,h]
 |lst n ds _ ih=>
   obtain⟨h1,h2,h3⟩:=b27 ih
   exact⟨by simpa[D.flat]using h1,by simpa[D.py,PyData.canLay0]using h2,by simp only[D.py,PyData.depth];omega⟩
 |tup n ds _ ih=>
   obtain⟨h1,h2,h3⟩:=b27 ih
   exact⟨by simpa[D.flat]using h1,by simpa[D.py,PyData.canLay0]using h2,by simp only[D.py,PyData.depth];omega⟩
theorem Gd.sh{n:Nat}{d:D}(h:Gd n d)(hn:n<=64:=by decide):shD d=true:=by
 obtain⟨h1,h2,h3⟩:=h.ok
 unfold shD SeqAt.shaped
 rw[h1,h2]
 simp;omega
noncomputable def b1a:Key->D
 | .inl i=> .int i
 | .inr x=> .str x
section
variable {X:Cx}{F0:Hp}{o:Expr}{td:AE}{p q pos apos cpos:Pos}{K:PySem.W.Frag}
def aVals(td:AE):AE:=fun Γ M Q=>td Γ M fun x M1=>opt (dd M1 x) fun kvs=> ∀p,M1 p=none->Q (.obj p) (put M1 p (.lst (kvs.map fun kv=>kv.2)))
def aItems(td:AE):AE:=fun Γ M Q=>td Γ M fun x M1=>opt (dd M1 x) fun kvs=> ∀p,M1 p=none->Q (.obj p) (put M1 p (.lst (kvs.map fun kv=> .tup [b1a kv.1,kv.2])))
theorem PF.vals{F:Hp}: ∀{ws:List (Key×V)}{kvs:List (Key×D)},PF K F ws kvs->RDs K F (ws.map (·.2)) (kvs.map (·.2))
 |_,_,.nil=> .nil
 |_,_,.cons h t=> .cons h.2 (PF.vals t)
theorem b2t{F:Hp}: ∀k:Key,RD K F (kV k) (b1a k)
 | .inl _=> .int _
 | .inr _=> .str _
theorem paVals(hm:X.mg "list"=none)(hc:X.calm=true)(hg:Gl X "list")(ho:PEA X F0 o td)
   (hbase:attributeBase o "values" X.env (eval o X.env)=eval o X.env:=by rfl) (hline:(apos.endLine==cpos.line)=true:=by rfl)
   (he:starEach [.Call (.Attribute o "values" apos) [] [] cpos] X.env=(false,eval (.Call (.Attribute o "values" apos) [] [] cpos) X.env)::starEach [] X.env:=by rfl) (hpl:(backTo pos (starEach [] X.env)).any (·.1)=false:=by rfl):
   PEA X F0 (.Call (.Name "list" p) [.Call (.Attribute o "values" apos) [] [] cpos] [] pos) (aVals td):=by
 refine⟨?_⟩
 intro F Γ M σ H Q f0 g m hw
 refine(a48 (a4h hc) hg hm boot_list (a1y (pe_bm0 PySem.F.plainAttrs_dict PySem.F.slot_dict_values PySem.F.type_dict_values b2m a0k hbase hline) pa_nil he) (by decide) (by decide) he hpl).to
   ((ho.run F Γ M σ H _ f0 g m hw).mono fun v H1 ⟨d,F1,M1,s1,m1,r1,q1⟩=> ?_)
 obtain⟨kvs,hd,q2⟩:=a18 q1
 obtain⟨a,ws,rfl,rfl,hM,e1,pf⟩:=a6j m1 r1 hd
 refine⟨.inr (.inr (.inl ⟨rfl,.inl ⟨ws,e1⟩⟩)),a,ws,rfl,rfl,.inl e1,fun vw hvw=> ?_⟩
 have ha:a≠vw:=fun z=>by rw[z,hvw]at e1;cases e1
 refine⟨vw,a,ws,rfl,a0p,.inl (by rw[a0i ha];exact e1),fun l hl=> ?_⟩
 exact⟨.obj l,F1,_,s1,(m1.more (u:= .ext (viewφ "dict_values" vw a)) hvw).new (o:= .lst (kvs.map fun kv:Key×D=>kv.2)) hl (PF.vals pf),.obj l,q2 l ((m1.more (u:= .ext (viewφ "dict_values" vw a)) hvw).fM hl)⟩
theorem b4j{F:Hp}{M:Mem}{H H1:Hp}{l:Addr}{as:List Addr}{ws:List (Key×V)}{kvs:List (Key×D)}(m:AM K F M H)(hl:H l=none)(ha: ∀a∈as,H a=none/\a≠l)
   (hb: ∀b,(∀a∈as,b≠a)->H1 b=upd H l (.lst (as.map V.ref)) b) (hp:Prs H1 as ws) (pf:PF K F ws kvs):
   ∃F',Same F F'/\AM K F' (put M l (.lst (kvs.map fun kv=> .tup [b1a kv.1,kv.2]))) H1:=by
 have hs:Same F fun b=>if b∈as then H1 b else F b:=fun b x e=>by
   have:b∉as:=fun hm=>by rw[m.sub.free (ha b hm).1]at e;cases e
   dsimp only;rw[if_neg this];exact e
 have out: ∀b,b∉as->H1 b=upd H l (.lst (as.map V.ref)) b:=fun b hn=>hb b fun a hm z=>hn (z▸hm)
 have hll:l∉as:=fun hm=>(ha l hm).2 rfl
 have tp: ∀{as':List Addr}{ws':List (Key×V)},Prs H1 as' ws'-> ∀b∈as',∃xs,H1 b=some (.tup xs):=by
   intro as' ws' hp'
   induction hp' with
   |nil=>intro b hm;cases hm
   |cons h t ih=>
     intro b hm
     rcases List.mem_cons.mp hm with rfl |hm
     . exact⟨_,h⟩
     . exact ih b hm
 refine⟨_,hs,⟨fun b x e=> ?_,fun b x e=> ?_,fun b x e=> ?_,fun b φ e=> ?_⟩⟩
 . split at e
   . exact e
   . rename_i hn
     have hbl:b≠l:=by rintro rfl;rw[m.fF hl]at e;cases e
     rw[out b hn,a0i hbl];exact m.sub b x e
 . have hn:b∉as:=by
     by_cases hbl:b=l
     . subst hbl;exact hll
     . rw[a0h hbl]at e
       intro hm
       rw[m.fM (ha b hm).1]at e;cases e
   rw[if_neg hn]
   by_cases hbl:b=l
   . subst hbl;exact m.fF hl
   . rw[a0h hbl]at e;exact m.dj b x e
 . by_cases hbl:b=l
   . subst hbl
     rw[a0d]at e
     cases e
     refine⟨.lst (as.map V.ref),by rw[out b hll,a0p],?_⟩
     show RDs K _ (as.map V.ref) (kvs.map fun kv=> .tup [b1a kv.1,kv.2])
     have key: ∀{as':List Addr}{ws':List (Key×V)}{kvs':List (Key×D)},(∀a∈as',a∈as)->Prs H1 as' ws'->PF K F ws' kvs'->RDs K (fun b=>if b∈as then H1 b else F b) (as'.map V.ref) (kvs'.map fun kv=> .tup [b1a kv.1,kv.2]):=by
       intro as' ws' kvs' hin hp' pf'
       induction hp' generalizing kvs' with
       |nil=>cases pf';exact .nil
       |cons h t ih=>
         cases pf' with
         |cons h2 t2=>
           refine .cons (.tup (by rw[if_pos (hin _ List.mem_cons_self)];exact h) ?_) (ih (fun a hm=>hin a (List.mem_cons_of_mem _ hm)) t2)
           refine .cons ?_ (.cons (h2.2.up hs) .nil)
           rw[h2.1];exact b2t _
     exact key (fun _ h=>h) hp pf
   . rw[a0h hbl]at e
     obtain⟨y,e1,r1⟩:=m.mem b x e
     have hn:b∉as:=fun hm=>by rw[(ha b hm).1]at e1;cases e1
     exact⟨y,by rw[out b hn,a0i hbl];exact e1,r1.up hs⟩
 . have e:=e
   split at e
   . rename_i hm
     obtain⟨xs,h⟩:=tp hp b hm
     rw[h]at e;cases e
   . exact m.nx b φ e
theorem paItems(hm:X.mg "list"=none)(hc:X.calm=true)(hg:Gl X "list")(ho:PEA X F0 o td)
   (hbase:attributeBase o "items" X.env (eval o X.env)=eval o X.env:=by rfl) (hline:(apos.endLine==cpos.line)=true:=by rfl)
   (he:starEach [.Call (.Attribute o "items" apos) [] [] cpos] X.env=(false,eval (.Call (.Attribute o "items" apos) [] [] cpos) X.env)::starEach [] X.env:=by rfl) (hpl:(backTo pos (starEach [] X.env)).any (·.1)=false:=by rfl):
   PEA X F0 (.Call (.Name "list" p) [.Call (.Attribute o "items" apos) [] [] cpos] [] pos) (aItems td):=by
 refine⟨?_⟩
 intro F Γ M σ H Q f0 g m hw
 refine(a48 (a5r hc) hg hm boot_list (a1y (pe_bm0 PySem.F.plainAttrs_dict PySem.F.slot_dict_items PySem.F.type_dict_items b4d a0k hbase hline) pa_nil he) (by decide) (by decide) he hpl).to
   ((ho.run F Γ M σ H _ f0 g m hw).mono fun v H1 ⟨d,F1,M1,s1,m1,r1,q1⟩=> ?_)
 obtain⟨kvs,hd,q2⟩:=a18 q1
 obtain⟨a,ws,rfl,rfl,hM,e1,pf⟩:=a6j m1 r1 hd
 refine⟨.inr (.inr (.inl ⟨rfl,.inl ⟨ws,e1⟩⟩)),a,ws,rfl,rfl,.inl e1,fun vw hvw=> ?_⟩
 have ha:a≠vw:=fun z=>by rw[z,hvw]at e1;cases e1
 refine⟨vw,a,ws,rfl,a0p,.inl (by rw[a0i ha];exact e1),fun l as H2 hl has hH2 hp=> ?_⟩
 have m2:=m1.more (u:= .ext (viewφ "dict_items" vw a)) hvw
 obtain⟨F',s',m'⟩:=b4j m2 hl has hH2 hp pf
 exact⟨.obj l,F',_,s1.trans s',m',.obj l,q2 l (m2.fM hl)⟩
end
noncomputable def a8a(M:Mem)(T:String):D->Bool
 | .int _=>T== "int"
 | .bl _=>T== "bool"||T== "int"
 | .str _=>T== "str"
 | .lst _=>T== "list"
 | .tup _=>T== "tuple"
 | .obj p=>(match M p with |some (.lst _)=>T== "list" |some (.dic _)=>T== "dict" |_=>false)
 |_=>false
noncomputable def a39(M:Mem):D->Bool
 | .scr _=>false | .ctp _=>false
 | .obj p=>(match M p with |some (.lst _)=>true |some (.dic _)=>true |_=>false)
 |_=>true
section
variable {X:Cx}{F0:Hp}{e:Expr}{te:AE}{p q pos:Pos}{K:PySem.W.Frag}{T:String}{x:Str}
theorem ty_of{F:Hp}{M:Mem}{H:Hp}{v:V}{d:D}(m:AM K F M H)(r:RD K F v d)(h:a39 M d=true)(hT:T="int"\/T="bool"\/T="str"\/T="list"\/T="tuple"):
   ∃t,TyOf K H v t/\PySem.W.kitOne K t (.type T)=some (a8a M T d):=by
 cases r<;>first
   | (simp[a39]at h;done)
   |skip
 . exact⟨_,.non,by rcases hT with rfl |rfl |rfl |rfl |rfl<;>rfl⟩
 . exact⟨_,.bl _,by rcases hT with rfl |rfl |rfl |rfl |rfl<;>rfl⟩
 . exact⟨_,.int _,by rcases hT with rfl |rfl |rfl |rfl |rfl<;>rfl⟩
 . exact⟨_,.str _,by rcases hT with rfl |rfl |rfl |rfl |rfl<;>rfl⟩
 . rename_i e r
   exact⟨_,.lst (m.sub _ _ e),by rcases hT with rfl |rfl |rfl |rfl |rfl<;>rfl⟩
 . rename_i e r
   exact⟨_,.tup (m.sub _ _ e),by rcases hT with rfl |rfl |rfl |rfl |rfl<;>rfl⟩
 . rename_i pp
   unfold a39 at h
   dsimp only at h
   unfold a8a
   dsimp only
   split at h
   . rename_i ds hd
     obtain⟨u,e,r⟩:=m.mem _ _ hd
     obtain⟨vs,rfl,r⟩:=r.isL
     exact⟨_,.lst e,by rcases hT with rfl |rfl |rfl |rfl |rfl<;>rfl⟩
   . rename_i ds hd
     obtain⟨u,e,r⟩:=m.mem _ _ hd
     obtain⟨vs,rfl,r⟩:=r.isD
     exact⟨_,.dK e,by rcases hT with rfl |rfl |rfl |rfl |rfl<;>rfl⟩
   . cases h
def b3j(T:String)(te:AE):AE:=fun Γ M Q=>te Γ M fun d M1=>a39 M1 d=true/\Q (.bl (a8a M1 T d)) M1
theorem a6d(hT:T="int"\/T="bool"\/T="str"\/T="list"\/T="tuple")(hg:Gl X "isinstance")(hm:X.mg "isinstance"=none)(hx:Gl X x)(hmx:X.mg x=none)(hv:bootBuiltins x=some (.type T))(ha:PEA X F0 e te)
   (hn:x≠ "__name__":=by decide) (hdb:(x==("__debug__":Str))=false:=by decide)
   (he:starEach [e,.Name x q] X.env=(false,eval e X.env)::starEach [.Name x q] X.env:=by rfl) (he2:starEach [.Name x q] X.env=(false,eval (.Name x q) X.env)::starEach [] X.env:=by rfl) (hpl:(backTo pos (starEach [.Name x q] X.env)).any (·.1)=false:=by rfl):
   PEA X F0 (.Call (.Name "isinstance" p) [e,.Name x q] [] pos) (b3j T te):=by
 refine⟨?_⟩
 intro F Γ M σ H Q f0 g m hw
 refine(a3j a8h hg hm boot_isinstance (a1y a0k (a1y (b2c (v:= .ty T) hx hmx hv rfl hn hdb) pa_nil he2) he) (by decide) (by decide) he hpl).to ((ha.run F Γ M σ H _ f0 g m hw).mono fun v H1 zz9=> ?_)
 obtain⟨d,F1,M1,s1,m1,r1,hok,q1⟩:=zz9
 obtain⟨t,h1,h2⟩:=ty_of m1 r1 hok hT
 exact⟨v,.ty T,t,.type T,_,rfl,h1,rfl,h2,_,F1,M1,s1,m1,.bl _,q1⟩
end
noncomputable abbrev ATh:=AEnds->Value->G->Mem->Prop
def selfH(X:Cx)(hs:List ExceptHandler):TH:=fun D cls a σ H=> ∀s B a0,Inv X [] σ H s->Exn X H B a cls a0 (some .none) s.heap->wpAny (model X.prog X.w) X.A (handleBy (.ref a) X.env hs) (SP X [] D) X.xe s
theorem b19{X:Cx}{hs:List ExceptHandler}:PH X hs (selfH X hs):=fun s σ H D B a cls a0 I ex h=>h s B a0 I ex
theorem PH.to{X:Cx}{hs:List ExceptHandler}{t:TH}{D:Ends}{cls:Value}{a:Addr}{σ:St}{H:Hp}(h:PH X hs t)(hw:t D cls a σ H):selfH X hs D cls a σ H:=fun s B a0 I ex=>h s σ H D B a cls a0 I ex hw
theorem selfH.mono{X:Cx}{hs:List ExceptHandler}{D D':Ends}{cls:Value}{a:Addr}{σ:St}{H:Hp}(h:selfH X hs D cls a σ H)(k:EndsTo D D'):selfH X hs D' cls a σ H:=fun s B a0 I ex=>thn (h s B a0 I ex) fun _ _ q=>q.to k
structure PHA(X:Cx)(F0:Hp)(hs:List ExceptHandler)(t:ATh):Prop where
 run: ∀F Γ M σ H E cls a,Same F0 F->AG X.K F Γ σ->AM X.K F M H->t E cls Γ M->selfH X hs (PQD X.K F E) cls a σ H
def aTry(tb:AX->AS)(th:ATh)(to:AS):AS:=fun E Γ M=>tb (fun Γ' M' cls=>th E cls Γ' M') {E with nx:=to E} Γ M
section
variable {X:Cx}{F0:Hp}{R:AX}
theorem selfSs.byImp{R R':RX}{sts:List Stmt}{D:Ends}{σ:St}{H:Hp}(h:selfSs (X.by R) sts D σ H)(k: ∀σ H cls a,R σ H cls a->R' σ H cls a):selfSs (X.by R') sts D σ H:=fun pins s I=>
 wpAny_mono (h pins s (I.unwish.wish _)) (fun _ _ q=>by
   cases ‹Flow›with
   |next=>obtain⟨σ',H',J,q⟩:=q;exact⟨σ',H',J.unwish.wish _,q⟩
   |brk=>obtain⟨σ',H',J,q⟩:=q;exact⟨σ',H',J.unwish.wish _,q⟩
   |cont=>obtain⟨σ',H',J,q⟩:=q;exact⟨σ',H',J.unwish.wish _,q⟩
   |ret u=>obtain⟨v,σ',H',J,r,q⟩:=q;exact⟨v,σ',H',J.unwish.wish _,r,q⟩) fun e s' x=>x.imp k
theorem Cat.by{R':AX}(pl:Plain X)(calm:X.calm=true)(hu:X.A.units+64<cLine):Cat (X.by (b06 X.K F0 R')) F0 R':=⟨a9n,pl.wish _,calm,fun fr=>a7r pl fr,hu⟩
theorem sTry{body orelse:List Stmt}{h₀:ExceptHandler}{hs:List ExceptHandler}{pos:Pos}{tb:AX->AS}{th:ATh}{t_o:AS}(k:Cat X F0 R)
   (hb: ∀pn F1 R',Cat ((X.pin pn).by (b06 X.K F1 R')) F1 R'->PSsA ((X.pin pn).by (b06 X.K F1 R')) F1 body (tb R')) (hh: ∀pn,PHA (X.pin pn) F0 (h₀::hs) th) (ho:PSsA X F0 orelse t_o):
   PSA X F0 (.Try body (h₀::hs) orelse [] pos) (aTry tb th t_o):=by
 refine⟨?_⟩
 intro F Γ M σ H E f0 g m hw
 refine(ps_try k.pl (tb:=fun R D σ H=> ∀pn,selfSs ((X.pin pn).by R) body D σ H) (th:=fun D cls a σ H=> ∀pn,selfH (X.pin pn) (h₀::hs) D cls a σ H) (to:=selfSs X orelse)
   (fun pn R pins s σ H D I h=>h pn pins s I) (fun pn s σ H D B a cls a0 I ex h=>h pn s B a0 I ex) a1u).to ?_
 intro pn
 have b:=(hb pn F (fun Γ' M' cls=>th E cls Γ' M') (Cat.by (k.pl.pin pn) k.calm k.un)).run F Γ M σ H _ (.refl F) g m hw
 refine(b.byImp fun σ' H' cls a ⟨F',Γ',M',s',g',m',q'⟩ pn'=> ?_).mono ⟨fun σ' H' ⟨F',Γ',M',s',g',m',q'⟩=> ?_,fun _ _ z=>z,fun _ _ z=>z,fun _ _ z=>z⟩
 . exact(ho.run F' Γ' M' σ' H' E (f0.trans s') g' m' q').mono (PQD.dn s')
 . exact((hh pn').run F' Γ' M' σ' H' E cls a (f0.trans s') g' m' q').mono (PQD.dn s')
theorem Cat.pin(k:Cat X F0 R)(h:X.pn=[])(pn:List (Addr×Obj)):Thr (X.pin pn) (b06 X.K F0 R):=by
 rintro e s' ⟨a,σ,H,B,cls,a0,m,rfl,I,ex,r⟩
 have J:Inv X [] σ H s':=⟨I.ok.unpin,I.os,I.bare,I.base,I.loc,I.cell,I.free,I.freeC,fun p hp=>by rw[h]at hp;simp at hp,I.hok,I.len⟩
 refine k.thr _ _ ⟨a,σ,H,B,cls,a0,m,rfl,J,⟨ex.air,ex.tr,ex.md,fun b o e q n=>ex.cov b o e ?_ n,ex.nd⟩,r⟩
 rcases q with q |q |q | ⟨p,hp,e⟩ |q
 . exact .inl q
 . exact .inr (.inl q)
 . exact .inr (.inr (.inl q))
 . rw[h]at hp;simp at hp
 . exact .inr (.inr (.inr (.inr q)))
theorem haNil(k:Cat X F0 R)(h:X.pn=[])(pn:List (Addr×Obj)):PHA (X.pin pn) F0 [] (fun _ cls Γ M=>R Γ M cls):=by
 refine⟨?_⟩
 intro F Γ M σ H E cls a f0 g m hw
 exact(ph_nil (k.pin h pn) (k.pl.pin pn)).to ⟨F,Γ,M,f0,g,m,hw⟩
variable {x n:Str}{C:Addr}{np hp:Pos}{b₀:Stmt}{suite:List Stmt}{rest:List ExceptHandler}{ts:Addr->AS}{tr:ATh}{K':PySem.W.Frag}
theorem haAs{i:Nat}(hK:X.K=K')(Pl:Plain X)(hN:X.N.Nodup)(hi:X.N[i]? =some n)(hl:X.env.scope.names.lookup n=some .local)(hm:X.mg x=some (.ref C))(hg:Gl X x)(hs: ∀a,PSsA (X.hand a) F0 (b₀::suite) (ts a))(hr:PHA X F0 rest tr)
   (hd:(x==("__debug__":Str))=false:=by decide):
   PHA X F0 (.ExceptHandler (some (.Name x np)) (some n) (b₀::suite) hp::rest) (fun E cls Γ M=> ∃b,PySem.W.exmOne K' cls (.ref C)=some b/\
     if b=true then ∀a M',ExcM M' a cls->ts a {nx:=fun Γ' M'=>E.nx (Γ'.set i none) M',rt:=E.rt,bk:=fun Γ' M'=>E.bk (Γ'.set i none) M',ct:=fun Γ' M'=>E.ct (Γ'.set i none) M'} (Γ.set i (some (.obj a))) M' else tr E cls Γ M):=by
 refine⟨?_⟩
 intro F Γ M σ H E cls a f0 g m hw
 subst hK
 refine(ph_as Pl hN hi hl hm hg (ts:=fun a D σ H=>selfSs (X.hand a) (b₀::suite) D σ H) (fun a pins s σ H D I h=>h pins s I) b19 hd).to ?_
 obtain⟨b,hx,hw⟩:=hw
 refine⟨b,hx,?_⟩
 cases b with
 |true=>
   rw[if_pos rfl]at hw |-
   intro hna φ hφ
   have mx:=m.exm
   obtain⟨M2,hM2,m2⟩: ∃M2,ExcM M2 a cls/\AM X.K F M2 (upd H a (.ext φ)):=by
     rcases hφ with rfl | ⟨b,hb,rfl⟩
     . exact⟨_,.inl a0d,mx.new (o:= .exc cls) hna rfl⟩
     . exact⟨_,.inr ⟨b,a0d,(ChM.of hb).up (mx.fM hna)⟩,mx.new (o:= .raw (.ext (excψ a cls b))) hna rfl⟩
   have un: ∀{Q:G->Mem->Prop}{σ':St}{H':Hp},PQg X.K F (fun Γ' M'=>Q (Γ'.set i none) M') σ' H'->PQg X.K F Q (σ'.set i none) H':=fun ⟨F',Γ',M',s',g',m',q'⟩=>⟨F',_,M',s',g'.unset i,m',q'⟩
   exact((hs a).run F _ _ _ _ _ f0 (g.set (.obj a) i) m2 (hw a M2 hM2)).mono ⟨fun _ _ z=>un z,fun _ _ z=>z,fun _ _ z=>un z,fun _ _ z=>un z⟩
 |false=>rw[if_neg Bool.false_ne_true]at hw |-;exact hr.run F Γ M σ H E cls a f0 g m hw
end
section
variable {X:Cx}{F0:Hp}{k:Nat}{x:Str}{ps:List Str}{sa:Addr->SpA}{p pos:Pos}{e:Expr}{es:List Expr}{tt:AA}{a:Addr}
def aFunH(sa:SpA)(t:AA):AE:=fun Γ M Q=>t Γ M fun ds M1=>sa ds M1 Q fun _ _=>False
theorem paFunH(h:HasH X.prog X.w X.K X.mg X.base k x ps (fun a=>a0m X.K (sa a)))(hr:RoomH k X.A)(hh:X.A.handled=some (.ref a))(hg:Gl X x)(ha:PAA X F0 (e::es) tt)
   (hdb:(x==("__debug__":Str))=false:=by decide) (he:starEach (e::es) X.env=(false,eval e X.env)::starEach es X.env:=by rfl) (hpl:(backTo pos (starEach es X.env)).any (·.1)=false:=by rfl):
   PEA X F0 (.Call (.Name x p) (e::es) [] pos) (aFunH (sa a) tt):=by
 refine⟨?_⟩
 intro F Γ M σ H Q f0 g mm hw
 refine(b2b h hr hh hg a1h hdb he hpl).to ((ha.run F Γ M σ H _ f0 g mm hw).mono fun vs H1 zz9=> ?_)
 obtain⟨ds,F1,M1,s1,m1,r1,q1⟩:=zz9
 rw[List.append_nil]
 exact⟨F1,ds,M1,_,_,m1,r1,q1,fun v H' z=>z.dn s1,fun _ _ ⟨_,_,_,_,z⟩=>z.elim⟩
end
theorem Fun.okHA{P:Program}{w:World}{K:PySem.W.Frag}{mg:Str->Option Value}{base:Heap}{x qual:Str}{st:Stmt}{f:Addr}{fd:FuncData}{N ps:List Str}{k:Nat}{sa:Addr->SpA}(Fn:Fun K x qual st f fd)(S:FnScope N ps (a0c st))(len: ∀a ds M Q E,sa a ds M Q E->ds.length=ps.length)
   (hbody: ∀(cdv:Value) (A:Around) (a:Addr) (outer:List Env) (s:Shared) (H:Hp) (E:XK) (F0:Hp) (ds:List D) (M:Mem) (Q:AK) (Ea:Value->Mem->Prop),RoomH k (A.deeper (envOfC qual (a0c st) s.heap.objs.size f cdv))->(A.deeper (envOfC qual (a0c st) s.heap.objs.size f cdv)).handled=some (.ref a)->sa a ds M Q Ea->
     ∃t,PSsA (cxH P w K mg base N qual (a0c st) f cdv A outer s H E) F0 (a04 st) t/\t {nx:=fun _ M'=>Rt Q .non M',rt:=Rt Q} (a4u N ds) M):FnOkH P w K mg base (k+1) f fd ps (fun a=>a0m K (sa a)):=by
 refine Fn.okH S (fun a vs H Q E ⟨F,ds,M,Qa,Ea,m,r,h,_⟩=>by rw[r.length];exact len _ _ _ _ _ h) ?_
 intro cdv A a outer s H vs Q E hr hh ⟨F,ds,M,Qa,Ea,m,r,h,hQ,hE⟩
 obtain⟨t,ht,q⟩:=hbody cdv A a outer s H E F ds M Qa Ea hr hh h
 refine⟨_,a1u,?_⟩
 refine(ht.run F _ M _ H _ (.refl F) (a9p r) m q).mono ⟨fun σ' H' ⟨F',Γ',M',s',g',m',q'⟩=> ?_,fun v H' z=> ?_,fun _ _ ⟨_,_,_,_,_,_,q'⟩=>q'.elim,fun _ _ ⟨_,_,_,_,_,_,q'⟩=>q'.elim⟩
 . exact hQ _ _ (PQ.rt ⟨.non,F',M',s',m',.non,q'⟩)
 . exact hQ _ _ (PQ.rt z)
section
variable {X:Cx}{F0:Hp}{e:Expr}{te:AE}{p q pos:Pos}{x:Str}{C:Addr}
def a8o(K:PySem.W.Frag)(cv:Value)(te:AE):AE:=fun Γ M Q=>te Γ M fun d M1=>match d with
 | .obj a=>(∃D b,ExcM M1 a (.ref D)/\ExLook K D/\PySem.W.kitOne K (.ref D) cv=some b/\Q (.bl b) M1)
 |_=>False
theorem a2j(hx:X.mg x=some (.ref C))(hg:Gl X "isinstance")(hm:X.mg "isinstance"=none)(hgx:Gl X x)(ha:PEA X F0 e te)
   (hdb:(x==("__debug__":Str))=false:=by decide)
   (he:starEach [e,.Name x q] X.env=(false,eval e X.env)::starEach [.Name x q] X.env:=by rfl) (he2:starEach [.Name x q] X.env=(false,eval (.Name x q) X.env)::starEach [] X.env:=by rfl) (hpl:(backTo pos (starEach [.Name x q] X.env)).any (·.1)=false:=by rfl):
   PEA X F0 (.Call (.Name "isinstance" p) [e,.Name x q] [] pos) (a8o X.K (.ref C) te):=by
 refine⟨?_⟩
 intro F Γ M σ H Q f0 g m hw
 refine(a3j a4d hg hm boot_isinstance (a1y a0k (a1y (a2b (v:= .ref C) hgx hx rfl hdb) pa_nil he2) he) (by decide) (by decide) he hpl).to ((ha.run F Γ M σ H _ f0 g m hw).mono fun v H1 zz9=> ?_)
 obtain⟨d,F1,M1,s1,m1,r1,q1⟩:=zz9
 obtain⟨a,rfl,rfl⟩: ∃a,v= .ref a/\d= .obj a:=by cases r1<;>first |exact q1.elim |exact⟨_,rfl,rfl⟩
 obtain⟨D,b,hM,L,hk,q2⟩:=q1
 have e1:=m1.exc hM
 exact⟨a,D,.ref C,.ref C,b,rfl,e1,L,rfl,hk,_,F1,M1,s1,m1,.bl _,q2⟩
theorem paInstV(hg:Gl X "isinstance")(hm:X.mg "isinstance"=none)(hgx:Gl X "ValueError")(hmx:X.mg "ValueError"=none)(hv:bootBuiltins "ValueError"=some (.type "ValueError"))(ha:PEA X F0 e te)
   (he:starEach [e,.Name "ValueError" q] X.env=(false,eval e X.env)::starEach [.Name "ValueError" q] X.env:=by rfl) (he2:starEach [.Name "ValueError" q] X.env=(false,eval (.Name "ValueError" q) X.env)::starEach [] X.env:=by rfl) (hpl:(backTo pos (starEach [.Name "ValueError" q] X.env)).any (·.1)=false:=by rfl):
   PEA X F0 (.Call (.Name "isinstance" p) [e,.Name "ValueError" q] [] pos) (a8o X.K (.type "ValueError") te):=by
 refine⟨?_⟩
 intro F Γ M σ H Q f0 g m hw
 refine(a3j a4d hg hm boot_isinstance (a1y a0k (a1y (b2c (v:= .ty "ValueError") hgx hmx hv rfl) pa_nil he2) he) (by decide) (by decide) he hpl).to ((ha.run F Γ M σ H _ f0 g m hw).mono fun v H1 zz9=> ?_)
 obtain⟨d,F1,M1,s1,m1,r1,q1⟩:=zz9
 obtain⟨a,rfl,rfl⟩: ∃a,v= .ref a/\d= .obj a:=by cases r1<;>first |exact q1.elim |exact⟨_,rfl,rfl⟩
 obtain⟨D,b,hM,L,hk,q2⟩:=q1
 have e1:=m1.exc hM
 exact⟨a,D,.ty "ValueError",.type "ValueError",b,rfl,e1,L,rfl,hk,_,F1,M1,s1,m1,.bl _,q2⟩
theorem a5s:bootBuiltins "ValueError"=some (.type "ValueError"):=by decide+kernel
end
section
variable {X:Cx}{tg:Expr}{F0:Hp}{tt:AA}{pos:Pos}
theorem a3i(a b:Int):Builtin.Range.rangeSize a b 2=if a<b then(b- a- 1)/2+1 else 0:=by
 unfold Builtin.Range.rangeSize
 rw[if_pos (by decide)]
theorem b1u{a b:Int}(ha: -(2^61)<=a)(ha':a<2^61)(hb: -(2^61)<=b)(hb':b<2^61):Builtin.Range.small a b 2=true:=by
 unfold Builtin.Range.small
 rw[a3i]
 simp only[Builtin.Range.rangeFitsLong,Bool.and_eq_true,Bool.or_eq_true,decide_eq_true_eq,beq_iff_eq,show(2:Int)>0 by decide,if_true]
 split<;>omega
noncomputable def a3t(a b:Int):Nat:=((b- a+1)/2).toNat
def iRng3(ta:TA):TI:=fun σ H R=>ta σ H fun vs H1=> ∃i j:Int,vs=[.int i,.int j,.int 2]/\(-(2^61)<=i/\i<2^61/\ -(2^61)<=j/\j<2^61)/\R (Itw (a3t i j) fun k=> .int (i+k *2)) H1
theorem b10{pins:List (Addr×Obj)}{σ:St}{H:Hp}{s:Shared}{R:It->Hp->Prop}{E:Value->Shared->Prop}{lo hi:Int}{t u v:Tok}{tk:Nat}(I:Inv X pins σ H s)(h1: -(2^61)<=lo)(h2:lo<2^61)(h3: -(2^61)<=hi)(h4:hi<2^61)
   (q:R (Itw (a3t lo hi) fun k=> .int (lo+k *2)) H):wpAny (model X.prog X.w) X.A (pyIter (.ref s.heap.objs.size)) (PIE X pins σ tg R) E {s with heap:=s.heap.push {cls:= .type "range",data:= .fields #[.int lo t,.int hi u,.int 2 v]},toks:=tk}:=by
 refine wpAny_pyIter_range (IsRange.new ..) (b1u h1 h2 h3 h4) ?_
 have I1:Inv X pins σ H {s with heap:=s.heap.push {cls:= .type "range",data:= .fields #[.int lo t,.int hi u,.int 2 v]},toks:=tk}:=I.kept fun b o e=>Heap.get?_push_of_some _ e
 refine⟨(s.heap.push {cls:= .type "range",data:= .fields #[.int lo t,.int hi u,.int 2 v]}).objs.size,[(s.heap.push {cls:= .type "range",data:= .fields #[.int lo t,.int hi u,.int 2 v]}).objs.size],_,_,H,rfl,
   I1.kept (t':=tk) fun b o e=>Heap.get?_push_of_some _ e,a3q (n:=a3t lo hi) (fun A hA=>Walks.range hA _ lo 2 (a3t lo hi)) (fun i v hi hp=> ?_) (fun i h st=>⟨_,"range_iterator",_,st,rfl,rfl,by decide⟩) (fun _ _ _ _ _ st q=>wpAny_pyIter_rangeiter st q),?_,fun b hb=> ?_,q⟩
 . obtain⟨t,rfl⟩:=hp
   exact⟨t,rfl⟩
 . have e1:lo+((0:Nat):Int) *2=lo:=by simp
   have e2:(((a3t lo hi):Nat):Int)- ((0:Nat):Int)=Builtin.Range.rangeSize lo hi 2:=by rw[a3i];unfold a3t;split<;>omega
   show IsRangeIter _ _ (lo+((0:Nat):Int) *2) (((a3t lo hi:Nat):Int)- ((0:Nat):Int)) 2
   rw[e1,e2]
   exact Heap.get?_push_size _ rfl
 . have e:b=(s.heap.push {cls:= .type "range",data:= .fields #[.int lo t,.int hi u,.int 2 v]}).objs.size:=by simpa using hb
   subst e
   exact I1.fpOk (Nat.le_refl _) (I1.hok.fresh (Nat.le_refl _))
theorem b17{a b c:Expr}{ta:TA}{p pos:Pos}(hg:Gl X "range")(hm:X.mg "range"=none)(ha:PA X [a,b,c] ta)(hs:starEach [a,b,c] X.env=[(false,eval a X.env),(false,eval b X.env),(false,eval c X.env)]:=by rfl)(hs2:starEach [b,c] X.env=[(false,eval b X.env),(false,eval c X.env)]:=by rfl):
   PI X tg (.Call (.Name "range" p) [a,b,c] [] pos) (iRng3 ta):=by
 intro pins s σ H R I h
 refine Call_ (a77 I hg hm boot_range (PyProof.Rows.callWith_type1 (thn (ha pos pins s σ H _ I h) fun us s1 ⟨vs,H1,I1,r1,q1⟩=> ?_) (by rw[hs,hs2]) (by rw[hs2];rfl)))
 obtain⟨i,j,e,⟨q1,q2,q3,q4⟩,q⟩:=q1
 subst e
 cases r1 with
 |cons r rr=>
   cases rr with
   |cons r' rr=>
     cases rr with
     |cons r'' rr=>
       cases rr
       obtain⟨t,rfl⟩:=r
       obtain⟨t',rfl⟩:=r'
       obtain⟨t'',rfl⟩:=r''
       exact call_range_3 (by decide) (b10 I1 q1 q2 q3 q4 q) (Or.inl (PyProof.noPylong_small (by decide)))
def iaR3(tt:AA):AI:=fun Γ M Q=>tt Γ M fun ds M1=>match ds with
 | [.int i,.int j,.int c]=>c=2/\(-(2^61)<=i/\i<2^61/\ -(2^61)<=j/\j<2^61)/\Q ⟨a3t i j,fun k=> .int (i+k *2),fun _=>True⟩ M1
 |_=>False
theorem iRange3{tg a b c:Expr}{p:Pos}(hg:Gl X "range")(hm:X.mg "range"=none)(ha:PAA X F0 [a,b,c] tt)(hs:starEach [a,b,c] X.env=[(false,eval a X.env),(false,eval b X.env),(false,eval c X.env)]:=by rfl)(hs2:starEach [b,c] X.env=[(false,eval b X.env),(false,eval c X.env)]:=by rfl):PIA X F0 tg (.Call (.Name "range" p) [a,b,c] [] pos) (iaR3 tt):=by
 refine⟨?_⟩
 intro F Γ M σ H Q f0 g m h
 refine(b17 hg hm a1h hs hs2).to ((ha.run F Γ M σ H _ f0 g m h).mono fun vs H1 zz9=> ?_)
 obtain⟨ds,F1,M1,s1,m1,r1,q1⟩:=zz9
 try dsimp only at q1
 split at q1
 . rename_i i j c
   obtain⟨rfl,q0,q1⟩:=q1
   cases r1 with
   |cons rx r1=>
     obtain⟨y,z,rfl,ry,rz⟩:=r1.two'
     cases rx;cases ry;cases rz
     refine⟨i,j,rfl,q0,⟨a3t i j,fun k=> .int (i+k *2),fun _=>True⟩,F1,M1,s1,m1,?_,q1⟩
     exact⟨fun i _ _ _ _ _ _ h=>h,fun i F' M H x H' _ m _ _ ⟨e1,e2⟩=>by subst e1 e2;exact⟨F',.refl _,m,.int _⟩,fun _ _ _ _ _ _=>rfl⟩
 . exact q1.elim
end
section
variable {X:Cx}{F0:Hp}{pos:Pos}{k v:Expr}{tk tv:AE}
end
section
variable {X:Cx}{F0:Hp}{e:Expr}{te:AE}
end
theorem ixN_nat{n j:Nat}(h:j<n):ixN n (j:Int)=some j:=by
 unfold ixN
 rw[if_pos (by omega),if_pos (by omega)];rfl
end L2
namespace PySem
open Sem (wp)
section
variable {prog:Program}{w:World}{K:Type}[DecidableEq K]{knd:KeyKind prog w K}{A:Around}{R:Result->Shared->Prop}{I:Addr}{fp wr:List Addr}{n:Nat}{P:Nat->Value->Prop}{St:Nat->Heap->Prop}
end
section
variable {prog:Program}{w:World}{K:Type}[DecidableEq K]{knd:KeyKind prog w K}{A:Around}{E:Value->Shared->Prop}{s:Shared}
end
end PySem
namespace L2
open PySem PySem.Spec PySem.Calls PyProof.Rows
section
variable {X:Cx}
end
section
variable {X:Cx}{pins:List (Addr×Obj)}{σ:St}{H:Hp}{s:Shared}
end
section
variable {X:Cx}{tg o:Expr}{apos cpos:Pos}{tl:TE}
end
section
variable {X:Cx}{F0:Hp}{tg o:Expr}{td:AE}{apos cpos:Pos}
end
structure FunD(K:PySem.W.Frag)(x qual:Str)(st:Stmt)(f:Addr)(fd:FuncData):Prop where
 ex: ∃(oc:Value) (od:Option Addr) (dv:Addr) (kV doc pm:Value) (an:Option Addr) (cdv ct:Value) (osl:Array (Option Value)),
   fd=PySem.W.fnOf x qual (a1f st) (a04 st) (a0c st) (.ref dv) kV doc pm an cdv ct/\K.lookup f=some ⟨oc,od,.func fd,osl⟩/\PySem.W.codeIn K cdv qual=true/\ ∃oc2 od2 n2 osl2,K.lookup dv=some ⟨oc2,od2,.seq #[.none] n2,osl2⟩
structure HasD(P:Program)(w:World)(K:PySem.W.Frag)(mg:Str->Option Value)(base:Heap)(k:Nat)(x:Str)(ps:List Str)(sp:Sp):Prop where
 ex: ∃f fd,FnOk P w K mg base (CXE P w) k f fd ps sp/\mg x=some (.ref f)/\PySem.W.keepIn K (.ref f)=true/\Binds K fd ps []/\Binds K fd ps [.none]
section
variable {X:Cx}{k:Nat}{f:Addr}{fd:FuncData}{ps:List Str}{sp:Sp}{R:RX}{x:Str}{p pos:Pos}{e:Expr}{es:List Expr}{t:TA}
end
section
variable {X:Cx}{F0:Hp}{R:AX}{k:Nat}{x:Str}{ps:List Str}{sa:SpA}{p pos:Pos}{e:Expr}{es:List Expr}{tt:AA}
end
section
variable {X:Cx}{pins:List (Addr×Obj)}{σ:St}{H:Hp}{s:Shared}
end
section
variable {X:Cx}{F0:Hp}{R:AX}{tg o:Expr}{td:AE}{apos cpos:Pos}
end
section
variable {X:Cx}{F0:Hp}{tg l:Expr}{tl:AE}{pos:Pos}
def aForH(a:Addr)(tl:AE)(gt:AGt)(tb:AS):AS:=fun E Γ M=>tl Γ M fun d M1=>match d with
 | .lst ds=>LoopP ⟨ds.length,fun i=>ds.getD i .non,fun M=> ∃cls,ExcM M a cls⟩ gt tb E Γ M1
 |_=>False
theorem sForH{a:Addr}{body:List Stmt}{gt:AGt}{tb:AS}(hp:PassesOwn (model X.prog X.w) X.A X.env X.xe)(hh:X.A.handled=some (.ref a))(hl:PEA X F0 l tl)(hg:PGA X F0 tg gt)(hb:PSsA X F0 body tb)
   (hs: ∀x,foldedSetIterable l X.env x=pure x:=by intro _;rfl):PSA X F0 (.For tg l body [] pos) (aForH a tl gt tb):=by
 refine⟨?_⟩
 intro F Γ M σ H E f0 g m h
 refine(ps_forH hp hh a0k a80 a1u hs).to ?_
 refine(hl.run F Γ M σ H _ f0 g m h).mono fun v H1 zz9=> ?_
 obtain⟨d,F1,M1,s1,m1,r1,q1⟩:=zz9
 obtain⟨ds,rfl⟩: ∃ds,d= .lst ds:=by
   cases d<;>first |exact q1.elim |exact⟨_,rfl⟩
 try dsimp only at q1
 cases r1 with
 | @lst p vs _ e rr=>
   obtain⟨W,w0,turn⟩:=q1
   have hlen:=rr.length
   refine⟨p,vs,rfl,.inl (.inl (m1.sub _ _ e)),fun i n σ' H'=>n=ds.length- i/\i<=ds.length/\ ∃F' Γ' M',Same F1 F'/\AG X.K F' Γ' σ'/\AM X.K F' M' H'/\W i Γ' M',⟨ds.length,rfl,Nat.zero_le _,F1,Γ,M1,.refl _,g.up s1,m1,w0⟩,?_⟩
   rintro i n σ3 H3 ⟨rfl,hle,F3,Γ3,M3,s3,g3,m3,w3⟩
   obtain⟨⟨cls,ha⟩,w3⟩:=turn i Γ3 M3 w3
   refine⟨.inl (.inl (m3.sub _ _ (s3 _ _ e))),⟨_,m3.exc ha⟩,?_⟩
   by_cases hlt:i<ds.length
   . have w3:=(if_pos hlt)▸w3
     obtain⟨x,hx,rx⟩:=rr.get (i:=i) (d:=ds[i]) (by simp[hlt])
     have e5:ds.getD i .non=ds[i]:=by simp[List.getD,List.getElem?_eq_getElem hlt]
     refine .inr ⟨x,hx,PQg X.K F1 (W (i+1)),fun σ' H' ⟨F',Γ',M',s',g',m',w'⟩=>⟨ds.length- (i+1),by omega,rfl,hlt,F',Γ',M',s',g',m',w'⟩,?_⟩
     refine(hg.run F3 Γ3 M3 σ3 H3 x _ _ (f0.trans (s1.trans s3)) g3 m3 (by show RD X.K F3 x (ds.getD i .non);rw[e5];exact rx.up s3) w3).mono fun σ5 H5 zz9=> ?_
     obtain⟨F5,Γ5,M5,s5,g5,m5,q5⟩:=zz9
     have sx:=s3.trans s5
     exact(hb.run F5 Γ5 M5 σ5 H5 _ (f0.trans (s1.trans sx)) g5 m5 q5).mono ⟨fun _ _ z=>PQg.dn sx z,fun _ _ z=>PQ.dn (s1.trans sx) z,fun _ _ z=>PQg.dn (s1.trans sx) z,fun _ _ z=>PQg.dn sx z⟩
   . have w3:=(if_neg hlt)▸w3
     exact .inl ⟨by omega,F3,Γ3,M3,s1.trans s3,g3,m3,w3⟩
end
section
variable {X:Cx}
theorem a7d: ∀l:List (Str×Tok),Vals ((l.map (·.1)).map V.str) (strValues l)
 | []=> .nil
 |p::r=> .cons ⟨p.2,rfl⟩ (a7d r)
def rSplit:V->List V->Hp->VK->Prop:=fun x vs H Q=> ∃a b,x= .str a/\vs=[.str b]/\(b.length==0)=false/\a.length<=1000000/\ ∀p,H p=none->Q (.ref p) (upd H p (.lst ((Txt.split a b).map V.str)))
theorem a2q:MtR X "str.split" rSplit:=by
 intro pins s σ H x vs v us Q I rx rv h
 obtain⟨a,b,rfl,rfl,hb,ha,q⟩:=h
 obtain⟨t,rfl⟩:=rx
 obtain⟨u,rfl,ru⟩:=rv.one
 obtain⟨t',rfl⟩:=ru
 have fin: ∀(l:List (Str×Tok)) (k:Nat),l.map (·.1)=Txt.split a b->(Txt.split a b).length<=sizeLine->EP X pins σ Q (.ref s.heap.objs.size) {s with heap:=s.heap.push {cls:= .type "list",data:= .seq (strValues l).toArray},toks:=k}:=by
   intro l k hl hz
   have hf:H s.heap.objs.size=none:=I.hok.fresh (Nat.le_refl _)
   refine⟨.ref s.heap.objs.size,upd H s.heap.objs.size (.lst ((Txt.split a b).map V.str)),I.laid (t':=k) (fun b u e=>Heap.get?_push_of_some _ e) (Nat.le_refl _) ?_,rfl,q _ hf⟩
   exact⟨by rw[List.length_map];exact hz,strValues l,0,by rw[<-hl];exact a7d l,Heap.get?_push_size _ rfl⟩
 have hz1:(1000000:Nat)+2<=sizeLine:=by decide
 have hn:(Builtin.Str.partsBetween a (Builtin.Str.occurrences a b 0 a.length (a.length+1)) b.length).length<=sizeLine:=by
   have e1:=StrLaws.occ_length_le a b 0 a.length (a.length+1)
   rw[length_partsBetween];omega
 cases h1:(decide (a.length<b.length)||decide (Builtin.Str.strKind a<Builtin.Str.strKind b))
 . cases hf:(Builtin.Str.occurrences a b 0 a.length (a.length+1)).isEmpty
   . have es:Txt.split a b=Builtin.Str.partsBetween a (Builtin.Str.occurrences a b 0 a.length (a.length+1)) b.length:=(if_neg (ne_true_of_eq_false h1)).trans (if_neg (ne_true_of_eq_false hf))
     refine call_meets F.slot_str_split (typeIs_str _ _ _) F.entry_str_split (F.args_str_split_2 _ _) (meets_str_split_sep a b t t' h1 hb hf (by omega) hn) ?_
     show wants _ _ _ {s with toks:=_,heap:=s.heap.push {cls:= .type "list",data:= .seq (strsFrom s.toks (Builtin.Str.partsBetween a (Builtin.Str.occurrences a b 0 a.length (a.length+1)) b.length)).toArray}}
     rw[strsFrom_eq]
     exact fin (numbered s.toks _) _ ((numbered_texts _ _).trans es.symm) (by rw[es];exact hn)
   . have es:Txt.split a b=[a]:=(if_neg (ne_true_of_eq_false h1)).trans (if_pos hf)
     exact call_meets F.slot_str_split (typeIs_str _ _ _) F.entry_str_split (F.args_str_split_2 _ _) (meets_str_split_not_found a b t t' h1 hb hf) (fin [(a,t)] s.toks es.symm (by rw[es];exact Nat.le_trans (Nat.le_refl 1) (by decide)))
 . have es:Txt.split a b=[a]:=if_pos h1
   exact call_meets F.slot_str_split (typeIs_str _ _ _) F.entry_str_split (F.args_str_split_2 _ _) (meets_str_split_cannot_occur a b t t' h1) (fin [(a,t)] s.toks es.symm (by rw[es];exact Nat.le_trans (Nat.le_refl 1) (by decide)))
def oSplit:A1m:=fun x vs M Q=>match x,vs with
 | .str a,[.str b]=>(b.length==0)=false/\a.length<=1000000/\Q (.lst ((Txt.split a b).map D.str)) M
 |_,_=>False
theorem a9u{K:PySem.W.Frag}{F:Hp}: ∀ss:List Str,RDs K F (ss.map V.str) (ss.map D.str)
 | []=> .nil
 |x::ss=> .cons (.str x) (a9u ss)
theorem a6f{K:PySem.W.Frag}:LM K rSplit oSplit:=by
 intro F M H x d xs ds Q R m rx r h k
 unfold oSplit at h
 split at h
 . rename_i a b
   obtain⟨h1,h2,q⟩:=h
   cases rx
   obtain⟨y,rfl,ry⟩:=r.one'
   cases ry
   refine⟨a,b,rfl,rfl,h1,h2,fun p hp=>k _ _ ⟨_,upd F p (.lst ((Txt.split a b).map V.str)),M,a05 (m.fF hp),m.frz hp,.lst a0p (a9u _),q⟩⟩
 . exact h.elim
theorem a7g: ∀{ss:List Str}{its:List Value},Vals (ss.map V.str) its-> ∃l:List (Str×Tok),its=strValues l/\l.map (·.1)=ss
 | [],_,.nil=>⟨[],rfl,rfl⟩
 |x::ss,_,.cons ⟨t,e⟩ r=>by
   obtain⟨l,rfl,h⟩:=a7g (ss:=ss) r
   subst e
   exact⟨(x,t)::l,rfl,by rw[List.map_cons,h]⟩
noncomputable def a2f(sep:Str)(ss:List Str):Str:=Builtin.Str.glued sep ss
noncomputable def b1c(sep:Str)(ss:List Str):Nat:=ss.toArray.foldl (· + ·.length+sep.length) 0
def rJoin(K:PySem.W.Frag):V->List V->Hp->VK->Prop:=fun x vs H Q=> ∃sep p ss,x= .str sep/\vs=[.ref p]/\SqL K H p (ss.map V.str)/\b1c sep ss<=1000000/\(a2f sep ss).length<=1000000/\Q (.str (a2f sep ss)) H
theorem a89:MtR X "str.join" (rJoin X.K):=by
 intro pins s σ H x vs v us Q I rx rv h
 obtain⟨sep,p,ss,rfl,rfl,hq,hn,hl,q⟩:=h
 obtain⟨t,rfl⟩:=rx
 obtain⟨u,rfl,ru⟩:=rv.one
 cases ru
 obtain⟨its,r,pl,hz⟩:=I.list hq
 obtain⟨l,rfl,hls⟩:=a7g r
 have z1:(1000000:Nat)<=sizeLine:=by decide
 have hm:Builtin.Str.tooLong ((l.map (·.1)).toArray.foldl (· + ·.length+sep.length) 0)=false:=by
   rw[hls]
   unfold b1c at hn
   unfold Builtin.Str.tooLong
   exact decide_eq_false (by omega)
 refine call_meets F.slot_str_join (typeIs_str _ _ _) F.entry_str_join (F.args_str_join_2 _ _) (meets_str_join_list sep t p l hm) ⟨pl.isList,?_⟩
 unfold a2f at q hl
 rw[<-hls]at q hl
 cases l with
 |nil=>exact⟨Nat.le_trans hl z1,.str _,H,I.kept (t':=s.toks+1) fun _ _ e=>e,⟨_,rfl⟩,q⟩
 |cons a l=>
   cases l with
   |nil=>
     have e1:Builtin.Str.glued sep ([a].map (·.1))=a.1:=(StrLaws.glued_eq_join sep _).trans rfl
     rw[e1]at q
     exact⟨.str a.1,H,I,⟨a.2,rfl⟩,q⟩
   |cons b l=>exact⟨Nat.le_trans hl z1,.str _,H,I.kept (t':=s.toks+1) fun _ _ e=>e,⟨_,rfl⟩,q⟩
noncomputable def a7h:List D->Option (List Str)
 | []=>some []
 | .str x::ds=>(a7h ds).map (x:: ·)
 |_=>none
theorem a4r(ss:List Str):a7h (ss.map D.str)=some ss:=by
 induction ss with
 |nil=>rfl
 |cons x ss ih=>rw[List.map_cons];unfold a7h;rw[ih];rfl
theorem a9o: ∀{ds:List D}{ss:List Str},a7h ds=some ss->ds=ss.map D.str
 | [],ss,h=>by cases h;rfl
 | .str x::ds,ss,h=>by
   unfold a7h at h
   cases hd:a7h ds with
   |none=>rw[hd]at h;cases h
   |some l=>rw[hd]at h;cases h;rw[List.map_cons,<-a9o hd]
 | .non::_,_,h=>by cases h
 | .bl _::_,_,h=>by cases h
 | .int _::_,_,h=>by cases h
 | .lst _::_,_,h=>by cases h
 | .tup _::_,_,h=>by cases h
 | .scr _::_,_,h=>by cases h
 | .ctp _::_,_,h=>by cases h
 | .obj _::_,_,h=>by cases h
theorem a7o{K:PySem.W.Frag}{F:Hp}: ∀{ss:List Str}{xs:List V},RDs K F xs (ss.map D.str)->xs=ss.map V.str
 | [],_,.nil=>rfl
 |_::ss,_,.cons h t=>by cases h;rw[a7o t];rfl
def oJoin:A1m:=fun x vs M Q=>match x,vs with
 | .str sep,[d]=>(match (dr M d).bind a7h with |some ss=>b1c sep ss<=1000000/\(a2f sep ss).length<=1000000/\Q (.str (a2f sep ss)) M |none=>False)
 |_,_=>False
theorem lJoin{K:PySem.W.Frag}:LM K (rJoin K) oJoin:=by
 intro F M H x d xs ds Q R m rx r h k
 unfold oJoin at h
 split at h
 . rename_i sep d'
   split at h
   . rename_i ss hs
     obtain⟨h1,h2,q⟩:=h
     cases rx
     obtain⟨y,rfl,ry⟩:=r.one'
     cases hd:dr M d' with
     |none=>rw[hd]at hs;cases hs
     |some l=>
       rw[hd]at hs
       have hl:=a9o (show a7h l=some ss from hs)
       subst hl
       obtain⟨p,vs,rfl,e,rr⟩:=a5o m ry hd
       have e1:=a7o rr
       subst e1
       exact⟨sep,p,ss,rfl,rfl,e,h1,h2,k _ _ (.here m (.str _) q)⟩
   . exact h.elim
 . exact h.elim
end
section
variable {X:Cx}{F0:Hp}{e:Expr}{es:List Expr}{te:AE}{pos:Pos}
noncomputable def intS(i:Int):Str:=toString i
def aFmt(te:AE):AE:=fun Γ M Q=>te Γ M fun d M1=>match d with
 | .str x=>x.length<=1000000/\Q (.str x) M1
 | .int i=>i.natAbs<2^64/\Q (.str (intS i)) M1
 |_=>False
theorem a75{n:Nat}(h:n<2^64):n.log2<1920:=by
 by_cases h0:n=0
 . subst h0;decide
 . exact Nat.lt_trans (Nat.log2_lt h0|>.mpr h) (by decide)
theorem paFV(h:PEA X F0 e te):PEA X F0 (.FormattedValue e (-1) none pos) (aFmt te):=by
 refine⟨?_⟩
 intro F Γ M σ H Q f0 g m hw pins s I
 refine FormattedValue_plain (thn (h.run F Γ M σ H _ f0 g m hw pins s I) fun v s1 zz9=> ?_)
 obtain⟨x,H1,I1,r1,d,F1,M1,s1',m1,rd,q⟩:=zz9
 cases rd<;>first |exact q.elim |skip
 . rename_i i
   obtain⟨t,rfl⟩:=r1
   exact wpAny_formatField_int (a75 q.1) ⟨.str (intS i),H1,I1.kept (t':=s1.toks+1+1) (fun _ _ e=>e),⟨_,rfl⟩,.str (intS i),F1,M1,s1',m1,.str _,q.2⟩
 . rename_i y
   obtain⟨t,rfl⟩:=r1
   exact formatField_str (fun t' tk=>⟨.str y,H1,I1.kept (t':=tk) (fun _ _ e=>e),⟨_,rfl⟩,.str y,F1,M1,s1',m1,.str _,q.2⟩) (Nat.le_trans q.1 (by decide))
noncomputable abbrev AF:=Str->G->Mem->(Str->Mem->Prop)->Prop
structure PFA(X:Cx)(F0:Hp)(es:List Expr)(t:AF):Prop where
 run: ∀acc F Γ M σ H Q,Same F0 F->AG X.K F Γ σ->AM X.K F M H->acc.length<=1000000->t acc Γ M Q-> ∀pins s,Inv X pins σ H s->wpAny (model X.prog X.w) X.A (joinParts acc (evalEach es X.env)) (EP X pins σ (PQ X.K F fun d M'=> ∃y,d= .str y/\Q y M')) X.xe s
noncomputable def afNil:AF:=fun acc _ M Q=>Q acc M
noncomputable def b3h(te:AE)(t:AF):AF:=fun acc Γ M Q=>te Γ M fun d M1=>match d with
 | .str y=>(acc++y).length<=1000000/\t (acc++y) Γ M1 Q
 |_=>False
theorem pfNil(he:evalEach [] X.env=[]:=by rfl):PFA X F0 [] afNil:=by
 refine⟨?_⟩
 intro acc F Γ M σ H Q f0 g m hl hw pins s I
 rw[he]
 exact joinParts_nil ⟨.str acc,H,I.kept (t':=s.toks+1) (fun _ _ e=>e),⟨_,rfl⟩,.str acc,F,M,.refl _,m,.str _,acc,rfl,hw⟩ (Nat.le_trans hl (by decide))
theorem a37{t:AF}(h:PEA X F0 e te)(hs:PFA X F0 es t)(he:evalEach (e::es) X.env=eval e X.env::evalEach es X.env:=by rfl):PFA X F0 (e::es) (b3h te t):=by
 refine⟨?_⟩
 intro acc F Γ M σ H Q f0 g m hl hw pins s I
 rw[he]
 refine joinParts_cons (thn (h.run F Γ M σ H _ f0 g m hw pins s I) fun v s1 zz9=> ?_)
 obtain⟨x,H1,I1,r1,d,F1,M1,s1',m1,rd,q⟩:=zz9
 cases rd<;>first |exact q.elim |skip
 rename_i y
 obtain⟨t,rfl⟩:=r1
 refine⟨Nat.le_trans q.1 (by decide),thn (hs.run _ F1 Γ M1 σ H1 Q (f0.trans s1') (g.up s1') m1 q.1 q.2 pins s1 I1) fun v s2 ⟨x,H2,I2,r2,z⟩=>⟨x,H2,I2,r2,z.dn s1'⟩⟩
def aFs(t:AF):AE:=fun Γ M Q=>t Str.empty Γ M fun y M'=>Q (.str y) M'
theorem paFs{e2:Expr}{t:AF}(h:PFA X F0 (e::e2::es) t)(he:evalEach (e::e2::es) X.env=eval e X.env::eval e2 X.env::evalEach es X.env:=by rfl):PEA X F0 (.JoinedStr (e::e2::es) pos) (aFs t):=by
 refine⟨?_⟩
 intro F Γ M σ H Q f0 g m hw pins s I
 refine JoinedStr_many ?_
 rw[<-he]
 refine thn (h.run _ F Γ M σ H _ f0 g m (by decide) hw pins s I) fun v s1 zz9=> ?_
 obtain⟨x,H1,I1,r1,d,F1,M1,s1',m1,rd,y,e1,q⟩:=zz9
 subst e1
 exact⟨x,H1,I1,r1,.str y,F1,M1,s1',m1,rd,q⟩
end
section
variable {X:Cx}
def rIntT:List V->Hp->VK->Prop:=fun xs H Q=> ∃x n,xs=[.str x]/\PySem.intText? x=some n/\x.length<=640/\Q (.int n) H
theorem a8i:CallR X (.type "int") rIntT:=by
 intro pins s σ H xs us Q I r h
 obtain⟨x,n,rfl,hn,hl,q⟩:=h
 obtain⟨u,rfl,rx⟩:=b1j r
 obtain⟨t,rfl⟩:=rx
 exact PySem.W.KIN.call_text hn hl ⟨.int n,H,I.kept (t':=s.toks+1) (fun _ _ e=>e),⟨_,rfl⟩,q⟩
noncomputable def oIntT:A1s:=fun ds M Q=>match ds with
 | [.str x]=>opt (PySem.intText? x) fun n=>x.length<=640/\Q (.int n) M
 |_=>False
theorem lIntT{K:PySem.W.Frag}:LC K rIntT oIntT:=by
 intro F M H xs ds Q R m r h k
 unfold oIntT at h
 split at h
 . rename_i x
   obtain⟨y,rfl,ry⟩:=r.one'
   cases ry
   obtain⟨n,hn,hl,q⟩:=a18 h
   exact⟨x,n,rfl,hn,hl,k _ _ (.here m (.int n) q)⟩
 . exact h.elim
def rStrI:List V->Hp->VK->Prop:=fun xs H Q=> ∃i,xs=[.int i]/\i.natAbs<2^64/\Q (.str (intS i)) H
theorem a5q:CallR X (.type "str") rStrI:=by
 intro pins s σ H xs us Q I r h
 obtain⟨i,rfl,hl,q⟩:=h
 obtain⟨u,rfl,rx⟩:=b1j r
 obtain⟨t,rfl⟩:=rx
 exact P.str_of_int (a75 hl) ⟨.str (intS i),H,I.kept (t':=s.toks+1) (fun _ _ e=>e),⟨_,rfl⟩,q⟩
noncomputable def oStrI:A1s:=fun ds M Q=>match ds with
 | [.int i]=>i.natAbs<2^64/\Q (.str (intS i)) M
 |_=>False
theorem lStrI{K:PySem.W.Frag}:LC K rStrI oStrI:=by
 intro F M H xs ds Q R m r h k
 unfold oStrI at h
 split at h
 . rename_i i
   obtain⟨y,rfl,ry⟩:=r.one'
   cases ry
   exact⟨i,rfl,h.1,k _ _ (.here m (.str _) h.2)⟩
 . exact h.elim
end
section
variable {X:Cx}{F0:Hp}{R:AX}{x y n msg:Str}{C CY:Addr}{np np2 cpos p2 pos hp cp:Pos}{j:Nat}{rest:List ExceptHandler}{tr:ATh}{K':PySem.W.Frag}{pn:List (Addr×Obj)}
theorem haFrom{i:Nat}(hK:X.K=K')(k:Cat X F0 R)(h:X.pn=[])(hN:X.N.Nodup)(hi:X.N[i]? =some n)(hl:X.env.scope.names.lookup n=some .local)(hm:X.mg x=some (.ref C))(hg:Gl X x)(O:ExCls X.K X.mg y CY)(hgy:Gl X y)(hr:PHA (X.pin pn) F0 rest tr)
   (hd:(x==("__debug__":Str))=false:=by decide) (hdy:(y==("__debug__":Str))=false:=by decide) (hdn:(n==("__debug__":Str))=false:=by decide) (hcn:(n==("__classdict__":Str))=false:=by decide)
   (he:starEach [.Constant (.str msg) j cp] X.env=(false,eval (.Constant (.str msg) j cp) X.env)::starEach [] X.env:=by rfl) (hpl:(backTo cpos (starEach [] X.env)).any (·.1)=false:=by rfl):
   PHA (X.pin pn) F0 (.ExceptHandler (some (.Name x np)) (some n) [.Raise (some (.Call (.Name y np2) [.Constant (.str msg) j cp] [] cpos)) (some (.Name n p2)) pos] hp::rest) (fun E cls Γ M=> ∃b,PySem.W.exmOne K' cls (.ref C)=some b/\
     if b=true then(∃Dc,cls= .ref Dc/\PySem.W.mroIn K' Dc (.type "BaseException")=some true)/\R (Γ.set i none) M (.ref CY)else tr E cls Γ M):=by
 refine⟨?_⟩
 intro F Γ M σ H E cls a f0 g m hw
 subst hK
 refine(ph_from (X:=X.pin pn) (R:=b06 X.K F0 R) (k.pin h pn) (k.pl.pin pn) hN hi hl hm hg O hgy (fun a=>a1y pe_str pa_nil he) b19 hd hdy hdn hcn he hpl).to ?_
 obtain⟨b,hx,hw⟩:=hw
 refine⟨b,hx,?_⟩
 cases b with
 |true=>
   rw[if_pos rfl]at hw |-
   refine⟨hw.1,fun hna φ _=> ?_⟩
   exact⟨by show 1<=sizeLine;decide,rfl,fun _=>⟨F,Γ.set i none,M,f0,g.unset i,m.more hna,hw.2⟩⟩
 |false=>rw[if_neg Bool.false_ne_true]at hw |-;exact hr.run F Γ M σ H E cls a f0 g m hw
end
theorem a43{M:Model}{Γ:PySem.Ctx}{p:Pos}{t:Sem Fin}{fs:List Frame}{s:Shared}{e:End}{s':Shared}(h:Runs M Γ p t fs s e s'):s.toks<=s'.toks:=by
 induction h with
 |done=>exact Nat.le_refl _
 |raise=>exact Nat.le_refl _
 |yield=>exact Nat.le_refl _
 |fresh _ ih=>exact Nat.le_trans (Nat.le_succ _) ih
 |call _ _ i1 i2=>exact Nat.le_trans i1 i2
 |callSusp _ ih=>exact ih
 |resumeFresh _ _ _ _ i1 i2=>exact Nat.le_trans i1 i2
 |resumeSuspended _ _ _ _ i1 i2=>exact Nat.le_trans i1 i2
 |segRet _ _ i1 i2=>exact Nat.le_trans i1 i2
 |segGen _ _ i1 i2=>exact Nat.le_trans i1 i2
 |segSuspOut _ _ ih=>exact ih
 |segSuspGen _ _ _ _ i1 i2=>exact Nat.le_trans i1 i2
 |_=>assumption
theorem b0q{M:Model}{Γ:PySem.Ctx}{p:Pos}{g:Nat}{r:Resume}{s s':Shared}{res:GenResult}(h:Wakes M Γ p g r s res s'):s.toks<=s'.toks:=by
 unfold Wakes at h
 split at h
 . exact h.elim
 . split at h
   . obtain⟨e₁,s₁,h,_,_,rfl⟩:=h
     have h':(s.setGen g GenState.running).toks<=s₁.toks:=a43 h
     exact h'
   . obtain⟨_,rfl⟩:=h;exact Nat.le_refl _
   . obtain⟨_,rfl⟩:=h;exact Nat.le_refl _
 . obtain⟨e₁,s₁,h,_,_,rfl⟩:=h
   have h':(s.setGen g GenState.running).toks<=s₁.toks:=a43 h
   exact h'
 . obtain⟨_,rfl⟩:=h;exact Nat.le_refl _
 . obtain⟨_,rfl⟩:=h;exact Nat.le_refl _
theorem wp_toks{X:Type}(M:Model)(Γ:PySem.Ctx)(n:Nat)(tree:Sem X){Q:X->Pos->Shared->Prop}{E:Value->Pos->Shared->Prop}(p:Pos)(s:Shared)(hn:n<=s.toks)(h:Sem.wp M Γ tree Q E p s):
   Sem.wp M Γ tree (fun a p' s'=>Q a p' s'/\n<=s'.toks) (fun e p' s'=>E e p' s'/\n<=s'.toks) p s:=by
 revert h
 induction tree generalizing p s with
 |pure x=>exact fun h=>⟨h,hn⟩
 |raise v=>exact fun h=>⟨h,hn⟩
 |unsupported |finish |yield |fork |await |register=>exact id
 | rule _ k ih | «at» _ k ih | alloc _ k ih | loadIfAlive _ k ih | point _ k ih | ask k ih | os _ _ k ih | handled _ k ih | newGen _ k ih | stack k ih | thread k ih => exact ih _ _ _ hn
 |fresh k ih=>exact ih _ _ _ (Nat.le_trans hn (Nat.le_succ _))
 |load a _ k ih |genState a k ih=>exact fun ⟨o,ho,h⟩=>⟨o,ho,ih _ _ _ hn h⟩
 |update a _ f k ih |choose _ _ k ih=>exact fun ⟨ha,h⟩=>⟨ha,ih _ _ _ hn h⟩
 |call c h g l k ih=>exact fun ⟨r,s',hr,h⟩=>⟨r,s',hr,ih r p s' (Nat.le_trans hn (a43 hr)) h⟩
 |resume g r l k ih=>exact fun ⟨res,s',hw,h⟩=>⟨res,s',hw,ih _ _ _ (Nat.le_trans hn (b0q hw)) h⟩
theorem b1m{α:Type}{M:Model}{A:Around}{t:Sem α}{Q:α->Shared->Prop}{E:Value->Shared->Prop}{s:Shared}{n:Nat}(hn:n<=s.toks)(h:wpAny M A t Q E s):wpAny M A t (fun a s'=>Q a s'/\n<=s'.toks) (fun e s'=>E e s'/\n<=s'.toks) s:=
 fun Γ p hΓ=>wp_toks M Γ n t p s hn (h Γ p hΓ)
theorem a6n{α:Type}{M:Model}{A:Around}{t:Sem α}{Q:α->Shared->Prop}{E:Value->Shared->Prop}{s:Shared}(hn:0<s.toks)(h:wpAny M A t Q E s):wpAny M A t (fun a s'=>Q a s'/\0<s'.toks) E s:=
 wpAny_mono (b1m (n:=1) hn h) (fun _ _ z=>z) fun _ _ z=>z.1
section
variable {X:Cx}{F0:Hp}{e a b c o:Expr}{ta tb te t_o:AE}{pos:Pos}
structure PTM(X:Cx)(F0:Hp)(e:Expr)(t:AT):Prop where
 run: ∀F Γ M σ H Q,Same F0 F->AG X.K F Γ σ->AM X.K F M H->t Γ M Q-> ∀pins s,Inv X pins σ H s-> ∀whole,(whole=eval e X.env\/True)->wpAny (model X.prog X.w) X.A (isTrue e X.env whole) (fun k s'=>TP X pins σ (PQb X.K F Q) k s'/\0<s'.toks) X.xe s
structure PSsP(X:Cx)(F0:Hp)(sts:List Stmt)(t:AS):Prop where
 run: ∀F Γ M σ H E,Same F0 F->AG X.K F Γ σ->AM X.K F M H->t E Γ M-> ∀pins s,Inv X pins σ H s->0<s.toks->wpAny (model X.prog X.w) X.A (execs sts X.env) (SP X pins (PQD X.K F E)) X.xe s
structure PSP(X:Cx)(F0:Hp)(st:Stmt)(t:AS):Prop where
 run: ∀F Γ M σ H E,Same F0 F->AG X.K F Γ σ->AM X.K F M H->t E Γ M-> ∀pins s,Inv X pins σ H s->0<s.toks->wpAny (model X.prog X.w) X.A (exec st X.env) (SP X pins (PQD X.K F E)) X.xe s
structure PEP(X:Cx)(F0:Hp)(e:Expr)(t:AE):Prop where
 run: ∀F Γ M σ H Q,Same F0 F->AG X.K F Γ σ->AM X.K F M H->t Γ M Q-> ∀pins s,Inv X pins σ H s->0<s.toks->wpAny (model X.prog X.w) X.A (eval e X.env) (EP X pins σ (PQ X.K F Q)) X.xe s
theorem ptmCmp{op:CmpOp}{r:R2}{q:A2}{n:Int}{j}{pc:Pos}(ho:OpR X (compareOp op) r)(l:LO X.K r q)(ha:PEA X F0 a ta)(hm:behindInMarks op (.Constant (.int n) j pc)=false)
   (hT: ∀wh,isTrue (.Compare a [op] [.Constant (.int n) j pc] pos) X.env wh=isTrue (.Compare a [op] [.Constant (.int n) j pc] pos) X.env (eval (.Compare a [op] [.Constant (.int n) j pc] pos) X.env):=by intro _;rfl):PTM X F0 (.Compare a [op] [.Constant (.int n) j pc] pos) (aT (aOp q ta (aC (.int n)))):=by
 refine⟨?_⟩
 intro F Γ M σ H Q f0 g m hw pins s I wh _
 rw[hT]
 refine wpAny_isTrue_Compare1 (thn (ha.run F Γ M σ H _ f0 g m hw pins s I) fun v s1 ⟨x,H1,I1,r1,d,F1,M1,e1,m1,rd,q1⟩=>wpAny_Constant_int ?_) hm
 have step:=ho pins {s1 with toks:=s1.toks+1} σ H1 x (.int n) v (.int n s1.toks) (PQ X.K F1 (fun d M'=>match d with | .bl b=>Q b M' |_=>False)) (I1.tok _) r1 ⟨_,rfl⟩ (l F1 M1 H1 x (.int n) d (.int n) _ _ m1 rd (.int n) q1 fun _ _ z=>z)
 refine thn (a6n (Nat.succ_pos _) step) fun c s3 zz9=> ?_
 obtain⟨⟨z,H3,I3,r3,q3⟩,hk⟩:=zz9
 obtain⟨k,rfl,q4⟩:=PQ.bool q3
 cases r3
 exact wpAny_truthy_bool ⟨⟨H3,I3,PQb.dn e1 q4⟩,hk⟩
theorem ptmAnd{rest:List Expr}{tA tB:AT}(ha:PTM X F0 a tA)(hb:PWA X F0 (.BoolOp .And (b::rest) pos) tB):PTM X F0 (.BoolOp .And (a::b::rest) pos) (aAnd tA tB):=by
 refine⟨?_⟩
 intro F Γ M σ H Q f0 g m hw pins s I wh _
 refine isTrue_and (thn (ha.run F Γ M σ H _ f0 g m hw pins s I _ (.inr trivial)) fun k s1 zz9=> ?_)
 obtain⟨⟨H1,I1,F1,M1,e1,m1,q1⟩,hk⟩:=zz9
 cases k with
 |true=>
   rw[if_pos rfl]at q1
   exact thn (a6n hk (hb.run F1 Γ M1 σ H1 Q (f0.trans e1) (g.up e1) m1 q1 wh pins s1 I1)) fun k2 s2 ⟨⟨H2,I2,q2⟩,h2⟩=>⟨⟨H2,I2,PQb.dn e1 q2⟩,h2⟩
 |false=>
   rw[if_neg Bool.false_ne_true]at q1
   exact⟨⟨H1,I1,F1,M1,e1,m1,q1⟩,hk⟩
theorem sIfP{tc:AT}{sa sb:List Stmt}{t u:AS}(hc:PTM X F0 c tc)(ha:PSsP X F0 sa t)(hb:PSsA X F0 sb u):PSA X F0 (.If c sa sb pos) (aIf tc t u):=by
 refine⟨?_⟩
 intro F Γ M σ H E f0 g m h pins s I
 refine wpAny_If (thn (hc.run F Γ M σ H _ f0 g m h pins s I _ (.inl rfl)) fun k s1 zz9=> ?_)
 obtain⟨⟨H1,I1,F1,M1,e1,m1,q1⟩,hk⟩:=zz9
 cases k with
 |true=>
   rw[if_pos rfl]at q1 |-
   exact thn (ha.run F1 Γ M1 σ H1 E (f0.trans e1) (g.up e1) m1 q1 pins s1 I1 hk) fun _ _ z=>z.to (PQD.dn e1)
 |false=>
   rw[if_neg Bool.false_ne_true]at q1
   exact(hb.run F1 Γ M1 σ H1 E (f0.trans e1) (g.up e1) m1 q1).mono (PQD.dn e1) pins s1 I1
theorem ssConsP{st:Stmt}{rest:List Stmt}{t u:AS}(h1:PSA X F0 st t)(h2:PSsP X F0 rest u):PSsP X F0 (st::rest) (aSeq t u):=by
 refine⟨?_⟩
 intro F Γ M σ H E f0 g m h pins s I hk
 refine wpAny_execs_cons (thn (a6n hk (h1.run F Γ M σ H {E with nx:=u E} f0 g m h pins s I)) fun f s1 zz9=> ?_)
 obtain⟨q,hk1⟩:=zz9
 cases f with
 |next=>
   obtain⟨σ',H',I',F1,Γ1,M1,e1,g1,m1,q⟩:=q
   exact thn (h2.run F1 Γ1 M1 σ' H' E (f0.trans e1) g1 m1 q pins s1 I' hk1) fun _ _ z=>z.to (PQD.dn e1)
 |ret v=>exact q
 |brk=>exact q
 |cont=>exact q
theorem ssOneP{st:Stmt}{t:AS}(h1:PSP X F0 st t):PSsP X F0 [st] t:=by
 refine⟨?_⟩
 intro F Γ M σ H E f0 g m h pins s I hk
 refine wpAny_execs_cons (thn (h1.run F Γ M σ H E f0 g m h pins s I hk) fun f s1 q=> ?_)
 cases f with
 |next=>exact wpAny_execs_nil q
 |ret v=>exact q
 |brk=>exact q
 |cont=>exact q
theorem sAsgP{tg:Expr}{gt:AGt}(he:PEP X F0 e te)(hg:PGA X F0 tg gt)(hs:swapsWithSole [tg] e pos.line X.env=pure false:=by rfl)(hw:swappedStores [tg] e X.env=pure none:=by rfl)
   (h1:(assignEach [tg] X.env).map (·.2)=[assign tg X.env]:=by rfl):PSP X F0 (.Assign [tg] e pos) (aAsg te gt):=by
 refine⟨?_⟩
 intro F Γ M σ H E f0 g m h pins s I hk
 refine wpAny_Assign_stores (thn (he.run F Γ M σ H _ f0 g m h pins s I hk) fun v s1 ⟨x,H1,I1,r1,d,F1,M1,e1,m1,rd,q1⟩=> ?_) hs hw
 rw[h1]
 exact thn (hg.run F1 Γ M1 σ H1 x d _ (f0.trans e1) (g.up e1) m1 rd q1 pins s1 v I1 r1) fun _ s2 ⟨σ',H',J,q⟩=>⟨σ',H',J,PQg.dn e1 q⟩
open Builtin Builtin.Str in
theorem a53(x y z:Str)(t u v k:Tok)(h0:(u==0||v==0)=false)(huv:(u==v)=false)(hyz:(y==z)=false)(hy:(y.length==0)=false)(hl:tooLong (x.length+(occurrences x y 0 x.length 1).length *z.length)=false):
   Gives («str.replace» ⟨[.str x t, .str y u, .str z v, .int 1 k], []⟩) (if (occurrences x y 0 x.length 1).isEmpty = true then .val (.str x t) else .str (glued z (partsBetween x (occurrences x y 0 x.length 1) y.length))) := by
 show Gives (do
         let limit <-countLimit "str.replace" (some (.int 1 k)) (x.length+1)
         if((occurrences x y 0 x.length limit).isEmpty||(y.length==0&&z.length==0))=true then(do rule "str.replace.nothing";ret (.str x t))else
         (do let same <-isSame (.str y u) (.str z v)
             if same=true then(do rule "str.replace.old-is-new";ret (.str x t))else
             if tooLong (x.length+(occurrences x y 0 x.length limit).length *z.length)=true then unsupported "str.replace:memory" else
             retStr (glued z (partsBetween x (occurrences x y 0 x.length limit) y.length)))) _
 rw[countLimit_int "str.replace" 1 k (x.length+1) (by decide)]
 show Gives (if((occurrences x y 0 x.length 1).isEmpty||(y.length==0&&z.length==0))=true then(do rule "str.replace.nothing";ret (.str x t))else
         (do let same <-isSame (.str y u) (.str z v)
             if same=true then(do rule "str.replace.old-is-new";ret (.str x t))else
             if tooLong (x.length+(occurrences x y 0 x.length 1).length *z.length)=true then unsupported "str.replace:memory" else
             retStr (glued z (partsBetween x (occurrences x y 0 x.length 1) y.length)))) _
 rw[hy,Bool.false_and,Bool.or_false]
 cases hc:(occurrences x y 0 x.length 1).isEmpty
 . rw[isSame_str_other y z u v h0 huv hyz,hl]
   exact .of_eq rfl
 . exact .rule (.of_eq rfl)
def aRepl(t:AE):AE:=fun Γ M Q=>t Γ M fun d M1=>match d with | .str x=>x.length<=1000000/\ ∀y:Str,y.length<=x.length+2->Q (.str y) M1 |_=>False
theorem paRepl{apos cpos p1 p2 p3:Pos}{j1 j2 j3}(ho:PEA X F0 o t_o)
   (hbase:attributeBase o "replace" X.env (eval o X.env)=eval o X.env:=by rfl)
   (hfew:((backTo cpos (starEach [.Constant (.str " ") j1 p1,.Constant (.str " 0") j2 p2,.Constant (.int 1) j3 p3] X.env)).all (fun x=> !x.1)&&(backToKw cpos (keywordEach [] X.env)).all (fun x=>x.1.isSome)
     &&decide ([(.Constant (.str " ") j1 p1:Expr),.Constant (.str " 0") j2 p2,.Constant (.int 1) j3 p3].length+([]:List Keyword).length+(if([]:List Keyword).isEmpty then 0 else 1)<30))=true:=by rfl)
   (hline:(apos.endLine==cpos.line)=true:=by rfl)
   (hs:starEach [.Constant (.str " ") j1 p1,.Constant (.str " 0") j2 p2,.Constant (.int 1) j3 p3] X.env=[(false,eval (.Constant (.str " ") j1 p1) X.env),(false,eval (.Constant (.str " 0") j2 p2) X.env),(false,eval (.Constant (.int 1) j3 p3) X.env)]:=by rfl):
   PEP X F0 (.Call (.Attribute o "replace" apos) [.Constant (.str " ") j1 p1,.Constant (.str " 0") j2 p2,.Constant (.int 1) j3 p3] [] cpos) (aRepl t_o):=by
 refine⟨?_⟩
 intro F Γ M σ H Q f0 g m hw pins s I hk
 refine wpAny_Call_method_late hbase hfew hline rfl (thn (a6n hk (ho.run F Γ M σ H _ f0 g m hw pins s I)) fun v s1 zz9=> ?_)
 obtain⟨⟨x,H1,I1,r1,d,F1,M1,e1,m1,rd,q1⟩,hk1⟩:=zz9
 cases rd<;>first |exact q1.elim |skip
 rename_i x
 obtain⟨t,rfl⟩:=r1
 obtain⟨hx,q1⟩:=q1
 have rv:RelV (.str x) (.str x t):=⟨t,rfl⟩
 obtain⟨h1,h2⟩:=b1k (T:="str") I1 rv (show tyV X.K "str" (.str x) H1 from rfl)
 refine⟨"str","str.replace",PySem.F.plainAttrs_str,PySem.F.slot_str_replace,PySem.F.type_str_replace,h1,h2,?_⟩
 rw[hs]
 refine Calls.callWith_builtin rfl (Calls.evalArgs_plain ?_)
 show wpAny _ _ (spliced [(false,eval (.Constant (.str " ") j1 p1) X.env),(false,eval (.Constant (.str " 0") j2 p2) X.env),(false,eval (.Constant (.int 1) j3 p3) X.env)]) _ _ s1
 refine Calls.spliced_cons (Calls.Constant_str ?_)
 refine Calls.spliced_cons (Calls.Constant_str ?_)
 refine Calls.spliced_cons (wpAny_Constant_int ?_)
 refine Calls.spliced_nil ?_
 have hn:=StrLaws.occ_length_le x " " 0 x.length 1
 have hy:(Builtin.Str.glued " " (Builtin.Str.partsBetween x (Builtin.Str.occurrences x " " 0 x.length 1) (" ":Str).length)).length=x.length:=by rw[StrLaws.glued_between_self]
 have e1':(" ":Str).length=1:=by decide
 have e2':(" 0":Str).length=2:=by decide
 have hz:(Builtin.Str.glued " 0" (Builtin.Str.partsBetween x (Builtin.Str.occurrences x " " 0 x.length 1) (" ":Str).length)).length<=x.length+2:=by
   rw[size_glued,length_partsBetween,Nat.add_sub_cancel]at hy |-
   rw[e2']
   omega
 have zl:(1000000:Nat)+2<=sizeLine:=by decide
 refine call_gives PySem.F.slot_str_replace (typeIs_str _ _ _) PySem.F.entry_str_replace (PySem.F.args_str_replace_4 _ _ _ _) (a53 x " " " 0" t s1.toks (s1.toks+1) (s1.toks+1+1) ?_ ?_ (by decide) (by decide) ?_) ?_
 . show(s1.toks==0||s1.toks+1==0)=false
   rw[Bool.or_eq_false_iff]
   exact⟨beq_false_of_ne (show s1.toks≠0 from Nat.ne_of_gt hk1),beq_false_of_ne (show s1.toks+1≠0 from Nat.succ_ne_zero _)⟩
 . exact beq_false_of_ne (show s1.toks≠s1.toks+1 from Nat.ne_of_lt (Nat.lt_succ_self _))
 . unfold Builtin.Str.tooLong
   rw[e2']
   exact decide_eq_false (by omega)
 . split
   . exact⟨.str x,H1,I1.tok _,⟨_,rfl⟩,.str x,F1,M1,e1,m1,.str x,q1 x (by omega)⟩
   . exact⟨Nat.le_trans hz (by omega),.str _,H1,I1.tok _,⟨_,rfl⟩,.str _,F1,M1,e1,m1,.str _,q1 _ hz⟩
end
end L2
namespace K4
open PySem PySem.Spec PySem.Calls PyProof.Rows L2
local macro_rules
 | `(tactic| simp! only [$xs,*] $[$l]?) => `(tactic| simp only [aYes, Bool.and_self, at0, at1, at2, at3, aSeq, aNext, aIf, aFor, iaR1, iaR2, iaR3, iaS, iaL, gaN, aSl, aPart, aNoPart, aT, aOp, aV, aC, aRet, aRetN, aTup, aLst, b40, a55, aNil, aAnd, aOr, aNot, aAndV, aOrV, aNotV, aSet, aAsg, b3k, b1g, aFun, aUn, oAdd, addF, addC, oI, oIc, eqq_int, eqq_str, eqq_bl, neq_int, neq_str, neq_bl, oIsN, b21, oNeg, oLen, lenF, lenC, oIx, ixF, ixC, oIn, inB, oSl, slF, slC, Option.bind_some, Option.map_some, true_and, L2.dq, L2.dr, L2.dl, L2.dd, b3g, a4o, a16, keyD, aFldC, aDPut, oDIn, aDGet, aDPop, aDGet1, aSetF, aDNew, aRaise, b3i, oCat, oCatM, a4u, List.map_cons, List.map_nil, List.length_cons, List.length_nil, List.replicate, List.cons_append, List.nil_append, List.getElem?_cons_zero, List.getElem?_cons_succ, List.set_cons_zero, List.set_cons_succ, Nat.reduceAdd, Nat.reduceSub, if_true, Bool.false_eq_true, if_false, $xs,*] $[$l]?)
noncomputable def a1s:List Nat:=("abcdefghijklmnopqrstuvwxyz":Str).cps.toList
noncomputable def a03(x:Str):Bool:= !(decide (x.length<1)||decide (8<x.length))&&x.cps.toList.all fun c=>decide (c∈a1s)
structure TS where
 ws:List (Str×Int)
 js:List (Int×Str×Str×Str)
 nx:Int
noncomputable def dW(ws:List (Str×Int)):List (Key×D):=ws.map fun w=>(Sum.inr w.1,.int w.2)
noncomputable def eJ(j:Int×Str×Str×Str):D:= .tup [.int j.1,.str j.2.1,.str j.2.2.1,.str j.2.2.2]
noncomputable def eW(w:Str×Int):D:= .tup [.str w.1,.int w.2]
noncomputable def dJ(js:List (Int×Str×Str×Str)):List (Key×D):=js.map fun j=>(Sum.inl j.1,eJ j)
noncomputable def fsT(d1 d2:Addr)(n:Int):List (Str×D):=[("teeth_of",.obj d1),("join_of",.obj d2),("next_number",.int n)]
structure Tr(C:Addr)(M:Mem)(p d1 d2:Addr)(S:TS):Prop where
 self:M p=some (.ins C (fsT d1 d2 S.nx))
 teeth:M d1=some (.dic (dW S.ws))
 join:M d2=some (.dic (dJ S.js))
 ne:d1≠d2
 lt: ∀j∈S.js,j.1<S.nx
inductive Rk where
 |noName |twice |noTeeth |full |noWheel |noJoin
noncomputable def TS.has(S:TS)(n:Str):Bool:=S.ws.any fun w=>decide (w.1=n)
noncomputable def refW(S:TS)(n:Str)(t:Int):Option Rk:=
 if a03 n=false then some .noName else if S.has n=true then some .twice else if t<1\/1000000000<=t then some .noTeeth else if 100<=S.ws.length then some .full else none
noncomputable def a15(k:Str):Bool:=decide (k="mesh")||decide (k="pin")||decide (k="band")||decide (k="cross")
noncomputable def refJ(S:TS)(k a b:Str):Option Rk:=
 if a15 k=false then some .noJoin else if S.has a=false\/S.has b=false then some .noWheel else if a=b then some .noJoin else if 200<=S.js.length then some .full else none
noncomputable def TS.hasJ(S:TS)(n:Int):Bool:=S.js.any fun j=>decide (j.1=n)
noncomputable def refL(S:TS)(n:Int):Option Rk:=if S.hasJ n=false then some .noJoin else none
theorem a9d(ws:List (Str×Int))(n:Str):(getK (dW ws) (Sum.inr n)).isSome=ws.any fun w=>decide (w.1=n):=by
 induction ws with
 |nil=>rfl
 |cons w ws ih=>
   unfold dW getK at ih |-
   simp only[List.map_cons,List.find?_cons,List.any_cons,Sum.inr.injEq]
   by_cases h:w.1=n
   . simp[h]
   . simp only[h,decide_false,Bool.false_or];exact ih
theorem a9e(js:List (Int×Str×Str×Str))(n:Int):(getK (dJ js) (Sum.inl n)).isSome=js.any fun j=>decide (j.1=n):=by
 induction js with
 |nil=>rfl
 |cons w ws ih=>
   unfold dJ getK at ih |-
   simp only[List.map_cons,List.find?_cons,List.any_cons,Sum.inl.injEq]
   by_cases h:w.1=n
   . simp[h]
   . simp only[h,decide_false,Bool.false_or];exact ih
theorem a7q{kvs:List (Key×D)}{k:Key}{v:D}(h:(getK kvs k).isSome=false):a6x kvs k v=kvs++[(k,v)]:=by
 unfold a6x;rw[h];rfl
theorem b3b(js:List (Int×Str×Str×Str))(n:Int):a6i (dJ js) (Sum.inl n)=dJ (js.filter fun j=>decide (j.1≠n)):=by
 unfold a6i dJ
 rw[List.filter_map]
 congr 1
 apply List.filter_congr
 intro j _
 simp[Function.comp]
inductive Deed where
 |wheel (n:Str) (t:Int) |join (k a b:Str) |less (n:Int)
def Deed.ok:Deed->Prop
 | .wheel n _=>n.length<=1000
 |_=>True
noncomputable def wordOf:Rk->Str
 | .noName=>"no name" | .twice=>"twice" | .noTeeth=>"no teeth" | .full=>"full" | .noWheel=>"no wheel" | .noJoin=>"no join"
noncomputable def refD(S:TS):Deed->Option Rk
 | .wheel n t=>refW S n t
 | .join k a b=>refJ S k a b
 | .less n=>refL S n
noncomputable def gives(S:TS):Deed->D
 | .join _ _ _=> .int S.nx
 |_=> .non
noncomputable def behind(S:TS):Deed->TS
 | .wheel n t=>{S with ws:=S.ws++[(n,t)]}
 | .join k a b=>{S with js:=S.js++[(S.nx,k,a,b)],nx:=S.nx+1}
 | .less n=>{S with js:=S.js.filter fun j=>decide (j.1≠n)}
noncomputable def due(S:TS)(d:Deed):D:=match refD S d with
 |some r=> .tup [.str "refused",.str (wordOf r)]
 |none=> .tup [.str "done",gives S d]
noncomputable def top(i:Nat):Stmt:=PySem.Challenge.pw_cogtrain_k04_texts.main.body.getD i (.Pass ⟨0,0,0,0⟩)
structure Txt(K:PySem.W.Frag)(mg:Str->Option Value):Prop where
 len:mg "len"=none
 all:mg "all"=none
 list:mg "list"=none
 range:mg "range"=none
 isinstance:mg "isinstance"=none
 int:mg "int"=none
 bool:mg "bool"=none
 str:mg "str"=none
 ValueError:mg "ValueError"=none
 LONGEST_NAME: ∃t,mg "LONGEST_NAME"=some (.int 8 t)
 TEETH_BOUND: ∃t,mg "TEETH_BOUND"=some (.int 1000000000 t)
 MOST_WHEELS: ∃t,mg "MOST_WHEELS"=some (.int 100 t)
 MOST_JOINS: ∃t,mg "MOST_JOINS"=some (.int 200 t)
 MOST_FIGURES: ∃t,mg "MOST_FIGURES"=some (.int 9 t)
 LETTERS: ∃t,mg "LETTERS"=some (.str "abcdefghijklmnopqrstuvwxyz" t)
 FIGURES: ∃t,mg "FIGURES"=some (.str "0123456789" t)
 KINDS: ∃a,mg "KINDS"=some (.ref a)/\ ∀H,SqT K H a ([.str "mesh",.str "pin",.str "band",.str "cross"])
noncomputable abbrev a42:Stmt:=top 17
theorem b0v:FnScope ["text"] ["text"] (a0c a42):=⟨rfl,rfl,rfl,by decide+kernel,rfl,by decide+kernel,by decide+kernel⟩
noncomputable abbrev a01:Stmt:=a33 (top 18) 0
theorem a3v:FnScope ["self"] ["self"] (a0c a01):=⟨rfl,rfl,rfl,by decide+kernel,rfl,by decide+kernel,by decide+kernel⟩
noncomputable abbrev a0x:Stmt:=a33 (top 18) 1
theorem a3h:FnScope ["self","name","teeth"] ["self","name","teeth"] (a0c a0x):=⟨rfl,rfl,rfl,by decide+kernel,rfl,by decide+kernel,by decide+kernel⟩
noncomputable abbrev a00:Stmt:=a33 (top 18) 2
theorem sc_Train_put_join:FnScope ["self","kind","one","other","number"] ["self","kind","one","other"] (a0c a00):=⟨rfl,rfl,rfl,by decide+kernel,rfl,by decide+kernel,by decide+kernel⟩
noncomputable abbrev a0w:Stmt:=a33 (top 18) 3
theorem a3g:FnScope ["self","number"] ["self","number"] (a0c a0w):=⟨rfl,rfl,rfl,by decide+kernel,rfl,by decide+kernel,by decide+kernel⟩
noncomputable abbrev a07:Stmt:=a33 (top 18) 4
theorem a40:FnScope ["self"] ["self"] (a0c a07):=⟨rfl,rfl,rfl,by decide+kernel,rfl,by decide+kernel,by decide+kernel⟩
noncomputable abbrev a1c:Stmt:=a33 (top 18) 5
theorem a5v:FnScope ["self"] ["self"] (a0c a1c):=⟨rfl,rfl,rfl,by decide+kernel,rfl,by decide+kernel,by decide+kernel⟩
noncomputable abbrev a2h:Stmt:=top 22
theorem a6u:FnScope ["word"] ["word"] (a0c a2h):=⟨rfl,rfl,rfl,by decide+kernel,rfl,by decide+kernel,by decide+kernel⟩
noncomputable abbrev a3w:Stmt:=top 23
theorem a8u:FnScope ["train","words"] ["train","words"] (a0c a3w):=⟨rfl,rfl,rfl,by decide+kernel,rfl,by decide+kernel,by decide+kernel⟩
noncomputable abbrev b1x:Stmt:=top 24
theorem sc_read:FnScope ["text","train","part","reason"] ["text"] (a0c b1x):=⟨rfl,rfl,rfl,by decide+kernel,rfl,by decide+kernel,by decide+kernel⟩
noncomputable abbrev a8v:Stmt:=top 25
theorem sc_shown:FnScope ["train","parts","number","kind","one","other"] ["train"] (a0c a8v):=⟨rfl,rfl,rfl,by decide+kernel,rfl,by decide+kernel,by decide+kernel⟩
noncomputable abbrev a2a:Stmt:=top 27
theorem a5u:FnScope ["_law_script","_law_k"] ["_law_script","_law_k"] (a0c a2a):=⟨rfl,rfl,rfl,by decide+kernel,rfl,by decide+kernel,by decide+kernel⟩
noncomputable abbrev a2z:Stmt:=top 28
theorem a7l:FnScope ["_law_found"] ["_law_found"] (a0c a2z):=⟨rfl,rfl,rfl,by decide+kernel,rfl,by decide+kernel,by decide+kernel⟩
noncomputable abbrev a3y:Stmt:=top 29
theorem sc_law_name:FnScope ["_law_number","_law_spin","_law_letters","_law_many","_law_name_here","_law_k"] ["_law_number","_law_spin"] (a0c a3y):=⟨rfl,rfl,rfl,by decide+kernel,rfl,by decide+kernel,by decide+kernel⟩
noncomputable abbrev a21:Stmt:=top 30
theorem a7m:FnScope ["_law_number"] ["_law_number"] (a0c a21):=⟨rfl,rfl,rfl,by decide+kernel,rfl,by decide+kernel,by decide+kernel⟩
noncomputable abbrev a1j:Stmt:=top 31
theorem sc_law_first_parts:FnScope ["_law_way","_law_letters","_law_parts_here","_law_k","_law_name_here"] ["_law_way"] (a0c a1j):=⟨rfl,rfl,rfl,by decide+kernel,rfl,by decide+kernel,by decide+kernel⟩
noncomputable abbrev a24:Stmt:=top 32
theorem sc_law_parts:FnScope ["_law_script","_law_start","_law_parts_here","_law_names","_law_k","_law_one","_law_other","_law_name_here","_law_many","_law_at","_law_to","_law_kind"] ["_law_script"] (a0c a24):=⟨rfl,rfl,rfl,by decide+kernel,rfl,by decide+kernel,by decide+kernel⟩
noncomputable abbrev a1w:Stmt:=top 33
theorem sc_law_odd_part:FnScope ["_law_names","_law_number","_law_first","_law_last","_law_some"] ["_law_names","_law_number"] (a0c a1w):=⟨rfl,rfl,rfl,by decide+kernel,rfl,by decide+kernel,by decide+kernel⟩
noncomputable abbrev a3x:Stmt:=top 34
theorem sc_law_text:FnScope ["_law_script","_law_parts_here","_law_start","_law_number","_law_names","_law_at","_law_text_here","_law_sign"] ["_law_script"] (a0c a3x):=⟨rfl,rfl,rfl,by decide+kernel,rfl,by decide+kernel,by decide+kernel⟩
noncomputable abbrev a19:Stmt:=top 35
theorem sc_law_is_name:FnScope ["_law_name_here","_law_sign"] ["_law_name_here"] (a0c a19):=⟨rfl,rfl,rfl,by decide+kernel,rfl,by decide+kernel,by decide+kernel⟩
noncomputable abbrev a1q:Stmt:=top 36
theorem sc_law_is_number:FnScope ["_law_word","_law_sign"] ["_law_word"] (a0c a1q):=⟨rfl,rfl,rfl,by decide+kernel,rfl,by decide+kernel,by decide+kernel⟩
noncomputable abbrev a41:Stmt:=top 37
theorem sc_law_due:FnScope ["_law_text_here","_law_names","_law_wheels","_law_joins","_law_part","_law_words"] ["_law_text_here"] (a0c a41):=⟨rfl,rfl,rfl,by decide+kernel,rfl,by decide+kernel,by decide+kernel⟩
noncomputable abbrev a22:Stmt:=top 38
theorem sc_law_shown:FnScope ["_law_wheels","_law_joins","_law_parts_here"] ["_law_wheels","_law_joins"] (a0c a22):=⟨rfl,rfl,rfl,by decide+kernel,rfl,by decide+kernel,by decide+kernel⟩
noncomputable abbrev a23:Stmt:=top 39
theorem sc_law_right:FnScope ["_law_train","_law_wheels","_law_joins","_law_name_here","_law_teeth_here","_law_number","_law_kind","_law_one","_law_other","_law_told"] ["_law_train","_law_wheels","_law_joins"] (a0c a23):=⟨rfl,rfl,rfl,by decide+kernel,rfl,by decide+kernel,by decide+kernel⟩
noncomputable abbrev a1x:Stmt:=top 40
theorem a4z:FnScope ["_law_joins"] ["_law_joins"] (a0c a1x):=⟨rfl,rfl,rfl,by decide+kernel,rfl,by decide+kernel,by decide+kernel⟩
noncomputable abbrev a20:Stmt:=top 41
theorem sc_law_twice:FnScope ["_law_train","_law_wheels","_law_joins","_law_number","_law_again","_law_left","_law_at","_law_more"] ["_law_train","_law_wheels","_law_joins","_law_number"] (a0c a20):=⟨rfl,rfl,rfl,by decide+kernel,rfl,by decide+kernel,by decide+kernel⟩
noncomputable abbrev a2o:Stmt:=top 42
theorem sc_law_only:FnScope ["_law_e","_law_other"] ["_law_e"] (a0c a2o):=⟨rfl,rfl,rfl,by decide+kernel,rfl,by decide+kernel,by decide+kernel⟩
noncomputable abbrev a6v:Stmt:=top 43
theorem sc_law:FnScope ["_law_script","_law_text_here","_law_due_here","_law_refused","_law_only_here","_law_train","_law_e"] ["_law_script"] (a0c a6v):=⟨rfl,rfl,rfl,by decide+kernel,rfl,by decide+kernel,by decide+kernel⟩
section
variable {P:Program}{w:World}{K:PySem.W.Frag}{mg:Str->Option Value}{base:Heap}
theorem a5a{X:Cx}{F0:Hp}{pos:Pos}(T:Txt X.K X.mg)(hg:Gl X "LONGEST_NAME":=by rfl):PEA X F0 (.Name "LONGEST_NAME" pos) (aC (.int 8)):=by
 obtain⟨t,h⟩:=T.LONGEST_NAME
 exact paC (a2b (v:= .int 8) hg h ⟨t,rfl⟩) fun _=> .int _
theorem a5y{X:Cx}{F0:Hp}{pos:Pos}(T:Txt X.K X.mg)(hg:Gl X "TEETH_BOUND":=by rfl):PEA X F0 (.Name "TEETH_BOUND" pos) (aC (.int 1000000000)):=by
 obtain⟨t,h⟩:=T.TEETH_BOUND
 exact paC (a2b (v:= .int 1000000000) hg h ⟨t,rfl⟩) fun _=> .int _
theorem a5z{X:Cx}{F0:Hp}{pos:Pos}(T:Txt X.K X.mg)(hg:Gl X "MOST_WHEELS":=by rfl):PEA X F0 (.Name "MOST_WHEELS" pos) (aC (.int 100)):=by
 obtain⟨t,h⟩:=T.MOST_WHEELS
 exact paC (a2b (v:= .int 100) hg h ⟨t,rfl⟩) fun _=> .int _
theorem a60{X:Cx}{F0:Hp}{pos:Pos}(T:Txt X.K X.mg)(hg:Gl X "MOST_JOINS":=by rfl):PEA X F0 (.Name "MOST_JOINS" pos) (aC (.int 200)):=by
 obtain⟨t,h⟩:=T.MOST_JOINS
 exact paC (a2b (v:= .int 200) hg h ⟨t,rfl⟩) fun _=> .int _
theorem a49{X:Cx}{F0:Hp}{pos:Pos}(T:Txt X.K X.mg)(hg:Gl X "MOST_FIGURES":=by rfl):PEA X F0 (.Name "MOST_FIGURES" pos) (aC (.int 9)):=by
 obtain⟨t,h⟩:=T.MOST_FIGURES
 exact paC (a2b (v:= .int 9) hg h ⟨t,rfl⟩) fun _=> .int _
theorem b0y{X:Cx}{F0:Hp}{pos:Pos}(T:Txt X.K X.mg)(hg:Gl X "LETTERS":=by rfl):PEA X F0 (.Name "LETTERS" pos) (aC (.str "abcdefghijklmnopqrstuvwxyz")):=by
 obtain⟨t,h⟩:=T.LETTERS
 exact paC (a2b (v:= .str "abcdefghijklmnopqrstuvwxyz") hg h ⟨t,rfl⟩) fun _=> .str _
theorem b0z{X:Cx}{F0:Hp}{pos:Pos}(T:Txt X.K X.mg)(hg:Gl X "FIGURES":=by rfl):PEA X F0 (.Name "FIGURES" pos) (aC (.str "0123456789")):=by
 obtain⟨t,h⟩:=T.FIGURES
 exact paC (a2b (v:= .str "0123456789") hg h ⟨t,rfl⟩) fun _=> .str _
theorem b34{X:Cx}{F0:Hp}{pos:Pos}(T:Txt X.K X.mg)(hg:Gl X "KINDS":=by rfl):PEA X F0 (.Name "KINDS" pos) (aC (.ctp [.str "mesh",.str "pin",.str "band",.str "cross"])):=by
 obtain⟨a,h,hs⟩:=T.KINDS
 exact paC (a2b (v:= .ref a) hg h rfl) fun _=> .ctp (hs _) (.cons (.str _) (.cons (.str _) (.cons (.str _) (.cons (.str _) .nil))))
noncomputable def cell(ns:List Int)(k:Int):Int:=(ns[k.toNat]?).getD 0
def a2v:SpA:=fun ds M Q _=> ∃(ns:List Int) (k:Int),ds=[.scr (ns.map D.int),.int k]/\0<=k/\Q (.int (cell ns k)) M
theorem ok_cell{f:Addr}{fd:FuncData}(Fn:Fun K "_law_cell_at" "_law_cell_at" a2a f fd)(T:Txt K mg):FnOk P w K mg base (CXE P w) 1 f fd ["_law_script","_law_k"] (a0m K a2v):=by
 refine Fn.okA a5u (fun ds M Q E h=> ?_) ?_
 . obtain⟨a,b,rfl,_⟩:=h;rfl
 intro cdv A outer s H E F0 ds M Q Ea hr ct hsp
 obtain⟨ns,k,rfl,hk,q⟩:=hsp
 refine⟨_,(a0b (sIf (a0s a81 lLt (paV (pv 1)) (a0r a0j lLen (by rfl) T.len PySem.boot_len (a0a (paV (pv 0)) a0e)) (a0o _))
       (a0g (sRet (paIx a0n lIx (paV (pv 0)) (paV (pv 1)) (fun _ _=>rfl))))
       a0y)
     (a0g (sRet paI))),?_⟩
 simp! only[List.length_map]
 obtain⟨n,rfl⟩:=Int.eq_ofNat_of_zero_le hk
 refine ite2 (fun h=> ?_) fun h=> ?_
 . have h:=of_decide_eq_true h
   have hn:n<ns.length:=by omega
   rw[a1n (v:=D.int ns[n]) (by simp[List.getElem?_eq_getElem hn])]
   have e:cell ns (n:Int)=ns[n]:=by simp[cell,List.getElem?_eq_getElem hn]
   rw[e]at q
   exact .now q
 . have hn: ¬ n<ns.length:=fun z=>h (decide_eq_true (by omega))
   have e:cell ns (n:Int)=0:=by simp[cell,List.getElem?_eq_none (Nat.le_of_not_lt hn)]
   rw[e]at q
   exact .now q
noncomputable def isInt:D->Bool | .int _=>true |_=>false
def a6o:SpA:=fun ds M Q _=> ∃d,ds=[d]/\a39 M d=true/\Q (.bl (isInt d)) M
theorem b37{f:Addr}{fd:FuncData}(Fn:Fun K "_law_whole" "_law_whole" a2z f fd)(T:Txt K mg):FnOk P w K mg base (CXE P w) 1 f fd ["_law_found"] (a0m K a6o):=by
 refine Fn.okA a7l (fun ds M Q E h=> ?_) ?_
 . obtain⟨a,rfl,_⟩:=h;rfl
 intro cdv A outer s H E F0 ds M Q Ea hr ct hsp
 obtain⟨d,rfl,hk,q⟩:=hsp
 refine⟨_,(a0g (sRet (b36 (a6d (T:="int") (x:="int") (by decide) (by rfl) T.isinstance (by rfl) T.int boot_int (paV (pv 0))) (b35 (paNot (a6d (T:="bool") (x:="bool") (by decide) (by rfl) T.isinstance (by rfl) T.bool boot_bool (paV (pv 0)))))))),?_⟩
 simp! only[b3j]
 refine⟨hk,ite2 (fun h=>⟨hk,?_⟩) fun h=> ?_⟩
 . cases d<;>first
     |exact .now q
     | (simp[a8a]at h;done)
     |skip
   rename_i p
   unfold a8a at h
   dsimp only at h
   split at h<;>simp at h
 . cases d<;>first
     |exact .now q
     | (exact absurd rfl h)
theorem a8g{X:Cx}{scope:Scope}{Nc:List Str}{n:Nat}(clos:closureFor scope X.env=pure []:=by rfl)(cell: ∀y∈scope.names,y.2≠ .cell:=by decide+kernel)(kind:scope.kind= .function:=by rfl)
   (names : ∀ x ∈ scope.names, x.2 = .local -> scope.names.lookup x.1 = some .local := by decide +kernel) (nof : ∀ y ∈ scope.names, y.2 ≠ .free := by decide +kernel) (rl : (relabel scope X.env).names = scope.names := by rfl) (len : n = Nc.length := by rfl) : CompOk X scope [] Nc (jsOf n []) := by
 have look: ∀{x:Str}{k:NameKind},scope.names.lookup x=some k-> ∃y∈scope.names,y.2=k:=by
   intro x k
   generalize scope.names=l
   intro h
   induction l with
   |nil=>cases h
   |cons a l ih=>
     rw[List.lookup_cons]at h
     split at h
     . cases h;exact⟨a,List.mem_cons_self,rfl⟩
     . obtain⟨y,h1,h2⟩:=ih h;exact⟨y,List.mem_cons_of_mem _ h1,h2⟩
 refine⟨clos,(fun _ _ h=>by cases h),cell,kind,names,fun x h=> ?_,by simp[jsOf,len],fun k j h=> ?_⟩
 . rw[rl]at h
   rcases h with h |h
   . obtain⟨y,h1,h2⟩:=look h;exact absurd h2 (cell y h1)
   . obtain⟨y,h1,h2⟩:=look h;exact absurd h2 (nof y h1)
 . unfold jsOf at h
   simp only[List.map_nil,List.append_nil,List.getElem?_replicate]at h
   split at h<;>cases h
theorem a3k(f:Nat->D)(n:Nat):outs (fun i=>some (f i)) n=(List.range n).map f:=by
 unfold outs
 induction List.range n with
 |nil=>rfl
 |cons a l ih=>simp only[List.filterMap_cons,List.map_cons,ih]
theorem all_cps(x:Str)(q:Nat->Bool):((List.range x.cps.size).map fun i=>q (x.cps.getD i 0)).all id=x.cps.toList.all q:=by
 rw[Bool.eq_iff_iff,List.all_eq_true,List.all_eq_true]
 constructor
 . intro h c hc
   obtain⟨i,hi,rfl⟩:=List.getElem_of_mem hc
   have hi':i<x.cps.size:=by simpa using hi
   have:=h _ (List.mem_map.mpr ⟨i,List.mem_range.mpr hi',rfl⟩)
   simpa[Array.getD,hi']using this
 . intro h b hb
   obtain⟨i,hi,rfl⟩:=List.mem_map.mp hb
   have hi':=List.mem_range.mp hi
   have:=h (x.cps.toList[i]'(by simpa using hi')) (List.getElem_mem _)
   simpa[Array.getD,hi']using this
theorem own1{own:G}(h:own.length=1): ∃o,own=[o]:=by
 cases own with
 |nil=>cases h
 |cons o l=>cases l with
   |nil=>exact⟨o,rfl⟩
   |cons _ _=>simp at h
theorem kM{n:Nat}(h:n<=1000000):n<=sizeLine:=Nat.le_trans h (by decide)
def a6s:SpA:=fun ds M Q _=> ∃x:Str,ds=[.str x]/\x.length<=1000000/\Q (.bl (a03 x)) M
theorem b02{f:Addr}{fd:FuncData}(Fn:Fun K "is_name" "is_name" a42 f fd)(T:Txt K mg):FnOk P w K mg base (CXE P w) 1 f fd ["text"] (a0m K a6s):=by
 refine Fn.okA b0v (fun ds M Q E h=> ?_) ?_
 . obtain⟨x,rfl,_⟩:=h;rfl
 intro cdv A outer s H E F0 ds M Q Ea hr ct hsp
 obtain⟨x,rfl,hx,q⟩:=hsp
 refine⟨_,(a0b (sIf ((pwOr (a0s a81 lLt (a0r a0j lLen (by rfl) T.len PySem.boot_len (a0a (paV (pv 0)) a0e)) paI (a0o _)) (a26 (a0s a50 lGt (a0r a0j lLen (by rfl) T.len PySem.boot_len (a0a (paV (pv 0)) a0e)) (a5a T) (a0o _))))).pt
       (a0g (sRet paB))
       a0y)
     (a0g (sRet (paAll (by rfl) T.all rfl (a0a (paFz (a5b (Nc:=["sign"]) (n:=1) (fs:=[]) a8g rfl (b4l (paV (pv 0))) (fun _ _ _ _ _=>(a0t (i:=0) (show List.Nodup (["sign"]:List Str)by decide+kernel) rfl (Or.inl rfl))) (fun _ _ _ _ _=>a69) (fun _ _ _ _ _=>(paCmp a90 lIn (paV (pv 0)) (b0y T) (by with_unfolding_all rfl))))) a0e))))),?_⟩
 have hl:x.length<=sizeLine:=kM hx
 simp! only[]
 refine⟨hl,ite2 (fun h1=> ?_) (fun h1=>⟨hl,ite2 (fun h2=> ?_) (fun h2=> ?_)⟩)⟩
 . have h1:=of_decide_eq_true h1
   have e:a03 x=false:=by
     unfold a03
     rw[decide_eq_true (show x.length<1 by omega)];rfl
   rw[e]at q
   exact .now q
 . have h2:=of_decide_eq_true h2
   have e:a03 x=false:=by
     unfold a03
     rw[decide_eq_true (show 8<x.length by omega),Bool.or_true];rfl
   rw[e]at q
   exact .now q
 . have h1: ¬ (x.length<1):=fun z=>h1 (decide_eq_true (by omega))
   have h2: ¬ (8<x.length):=fun z=>h2 (decide_eq_true (by omega))
   have e:a03 x=x.cps.toList.all fun c=>decide (c∈a1s):=by
     unfold a03
     rw[decide_eq_false h1,decide_eq_false h2];rfl
   rw[e,<-all_cps]at q
   simp! only[aFz,a2x,frG,oIn]
   refine⟨fun i=>some (.bl (decide (x.cps.getD i 0∈a1s))),by show x.cps.size<=1000;have:x.cps.size<=8:=Nat.le_of_not_lt h2;omega,fun M' _ i hi own ho=> ?_,fun p hp=> ?_⟩
   . obtain⟨o,rfl⟩:=own1 ho
     refine⟨⟨[some _],rfl,rfl⟩,?_⟩
     simp! only[]
     exact(congrArg (fun b=>some (D.bl b)) (PySem.StrLaws.found_one ("abcdefghijklmnopqrstuvwxyz":Str) (x.cps.getD i 0)).symm)
   . simp only[a0d,a3a hp,oAll,L2.dr]
     refine⟨_,?_,.now q⟩
     rw[a3k,List.map_map];rfl
theorem a32{d1 d2:Addr}{n:Int}:(fsT d1 d2 n).lookup ("teeth_of":Str)=some (.obj d1):=rfl
theorem a5g{d1 d2:Addr}{n:Int}:(fsT d1 d2 n).lookup ("join_of":Str)=some (.obj d2):=rfl
theorem b2n{d1 d2:Addr}{n:Int}:(fsT d1 d2 n).lookup ("next_number":Str)=some (.int n):=rfl
def a9s(C:Addr):SpA:=fun ds M Q _=> ∃p,ds=[.obj p]/\M p=some (.ins C [])/\ ∀d1 d2,M d1=none->M d2=none->d1≠d2->d1≠p->d2≠p->Q .non (put (put (put M d1 (.dic [])) d2 (.dic [])) p (.ins C (fsT d1 d2 0)))
theorem ok_init{f C:Addr}{fd:FuncData}(Fn:Fun K "__init__" "Train.__init__" a01 f fd)(pl_teeth_of:Pln K C "teeth_of")(pl_join_of:Pln K C "join_of")(pl_next_number:Pln K C "next_number"):
   FnOk P w K mg base (CXE P w) 1 f fd ["self"] (a0m K (a9s C)):=by
 refine Fn.okA a3v (fun ds M Q E h=> ?_) ?_
 . obtain⟨x,rfl,_⟩:=h;rfl
 intro cdv A outer s H E F0 ds M Q Ea hr ct hsp
 obtain⟨p,rfl,hp,q⟩:=hsp
 refine⟨_,(a0b (b3r pl_teeth_of (paV (pv 0)) paDNew rfl)
     (a0b (b3r pl_join_of (paV (pv 0)) paDNew rfl)
     (a0g (b3r pl_next_number (paV (pv 0)) paI rfl)))),?_⟩
 simp! only[]
 intro d1 h1
 have n1:p≠d1:=by rintro rfl;rw[hp]at h1;cases h1
 simp only[a0h n1,hp,a16,a0d]
 refine⟨by decide,fun d2 h2=> ?_⟩
 have n2:p≠d2:=by rintro rfl;rw[a0d]at h2;cases h2
 rw[a0h n2.symm]at h2
 have n3:d1≠d2:=by rintro rfl;rw[a0d]at h2;cases h2
 rw[a0h n3.symm]at h2
 simp only[a0h n2,a16,a0d]
 refine⟨by show 1<1000;decide,by show 2<1000;decide,?_⟩
 rw[a28,b3v n2,a28]
 exact .now (q d1 d2 h1 h2 n3 n1.symm n2.symm)
structure ExK(K:PySem.W.Frag)(mg:Str->Option Value)(EC:Rk->Addr):Prop where
 noName:ExCls K mg "NoName" (EC .noName)
 twice:ExCls K mg "Twice" (EC .twice)
 noTeeth:ExCls K mg "NoTeeth" (EC .noTeeth)
 full:ExCls K mg "Full" (EC .full)
 noWheel:ExCls K mg "NoWheel" (EC .noWheel)
 noJoin:ExCls K mg "NoJoin" (EC .noJoin)
def a6b(C:Addr)(EC:Rk->Addr):SpA:=fun ds M Q E=> ∃p d1 d2 S n t,ds=[.obj p,.str n,.int t]/\Tr C M p d1 d2 S/\n.length<=1000000/\
 match refW S n t with |some r=>E (.ref (EC r)) M |none=>Q .non (put M d1 (.dic (dW (S.ws++[(n,t)]))))
theorem a7v{f C:Addr}{fd:FuncData}{EC:Rk->Addr}(Fn:Fun K "put_wheel" "Train.put_wheel" a0x f fd)(T:Txt K mg)(XK:ExK K mg EC)(pl_teeth_of:Pln K C "teeth_of")
   (h_is_name:Has P w K mg base (CXE P w) 1 "is_name" ["text"] (a0m K a6s)):FnOk P w K mg base (CXE P w) 2 f fd ["self","name","teeth"] (a0m K (a6b C EC)):=by
 refine Fn.okA a3h (fun ds M Q E h=> ?_) ?_
 . obtain⟨p,d1,d2,S,n,t,rfl,_⟩:=h;rfl
 intro cdv A outer s H E F0 ds M Q Ea hr ct hsp
 obtain⟨p,d1,d2,S,n,t,rfl,tr,hn,q⟩:=hsp
 have hu:=hu_of hr
 have X_NoName:=XK.noName
 have X_Twice:=XK.twice
 have X_NoTeeth:=XK.noTeeth
 have X_Full:=XK.full
 refine⟨_,(a0b (sIf (a46 (ptV (a1d h_is_name (hr.mono (by decide)) (by rfl) ct (a0a (paV (pv 1)) a0e))))
       (a0g (a2e ct X_NoName (by rfl) (a0a paS a0e)))
       a0y)
     (a0b (sIf (ptPC (pcDIn (un1 ct) (paV (pv 1)) (a4e pl_teeth_of (paV (pv 0)) rfl)))
       (a0g (a2e ct X_Twice (by rfl) (a0a paS a0e)))
       a0y)
     (a0b (sIf ((pwOr (a0s a81 lLt (paV (pv 2)) paI (a0o _)) (a26 (a0s op_ge lGe (paV (pv 2)) (a5y T) (a0o _))))).pt
       (a0g (a2e ct X_NoTeeth (by rfl) (a0a paS a0e)))
       a0y)
     (a0b (sIf (a0s op_ge lGe (a0r a0j lLen (by rfl) T.len PySem.boot_len (a0a (a4e pl_teeth_of (paV (pv 0)) rfl) a0e)) (a5z T) (a0o _))
       (a0g (a2e ct X_Full (by rfl) (a0a paS a0e)))
       a0y)
     (a0g (sPutD (un1 ct) (a4e pl_teeth_of (paV (pv 0)) rfl) (paV (pv 1)) (paV (pv 2)) rfl)))))),?_⟩
 simp! only[a6s]
 refine⟨n,rfl,hn,?_⟩
 simp! only[tr.self,a32,tr.teeth,a9d]
 have hh:(S.ws.any fun w=>decide (w.1=n))=S.has n:=rfl
 rw[hh]
 cases h1:a03 n with
 |false=>simpa[refW,h1]using q
 |true=>
   cases h2:S.has n with
   |true=>simpa[refW,h1,h2]using q
   |false=>
     by_cases h3:t<1
     . simpa[refW,h1,h2,h3]using q
     . by_cases h4:1000000000<=t
       . simpa[refW,h1,h2,h3,h4]using q
       . by_cases h5:100<=S.ws.length
         . have e5:(100:Int)<=((dW S.ws).length:Nat):=by simp[dW];omega
           simpa[refW,h1,h2,h3,h4,h5,e5]using q
         . have e5: ¬ (100:Int)<=((dW S.ws).length:Nat):=by simp[dW];omega
           have e6:a6x (dW S.ws) (Sum.inr n) (.int t)=dW (S.ws++[(n,t)]):=by
             rw[a7q (by rw[a9d];exact h2)]
             simp[dW]
           have e7:(dW S.ws).length<1000:=by simp[dW];omega
           simp[h3,h4,e5,e7,e6]
           simp[refW,h1,h2,h3,h4,h5]at q
           exact .now q
theorem a4s(a k:Str):(a==k)=decide (k=a):=by
 rw[<-a9h]
 by_cases h:a=k
 . subst h;rw[decide_eq_true rfl,decide_eq_true rfl]
 . rw[decide_eq_false fun z=>h (V.str.inj z),decide_eq_false fun z=>h z.symm]
theorem b4h(k:Str):inD (.str k) [.str "mesh",.str "pin",.str "band",.str "cross"]=a15 k:=by
 unfold inD a15
 simp only[List.any_cons,List.any_nil,eqF,Bool.or_false]
 rw[a4s,a4s,a4s,a4s]
 simp only[Bool.or_assoc]
theorem b2s(k:Str):(if(flD (.str k)&&([.str "mesh",.str "pin",.str "band",.str "cross"]:List D).all flD)=true then some (inD (.str k) [.str "mesh",.str "pin",.str "band",.str "cross"])else none)=some (a15 k):=by
 rw[if_pos (show(flD (.str k)&&([.str "mesh",.str "pin",.str "band",.str "cross"]:List D).all flD)=true from rfl),b4h]
def a9r(C:Addr)(EC:Rk->Addr):SpA:=fun ds M Q E=> ∃p d1 d2 S k a b,ds=[.obj p,.str k,.str a,.str b]/\Tr C M p d1 d2 S/\
 match refJ S k a b with |some r=>E (.ref (EC r)) M |none=>Q (.int S.nx) (put (put M d2 (.dic (dJ (S.js++[(S.nx,k,a,b)])))) p (.ins C (fsT d1 d2 (S.nx+1))))
theorem a83{f C:Addr}{fd:FuncData}{EC:Rk->Addr}(Fn:Fun K "put_join" "Train.put_join" a00 f fd)(T:Txt K mg)(XK:ExK K mg EC)(pl_teeth_of:Pln K C "teeth_of")(pl_join_of:Pln K C "join_of")(pl_next_number:Pln K C "next_number"):
   FnOk P w K mg base (CXE P w) 2 f fd ["self","kind","one","other"] (a0m K (a9r C EC)):=by
 refine Fn.okA sc_Train_put_join (fun ds M Q E h=> ?_) ?_
 . obtain⟨p,d1,d2,S,k,a,b,rfl,_⟩:=h;rfl
 intro cdv A outer s H E F0 ds M Q Ea hr ct hsp
 obtain⟨p,d1,d2,S,k,a,b,rfl,tr,q⟩:=hsp
 have hu:=hu_of hr
 have hu64:=hr.units
 have X_NoJoin:=XK.noJoin
 have X_NoWheel:=XK.noWheel
 have X_Full:=XK.full
 refine⟨_,(a0b (sIf (a0s a1r a5j (paV (pv 1)) (b34 T) (by with_unfolding_all rfl))
       (a0g (a2e ct X_NoJoin (by rfl) (a0a paS a0e)))
       a0y)
     (a0b (sIf ((pwOr (ptPC (a6z (un1 ct) (paV (pv 2)) (a4e pl_teeth_of (paV (pv 0)) rfl))) (a26 (ptPC (a6z (un1 ct) (paV (pv 3)) (a4e pl_teeth_of (paV (pv 0)) rfl)))))).pt
       (a0g (a2e ct X_NoWheel (by rfl) (a0a paS a0e)))
       a0y)
     (a0b (sIf (a0s (a1e (un64 ct)) lEq (paV (pv 2)) (paV (pv 3)) (a0o _))
       (a0g (a2e ct X_NoJoin (by rfl) (a0a paS a0e)))
       a0y)
     (a0b (sIf (a0s op_ge lGe (a0r a0j lLen (by rfl) T.len PySem.boot_len (a0a (a4e pl_join_of (paV (pv 0)) rfl) a0e)) (a60 T) (a0o _))
       (a0g (a2e ct X_Full (by rfl) (a0a paS a0e)))
       a0y)
     (a0b (sSet (i:=4) sc_Train_put_join.nd rfl (Or.inl rfl) (a4e pl_next_number (paV (pv 0)) rfl))
     (a0b (sPutD (un1 ct) (a4e pl_join_of (paV (pv 0)) rfl) (paV (pv 4)) (b2e (a0a (paV (pv 4)) (a0a (paV (pv 1)) (a0a (paV (pv 2)) (a0a (paV (pv 3)) a0e))))) rfl)
     (a0b (b3r pl_next_number (paV (pv 0)) (paOp a0f lAdd (paV (pv 4)) paI) rfl)
     (a0g (sRet (paV (pv 4))))))))))),?_⟩
 simp! only[b2s]
 have n1:p≠d2:=by rintro rfl;have:=tr.self;rw[tr.join]at this;cases this
 simp! only[tr.self,a32,a5g,b2n,tr.teeth,tr.join,a9d,a0h n1]
 have ha:(S.ws.any fun w=>decide (w.1=a))=S.has a:=rfl
 have hb:(S.ws.any fun w=>decide (w.1=b))=S.has b:=rfl
 rw[ha,hb]
 cases h1:a15 k with
 |false=>simpa[refJ,h1]using q
 |true=>
   cases h2:S.has a with
   |false=>simpa[refJ,h1,h2]using q
   |true=>
     cases h3:S.has b with
     |false=>simpa[refJ,h1,h2,h3]using q
     |true=>
       by_cases h4:a=b
       . subst h4
         simpa[refJ,h1,h2,h3]using q
       . by_cases h5:200<=S.js.length
         . have e5:(200:Int)<=((dJ S.js).length:Nat):=by simp[dJ];omega
           simpa[refJ,h1,h2,h3,h4,h5,e5]using q
         . have e5: ¬ (200:Int)<=((dJ S.js).length:Nat):=by simp[dJ];omega
           have e7:(dJ S.js).length<1000:=by simp[dJ];omega
           have e8:(getK (dJ S.js) (Sum.inl S.nx)).isSome=false:=by
             rw[a9e]
             rw[List.any_eq_false]
             intro j hj
             have:=tr.lt j hj
             simp;omega
           have e6:a6x (dJ S.js) (Sum.inl S.nx) (.tup [.int S.nx,.str k,.str a,.str b])=dJ (S.js++[(S.nx,k,a,b)]):=by
             rw[a7q e8]
             simp[dJ,eJ]
           simp[h4,e5,e7,e6]
           simp[refJ,h1,h2,h3,h4,h5]at q
           exact⟨by show 3<1000;decide,.now q⟩
def a6p(C:Addr)(EC:Rk->Addr):SpA:=fun ds M Q E=> ∃p d1 d2 S n,ds=[.obj p,.int n]/\Tr C M p d1 d2 S/\
 match refL S n with |some r=>E (.ref (EC r)) M |none=>Q .non (put M d2 (.dic (dJ (S.js.filter fun j=>decide (j.1≠n)))))
theorem a7u{f C:Addr}{fd:FuncData}{EC:Rk->Addr}(Fn:Fun K "take_join" "Train.take_join" a0w f fd)(XK:ExK K mg EC)(pl_join_of:Pln K C "join_of"):
   FnOk P w K mg base (CXE P w) 2 f fd ["self","number"] (a0m K (a6p C EC)):=by
 refine Fn.okA a3g (fun ds M Q E h=> ?_) ?_
 . obtain⟨p,d1,d2,S,n,rfl,_⟩:=h;rfl
 intro cdv A outer s H E F0 ds M Q Ea hr ct hsp
 obtain⟨p,d1,d2,S,n,rfl,tr,q⟩:=hsp
 have hu:=hu_of hr
 have X_NoJoin:=XK.noJoin
 refine⟨_,(a0b (sIf (ptPC (a6z (un1 ct) (paV (pv 1)) (a4e pl_join_of (paV (pv 0)) rfl)))
       (a0g (a2e ct X_NoJoin (by rfl) (a0a paS a0e)))
       a0y)
     (a0g (a2u (paDPop (a4e pl_join_of (paV (pv 0)) rfl) (paV (pv 1)) ⟨by rfl,by rfl,by rfl,by rfl⟩)))),?_⟩
 simp! only[tr.self,a5g,tr.join,a9e]
 have ha:(S.js.any fun j=>decide (j.1=n))=S.hasJ n:=rfl
 rw[ha]
 cases h1:S.hasJ n with
 |false=>simpa[refL,h1]using q
 |true=>
   have e:(getK (dJ S.js) (Sum.inl n)).isSome=true:=by rw[a9e];exact h1
   obtain⟨d,hd⟩:=Option.isSome_iff_exists.mp e
   simp[hd,a4o,b3b]
   simp[refL,h1]at q
   exact .now q
def a3b(C:Addr):SpA:=fun ds M Q _=> ∃p d1 d2 S,ds=[.obj p]/\Tr C M p d1 d2 S/\ ∀l,M l=none->Q (.obj l) (put M l (.lst (S.ws.map eW)))
theorem b2g{f C:Addr}{fd:FuncData}(Fn:Fun K "wheels" "Train.wheels" a07 f fd)(T:Txt K mg)(pl_teeth_of:Pln K C "teeth_of"):FnOk P w K mg base (CXE P w) 1 f fd ["self"] (a0m K (a3b C)):=by
 refine Fn.okA a40 (fun ds M Q E h=> ?_) ?_
 . obtain⟨p,d1,d2,S,rfl,_⟩:=h;rfl
 intro cdv A outer s H E F0 ds M Q Ea hr ct hsp
 obtain⟨p,d1,d2,S,rfl,tr,q⟩:=hsp
 refine⟨_,a0g (sRet (paItems T.list rfl (by rfl) (a4e pl_teeth_of (paV (pv 0)) rfl))),?_⟩
 simp! only[aItems,tr.self,a32,tr.teeth]
 intro l hl
 have e:(dW S.ws).map (fun kv=>D.tup [b1a kv.1,kv.2])=S.ws.map eW:=by
   unfold dW;rw[List.map_map];rfl
 rw[e]
 exact .now (q l hl)
def a4y(C:Addr):SpA:=fun ds M Q _=> ∃p d1 d2 S,ds=[.obj p]/\Tr C M p d1 d2 S/\ ∀l,M l=none->Q (.obj l) (put M l (.lst (S.js.map eJ)))
theorem b39{f C:Addr}{fd:FuncData}(Fn:Fun K "joins" "Train.joins" a1c f fd)(T:Txt K mg)(pl_join_of:Pln K C "join_of"):FnOk P w K mg base (CXE P w) 1 f fd ["self"] (a0m K (a4y C)):=by
 refine Fn.okA a5v (fun ds M Q E h=> ?_) ?_
 . obtain⟨p,d1,d2,S,rfl,_⟩:=h;rfl
 intro cdv A outer s H E F0 ds M Q Ea hr ct hsp
 obtain⟨p,d1,d2,S,rfl,tr,q⟩:=hsp
 refine⟨_,a0g (sRet (paVals T.list rfl (by rfl) (a4e pl_join_of (paV (pv 0)) rfl))),?_⟩
 simp! only[aVals,tr.self,a5g,tr.join]
 intro l hl
 have e:(dJ S.js).map (fun kv=>kv.2)=S.js.map eJ:=by
   unfold dJ;rw[List.map_map];rfl
 rw[e]
 exact .now (q l hl)
theorem seqV{i:Nat}{te:AE}{rest:AS}{E:AEnds}{Γ:G}{M:Mem}(d:D)(M1:Mem)(hte: ∀R:AK,R d M1->te Γ M R)(h:rest E (Γ.set i (some d)) M1):aSeq (aSet i te) rest E Γ M:=hte _ h
theorem setV{i:Nat}{te:AE}{E:AEnds}{Γ:G}{M:Mem}(d:D)(M1:Mem)(hte: ∀R:AK,R d M1->te Γ M R)(h:E.nx (Γ.set i (some d)) M1):aSet i te E Γ M:=hte _ h
theorem dropV{te:AE}{rest:AS}{E:AEnds}{Γ:G}{M:Mem}(d:D)(M1:Mem)(hte: ∀R:AK,R d M1->te Γ M R)(h:rest E Γ M1):aSeq (b3k te) rest E Γ M:=hte _ h
theorem dropE{te:AE}{E:AEnds}{Γ:G}{M:Mem}(d:D)(M1:Mem)(hte: ∀R:AK,R d M1->te Γ M R)(h:E.nx Γ M1):b3k te E Γ M:=hte _ h
theorem retV{te:AE}{E:AEnds}{Γ:G}{M:Mem}(d:D)(M1:Mem)(hte: ∀R:AK,R d M1->te Γ M R)(h:E.rt d M1):aRet te E Γ M:=hte _ h
theorem ifV{c:AT}{t u:AS}{E:AEnds}{Γ:G}{M:Mem}(b:Bool)(hc: ∀R:Bool->Mem->Prop,R b M->c Γ M R)(h:if b=true then t E Γ M else u E Γ M):aIf c t u E Γ M:=hc _ h
theorem cut1{t rest:AS}{E:AEnds}{Γ:G}{M:Mem}(R:G->Mem->Prop)(hr: ∀Γ M,R Γ M->rest E Γ M)(h: ∀rest':AS,(∀Γ M,R Γ M->rest' E Γ M)->aSeq t rest' E Γ M):aSeq t rest E Γ M:=h rest hr
theorem cut2{t1 t2 rest:AS}{E:AEnds}{Γ:G}{M:Mem}(R:G->Mem->Prop)(hr: ∀Γ M,R Γ M->rest E Γ M)(h: ∀rest':AS,(∀Γ M,R Γ M->rest' E Γ M)->aSeq t1 (aSeq t2 rest') E Γ M):aSeq t1 (aSeq t2 rest) E Γ M:=h rest hr
theorem LoopP.by2{S:Src}{gt:AGt}{tb:AS}{E:AEnds}{Γ:G}{M:Mem}(W:Nat->G->Mem->Prop)(h0:W 0 Γ M)(hl: ∀i Γ M,W i Γ M->S.held M)
   (step: ∀(E':AEnds) i Γ M,E'.rt=E.rt->i<S.n->(∀Γ' M',W (i+1) Γ' M'->E'.nx Γ' M')->W i Γ M->gt (S.item i) Γ M fun Γ2 M2=>tb E' Γ2 M2) (done: ∀Γ M,W S.n Γ M->E.nx Γ M):LoopP S gt tb E Γ M:=
 LoopP.by W h0 hl (fun i Γ M hi w=>step _ i Γ M rfl hi (fun _ _ h=>⟨hi,h⟩) w) done
theorem a34{c:AT}{t u rest:AS}{E:AEnds}{Γ:G}{M:Mem}(b:Bool)(hc: ∀R:Bool->Mem->Prop,R b M->c Γ M R)(h:if b=true then t {E with nx:=rest E} Γ M else u {E with nx:=rest E} Γ M):aSeq (aIf c t u) rest E Γ M:=hc _ h
theorem forLs{tl:AE}{gt:AGt}{tb rest:AS}{E:AEnds}{Γ:G}{M:Mem}{d:D}{ds:List D}(htl: ∀R:AK,R d M->tl Γ M R)(hd:dr M d=some ds)(h:LoopP ⟨ds.length,fun i=>ds.getD i .non,fun M=>dr M d=some ds⟩ gt tb {E with nx:=rest E} Γ M):aSeq (aFor (iaL tl) gt tb) rest E Γ M:=
 htl _ (by dsimp only;rw[hd];exact h)
open PySem.Builtin.Str PySem.StrLaws in
theorem a87(s sub:Str)(hi limit:Nat)(hno: ∀i j,At s sub hi i->At s sub hi j->i<j->i+sub.length<=j): ∀(l:List Nat) (found:Array Nat) (free:Nat),l.Pairwise (· < ·)->(∀i∈l,At s sub hi i->free<=i)->found.size+l.length<=limit->
   (forIn l (found,free) (occBody s sub hi limit)).run.fst.toList=found.toList++l.filter (fun i=>decide (i+sub.length<=hi/\subAt s sub i=true))
 | [],found,free,_,_,_=>by rw[List.filter_nil,List.append_nil];rfl
 |a::l,found,free,pw,hf,hl=>by
   rw[List.forIn_cons]
   unfold occBody
   rw[List.pairwise_cons]at pw
   rw[List.length_cons]at hl
   by_cases hc:a+sub.length<=hi/\subAt s sub a=true
   . have c1:(((found,free).fst.size<limit/\(found,free).snd<=a)/\a+sub.length<=hi)/\subAt s sub a=true:=⟨⟨⟨by show found.size<limit;omega,hf a List.mem_cons_self hc⟩,hc.1⟩,hc.2⟩
     rw[if_pos c1]
     have:=a87 s sub hi limit hno l (found.push a) (a+sub.length) pw.2 (fun i hi' h=>hno a i hc h (pw.1 i hi')) (by rw[Array.size_push];omega)
     rw[List.filter_cons,if_pos (show decide (a+sub.length<=hi/\subAt s sub a=true)=true from decide_eq_true hc)]
     refine Eq.trans this ?_
     rw[Array.toList_push,List.append_assoc];rfl
   . rw[if_neg (fun z=>hc ⟨z.1.2,z.2⟩)]
     rw[List.filter_cons,if_neg (show ¬ decide (a+sub.length<=hi/\subAt s sub a=true)=true from fun z=>hc (of_decide_eq_true z))]
     exact a87 s sub hi limit hno l found free pw.2 (fun i hi'=>hf i (List.mem_cons_of_mem _ hi')) (by omega)
noncomputable def jn(y:List Nat):List (List Nat)->List Nat
 | []=>[]
 | [p]=>p
 |p::q::r=>p++y++jn y (q::r)
noncomputable def a4b(w:Nat):Nat->List (List Nat)->List Nat
 |_,[]=>[]
 |_,[_]=>[]
 |a,p::q::r=>(a+p.length)::a4b w (a+p.length+w) (q::r)
theorem a3r(s sub:Str)(i:Nat):PySem.Builtin.Str.subAt s sub i=decide ((s.cps.toList.drop i).take sub.length=sub.cps.toList):=by
 unfold PySem.Builtin.Str.subAt
 rw[PySem.StrLaws.beq_toList,Array.toList_extract,List.extract_eq_drop_take,show i+sub.length- i=sub.length by omega]
 by_cases h:(s.cps.toList.drop i).take sub.length=sub.cps.toList
 . rw[h];simp
 . rw[decide_eq_false h];simpa using h
theorem b0p{s sub:Str}{c:Nat}{r:List Nat}(hy:sub.cps.toList=c::r){i:Nat}(h:PySem.Builtin.Str.subAt s sub i=true):s.cps.toList[i]? =some c:=by
 rw[a3r]at h
 have h:=of_decide_eq_true h
 rw[hy]at h
 have e:((s.cps.toList.drop i).take sub.length)[0]? =some c:=by rw[h];rfl
 have hl:0<sub.length:=by
   have:sub.length=sub.cps.toList.length:=by simp[Str.length]
   rw[this,hy];simp
 rw[List.getElem?_take_of_lt hl,List.getElem?_drop]at e
 exact e
theorem filt{P:Nat->Prop}[DecidablePred P]{c:Nat}{y L:List Nat}{r:List Nat}(hy:y=c::r)(hr:c∉r)(hP: ∀i,P i->i+y.length<=L.length/\L[i]? =some c)(hQ: ∀pre post,L=pre++y++post->P pre.length): ∀(ps:List (List Nat)) (pre:List Nat),(∀p∈ps,c∉p)->ps≠[]->L=pre++jn y ps->
   (List.range' pre.length ((jn y ps).length+1)).filter (fun i=>decide (P i))=a4b y.length pre.length ps
 | [],_,_,h,_=>absurd rfl h
 | [p],pre,hp,_,e=>by
   have hc:=hp p List.mem_cons_self
   show _=[]
   refine List.filter_eq_nil_iff.mpr fun i hi=> ?_
   rw[List.mem_range'_1]at hi
   intro z
   obtain⟨z1,z2⟩:=hP i (of_decide_eq_true z)
   have e:L=pre++p:=e
   have hy1:1<=y.length:=by rw[hy];simp
   rw[e,List.length_append]at z1
   rw[e,List.getElem?_append_right hi.1]at z2
   exact hc (List.mem_of_getElem? z2)
 |p::q::ps,pre,hp,_,e=>by
   have hc:=hp p List.mem_cons_self
   have e:L=pre++(p++y++jn y (q::ps)):=e
   have hjl:(jn y (p::q::ps)).length=p.length+y.length+(jn y (q::ps)).length:=by
     show(p++y++jn y (q::ps)).length=_
     rw[List.length_append,List.length_append]
   have hy1:y.length=r.length+1:=by rw[hy];simp
   have e2:L=(pre++p++y)++jn y (q::ps):=by rw[e];simp[List.append_assoc]
   have ih:=filt hy hr hP hQ (q::ps) (pre++p++y) (fun p' h'=>hp p' (List.mem_cons_of_mem _ h')) (by simp) e2
   have l2:(pre++p++y).length=pre.length+p.length+y.length:=by rw[List.length_append,List.length_append]
   rw[l2]at ih
   show _=(pre.length+p.length)::a4b y.length (pre.length+p.length+y.length) (q::ps)
   rw[<-ih,hjl,show p.length+y.length+(jn y (q::ps)).length+1=p.length+(1+(r.length+((jn y (q::ps)).length+1)))by omega]
   rw[<-List.range'_append_1,<-List.range'_append_1,<-List.range'_append_1,List.filter_append,List.filter_append,List.filter_append]
   have none1:(List.range' pre.length p.length).filter (fun i=>decide (P i))=[]:=List.filter_eq_nil_iff.mpr fun i hi z=>by
     rw[List.mem_range'_1]at hi
     have z2:=(hP i (of_decide_eq_true z)).2
     rw[e,List.getElem?_append_right hi.1,List.append_assoc,List.getElem?_append_left (by omega)]at z2
     exact hc (List.mem_of_getElem? z2)
   have one:(List.range' (pre.length+p.length) 1).filter (fun i=>decide (P i))=[pre.length+p.length]:=by
     have:=hQ (pre++p) (jn y (q::ps)) e2
     rw[List.length_append]at this
     show([pre.length+p.length]:List Nat).filter _=_
     rw[List.filter_cons,if_pos (show decide (P (pre.length+p.length))=true from decide_eq_true this)];rfl
   have none2:(List.range' (pre.length+p.length+1) r.length).filter (fun i=>decide (P i))=[]:=List.filter_eq_nil_iff.mpr fun i hi z=>by
     rw[List.mem_range'_1]at hi
     have z2:=(hP i (of_decide_eq_true z)).2
     rw[e2,List.append_assoc,List.getElem?_append_right (by rw[List.length_append];omega),List.length_append,List.getElem?_append_left (by omega),hy]at z2
     obtain⟨k,hk⟩: ∃k,i- (pre.length+p.length)=k+1:=⟨i- (pre.length+p.length)- 1,by omega⟩
     rw[hk,List.getElem?_cons_succ]at z2
     exact hr (List.mem_of_getElem? z2)
   rw[none1,one,none2,List.nil_append,List.nil_append,hy1,show pre.length+p.length+1+r.length=pre.length+p.length+(r.length+1)by omega]
   rfl
theorem a1l(y:Str): ∀ps:List Str,(a2f y ps).cps.toList=jn y.cps.toList (ps.map fun p=>p.cps.toList):=by
 intro ps
 unfold a2f
 rw[PySem.StrLaws.glued_eq_join]
 induction ps with
 |nil=>rfl
 |cons p ps ih=>
   cases ps with
   |nil=>rfl
   |cons q r=>
     show((p.cps++y.cps)++(Str.join y (q::r)).cps).toList=p.cps.toList++y.cps.toList++jn y.cps.toList _
     rw[Array.toList_append,Array.toList_append,ih];rfl
theorem b1n{x p:Str}{pre post:List Nat}(h:x.cps.toList=pre++p.cps.toList++post):PySem.Builtin.Str.strSub x pre.length (pre.length+p.length)=p:=by
 unfold PySem.Builtin.Str.strSub
 obtain⟨pc⟩:=p
 congr 1
 rw[<-Array.toList_inj,Array.toList_extract,List.extract_eq_drop_take,h,List.append_assoc,List.drop_left,show pre.length+Str.length ⟨pc⟩- pre.length=pc.toList.length by simp[Str.length],List.take_left]
theorem a6c(x y:Str): ∀(ps:List Str) (pre:List Nat),ps≠[]->x.cps.toList=pre++jn y.cps.toList (ps.map fun p=>p.cps.toList)->PySem.StrLaws.partsFrom x y.length pre.length (a4b y.length pre.length (ps.map fun p=>p.cps.toList))=ps
 | [],_,h,_=>absurd rfl h
 | [p],pre,_,e=>by
   show[PySem.Builtin.Str.strSub x pre.length x.length]=[p]
   have e:x.cps.toList=pre++p.cps.toList:=e
   have hl:x.length=pre.length+p.length:=by
     have:=congrArg List.length e
     rw[List.length_append,Array.length_toList,Array.length_toList]at this
     exact this
   rw[hl,b1n (post:=[]) (by rw[List.append_nil];exact e)]
 |p::q::ps,pre,_,e=>by
   have e:x.cps.toList=pre++(p.cps.toList++y.cps.toList++jn y.cps.toList ((q::ps).map fun p=>p.cps.toList)):=e
   have e2:x.cps.toList=(pre++p.cps.toList++y.cps.toList)++jn y.cps.toList ((q::ps).map fun p=>p.cps.toList):=by rw[e];simp[List.append_assoc]
   have ih:=a6c x y (q::ps) (pre++p.cps.toList++y.cps.toList) (by simp) e2
   have hl:(pre++p.cps.toList++y.cps.toList).length=pre.length+p.length+y.length:=by rw[List.length_append,List.length_append];rfl
   have hp:p.cps.toList.length=p.length:=rfl
   rw[hl]at ih
   show PySem.Builtin.Str.strSub x pre.length (pre.length+p.cps.toList.length)::PySem.StrLaws.partsFrom x y.length (pre.length+p.cps.toList.length+y.length) (a4b y.length (pre.length+p.cps.toList.length+y.length) ((q::ps).map fun p=>p.cps.toList))=_
   rw[hp,ih,b1n (post:=y.cps.toList++jn y.cps.toList ((q::ps).map fun p=>p.cps.toList)) (by rw[e];simp[List.append_assoc])]
theorem a59{y:Str}{c:Nat}{r:List Nat}(hy:y.cps.toList=c::r)(hr:c∉r)(hk:PySem.Builtin.Str.strKind y=1){ps:List Str}(hps:ps≠[])(hp: ∀p∈ps,c∉p.cps.toList):PySem.Txt.split (a2f y ps) y=ps:=by
 have hL:=a1l y ps
 generalize a2f y ps=x at hL |-
 have hyl:y.cps.toList.length=y.length:=rfl
 have hxl:x.cps.toList.length=x.length:=rfl
 have hP: ∀i,(i+y.length<=x.length/\PySem.Builtin.Str.subAt x y i=true)->i+y.cps.toList.length<=x.cps.toList.length/\x.cps.toList[i]? =some c:=fun i h=>⟨by rw[hyl,hxl];exact h.1,b0p hy h.2⟩
 have hQ: ∀pre post,x.cps.toList=pre++y.cps.toList++post->(pre.length+y.length<=x.length/\PySem.Builtin.Str.subAt x y pre.length=true):=fun pre post e=>by
   refine⟨?_,?_⟩
   . rw[<-hxl,e,List.length_append,List.length_append,hyl];omega
   . rw[a3r]
     refine decide_eq_true ?_
     rw[e,List.append_assoc,List.drop_left,<-hyl,List.take_left]
 have fl:=filt (P:=fun i=>i+y.length<=x.length/\PySem.Builtin.Str.subAt x y i=true) hy hr hP hQ (ps.map fun p=>p.cps.toList) [] (fun p h=>by
   obtain⟨q,hq,rfl⟩:=List.mem_map.mp h
   exact hp q hq) (by simpa using hps) (by rw[List.nil_append];exact hL)
 have occ:PySem.Builtin.Str.occurrences x y 0 x.length (x.length+1)=a4b y.length 0 (ps.map fun p=>p.cps.toList):=by
   rw[PySem.StrLaws.occ_eq]
   rw[a87 x y x.length (x.length+1) (fun i j hi hj hij=> ?_) _ _ _ List.pairwise_lt_range' (fun i _ _=>Nat.zero_le _) (by simp)]
   . show[]++_=_
     rw[List.nil_append,Nat.sub_zero]
     have e3:(jn y.cps.toList (ps.map fun p=>p.cps.toList)).length=x.length:=by rw[<-hL];rfl
     rw[List.length_nil,e3,hyl]at fl
     exact fl
   . refine Nat.le_of_not_lt fun z=> ?_
     have s1:=hi.2
     have s2:=b0p hy hj.2
     rw[a3r]at s1
     have s1:=of_decide_eq_true s1
     have s3:((x.cps.toList.drop i).take y.length)[j- i]? =some c:=by
       rw[List.getElem?_take_of_lt (by omega),List.getElem?_drop,show i+(j- i)=j by omega];exact s2
     rw[s1,hy]at s3
     obtain⟨k,hk⟩: ∃k,j- i=k+1:=⟨j- i- 1,by omega⟩
     rw[hk,List.getElem?_cons_succ]at s3
     exact hr (List.mem_of_getElem? s3)
 have hkk: ¬ PySem.Builtin.Str.strKind x<PySem.Builtin.Str.strKind y:=by
   rw[hk]
   unfold PySem.Builtin.Str.strKind
   split
   . omega
   . split<;>omega
 have back:PySem.Builtin.Str.partsBetween x (a4b y.length 0 (ps.map fun p=>p.cps.toList)) y.length=ps:=by
   rw[PySem.StrLaws.partsBetween_eq]
   exact a6c x y ps [] hps (by rw[List.nil_append];exact hL)
 have lone:a4b y.length 0 (ps.map fun p=>p.cps.toList)=[]->ps=[x]:=fun h=>by
   rw[h,PySem.StrLaws.partsBetween_eq]at back
   rw[<-back]
   show[_]=[_]
   rw[PySem.StrLaws.sub_whole]
 unfold PySem.Txt.split
 split
 . rename_i h
   refine(lone ?_).symm
   rw[decide_eq_false hkk,Bool.or_false,decide_eq_true_eq]at h
   cases ps with
   |nil=>exact absurd rfl hps
   |cons p ps=>
     cases ps with
     |nil=>rfl
     |cons q ps=>
       exfalso
       have:=congrArg List.length hL
       rw[hxl]at this
       have e:(jn y.cps.toList ((p::q::ps).map fun p=>p.cps.toList)).length=(p.cps.toList++y.cps.toList++jn y.cps.toList ((q::ps).map fun p=>p.cps.toList)).length:=rfl
       rw[e,List.length_append,List.length_append,hyl]at this
       omega
 . split
   . rename_i h
     rw[occ]at h
     exact(lone (List.isEmpty_iff.mp h)).symm
   . rw[occ];exact back
theorem b4w: ∀m:Nat,1<=m-> ∃c cs,Nat.toDigits 10 m=c::cs/\c≠ '0':=by
 intro m
 induction m using Nat.strongRecOn with
 |ind m ih=>
   intro h
   by_cases hm:m<10
   . rw[Nat.toDigits_of_lt_base hm]
     refine⟨_,_,rfl,?_⟩
     have: ∀k:Fin 10,1<=k.val->Nat.digitChar k.val≠ '0':=by decide
     exact this ⟨m,hm⟩ h
   . have t:Nat.toDigits 10 (m/10)++Nat.toDigits 10 (m % 10)=Nat.toDigits 10 (10 * (m/10)+m % 10):=Nat.toDigits_append_toDigits (by decide) (by omega) (by omega)
     rw[Nat.div_add_mod]at t
     obtain⟨c,cs,e,hc⟩:=ih (m/10) (by omega) (by omega)
     rw[<-t,e]
     exact⟨c,_,rfl,hc⟩
noncomputable def figures:List Nat:=("0123456789":Str).cps.toList
theorem slen(x:Str):x.length=x.cps.toList.length:=rfl
theorem fig_iff{c:Nat}:c∈figures↔48<=c/\c<=57:=by
 constructor
 . have: ∀c∈figures,48<=c/\c<=57:=by decide+kernel
   exact this c
 . intro h
   have key: ∀k:Fin 10,48+k.val∈figures:=by decide+kernel
   have:=key ⟨c- 48,by omega⟩
   rwa [show 48+(c- 48)=c by omega]at this
noncomputable def figs(x:Str):Bool:=x.cps.toList.all fun c=>decide (c∈figures)
noncomputable def a14(x:Str):Bool:= !(decide (x.length<1)||decide (9<x.length)||decide (x.cps.toList[0]? =some 48))&&figs x
noncomputable def a2t(x:Str):Int:=(PySem.intText? x).getD 0
theorem b0g: ∀(cs:List Nat) (acc:Nat),(∀c∈cs,48<=c/\c<=57)->acc *10^cs.length<=cs.foldl (fun a c=>a *10+(c- 48)) acc/\cs.foldl (fun a c=>a *10+(c- 48)) acc< (acc+1) *10^cs.length
 | [],acc,_=>by simp
 |c::cs,acc,h=>by
   have hc:=h c List.mem_cons_self
   obtain⟨h1,h2⟩:=b0g cs (acc *10+(c- 48)) fun d hd=>h d (List.mem_cons_of_mem _ hd)
   rw[List.foldl_cons,List.length_cons,Nat.pow_succ]
   refine⟨Nat.le_trans ?_ h1,Nat.lt_of_lt_of_le h2 ?_⟩
   . rw[Nat.mul_comm (10^cs.length) 10,<-Nat.mul_assoc]
     exact Nat.mul_le_mul_right _ (by omega)
   . rw[Nat.mul_comm (10^cs.length) 10,<-Nat.mul_assoc]
     exact Nat.mul_le_mul_right _ (by omega)
theorem a71{x:Str}(h:a14 x=true):1<=x.length/\x.length<=9/\x.cps.toList[0]? ≠some 48/\ ∀c∈x.cps.toList,48<=c/\c<=57:=by
 unfold a14 at h
 rw[Bool.and_eq_true,Bool.not_eq_true',Bool.or_eq_false_iff,Bool.or_eq_false_iff]at h
 have h1:=of_decide_eq_false h.1.1.1
 have h2:=of_decide_eq_false h.1.1.2
 refine⟨by omega,by omega,of_decide_eq_false h.1.2,fun c hc=>fig_iff.mp (of_decide_eq_true (List.all_eq_true.mp h.2 c hc))⟩
theorem b2j{x:Str}(h:a14 x=true):PySem.intText? x=some (a2t x)/\1<=a2t x/\a2t x<1000000000:=by
 obtain⟨h1,h9,h0,hd⟩:=a71 h
 have hne:x.cps.toList≠[]:=fun z=>by rw[slen,z]at h1;exact absurd h1 (by decide)
 have e:=PySem.intText_digits hd hne (by omega)
 have ev:a2t x=((PySem.NumText.digitsVal x.cps.toList:Nat):Int):=by unfold a2t;rw[e];rfl
 refine⟨by rw[e,ev],?_⟩
 rw[ev]
 unfold PySem.NumText.digitsVal
 rw[slen]at h9
 generalize x.cps.toList=l at *
 cases l with
 |nil=>exact absurd rfl hne
 |cons c cs=>
   have hc:=hd c List.mem_cons_self
   have c0:c≠48:=fun z=>h0 (by rw[z];rfl)
   obtain⟨a,b⟩:=b0g cs (0 *10+(c- 48)) fun d hd'=>hd d (List.mem_cons_of_mem _ hd')
   have p1:1<=10^cs.length:=Nat.pow_pos (by decide)
   have p2:10^cs.length<=10^8:=Nat.pow_le_pow_right (by decide) (by rw[List.length_cons]at h9;omega)
   rw[List.foldl_cons]
   have q1:1 *1<=(0 *10+(c- 48)) *10^cs.length:=Nat.mul_le_mul (by omega) p1
   have q2:(0 *10+(c- 48)+1) *10^cs.length<=10 *10^8:=Nat.mul_le_mul (by omega) p2
   omega
theorem a1v{v:Int}(h1:1<=v)(h2:v<1000000000):a14 (intS v)=true/\a2t (intS v)=v/\(intS v).length<=9/\ ∀c∈(intS v).cps.toList,48<=c/\c<=57:=by
 obtain⟨m,rfl⟩:=Int.eq_ofNat_of_zero_le (show 0<=v by omega)
 have es:(intS (m:Int)).cps.toList=(Nat.toDigits 10 m).map Char.toNat:=PySem.W.KIN.signs_num m
 obtain⟨c,cs,e,hc⟩:=b4w m (by omega)
 rw[e]at es
 have hl:(intS (m:Int)).length=(intS (m:Int)).cps.toList.length:=rfl
 have dg: ∀c∈(intS (m:Int)).cps.toList,48<=c/\c<=57:=fun x hx=>by
   have hx:x∈(PySem.Str.ofString (toString ((m:Nat):Int))).cps.toList:=hx
   rw[PySem.W.KIN.signs_num m]at hx
   obtain⟨ch,hch,e⟩:=List.mem_map.mp hx
   have r:=PyProof.Rows.digit_range (Nat.isDigit_of_mem_toDigits (by decide) (by decide) hch)
   rw[<-e]
   exact r
 have l9:(intS (m:Int)).length<=9:=PyProof.Rows.toString_length_le (by omega) (by decide) (by omega)
 have l1:1<=(intS (m:Int)).length:=by rw[hl,es];simp
 have rd:PySem.intText? (intS (m:Int))=some (m:Int):=PySem.W.KIN.num_reads (by omega) (by omega)
 refine⟨?_,by unfold a2t;rw[rd];rfl,l9,dg⟩
 unfold a14 figs
 rw[decide_eq_false (show ¬ (intS (m:Int)).length<1 by omega),decide_eq_false (show ¬ 9< (intS (m:Int)).length by omega),decide_eq_false (show ¬ (intS (m:Int)).cps.toList[0]? =some 48 from fun z=> ?_),List.all_eq_true.mpr fun c hc=>decide_eq_true (fig_iff.mpr (dg c hc))]
 . rfl
 . rw[es,List.map_cons]at z
   have z:c.toNat=48:=by simpa using z
   refine hc ?_
   have:Char.ofNat c.toNat=Char.ofNat 48:=by rw[z]
   rw[Char.ofNat_toNat]at this
   exact this
def a8q(CT:Addr):SpA:=fun ds M Q E=> ∃x:Str,ds=[.str x]/\x.length<=1000000/\if a14 x=true then Q (.int (a2t x)) M else E (.ref CT) M
theorem a65{x:Str}(h: ¬ x.length<1): ∃c,x.cps.toList[0]? =some c/\atI x.cps.toList 0=some c:=by
 cases hx:x.cps.toList with
 |nil=>rw[slen,hx]at h;exact absurd (by decide) h
 |cons c cs=>exact⟨c,rfl,a1n (j:=0) rfl⟩
theorem a4p(c:Nat):decide ((⟨#[c]⟩:Str)="0")=decide (c=48):=by
 have e1:("0":Str)=⟨#[48]⟩:=by decide+kernel
 by_cases h:c=48
 . subst h;rw[e1];simp
 . rw[decide_eq_false h]
   refine decide_eq_false fun z=>h ?_
   have:=congrArg (fun s:Str=>s.cps.toList) (z.trans e1)
   simpa using this
theorem b4z(x:Str):((List.range x.cps.size).map fun i=>decide (x.cps.getD i 0∈figures)).all id=figs x:=by
 unfold figs
 rw[Bool.eq_iff_iff,List.all_eq_true,List.all_eq_true]
 constructor
 . intro h c hc
   obtain⟨i,hi,rfl⟩:=List.getElem_of_mem hc
   have hi':i<x.cps.size:=by simpa using hi
   have:=h _ (List.mem_map.mpr ⟨i,List.mem_range.mpr hi',rfl⟩)
   simpa[Array.getD,hi']using this
 . intro h b hb
   obtain⟨i,hi,rfl⟩:=List.mem_map.mp hb
   have hi':=List.mem_range.mp hi
   have:=h (x.cps.toList[i]'(by simpa using hi')) (List.getElem_mem _)
   simpa[Array.getD,hi']using this
theorem a61{f CT:Addr}{fd:FuncData}(Fn:Fun K "told_teeth" "told_teeth" a2h f fd)(T:Txt K mg)(X_NoText:ExCls K mg "NoText" CT):FnOk P w K mg base (CXE P w) 1 f fd ["word"] (a0m K (a8q CT)):=by
 refine Fn.okA a6u (fun ds M Q E h=> ?_) ?_
 . obtain⟨x,rfl,_⟩:=h;rfl
 intro cdv A outer s H E F0 ds M Q Ea hr ct hsp
 obtain⟨x,rfl,hx,q⟩:=hsp
 refine⟨_,(a0b (sIf ((pwOr (a0s a81 lLt (a0r a0j lLen (by rfl) T.len PySem.boot_len (a0a (paV (pv 0)) a0e)) paI (a0o _)) (pwOr (a0s a50 lGt (a0r a0j lLen (by rfl) T.len PySem.boot_len (a0a (paV (pv 0)) a0e)) (a49 T) (a0o _)) (a26 (a0s (a1e (un64 ct)) lEq (paIx a0n lIx (paV (pv 0)) paI (fun _ _=>rfl)) paS (a0o _)))))).pt
       (a0g (a2e ct X_NoText (by rfl) (a0a paS a0e)))
       a0y)
     (a0b (sIf (a46 (ptV (paAll (by rfl) T.all rfl (a0a (paFz (a5b (Nc:=["sign"]) (n:=1) (fs:=[]) a8g rfl (b4l (paV (pv 0))) (fun _ _ _ _ _=>(a0t (i:=0) (show List.Nodup (["sign"]:List Str)by decide+kernel) rfl (Or.inl rfl))) (fun _ _ _ _ _=>a69) (fun _ _ _ _ _=>(paCmp a90 lIn (paV (pv 0)) (b0z T) (by with_unfolding_all rfl))))) a0e))))
       (a0g (a2e ct X_NoText (by rfl) (a0a paS a0e)))
       a0y)
     (a0g (sRet (a2c a8i lIntT (by rfl) T.int boot_int (a0a (paV (pv 0)) a0e)))))),?_⟩
 have hl:x.length<=sizeLine:=kM hx
 by_cases hc:x.length<1\/9<x.length\/x.cps.toList[0]? =some 48
 . have en:a14 x=false:=by
     unfold a14
     rcases hc with h |h |h<;>simp[h]
   rw[en,if_neg Bool.false_ne_true]at q
   refine a3f (fun R h=> ?_) ?_
   . simp! only[]
     refine⟨hl,ite2 (fun _=>h) fun h1=>⟨hl,ite2 (fun _=>h) fun h2=> ?_⟩⟩
     have h1: ¬ x.length<1:=fun z=>h1 (decide_eq_true (by omega))
     have h2: ¬ 9<x.length:=fun z=>h2 (decide_eq_true (by omega))
     obtain⟨c,e1,e2⟩:=a65 h1
     have hc:x.cps.toList[0]? =some 48:=by rcases hc with h |h |h;exact absurd h h1;exact absurd h h2;exact h
     rw[e1]at hc
     cases hc
     simp! only[e2,a4p,decide_true]
     exact⟨hl,h⟩
   simp! only[]
   exact⟨by decide,q⟩
 have h1: ¬ x.length<1:=fun z=>hc (.inl z)
 have h2: ¬ 9<x.length:=fun z=>hc (.inr (.inl z))
 have h3: ¬ x.cps.toList[0]? =some 48:=fun z=>hc (.inr (.inr z))
 obtain⟨c,e1,e2⟩:=a65 h1
 have c0: ¬ c=48:=fun z=>h3 (by rw[e1,z])
 have en:a14 x=figs x:=by
   unfold a14
   rw[decide_eq_false h1,decide_eq_false h2,decide_eq_false h3];rfl
 refine a10 (fun R h=> ?_) ?_
 . simp! only[decide_eq_false (show ¬ (x.length:Int)<1 by omega),decide_eq_false (show ¬ (x.length:Int)>9 by omega),e2,a4p,decide_eq_false c0]
   exact⟨hl,hl,hl,h⟩
 refine a34 (!figs x) (fun R h=> ?_) ?_
 . simp! only[aFz,a2x,frG,oIn]
   refine⟨fun i=>some (.bl (decide (x.cps.getD i 0∈figures))),by show x.cps.size<=1000;have:x.cps.size<=9:=Nat.le_of_not_lt h2;omega,fun M' _ i hi own ho=> ?_,fun p hp=> ?_⟩
   . obtain⟨o,rfl⟩:=own1 ho
     refine⟨⟨[some _],rfl,rfl⟩,?_⟩
     simp! only[]
     exact(congrArg (fun b=>some (D.bl b)) (PySem.StrLaws.found_one ("0123456789":Str) (x.cps.getD i 0)).symm)
   . simp only[a0d,a3a hp,oAll,L2.dr]
     refine⟨_,by rw[a3k,List.map_map];rfl,?_⟩
     rw[b4z]
     exact h
 cases hf:figs x with
 |false=>
   rw[en,hf,if_neg Bool.false_ne_true]at q
   rw[Bool.not_false,if_pos rfl]
   simp! only[]
   exact⟨by decide,q⟩
 |true=>
   rw[en,hf,if_pos rfl]at q
   rw[Bool.not_true,if_neg Bool.false_ne_true]
   simp! only[oIntT,(b2j (en.trans hf)).1]
   exact⟨by omega,.now q⟩
noncomputable def a09(S:TS):List Str->Option TS
 | [n,x]=>if a14 x=true/\refW S n (a2t x)=none then some ⟨S.ws++[(n,a2t x)],S.js,S.nx⟩else none
 | [a,k,b]=>if refJ S k a b=none then some ⟨S.ws,S.js++[(S.nx,k,a,b)],S.nx+1⟩else none
 |_=>none
theorem Tr.n1{C:Addr}{M:Mem}{p d1 d2:Addr}{S:TS}(tr:Tr C M p d1 d2 S):p≠d1:=by rintro rfl;have:=tr.self;rw[tr.teeth]at this;cases this
theorem Tr.n2{C:Addr}{M:Mem}{p d1 d2:Addr}{S:TS}(tr:Tr C M p d1 d2 S):p≠d2:=by rintro rfl;have:=tr.self;rw[tr.join]at this;cases this
theorem Tr.wheel{C:Addr}{M:Mem}{p d1 d2:Addr}{S:TS}(tr:Tr C M p d1 d2 S)(w':Str×Int):Tr C (put M d1 (.dic (dW (S.ws++[w'])))) p d1 d2 ⟨S.ws++[w'],S.js,S.nx⟩:=
 ⟨by rw[a0h tr.n1];exact tr.self,a0d,by rw[a0h tr.ne.symm];exact tr.join,tr.ne,tr.lt⟩
theorem Tr.pin{C:Addr}{M:Mem}{p d1 d2:Addr}{S:TS}(tr:Tr C M p d1 d2 S)(k a b:Str):Tr C (put (put M d2 (.dic (dJ (S.js++[(S.nx,k,a,b)])))) p (.ins C (fsT d1 d2 (S.nx+1)))) p d1 d2 ⟨S.ws,S.js++[(S.nx,k,a,b)],S.nx+1⟩:=
 ⟨a0d,by rw[a0h tr.n1.symm,a0h tr.ne];exact tr.teeth,by rw[a0h tr.n2.symm,a0d],tr.ne,fun j hj=>by
   rcases List.mem_append.mp hj with hj |hj
   . have:=tr.lt j hj
     show j.1<S.nx+1
     omega
   . rw[List.mem_singleton.mp hj]
     show S.nx<S.nx+1
     omega⟩
theorem Tr.far{C:Addr}{M M':Mem}{p d1 d2:Addr}{S:TS}(tr:Tr C M p d1 d2 S)(h0:M' p=M p)(h1:M' d1=M d1)(h2:M' d2=M d2):Tr C M' p d1 d2 S:=
 ⟨h0.trans tr.self,h1.trans tr.teeth,h2.trans tr.join,tr.ne,tr.lt⟩
theorem Tr.sub{C:Addr}{M M':Mem}{p d1 d2:Addr}{S:TS}(tr:Tr C M p d1 d2 S)(h:L2.Sub M M'):Tr C M' p d1 d2 S:=
 ⟨h _ _ tr.self,h _ _ tr.teeth,h _ _ tr.join,tr.ne,tr.lt⟩
def But(p d1 d2:Addr)(M M':Mem):Prop:= ∀a,a≠p->a≠d1->a≠d2->M' a=M a
def b1q(C CT:Addr)(EC:Rk->Addr):SpA:=fun ds M Q E=> ∃(p d1 d2:Addr) (S:TS) (us:List Str),ds=[.obj p,.lst (us.map D.str)]/\Tr C M p d1 d2 S/\(∀u∈us,u.length<=1000000)/\
 match a09 S us with
 |some S'=> ∀M',Tr C M' p d1 d2 S'->But p d1 d2 M M'->Q .non M'
 |none=>(∀r,E (.ref (EC r)) M)/\E (.ref CT) M
theorem a82{f C CT:Addr}{fd:FuncData}{EC:Rk->Addr}(Fn:Fun K "put_part" "put_part" a3w f fd)(T:Txt K mg)(X_NoText:ExCls K mg "NoText" CT)(h_put_wheel:HasM P w K mg base (CXE P w) 2 C "put_wheel" ["self","name","teeth"] (a0m K (a6b C EC)))
   (h_put_join:HasM P w K mg base (CXE P w) 2 C "put_join" ["self","kind","one","other"] (a0m K (a9r C EC))) (h_told_teeth:Has P w K mg base (CXE P w) 1 "told_teeth" ["word"] (a0m K (a8q CT))):FnOk P w K mg base (CXE P w) 3 f fd ["train","words"] (a0m K (b1q C CT EC)):=by
 refine Fn.okA a8u (fun ds M Q E h=> ?_) ?_
 . obtain⟨_,_,_,_,_,rfl,_⟩:=h;rfl
 intro cdv A outer s H E F0 ds M Q Ea hr ct hsp
 obtain⟨p,d1,d2,S,us,rfl,tr,hu,hc⟩:=hsp
 refine⟨_,(a0g (sIf (a0s (a1e (un64 ct)) lEq (a0r a0j lLen (by rfl) T.len PySem.boot_len (a0a (paV (pv 1)) a0e)) paI (a0o _))
       (a0g (a2u (a9x h_put_wheel (hr.mono (by decide)) ct (paV (pv 0)) (a0a (paIx a0n lIx (paV (pv 1)) paI (fun _ _=>rfl)) (a0a (a1d h_told_teeth (hr.mono (by decide)) (by rfl) ct (a0a (paIx a0n lIx (paV (pv 1)) paI (fun _ _=>rfl)) a0e)) a0e)))))
       (a0g (sIf (a0s (a1e (un64 ct)) lEq (a0r a0j lLen (by rfl) T.len PySem.boot_len (a0a (paV (pv 1)) a0e)) paI (a0o _))
         (a0g (a2u (a9x h_put_join (hr.mono (by decide)) ct (paV (pv 0)) (a0a (paIx a0n lIx (paV (pv 1)) paI (fun _ _=>rfl)) (a0a (paIx a0n lIx (paV (pv 1)) paI (fun _ _=>rfl)) (a0a (paIx a0n lIx (paV (pv 1)) paI (fun _ _=>rfl)) a0e))))))
         (a0g (a2e ct X_NoText (by rfl) (a0a paS a0e))))))),?_⟩
 have np: ∀{d1 d2:Addr}{n:Int},(fsT d1 d2 n).lookup ("put_wheel":Str)=none:=rfl
 have nq: ∀{d1 d2:Addr}{n:Int},(fsT d1 d2 n).lookup ("put_join":Str)=none:=rfl
 by_cases h2:us.length=2
 . obtain⟨n,x,rfl⟩: ∃n x,us=[n,x]:=by
     match us,h2 with
     | [n,x],_=>exact⟨n,x,rfl⟩
   refine ifV true (fun R h=>by simp! only[];exact h) ?_
   rw[if_pos rfl]
   simp! only[tr.self,np,a8q,a6b]
   refine⟨x,rfl,hu x (by simp),?_⟩
   have hc':match (if a14 x=true/\refW S n (a2t x)=none then some (⟨S.ws++[(n,a2t x)],S.js,S.nx⟩:TS)else none)with
     |some S'=> ∀M',Tr C M' p d1 d2 S'->But p d1 d2 M M'->Q .non M'
     |none=>(∀r,Ea (.ref (EC r)) M)/\Ea (.ref CT) M:=hc
   by_cases hn:a14 x=true
   . rw[if_pos hn]
     refine⟨p,d1,d2,S,n,a2t x,rfl,tr,hu n (by simp),?_⟩
     cases hr':refW S n (a2t x)with
     |some r=>
       rw[if_neg (fun z=>by rw[hr']at z;cases z.2)]at hc'
       exact hc'.1 r
     |none=>
       rw[if_pos ⟨hn,hr'⟩]at hc'
       exact .now (hc' _ (tr.wheel _) fun a _ h1 _=>a0h h1)
   . rw[if_neg hn]
     rw[if_neg fun z=>hn z.1]at hc'
     exact hc'.2
 . refine ifV false (fun R h=>by simp! only[List.length_map,decide_eq_false (show ¬ (us.length:Int)=2 by omega)];exact h) ?_
   rw[if_neg Bool.false_ne_true]
   by_cases h3:us.length=3
   . obtain⟨a,k,b,rfl⟩: ∃a k b,us=[a,k,b]:=by
       match us,h3 with
       | [a,k,b],_=>exact⟨a,k,b,rfl⟩
     refine ifV true (fun R h=>by simp! only[];exact h) ?_
     rw[if_pos rfl]
     simp! only[tr.self,nq,a9r]
     refine⟨p,d1,d2,S,k,a,b,rfl,tr,?_⟩
     have hc':match (if refJ S k a b=none then some (⟨S.ws,S.js++[(S.nx,k,a,b)],S.nx+1⟩:TS)else none)with
       |some S'=> ∀M',Tr C M' p d1 d2 S'->But p d1 d2 M M'->Q .non M'
       |none=>(∀r,Ea (.ref (EC r)) M)/\Ea (.ref CT) M:=hc
     cases hr':refJ S k a b with
     |some r=>
       rw[if_neg (fun z=>by rw[hr']at z;cases z)]at hc'
       exact hc'.1 r
     |none=>
       rw[if_pos hr']at hc'
       exact .now (hc' _ (tr.pin k a b) fun x h0 h1 h2=>by rw[a0h h0,a0h h2])
   . refine ifV false (fun R h=>by simp! only[List.length_map,decide_eq_false (show ¬ (us.length:Int)=3 by omega)];exact h) ?_
     rw[if_neg Bool.false_ne_true]
     simp! only[]
     refine⟨by decide,?_⟩
     have en:a09 S us=none:=by
       unfold a09
       split
       . exact absurd rfl h2
       . exact absurd rfl h3
       . rfl
     rw[en]at hc
     exact hc.2
open PySem.Builtin.Str in
theorem sub_len(x:Str)(i j:Nat):(strSub x i j).length<=x.length:=by
 show(x.cps.extract i j).size<=x.cps.size
 rw[Array.size_extract]
 omega
theorem a2g(x y:Str): ∀p∈PySem.Txt.split x y,p.length<=x.length:=by
 intro p hp
 unfold PySem.Txt.split at hp
 split at hp
 . rw[List.mem_singleton.mp hp];exact Nat.le_refl _
 . split at hp
   . rw[List.mem_singleton.mp hp];exact Nat.le_refl _
   . unfold PySem.Builtin.Str.partsBetween at hp
     obtain⟨⟨i,j⟩,_,rfl⟩:=List.mem_map.mp hp
     exact sub_len x i j
noncomputable def stepO(o:Option TS)(p:Str):Option TS:=o.bind fun S=>a09 S (PySem.Txt.split p " ")
noncomputable def a0z(o:Option TS)(ps:List Str):Option TS:=ps.foldl stepO o
noncomputable def S0:TS:=⟨[],[],0⟩
noncomputable def a11(x:Str):Option TS:=if x="" then some S0 else a0z (some S0) (PySem.Txt.split x "; ")
theorem a2i: ∀ps:List Str,a0z none ps=none
 | []=>rfl
 |_::ps=>a2i ps
theorem a1t{ps:List Str}{i:Nat}{S S':TS}(h:a0z (some S) (ps.take i)=some S')(hi:i<ps.length):a0z (some S) (ps.take (i+1))=a09 S' (PySem.Txt.split ps[i] " "):=by
 unfold a0z at h |-
 rw[List.take_succ_eq_append_getElem hi,List.foldl_append,h];rfl
theorem a35{ps:List Str}{i:Nat}{S:TS}(h:a0z (some S) (ps.take i)=none):a0z (some S) ps=none:=by
 unfold a0z at h
 rw[<-List.take_append_drop i ps]
 unfold a0z
 rw[List.foldl_append,h]
 exact a2i _
theorem a2s{α:Type}(ws:List α)(f:α->D)(i:Nat)(h:i<ws.length):(ws.map f).getD i .non=f ws[i]:=by
 rw[List.getD_eq_getElem?_getD,List.getElem?_map,List.getElem?_eq_getElem h];rfl
structure ExT(K:PySem.W.Frag)(mg:Str->Option Value)(EC:Rk->Addr)(CT CB CJ:Addr):Prop where
 bT:mg "TrainError"=some (.ref CB)
 bJ:mg "Jams"=some (.ref CJ)
 bX:mg "NoText"=some (.ref CT)
 train: ∀r,PySem.W.exmOne K (.ref (EC r)) (.ref CB)=some true
 trainT:PySem.W.exmOne K (.ref CT) (.ref CB)=some true
 base: ∀r,PySem.W.mroIn K (EC r) (.type "BaseException")=some true
 baseT:PySem.W.mroIn K CT (.type "BaseException")=some true
 look:ExLook K CT
 other: ∀r,PySem.W.kitOne K (.ref CT) (.ref (EC r))=some false
 jams:PySem.W.kitOne K (.ref CT) (.ref CJ)=some false
 self:PySem.W.kitOne K (.ref CT) (.ref CT)=some true
 value:PySem.W.kitOne K (.ref CT) (.type "ValueError")=some true
def a4x(C CT:Addr):SpA:=fun ds M Q E=> ∃x:Str,ds=[.str x]/\x.length<=1000000/\match a11 x with
 |some S=> ∀p d1 d2 M',M p=none->M d1=none->M d2=none->L2.Sub M M'->Tr C M' p d1 d2 S->Q (.obj p) M'
 |none=> ∀M',L2.Sub M M'->E (.ref CT) M'
theorem ok_read{f C CT CB CJ:Addr}{fd:FuncData}{EC:Rk->Addr}(Fn:Fun K "read" "read" b1x f fd)(X_NoText:ExCls K mg "NoText" CT)(XT:ExT K mg EC CT CB CJ)(h_Train:HasC P w K mg base 1 "Train" C (a9s C))(h_put_part:Has P w K mg base (CXE P w) 3 "put_part" ["train","words"] (a0m K (b1q C CT EC))):
   FnOk P w K mg base (CXE P w) 4 f fd ["text"] (a0m K (a4x C CT)):=by
 refine Fn.okA sc_read (fun ds M Q E h=> ?_) ?_
 . obtain⟨_,rfl,_⟩:=h;rfl
 intro cdv A outer s H E F0 ds M Q Ea hr ct hsp
 obtain⟨x,rfl,hx,q⟩:=hsp
 refine⟨_,(a0b (sSet (i:=1) sc_read.nd rfl (Or.inl rfl) (paMake h_Train (hr.mono (by decide)) (by rfl)))
     (a0b (sIf (a0s (a1e (un64 ct)) lEq (paV (pv 0)) paS (a0o _))
       (a0g (sRet (paV (pv 1))))
       a0y)
     (a0b (sTry ct (fun _ _ _ ct=>(a0g (sFor ct (a2l (paBM PySem.F.plainAttrs_str PySem.F.slot_str_split PySem.F.type_str_split a2q a6f (paV (pv 0)) (a0a paS a0e))) (a0t (i:=2) sc_read.nd rfl (Or.inl rfl))
           (a0g (a2u (a1d h_put_part (hr.mono (by decide)) (by rfl) ct (a0a (paV (pv 1)) (a0a (paBM PySem.F.plainAttrs_str PySem.F.slot_str_split PySem.F.type_str_split a2q a6f (paV (pv 2)) (a0a paS a0e)) a0e))))))))
       (fun pn=>(haFrom (i:=3) (K':=K) (pn:=pn) rfl ct rfl sc_read.nd rfl rfl XT.bT (by rfl) X_NoText (by rfl) (haNil ct rfl pn))) a0y)
     (a0g (sRet (paV (pv 1))))))),?_⟩
 refine cut1 (fun Γ' M0=> ∃p d1 d2,Γ'=[some (.str x),some (.obj p),none,none]/\Tr C M0 p d1 d2 S0/\L2.Sub M M0/\M p=none/\M d1=none/\M d2=none) ?_ ?_
 rotate_left
 . intro rest hrest
   simp! only[aMake,a9s]
   intro p hp
   refine⟨p,rfl,a0d,fun d1 d2 h1 h2 n12 n1 n2=> ?_⟩
   rw[a0h n1]at h1
   rw[a0h n2]at h2
   have far: ∀x o,M x=some o->x≠p/\x≠d1/\x≠d2:=by
     intro x o h
     refine⟨fun z=> ?_,fun z=> ?_,fun z=> ?_⟩
     . rw[z,hp]at h;cases h
     . rw[z,h1]at h;cases h
     . rw[z,h2]at h;cases h
   refine hrest _ _ ⟨p,d1,d2,rfl,⟨a0d,by rw[a0h n1,a0h n12,a0d];rfl,by rw[a0h n2,a0d];rfl,n12,fun _ h=>(List.not_mem_nil h).elim⟩,?_,hp,h1,h2⟩
   intro x o h
   obtain⟨a,b,c⟩:=far x o h
   rw[a0h a,a0h c,a0h b,a0h a];exact h
 rintro Γ' M0 ⟨p,d1,d2,rfl,tr0,sb0,hp,hd1,hd2⟩
 have far: ∀{a:Addr}{o:MO},M a=some o->a≠p/\a≠d1/\a≠d2:=by
   intro a o h
   refine⟨fun z=> ?_,fun z=> ?_,fun z=> ?_⟩
   . rw[z,hp]at h;cases h
   . rw[z,hd1]at h;cases h
   . rw[z,hd2]at h;cases h
 by_cases h0:x=("":Str)
 . have er:a11 x=some S0:=by unfold a11;rw[if_pos h0]
   rw[er]at q
   refine a3f (fun R h=> ?_) ?_
   . simp! only[decide_eq_true h0]
     exact h
   simp! only[]
   exact .now (q p d1 d2 M0 hp hd1 hd2 sb0 tr0)
 refine a10 (fun R h=>by
   simp! only[decide_eq_false h0]
   exact h) ?_
 have er:a11 x=a0z (some S0) (PySem.Txt.split x "; "):=by unfold a11;rw[if_neg h0]
 rw[er]at q
 refine cut1 (fun Γ' M1=> ∃o2 S,Γ'=[some (.str x),some (.obj p),o2,none]/\L2.Sub M M1/\Tr C M1 p d1 d2 S/\a0z (some S0) (PySem.Txt.split x "; ")=some S) ?_ ?_
 rotate_left
 . intro rest hrest
   simp! only[aTry,aBM,a2d,oSplit]
   refine⟨by decide+kernel,by omega,?_⟩
   have hpl:=a2g x "; "
   generalize PySem.Txt.split x "; "=ps at hpl q hrest |-
   refine LoopP.by2 (fun i Γ M'=> ∃o2 S,Γ=[some (.str x),some (.obj p),o2,none]/\L2.Sub M M'/\Tr C M' p d1 d2 S/\a0z (some S0) (ps.take i)=some S) ⟨_,S0,rfl,sb0,tr0,rfl⟩ (fun _ _ _ _=>trivial) ?_ ?_
   . rintro E' i Γ M' hrt hi hnx ⟨o2,S,rfl,sb,tr,hS⟩
     dsimp only at hi
     have hi':i<ps.length:=by simpa using hi
     have hl:=hpl _ (List.getElem_mem hi')
     have hst:=a1t hS hi'
     simp only[a2s ps D.str i hi',gaN,List.set_cons_zero,List.set_cons_succ]
     simp! only[aBM,a2d,oSplit,b1q]
     refine⟨by decide+kernel,by omega,p,d1,d2,S,PySem.Txt.split ps[i] " ",rfl,tr,fun u hu=>by have:=a2g _ _ u hu;omega,?_⟩
     cases hq:a09 S (PySem.Txt.split ps[i] " ")with
     |some S'=>
       dsimp only
       intro M2 tr2 but
       refine hnx _ _ ⟨_,S',rfl,fun a o h=> ?_,tr2,hst.trans hq⟩
       obtain⟨a0,a1,a2⟩:=far h
       rw[but a a0 a1 a2];exact sb a o h
     |none=>
       rw[a35 (hst.trans hq)]at q
       dsimp only at q |-
       have fin: ∀{Dc:Addr},PySem.W.exmOne K (.ref Dc) (.ref CB)=some true->PySem.W.mroIn K Dc (.type "BaseException")=some true-> ∃b,PySem.W.exmOne K (.ref Dc) (.ref CB)=some b/\if b=true then(∃D',(Value.ref Dc)= .ref D'/\PySem.W.mroIn K D' (.type "BaseException")=some true)/\Ea (.ref CT) M' else False:=fun h1 h2=>⟨true,h1,by rw[if_pos rfl];exact⟨⟨_,rfl,h2⟩,q M' sb⟩⟩
       refine⟨fun r=> ?_,?_⟩
       . obtain⟨b,h1,h2⟩:=fin (XT.train r) (XT.base r)
         refine⟨b,h1,?_⟩
         cases b with
         |true=>exact h2
         |false=>exact h2.elim
       . obtain⟨b,h1,h2⟩:=fin XT.trainT XT.baseT
         refine⟨b,h1,?_⟩
         cases b with
         |true=>exact h2
         |false=>exact h2.elim
   . rintro Γ M' ⟨o2,S,rfl,sb,tr,hS⟩
     dsimp only at hS
     rw[List.length_map,List.take_length]at hS
     exact hrest _ _ ⟨_,S,rfl,sb,tr,hS⟩
 rintro Γ' M1 ⟨o2,S,rfl,sb,tr,hS⟩
 rw[hS]at q
 simp! only[]
 exact .now (q p d1 d2 M1 hp hd1 hd2 sb tr)
theorem a4k(a b:Str):(a++b).length=a.length+b.length:=PySem.Str.length_append a b
theorem b2k{d1 d2:Addr}{n:Int}:(fsT d1 d2 n).lookup ("wheels":Str)=none:=rfl
theorem b4a{d1 d2:Addr}{n:Int}:(fsT d1 d2 n).lookup ("joins":Str)=none:=rfl
theorem a45{C:Addr}{M:Mem}{p d1 d2:Addr}{S:TS}{R:AX}{Γ:G}{Q:AK}{t_o:AE}(tr:Tr C M p d1 d2 S)(hto: ∀R:AK,R (.obj p) M->t_o Γ M R)(q:Q (.lst (S.ws.map eW)) M):aFz (b3i C "wheels" (a3b C) R t_o aNil) Γ M Q:=by
 refine hto _ ?_
 dsimp only
 rw[tr.self,a16]
 refine⟨b2k,p,d1,d2,S,rfl,tr,fun l hl=> ?_⟩
 dsimp only
 rw[a0d]
 dsimp only
 rw[a3a hl];exact q
theorem a6w{C:Addr}{M:Mem}{p d1 d2:Addr}{S:TS}{R:AX}{Γ:G}{Q:AK}{t_o:AE}(tr:Tr C M p d1 d2 S)(hto: ∀R:AK,R (.obj p) M->t_o Γ M R)(q:Q (.lst (S.js.map eJ)) M):aFz (b3i C "joins" (a4y C) R t_o aNil) Γ M Q:=by
 refine hto _ ?_
 dsimp only
 rw[tr.self,a16]
 refine⟨b4a,p,d1,d2,S,rfl,tr,fun l hl=> ?_⟩
 dsimp only
 rw[a0d]
 dsimp only
 rw[a3a hl];exact q
theorem compG{n:Nat}{fs:List Nat}{tl te:AE}{gt:AGt}{Γ:G}{M:Mem}{Q:AK}(ds:List D)(f:D->D)(ow:D->G)(htl: ∀R:AK,R (.lst ds) M->tl Γ M R)(hn:ds.length<=1000)(how: ∀x∈ds,(ow x).length=n)
   (hg: ∀x∈ds,∀own:G,own.length=n-> ∀(M':Mem) (R:G->Mem->Prop),R (ow x++frG fs Γ) M'->gt x (own++frG fs Γ) M' R) (he: ∀x∈ds,∀(M':Mem),L2.Sub M M'-> ∀(R:AK),R (f x) M'->te (ow x++frG fs Γ) M' R)
   (q: ∀p,M p=none->Q (.obj p) (put M p (.lst (ds.map f)))):a2x n fs (iaL tl) gt aYes te Γ M Q:=by
 refine htl _ ?_
 refine⟨fun i=>some (f (ds.getD i .non)),hn,fun M' hs=>⟨rfl,fun i hi own ho=> ?_⟩,fun p hp=> ?_⟩
 . have hi':i<ds.length:=hi
   have em:ds.getD i .non∈ds:=by rw[List.getD_eq_getElem?_getD,List.getElem?_eq_getElem hi'];exact List.getElem_mem hi'
   refine hg _ em own ho M' _ ⟨rfl,⟨_,how _ em,rfl⟩,rfl,?_⟩
   rw[if_pos rfl]
   exact he _ em M' hs _ ⟨rfl,rfl⟩
 . have e:outs (fun i=>some (f (ds.getD i .non))) ds.length=ds.map f:=by
     rw[a3k]
     refine List.ext_getElem (by simp) fun i h1 h2=> ?_
     have h3:i<ds.length:=by simpa using h2
     rw[List.getElem_map,List.getElem_map,List.getElem_range,List.getD_eq_getElem?_getD,List.getElem?_eq_getElem h3];rfl
   show Q (.obj p) (put M p (.lst (outs _ ds.length)))
   rw[e];exact q p hp
noncomputable def rowW(w':Str×Int):Str:=a2f " " [w'.1,intS w'.2]
noncomputable def rowJ(j:Int×Str×Str×Str):Str:=a2f " " [j.2.2.1,j.2.1,j.2.2.2]
noncomputable def a1o(S:TS):List Str:=S.ws.map rowW++S.js.map rowJ
noncomputable def a3e(S:TS):Str:=a2f "; " (a1o S)
theorem a8d(x:Str):Str.empty++x=x:=by
 obtain⟨c⟩:=x
 show(⟨#[]++c⟩:Str)=⟨c⟩
 rw[Array.empty_append]
structure Good(S:TS):Prop where
 names: ∀w'∈S.ws,a03 w'.1=true
 nodup:(S.ws.map Prod.fst).Nodup
 teeth: ∀w'∈S.ws,1<=w'.2/\w'.2<1000000000
 nw:S.ws.length<=100
 kinds: ∀j∈S.js,a15 j.2.1=true/\j.2.2.1∈S.ws.map Prod.fst/\j.2.2.2∈S.ws.map Prod.fst/\j.2.2.1≠j.2.2.2
 nj:S.js.length<=200
theorem b08: ∀c∈a1s,97<=c/\c<=122:=by decide+kernel
theorem a2p{x:Str}(h:a03 x=true): ∀c∈x.cps.toList,97<=c/\c<=122:=by
 unfold a03 at h
 rw[Bool.and_eq_true]at h
 exact fun c hc=>b08 c (of_decide_eq_true (List.all_eq_true.mp h.2 c hc))
theorem a1p{x:Str}(h:a03 x=true):1<=x.length/\x.length<=8:=by
 unfold a03 at h
 rw[Bool.and_eq_true]at h
 have h1:=h.1
 simp only[Bool.not_eq_true',Bool.or_eq_false_iff,decide_eq_false_iff_not]at h1
 omega
theorem a3n{k:Str}(h:a15 k=true):(∀c∈k.cps.toList,97<=c/\c<=122)/\k.length<=5:=by
 unfold a15 at h
 simp only[Bool.or_eq_true,decide_eq_true_eq]at h
 rcases h with((rfl |rfl) |rfl) |rfl<;>decide+kernel
theorem a17:(" ":Str).cps.toList=32::[]:=by decide+kernel
theorem b1v:("; ":Str).cps.toList=59::[32]:=by decide+kernel
theorem a4v{ps:List Str}(hps:ps≠[])(hp: ∀p∈ps,32∉p.cps.toList):PySem.Txt.split (a2f " " ps) " "=ps:=a59 a17 (by simp) (by decide+kernel) hps hp
theorem b0t{ps:List Str}(hps:ps≠[])(hp: ∀p∈ps,59∉p.cps.toList):PySem.Txt.split (a2f "; " ps) "; "=ps:=a59 b1v (by simp) (by decide+kernel) hps hp
theorem Good.isN{S:TS}(g:Good S){x:Str}(h:x∈S.ws.map Prod.fst):a03 x=true:=by
 obtain⟨w',hw,rfl⟩:=List.mem_map.mp h
 exact g.names _ hw
theorem splitW{S:TS}(g:Good S){w':Str×Int}(h:w'∈S.ws):PySem.Txt.split (rowW w') " "=[w'.1,intS w'.2]:=by
 refine a4v (by simp) fun p hp z=> ?_
 simp only[List.mem_cons,List.not_mem_nil,or_false]at hp
 rcases hp with rfl |rfl
 . have:=a2p (g.names _ h) _ z
   omega
 . have:=(a1v (g.teeth _ h).1 (g.teeth _ h).2).2.2.2 _ z
   omega
theorem splitJ{S:TS}(g:Good S){j:Int×Str×Str×Str}(h:j∈S.js):PySem.Txt.split (rowJ j) " "=[j.2.2.1,j.2.1,j.2.2.2]:=by
 obtain⟨h1,h2,h3,_⟩:=g.kinds j h
 refine a4v (by simp) fun p hp z=> ?_
 simp only[List.mem_cons,List.not_mem_nil,or_false]at hp
 rcases hp with rfl |rfl |rfl
 . have:=a2p (g.isN h2) _ z
   omega
 . have:=(a3n h1).1 _ z
   omega
 . have:=a2p (g.isN h3) _ z
   omega
theorem b3t{S:TS}(g:Good S): ∀p∈a1o S,59∉p.cps.toList:=by
 intro p hp z
 rcases List.mem_append.mp hp with hp |hp
 . obtain⟨w',hw,rfl⟩:=List.mem_map.mp hp
   unfold rowW at z
   rw[a1l,a17]at z
   simp only[List.map_cons,List.map_nil,jn,List.mem_append,List.mem_singleton]at z
   rcases z with(z |z) |z
   . have:=a2p (g.names _ hw) _ z
     omega
   . omega
   . have:=(a1v (g.teeth _ hw).1 (g.teeth _ hw).2).2.2.2 _ z
     omega
 . obtain⟨j,hj,rfl⟩:=List.mem_map.mp hp
   obtain⟨h1,h2,h3,_⟩:=g.kinds j hj
   unfold rowJ at z
   rw[a1l,a17]at z
   simp only[List.map_cons,List.map_nil,jn,List.mem_append,List.mem_singleton]at z
   rcases z with(z |z) | (z |z) |z
   . have:=a2p (g.isN h2) _ z
     omega
   . omega
   . have:=(a3n h1).1 _ z
     omega
   . omega
   . have:=a2p (g.isN h3) _ z
     omega
theorem b1y{S:TS}(g:Good S): ∀p∈a1o S,1<=p.length/\p.length<=30:=by
 intro p hp
 rcases List.mem_append.mp hp with hp |hp
 . obtain⟨w',hw,rfl⟩:=List.mem_map.mp hp
   have a:=a1p (g.names _ hw)
   have b:=(a1v (g.teeth _ hw).1 (g.teeth _ hw).2).2.2.1
   unfold rowW
   rw[slen,a1l,a17]
   simp only[List.map_cons,List.map_nil,jn,List.length_append,List.length_cons,List.length_nil]
   rw[<-slen,<-slen]
   omega
 . obtain⟨j,hj,rfl⟩:=List.mem_map.mp hp
   obtain⟨h1,h2,h3,_⟩:=g.kinds j hj
   have a:=a1p (g.isN h2)
   have b:=a1p (g.isN h3)
   have c:=(a3n h1).2
   unfold rowJ
   rw[slen,a1l,a17]
   simp only[List.map_cons,List.map_nil,jn,List.length_append,List.length_cons,List.length_nil]
   rw[<-slen,<-slen,<-slen]
   omega
theorem b2y(y:List Nat)(b:Nat): ∀ps:List (List Nat),(∀p∈ps,p.length<=b)->(jn y ps).length<=ps.length * (b+y.length)
 | [],_=>by simp[jn]
 | [p],h=>by
   have:=h p List.mem_cons_self
   show p.length<=1 * (b+y.length)
   omega
 |p::q::r,h=>by
   have h1:=h p List.mem_cons_self
   have h2:=b2y y b (q::r) fun x hx=>h x (List.mem_cons_of_mem _ hx)
   show(p++y++jn y (q::r)).length<=((q::r).length+1) * (b+y.length)
   rw[List.length_append,List.length_append,Nat.succ_mul]
   omega
theorem a98(k:Nat): ∀(ps:List Str) (a b:Nat),(∀p∈ps,p.length<=b)->ps.foldl (fun n p=>n+p.length+k) a<=a+ps.length * (b+k)
 | [],a,b,_=>by simp
 |p::ps,a,b,h=>by
   rw[List.foldl_cons]
   refine Nat.le_trans (a98 k ps _ b fun q hq=>h q (List.mem_cons_of_mem _ hq)) ?_
   have:=h p List.mem_cons_self
   rw[List.length_cons,Nat.succ_mul]
   omega
theorem a6g{ps:List Str}{b:Nat}(h: ∀p∈ps,p.length<=b)(hn:ps.length<=400)(hb:b<=2000):b1c "; " ps<=1000000/\(a2f "; " ps).length<=1000000:=by
 have e2:("; ":Str).length=2:=by decide+kernel
 have hm:ps.length * (b+2)<=400 *2002:=Nat.mul_le_mul hn (by omega)
 constructor
 . unfold b1c
   have h:=a98 ("; ":Str).length ps 0 b h
   rw[e2]at h
   rw[<-Array.foldl_toList,e2]
   show ps.foldl _ 0<=1000000
   omega
 . rw[slen,a1l]
   have:=b2y ("; ":Str).cps.toList b (ps.map fun p=>p.cps.toList) fun p hp=>by
     obtain⟨q,hq,rfl⟩:=List.mem_map.mp hp
     exact h q hq
   rw[List.length_map,<-slen,e2]at this
   omega
theorem rows_n(S:TS):(a1o S).length=S.ws.length+S.js.length:=by
 unfold a1o
 rw[List.length_append,List.length_map,List.length_map]
theorem a2n{S:TS}(g:Good S):b1c "; " (a1o S)<=1000000/\(a3e S).length<=1000000:=
 a6g (b:=30) (fun p hp=>(b1y g p hp).2) (by rw[rows_n];have:=g.nw;have:=g.nj;omega) (by decide)
noncomputable def owW:D->G
 | .tup [a,b]=>[some a,some b]
 |_=>[]
noncomputable def fW:D->D
 | .tup [.str n,.int t]=> .str (rowW (n,t))
 |_=> .non
def a4w(C:Addr):SpA:=fun ds M Q _=> ∃p d1 d2 S,ds=[.obj p]/\Tr C M p d1 d2 S/\Good S/\Q (.str (a3e S)) M
theorem own2{own:G}(h:own.length=2): ∃a b,own=[a,b]:=by
 match own,h with
 | [a,b],_=>exact⟨a,b,rfl⟩
theorem a92{t:Int}(h1:1<=t)(h2:t<1000000000):t.natAbs<2^64:=by
 have:t.natAbs<1000000000:=by omega
 exact Nat.lt_trans this (by decide)
theorem b38{f C:Addr}{fd:FuncData}(Fn:Fun K "shown" "shown" a8v f fd)(h_wheels:HasM P w K mg base (CXE P w) 1 C "wheels" ["self"] (a0m K (a3b C)))(h_joins:HasM P w K mg base (CXE P w) 1 C "joins" ["self"] (a0m K (a4y C))):
   FnOk P w K mg base (CXE P w) 2 f fd ["train"] (a0m K (a4w C)):=by
 refine Fn.okA sc_shown (fun ds M Q E h=> ?_) ?_
 . obtain⟨_,_,_,_,rfl,_⟩:=h;rfl
 intro cdv A outer s H E F0 ds M Q Ea hr ct hsp
 obtain⟨p,d1,d2,S,rfl,tr,gd,q⟩:=hsp
 refine⟨_,(a0b (sCompM (i:=1) sc_shown.nd rfl rfl (Nc:=["name","teeth"]) (n:=2) (fs:=[]) a8g rfl (a2l (paFz (a30 h_wheels (hr.mono (by decide)) ct (paV (pv 0))))) (fun _ _ _ _ _=>(b0s (n:=2) rfl (a08 (a0t (i:=0) (show List.Nodup (["name","teeth"]:List Str)by decide+kernel) rfl (Or.inl rfl)) (a08 (a0t (i:=1) (show List.Nodup (["name","teeth"]:List Str)by decide+kernel) rfl (Or.inl rfl)) a58)))) (fun _ _ _ _ _=>a69) (fun _ _ _ _ _=>(paFs (a37 (paFV (paV (pv 0))) (a37 paS (a37 (paFV (paV (pv 1))) pfNil))))) (by rfl))
     (a0b (sFor ct (a2l (paFz (a30 h_joins (hr.mono (by decide)) ct (paV (pv 0))))) (b0s rfl (a08 (a0t (i:=2) sc_shown.nd rfl (Or.inl rfl)) (a08 (a0t (i:=3) sc_shown.nd rfl (Or.inl rfl)) (a08 (a0t (i:=4) sc_shown.nd rfl (Or.inl rfl)) (a08 (a0t (i:=5) sc_shown.nd rfl (Or.inl rfl)) a58)))))
       (a0g (a2u (paBM PySem.F.plainAttrs_list PySem.F.slot_list_append PySem.F.type_list_append a1b a1z (paV (pv 1)) (a0a (paFs (a37 (paFV (paV (pv 4))) (a37 paS (a37 (paFV (paV (pv 3))) (a37 paS (a37 (paFV (paV (pv 5))) pfNil)))))) a0e)))))
     (a0g (sRet (paBM PySem.F.plainAttrs_str PySem.F.slot_str_join PySem.F.type_str_join a89 lJoin paS (a0a (paV (pv 1)) a0e)))))),?_⟩
 have lb:(" ":Str).length=1:=by decide+kernel
 refine cut1 (fun Γ' M1=> ∃l,M l=none/\M1=put M l (.lst ((S.ws.map rowW).map D.str))/\Γ'=[some (.obj p),some (.obj l),none,none,none,none]) ?_ ?_
 rotate_left
 . intro rest hrest
   unfold aSeq aSet
   refine compG (S.ws.map eW) fW owW (fun R h=> ?_) (by rw[List.length_map];have:=gd.nw;omega) (fun x hx=> ?_) (fun x hx own ho M' R h=> ?_) (fun x hx M' _ R h=> ?_) (fun l hl=> ?_)
   . exact a45 tr (fun R h=>h) h
   . obtain⟨w',_,rfl⟩:=List.mem_map.mp hx;rfl
   . obtain⟨w',_,rfl⟩:=List.mem_map.mp hx
     obtain⟨a,b,rfl⟩:=own2 ho
     simp! only[eW,a9f,a5m,gaNil]
     exact h
   . obtain⟨w',hw,rfl⟩:=List.mem_map.mp hx
     obtain⟨n,t⟩:=w'
     have nl:=a1p (gd.names _ hw)
     have tl:=gd.teeth _ hw
     have il:=(a1v tl.1 tl.2).2.2.1
     dsimp only at nl tl il
     simp! only[eW,owW,List.cons_append,List.nil_append,aFs,b3h,afNil,aFmt,a8d,a4k,lb]
     exact⟨by omega,by omega,by omega,a92 tl.1 tl.2,by omega,h⟩
   . refine hrest _ _ ⟨l,hl,?_,rfl⟩
     rw[List.map_map,List.map_map];rfl
 rintro Γ' M1 ⟨l,hl,rfl,rfl⟩
 have tr1: ∀{o:MO},Tr C (put M l o) p d1 d2 S:=fun {o}=>tr.sub (.put hl)
 have nj:=gd.nj
 have nw:=gd.nw
 refine cut1 (fun Γ' M1=> ∃a b c d,M1=put M l (.lst ((a1o S).map D.str))/\Γ'=[some (.obj p),some (.obj l),a,b,c,d]) ?_ ?_
 rotate_left
 . intro rest hrest
   refine forLs (d:= .lst (S.js.map eJ)) (ds:=S.js.map eJ) (fun R h=>by exact a6w tr1 (fun R h=>h) h) rfl ?_
   refine LoopP.by2 (fun i Γ M'=> ∃a b c d,M'=put M l (.lst ((S.ws.map rowW++(S.js.take i).map rowJ).map D.str))/\Γ=[some (.obj p),some (.obj l),a,b,c,d]) ⟨_,_,_,_,by simp,rfl⟩ (fun _ _ _ _=>rfl) ?_ ?_
   . rintro E' i Γ M' hrt hi hnx ⟨a,b,c,d,rfl,rfl⟩
     dsimp only at hi
     have hi':i<S.js.length:=by simpa using hi
     have hm:=List.getElem_mem hi'
     obtain⟨k1,k2,k3,_⟩:=gd.kinds _ hm
     have l1:=a1p (gd.isN k2)
     have l2:=a1p (gd.isN k3)
     have l3:=(a3n k1).2
     simp! only[a2s S.js eJ i hi',eJ,a9f,a5m,gaNil,aFs,b3h,afNil,aFmt,a8d,a4k,lb,aBM,a2d,a0d,oAppend,a28]
     refine⟨rfl,by omega,by omega,by omega,by omega,by omega,by omega,by omega,by omega,?_,hnx _ _ ⟨_,_,_,_,?_,rfl⟩⟩
     . simp only[List.length_map,List.length_append,List.length_take];omega
     . rw[List.take_succ_eq_append_getElem hi']
       congr 2
       simp only[List.map_append,List.append_assoc,List.map_cons,List.map_nil]
       rfl
   . rintro Γ M' ⟨a,b,c,d,rfl,rfl⟩
     dsimp only
     rw[List.length_map,List.take_length]
     exact hrest _ _ ⟨_,_,_,_,rfl,rfl⟩
 rintro Γ' M1 ⟨a,b,c,d,rfl,rfl⟩
 obtain⟨s1,s2⟩:=a2n gd
 simp! only[aBM,a2d,oJoin,a0d,a4r]
 exact⟨s1,s2,.sub (.put hl) q⟩
theorem a1k(S:TS)(n:Str):S.has n=decide (n∈S.ws.map Prod.fst):=by
 unfold TS.has
 rw[Bool.eq_iff_iff,List.any_eq_true,decide_eq_true_eq,List.mem_map]
 constructor
 . rintro⟨x,hx,e⟩;exact⟨x,hx,of_decide_eq_true e⟩
 . rintro⟨x,hx,e⟩;exact⟨x,hx,decide_eq_true e⟩
theorem a8x{S:TS}{n:Str}{t:Int}(h1:a03 n=true)(h2:n∉S.ws.map Prod.fst)(h3:1<=t)(h4:t<1000000000)(h5:S.ws.length<100):refW S n t=none:=by
 unfold refW
 rw[a1k,decide_eq_false h2,h1,if_neg (by decide),if_neg (by decide),if_neg (by omega),if_neg (by omega)]
theorem b1z{S:TS}{k a b:Str}(h1:a15 k=true)(h2:a∈S.ws.map Prod.fst)(h3:b∈S.ws.map Prod.fst)(h4:a≠b)(h5:S.js.length<200):refJ S k a b=none:=by
 unfold refJ
 rw[a1k,a1k,decide_eq_true h2,decide_eq_true h3,h1,if_neg (by decide),if_neg (by decide),if_neg h4,if_neg (by omega)]
theorem a8y{S:TS}{n:Str}{t:Int}(h:refW S n t=none):a03 n=true/\n∉S.ws.map Prod.fst/\1<=t/\t<1000000000/\S.ws.length<100:=by
 unfold refW at h
 split at h
 . cases h
 rename_i h1
 split at h
 . cases h
 rename_i h2
 split at h
 . cases h
 rename_i h3
 split at h
 . cases h
 rename_i h4
 rw[a1k]at h2
 exact⟨by simpa using h1,fun z=>h2 (decide_eq_true z),by omega,by omega,by omega⟩
theorem a8z{S:TS}{k a b:Str}(h:refJ S k a b=none):a15 k=true/\a∈S.ws.map Prod.fst/\b∈S.ws.map Prod.fst/\a≠b/\S.js.length<200:=by
 unfold refJ at h
 split at h
 . cases h
 rename_i h1
 split at h
 . cases h
 rename_i h2
 split at h
 . cases h
 rename_i h3
 split at h
 . cases h
 rename_i h4
 rw[a1k,a1k]at h2
 refine⟨by simpa using h1,?_,?_,h3,by omega⟩
 . exact Decidable.byContradiction fun z=>h2 (.inl (decide_eq_false z))
 . exact Decidable.byContradiction fun z=>h2 (.inr (decide_eq_false z))
structure Num(S:TS):Prop where
 at': ∀k (h:k<S.js.length),(S.js[k]).1=(k:Int)
 nx:S.nx=S.js.length
theorem Good.addW{S:TS}(g:Good S){n:Str}{t:Int}(h:refW S n t=none):Good ⟨S.ws++[(n,t)],S.js,S.nx⟩:=by
 obtain⟨h1,h2,h3,h4,h5⟩:=a8y h
 refine⟨fun w' hw=> ?_,?_,fun w' hw=> ?_,?_,fun j hj=> ?_,g.nj⟩
 . rcases List.mem_append.mp hw with hw |hw
   . exact g.names _ hw
   . rw[List.mem_singleton.mp hw];exact h1
 . show((S.ws++[(n,t)]).map Prod.fst).Nodup
   rw[List.map_append,List.map_cons,List.map_nil]
   rw[List.nodup_append]
   exact⟨g.nodup,by simp,fun a ha b hb=>by rw[List.mem_singleton.mp hb];rintro rfl;exact h2 ha⟩
 . rcases List.mem_append.mp hw with hw |hw
   . exact g.teeth _ hw
   . rw[List.mem_singleton.mp hw];exact⟨h3,h4⟩
 . show(S.ws++[(n,t)]).length<=100
   rw[List.length_append]
   show S.ws.length+1<=100
   omega
 . obtain⟨k1,k2,k3,k4⟩:=g.kinds j hj
   refine⟨k1,?_,?_,k4⟩
   . show _∈(S.ws++[(n,t)]).map Prod.fst
     rw[List.map_append];exact List.mem_append_left _ k2
   . show _∈(S.ws++[(n,t)]).map Prod.fst
     rw[List.map_append];exact List.mem_append_left _ k3
theorem Good.addJ{S:TS}(g:Good S){k a b:Str}(h:refJ S k a b=none)(i nx:Int):Good ⟨S.ws,S.js++[(i,k,a,b)],nx⟩:=by
 obtain⟨h1,h2,h3,h4,h5⟩:=a8z h
 refine⟨g.names,g.nodup,g.teeth,g.nw,fun j hj=> ?_,?_⟩
 . rcases List.mem_append.mp hj with hj |hj
   . exact g.kinds _ hj
   . rw[List.mem_singleton.mp hj];exact⟨h1,h2,h3,h4⟩
 . show(S.js++[(i,k,a,b)]).length<=200
   rw[List.length_append]
   show S.js.length+1<=200
   omega
theorem Good.lessJ{S:TS}(g:Good S){js:List (Int×Str×Str×Str)}(hl:js.length<=S.js.length)(h: ∀j∈js,∃j'∈S.js,j.2=j'.2)(nx:Int):Good ⟨S.ws,js,nx⟩:=
 ⟨g.names,g.nodup,g.teeth,g.nw,fun j hj=>by obtain⟨j',h1,h2⟩:=h j hj;rw[h2];exact g.kinds j' h1,Nat.le_trans hl g.nj⟩
theorem good0:Good S0:=⟨fun _ h=>(List.not_mem_nil h).elim,List.Pairwise.nil,fun _ h=>(List.not_mem_nil h).elim,by decide,fun _ h=>(List.not_mem_nil h).elim,by decide⟩
theorem num0:Num S0:=⟨fun _ h=>absurd h (Nat.not_lt_zero _),rfl⟩
theorem a4t{S S':TS}{us:List Str}(g:Good S)(n:Num S)(h:a09 S us=some S'):Good S'/\Num S':=by
 unfold a09 at h
 split at h
 . split at h
   . rename_i hc
     cases h
     exact⟨g.addW hc.2,n.at',n.nx⟩
   . cases h
 . split at h
   . rename_i a k b hc
     cases h
     refine⟨g.addJ hc _ _,fun i hi=> ?_,?_⟩
     . by_cases hi':i<S.js.length
       . show((S.js++[_])[i]).1=_
         rw[List.getElem_append_left hi'];exact n.at' i hi'
       . have hl:(S.js++[(S.nx,k,a,b)]).length=S.js.length+1:=by rw[List.length_append];rfl
         have:i=S.js.length:=by
           have hi:i< (S.js++[(S.nx,k,a,b)]).length:=hi
           omega
         subst this
         show((S.js++[(S.nx,k,a,b)])[S.js.length]).1=_
         rw[List.getElem_append_right (Nat.le_refl _)]
         simp only[Nat.sub_self,List.getElem_cons_zero]
         exact n.nx
     . show S.nx+1=((S.js++[(S.nx,k,a,b)]).length:Nat)
       rw[List.length_append,n.nx];rfl
   . cases h
 . cases h
theorem a36: ∀(ps:List Str) {S S':TS},Good S->Num S->a0z (some S) ps=some S'->Good S'/\Num S'
 | [],S,S',g,n,h=>by cases h;exact⟨g,n⟩
 |p::ps,S,S',g,n,h=>by
   have h:a0z (a09 S (PySem.Txt.split p " ")) ps=some S':=h
   cases hq:a09 S (PySem.Txt.split p " ")with
   |none=>rw[hq,a2i]at h;cases h
   |some S1=>
     rw[hq]at h
     obtain⟨g1,n1⟩:=a4t g n hq
     exact a36 ps g1 n1 h
theorem a7n{x:Str}{S:TS}(h:a11 x=some S):Good S/\Num S:=by
 unfold a11 at h
 split at h
 . cases h;exact⟨good0,num0⟩
 . exact a36 _ good0 num0 h
noncomputable def a25(S:TS):TS:=⟨S.ws,S.js.mapIdx fun k j=>((k:Int),j.2),S.js.length⟩
theorem b0w{S:TS}(n:Num S):a25 S=S:=by
 obtain⟨ws,js,nx⟩:=S
 have h1:nx=js.length:=n.nx
 subst h1
 unfold a25
 congr 1
 refine List.ext_getElem (by simp) fun i h1 h2=> ?_
 have:=n.at' i h2
 rw[List.getElem_mapIdx]
 refine Prod.ext this.symm rfl
theorem a5w(o:Option TS)(ps qs:List Str):a0z o (ps++qs)=a0z (a0z o ps) qs:=by
 unfold a0z;rw[List.foldl_append]
theorem read_ws{S:TS}(g:Good S): ∀i,i<=S.ws.length->a0z (some S0) ((S.ws.map rowW).take i)=some ⟨S.ws.take i,[],0⟩:=by
 intro i
 induction i with
 |zero=>intro _;rfl
 |succ i ih=>
   intro hi
   have hi':i<S.ws.length:=hi
   rw[a1t (ih (Nat.le_of_lt hi')) (by simpa using hi'),List.getElem_map,splitW g (List.getElem_mem hi')]
   have ht:=g.teeth _ (List.getElem_mem hi')
   obtain⟨n1,n2,_,_⟩:=a1v ht.1 ht.2
   have hn:(S.ws[i]).1∉(S.ws.take i).map Prod.fst:=by
     intro z
     obtain⟨x,hx,ex⟩:=List.mem_map.mp z
     obtain⟨j,hj',ej⟩:=List.getElem_of_mem hx
     rw[List.length_take]at hj'
     rw[List.getElem_take]at ej
     have P1:=List.pairwise_iff_getElem.mp g.nodup j i (by simp;omega) (by simpa using hi') (by omega)
     rw[List.getElem_map,List.getElem_map]at P1
     exact P1 (by rw[ej,ex])
   have hr:=a8x (S:=⟨S.ws.take i,[],0⟩) (t:=(S.ws[i]).2) (g.names _ (List.getElem_mem hi')) hn ht.1 ht.2 (by show(S.ws.take i).length<100;rw[List.length_take];have:=g.nw;omega)
   show(if _/\_ then _ else _)=_
   rw[n2,if_pos ⟨n1,hr⟩,List.take_succ_eq_append_getElem hi']
theorem read_js{S:TS}(g:Good S): ∀i,i<=S.js.length->a0z (some ⟨S.ws,[],0⟩) ((S.js.map rowJ).take i)=some ⟨S.ws,(S.js.take i).mapIdx fun k j=>((k:Int),j.2),i⟩:=by
 intro i
 induction i with
 |zero=>intro _;rfl
 |succ i ih=>
   intro hi
   have hi':i<S.js.length:=hi
   rw[a1t (ih (Nat.le_of_lt hi')) (by simpa using hi'),List.getElem_map,splitJ g (List.getElem_mem hi')]
   obtain⟨k1,k2,k3,k4⟩:=g.kinds _ (List.getElem_mem hi')
   have hr:=b1z (S:=⟨S.ws,(S.js.take i).mapIdx fun k j=>((k:Int),j.2),i⟩) k1 k2 k3 k4 (by show((S.js.take i).mapIdx _).length<200;rw[List.length_mapIdx,List.length_take];have:=g.nj;omega)
   show(if _ then _ else _)=_
   rw[if_pos hr,List.take_succ_eq_append_getElem hi',List.mapIdx_append]
   congr 2
   simp only[List.mapIdx_cons,List.mapIdx_nil,List.length_take]
   congr 3
   omega
theorem show_ne{S:TS}(g:Good S)(h:a1o S≠[]): ¬ a3e S=("":Str):=fun z=>by
 have e1:(a3e S).cps.toList=[]:=by rw[z];decide+kernel
 unfold a3e at e1
 rw[a1l]at e1
 cases hp:a1o S with
 |nil=>exact h hp
 |cons a l=>
   have ha:=(b1y g a (by rw[hp];exact List.mem_cons_self)).1
   rw[slen]at ha
   rw[hp,List.map_cons]at e1
   cases hl:l.map (fun p=>p.cps.toList)with
   |nil=>
     rw[hl]at e1
     have e1:a.cps.toList=[]:=e1
     rw[e1]at ha
     exact absurd ha (by decide)
   |cons b l'=>
     rw[hl]at e1
     have e1:a.cps.toList++("; ":Str).cps.toList++jn ("; ":Str).cps.toList (b::l')=[]:=e1
     have:=congrArg List.length e1
     rw[List.length_append,List.length_append,List.length_nil]at this
     omega
theorem a44{S:TS}(g:Good S):a11 (a3e S)=some (a25 S):=by
 by_cases h0:a1o S=[]
 . have hw:S.ws=[]:=by
     unfold a1o at h0
     exact List.map_eq_nil_iff.mp (List.append_eq_nil_iff.mp h0).1
   have hj:S.js=[]:=by
     unfold a1o at h0
     exact List.map_eq_nil_iff.mp (List.append_eq_nil_iff.mp h0).2
   have e:a3e S="":=by unfold a3e;rw[h0];decide+kernel
   unfold a11 a25
   rw[if_pos e,hw,hj];rfl
 unfold a11
 rw[if_neg (show_ne g h0)]
 have es:PySem.Txt.split (a3e S) "; "=a1o S:=b0t h0 (b3t g)
 rw[es]
 unfold a1o
 rw[a5w]
 have h1:=read_ws g S.ws.length (Nat.le_refl _)
 rw[<-List.length_map (f:=rowW),List.take_length]at h1
 rw[h1,List.length_map,List.take_length]
 have h2:=read_js g S.js.length (Nat.le_refl _)
 rw[<-List.length_map (f:=rowJ),List.take_length]at h2
 rw[h2,List.length_map,List.take_length]
 rfl
theorem b0x{S:TS}(g:Good S):Good (a25 S):=(a7n (a44 g)).1
theorem b07: ∀c∈a1s,c<128:=by decide+kernel
theorem a88{x:Str}(h:a03 x=true):PySem.PyData.strOk x=true:=by
 unfold a03 at h
 rw[Bool.and_eq_true]at h
 have h2:=List.all_eq_true.mp h.2
 unfold PySem.PyData.strOk
 rw[<-Array.all_toList]
 refine List.all_eq_true.mpr fun c hc=> ?_
 have h3:=b07 c (of_decide_eq_true (h2 c hc))
 exact decide_eq_true (by omega)
theorem kind_ok{k:Str}(h:a15 k=true):PySem.PyData.strOk k=true:=by
 unfold a15 at h
 simp only[Bool.or_eq_true,decide_eq_true_eq]at h
 rcases h with((rfl |rfl) |rfl) |rfl<;>decide+kernel
structure Fit(S:TS):Prop where
 g:Good S
 nx:0<=S.nx
 w:S.ws.length<=100
 j:S.js.length<=200
def a3c:SpA:=fun ds M Q _=> ∃x:Str,ds=[.str x]/\x.length<=1000000/\Q (.bl (a03 x)) M
theorem b22{x:Str}(h1: ¬ x.length<1)(h2: ¬ 8<x.length):a03 x=x.cps.toList.all fun c=>decide (c∈a1s):=by
 unfold a03
 rw[decide_eq_false h1,decide_eq_false h2];rfl
theorem a51{f:Addr}{fd:FuncData}(Fn:Fun K "_law_is_name" "_law_is_name" a19 f fd)(T:Txt K mg):FnOk P w K mg base (CXE P w) 1 f fd ["_law_name_here"] (a0m K a3c):=by
 refine Fn.okA sc_law_is_name (fun ds M Q E h=> ?_) ?_
 . obtain⟨a,rfl,_⟩:=h;rfl
 intro cdv A outer s H E F0 ds M Q Ea hr ct hsp
 obtain⟨x,rfl,hx,q⟩:=hsp
 refine⟨_,(a0b (sIf ((pwOr (a0s a81 lLt (a0r a0j lLen (by rfl) T.len PySem.boot_len (a0a (paV (pv 0)) a0e)) paI (a0o _)) (a26 (a0s a50 lGt (a0r a0j lLen (by rfl) T.len PySem.boot_len (a0a (paV (pv 0)) a0e)) paI (a0o _))))).pt
       (a0g (sRet paB))
       a0y)
     (a0b (sFor ct (b4l (paV (pv 0))) (a0t (i:=1) sc_law_is_name.nd rfl (Or.inl rfl))
       (a0g (sIf (a0s a1r a5j (paV (pv 1)) paS (by with_unfolding_all rfl))
         (a0g (sRet paB))
         a0y)))
     (a0g (sRet paB)))),?_⟩
 have hl:x.length<=sizeLine:=kM hx
 simp! only[]
 refine⟨hl,ite2 (fun h1=> ?_) (fun h1=>⟨hl,ite2 (fun h2=> ?_) (fun h2=> ?_)⟩)⟩
 . have h1:=of_decide_eq_true h1
   have e:a03 x=false:=by
     unfold a03
     rw[decide_eq_true (show x.length<1 by omega)];rfl
   rw[e]at q
   exact .now q
 . have h2:=of_decide_eq_true h2
   have e:a03 x=false:=by
     unfold a03
     rw[decide_eq_true (show 8<x.length by omega),Bool.or_true];rfl
   rw[e]at q
   exact .now q
 have h1: ¬ (x.length<1):=fun z=>h1 (decide_eq_true (by omega))
 have h2: ¬ (8<x.length):=fun z=>h2 (decide_eq_true (by omega))
 rw[b22 h1 h2]at q
 have at': ∀i (hi:i<x.cps.size),x.cps.getD i 0=x.cps.toList[i]'(by simpa using hi):=fun i hi=>by simp[Array.getD,hi]
 refine LoopP.by (fun i Γ M'=>M'=M/\(∀j,j<i->x.cps.getD j 0∈a1s)/\ ∃o,Γ=[some (.str x),o]) ⟨rfl,fun j hj=>absurd hj (Nat.not_lt_zero _),none,rfl⟩ (fun _ _ _ _=>trivial) ?_ ?_
 . rintro i Γ M' hi ⟨rfl,hj,o,rfl⟩
   simp! only[oIn]
   dsimp only at hi
   have e:hasS ("abcdefghijklmnopqrstuvwxyz":Str) ⟨#[x.cps.getD i 0]⟩=decide (x.cps.getD i 0∈a1s):=PySem.StrLaws.found_one _ _
   rw[e]
   by_cases hc:x.cps.getD i 0∈a1s
   . simp only[hc,decide_true,Bool.not_true,Bool.false_eq_true,if_false]
     refine⟨hi,fun j hj'=> ?_,_,rfl⟩
     by_cases hji:j=i
     . subst hji;exact hc
     . exact hj j (by omega)
   . simp only[hc,decide_false,Bool.not_false,if_true]
     have e2:(x.cps.toList.all fun c=>decide (c∈a1s))=false:=by
       rw[List.all_eq_false]
       refine⟨x.cps.getD i 0,?_,by rw[decide_eq_false hc];exact Bool.false_ne_true⟩
       rw[at' i hi];exact List.getElem_mem _
     rw[e2]at q
     exact .now q
 . rintro Γ M' ⟨rfl,hj,o,rfl⟩
   have e2:(x.cps.toList.all fun c=>decide (c∈a1s))=true:=by
     rw[List.all_eq_true]
     intro c hc
     obtain⟨i,hi,rfl⟩:=List.getElem_of_mem hc
     have hi':i<x.cps.size:=by simpa using hi
     have:=hj i hi'
     rw[at' i hi']at this
     exact decide_eq_true this
   rw[e2]at q
   exact .now q
def a4n:SpA:=fun ds M Q _=> ∃x:Str,ds=[.str x]/\x.length<=1000000/\Q (.bl (a14 x)) M
theorem a4f{f:Addr}{fd:FuncData}(Fn:Fun K "_law_is_number" "_law_is_number" a1q f fd)(T:Txt K mg):FnOk P w K mg base (CXE P w) 1 f fd ["_law_word"] (a0m K a4n):=by
 refine Fn.okA sc_law_is_number (fun ds M Q E h=> ?_) ?_
 . obtain⟨a,rfl,_⟩:=h;rfl
 intro cdv A outer s H E F0 ds M Q Ea hr ct hsp
 obtain⟨x,rfl,hx,q⟩:=hsp
 refine⟨_,(a0b (sIf ((pwOr (a0s a81 lLt (a0r a0j lLen (by rfl) T.len PySem.boot_len (a0a (paV (pv 0)) a0e)) paI (a0o _)) (pwOr (a0s a50 lGt (a0r a0j lLen (by rfl) T.len PySem.boot_len (a0a (paV (pv 0)) a0e)) paI (a0o _)) (a26 (a0s (a1e (un64 ct)) lEq (paIx a0n lIx (paV (pv 0)) paI (fun _ _=>rfl)) paS (a0o _)))))).pt
       (a0g (sRet paB))
       a0y)
     (a0b (sFor ct (b4l (paV (pv 0))) (a0t (i:=1) sc_law_is_number.nd rfl (Or.inl rfl))
       (a0g (sIf (a0s a1r a5j (paV (pv 1)) paS (by with_unfolding_all rfl))
         (a0g (sRet paB))
         a0y)))
     (a0g (sRet paB)))),?_⟩
 have hl:x.length<=sizeLine:=kM hx
 by_cases hc:x.length<1\/9<x.length\/x.cps.toList[0]? =some 48
 . have en:a14 x=false:=by
     unfold a14
     rcases hc with h |h |h<;>simp[h]
   rw[en]at q
   refine a3f (fun R h=> ?_) ?_
   . simp! only[]
     refine⟨hl,ite2 (fun _=>h) fun h1=>⟨hl,ite2 (fun _=>h) fun h2=> ?_⟩⟩
     have h1: ¬ x.length<1:=fun z=>h1 (decide_eq_true (by omega))
     have h2: ¬ 9<x.length:=fun z=>h2 (decide_eq_true (by omega))
     obtain⟨c,e1,e2⟩:=a65 h1
     have hc:x.cps.toList[0]? =some 48:=by rcases hc with h |h |h;exact absurd h h1;exact absurd h h2;exact h
     rw[e1]at hc
     cases hc
     simp! only[e2,a4p,decide_true]
     exact⟨hl,h⟩
   simp! only[]
   exact .now q
 have h1: ¬ x.length<1:=fun z=>hc (.inl z)
 have h2: ¬ 9<x.length:=fun z=>hc (.inr (.inl z))
 have h3: ¬ x.cps.toList[0]? =some 48:=fun z=>hc (.inr (.inr z))
 obtain⟨c,e1,e2⟩:=a65 h1
 have c0: ¬ c=48:=fun z=>h3 (by rw[e1,z])
 have en:a14 x=x.cps.toList.all fun c=>decide (c∈figures):=by
   unfold a14 figs
   rw[decide_eq_false h1,decide_eq_false h2,decide_eq_false h3];rfl
 rw[en]at q
 refine a10 (fun R h=> ?_) ?_
 . simp! only[decide_eq_false (show ¬ (x.length:Int)<1 by omega),decide_eq_false (show ¬ (x.length:Int)>9 by omega),e2,a4p,decide_eq_false c0]
   exact⟨hl,hl,hl,h⟩
 have at': ∀i (hi:i<x.cps.size),x.cps.getD i 0=x.cps.toList[i]'(by simpa using hi):=fun i hi=>by simp[Array.getD,hi]
 refine LoopP.by (fun i Γ M'=>M'=M/\(∀j,j<i->x.cps.getD j 0∈figures)/\ ∃o,Γ=[some (.str x),o]) ⟨rfl,fun j hj=>absurd hj (Nat.not_lt_zero _),none,rfl⟩ (fun _ _ _ _=>trivial) ?_ ?_
 . rintro i Γ M' hi ⟨rfl,hj,o,rfl⟩
   simp! only[oIn]
   dsimp only at hi
   have e:hasS ("0123456789":Str) ⟨#[x.cps.getD i 0]⟩=decide (x.cps.getD i 0∈figures):=PySem.StrLaws.found_one _ _
   rw[e]
   by_cases hc:x.cps.getD i 0∈figures
   . simp only[hc,decide_true,Bool.not_true,Bool.false_eq_true,if_false]
     refine⟨hi,fun j hj'=> ?_,_,rfl⟩
     by_cases hji:j=i
     . subst hji;exact hc
     . exact hj j (by omega)
   . simp only[hc,decide_false,Bool.not_false,if_true]
     have e2:(x.cps.toList.all fun c=>decide (c∈figures))=false:=by
       rw[List.all_eq_false]
       refine⟨x.cps.getD i 0,?_,by rw[decide_eq_false hc];exact Bool.false_ne_true⟩
       rw[at' i hi];exact List.getElem_mem _
     rw[e2]at q
     exact .now q
 . rintro Γ M' ⟨rfl,hj,o,rfl⟩
   have e2:(x.cps.toList.all fun c=>decide (c∈figures))=true:=by
     rw[List.all_eq_true]
     intro c hc
     obtain⟨i,hi,rfl⟩:=List.getElem_of_mem hc
     have hi':i<x.cps.size:=by simpa using hi
     have:=hj i hi'
     rw[at' i hi']at this
     exact decide_eq_true this
   rw[e2]at q
   exact .now q
theorem b4k(S:TS)(n:Str):inD (.str n) ((S.ws.map Prod.fst).map D.str)=S.has n:=by
 unfold inD TS.has
 rw[List.map_map,List.any_map]
 have e: ∀w':Str×Int,((fun y=>eqF y (.str n))∘D.str∘Prod.fst) w'=decide (w'.1=n):=fun w'=>by
   show(w'.1==n)=_
   rw[a4s]
   by_cases h:n=w'.1
   . rw[decide_eq_true h,decide_eq_true h.symm]
   . rw[decide_eq_false h,decide_eq_false fun z=>h z.symm]
 rw[funext e]
theorem b0a(ns:List Str):(ns.map D.str).all flD=true:=by
 rw[List.all_map,List.all_eq_true];intros;rfl
noncomputable def dueD(x:Str):D:=match a11 x with
 |some S=> .lst [.lst (S.ws.map eW),.lst (S.js.map eJ)]
 |none=> .non
def spDue:SpA:=fun ds M Q _=> ∃x:Str,ds=[.str x]/\x.length<=1000000/\Q (dueD x) M
structure Keeps(M M':Mem)(a b c:Addr)(S:TS):Prop where
 names:M' a=some (.lst ((S.ws.map Prod.fst).map D.str))
 wheels:M' b=some (.lst (S.ws.map eW))
 joins:M' c=some (.lst (S.js.map eJ))
 sub:L2.Sub M M'
 fa:M a=none
 fb:M b=none
 fc:M c=none
 ab:a≠b
 ac:a≠c
 bc:b≠c
theorem a74(S:TS)(n:Str):(if(flD (.str n)&&((S.ws.map Prod.fst).map D.str).all flD)=true then some (inD (.str n) ((S.ws.map Prod.fst).map D.str))else none)=some (S.has n):=by
 rw[if_pos (by rw[b0a];rfl),b4k]
theorem a1i{M M':Mem}{a:Addr}{o:MO}(h:L2.Sub M M')(ha:M a=none):L2.Sub M (put M' a o):=fun x o' e=>by
 rw[a0h (by rintro rfl;rw[ha]at e;cases e)];exact h x o' e
theorem b1o{M M':Mem}{a:Addr}(h:L2.Sub M M')(ha:M a=none):L2.Sub M (del M' a):=fun x o' e=>by
 rw[b0j (by rintro rfl;rw[ha]at e;cases e)];exact h x o' e
theorem b3a{M M':Mem}{a b c:Addr}{S:TS}{x:Str}{Q:AK}{o0 o1 o4 o5:Option D}(k:Keeps M M' a b c S)(h:a11 x=some S)(q:Q (dueD x) M):
   aRet (aLst (a55 (aFz (aV 2)) (a55 (aFz (aV 3)) aNil))) {nx:=fun _ M'=>Rt Q .non M',rt:=Rt Q} [o0,o1,some (.obj b),some (.obj c),o4,o5] M':=by
 simp! only[aFz,k.wheels,b0j k.bc.symm,k.joins]
 refine⟨by decide,.sub (b1o (b1o k.sub k.fb) k.fc) ?_⟩
 unfold dueD at q
 rw[h]at q;exact q
theorem b01{f:Addr}{fd:FuncData}(Fn:Fun K "_law_due" "_law_due" a41 f fd)(T:Txt K mg)(h_law_is_name:Has P w K mg base (CXE P w) 1 "_law_is_name" ["_law_name_here"] (a0m K a3c))(h_law_is_number:Has P w K mg base (CXE P w) 1 "_law_is_number" ["_law_word"] (a0m K a4n)):
   FnOk P w K mg base (CXE P w) 2 f fd ["_law_text_here"] (a0m K spDue):=by
 refine Fn.okA sc_law_due (fun ds M Q E h=> ?_) ?_
 . obtain⟨_,rfl,_⟩:=h;rfl
 intro cdv A outer s H E F0 ds M Q Ea hr ct hsp
 obtain⟨x,rfl,hx,q⟩:=hsp
 refine⟨_,(a0b (sSet (i:=1) sc_law_due.nd rfl (Or.inl rfl) (a9y a0e))
     (a0b (sSet (i:=2) sc_law_due.nd rfl (Or.inl rfl) (a9y a0e))
     (a0b (sSet (i:=3) sc_law_due.nd rfl (Or.inl rfl) (a9y a0e))
     (a0b (sIf (a0s (a1e (un64 ct)) lEq (paV (pv 0)) paS (a0o _))
       (a0g (sRet (a31 (a0a (paFz (paV (pv 2))) (a0a (paFz (paV (pv 3))) a0e)))))
       a0y)
     (a0b (sFor ct (a2l (paBM PySem.F.plainAttrs_str PySem.F.slot_str_split PySem.F.type_str_split a2q a6f (paV (pv 0)) (a0a paS a0e))) (a0t (i:=4) sc_law_due.nd rfl (Or.inl rfl))
       (a0b (sSet (i:=5) sc_law_due.nd rfl (Or.inl rfl) (paBM PySem.F.plainAttrs_str PySem.F.slot_str_split PySem.F.type_str_split a2q a6f (paV (pv 4)) (a0a paS a0e)))
       (a0g (sIf ((b13 (a0s (a1e (un64 ct)) lEq (a0r a0j lLen (by rfl) T.len PySem.boot_len (a0a (paV (pv 5)) a0e)) paI (a0o _)) (b13 (ptV (a1d h_law_is_name (hr.mono (by decide)) (by rfl) ct (a0a (paIx a0n lIx (paV (pv 5)) paI (fun _ _=>rfl)) a0e))) (a7p (ptV (a1d h_law_is_number (hr.mono (by decide)) (by rfl) ct (a0a (paIx a0n lIx (paV (pv 5)) paI (fun _ _=>rfl)) a0e))))))).pt
         (a0b (sIf ((pwOr (a0s a90 lIn (paIx a0n lIx (paV (pv 5)) paI (fun _ _=>rfl)) (paV (pv 1)) (by with_unfolding_all rfl)) (a26 (a0s a50 lGt (a0r a0j lLen (by rfl) T.len PySem.boot_len (a0a (paV (pv 1)) a0e)) paI (a0o _))))).pt
           (a0g (sRet paN))
           a0y)
         (a0b (a2u (paBM PySem.F.plainAttrs_list PySem.F.slot_list_append PySem.F.type_list_append a1b a1z (paV (pv 1)) (a0a (paIx a0n lIx (paV (pv 5)) paI (fun _ _=>rfl)) a0e)))
         (a0g (a2u (paBM PySem.F.plainAttrs_list PySem.F.slot_list_append PySem.F.type_list_append a1b a1z (paV (pv 2)) (a0a (b2e (a0a (paIx a0n lIx (paV (pv 5)) paI (fun _ _=>rfl)) (a0a (a2c a8i lIntT (by rfl) T.int boot_int (a0a (paIx a0n lIx (paV (pv 5)) paI (fun _ _=>rfl)) a0e)) a0e))) a0e))))))
         (a0g (sIf ((b13 (a0s (a1e (un64 ct)) lEq (a0r a0j lLen (by rfl) T.len PySem.boot_len (a0a (paV (pv 5)) a0e)) paI (a0o _)) (a7p (a0s a90 lIn (paIx a0n lIx (paV (pv 5)) paI (fun _ _=>rfl)) (a31 (a0a paS (a0a paS (a0a paS (a0a paS a0e))))) (by with_unfolding_all rfl))))).pt
           (a0b (sIf ((pwOr (a0s a1r a5j (paIx a0n lIx (paV (pv 5)) paI (fun _ _=>rfl)) (paV (pv 1)) (by with_unfolding_all rfl)) (pwOr (a0s a1r a5j (paIx a0n lIx (paV (pv 5)) paI (fun _ _=>rfl)) (paV (pv 1)) (by with_unfolding_all rfl)) (pwOr (a0s (a1e (un64 ct)) lEq (paIx a0n lIx (paV (pv 5)) paI (fun _ _=>rfl)) (paIx a0n lIx (paV (pv 5)) paI (fun _ _=>rfl)) (a0o _)) (a26 (a0s a50 lGt (a0r a0j lLen (by rfl) T.len PySem.boot_len (a0a (paV (pv 3)) a0e)) paI (a0o _))))))).pt
             (a0g (sRet paN))
             a0y)
           (a0g (a2u (paBM PySem.F.plainAttrs_list PySem.F.slot_list_append PySem.F.type_list_append a1b a1z (paV (pv 3)) (a0a (b2e (a0a (a0r a0j lLen (by rfl) T.len PySem.boot_len (a0a (paV (pv 3)) a0e)) (a0a (paIx a0n lIx (paV (pv 5)) paI (fun _ _=>rfl)) (a0a (paIx a0n lIx (paV (pv 5)) paI (fun _ _=>rfl)) (a0a (paIx a0n lIx (paV (pv 5)) paI (fun _ _=>rfl)) a0e))))) a0e)))))
           (a0g (sRet paN))))))))
     (a0g (sRet (a31 (a0a (paFz (paV (pv 2))) (a0a (paFz (paV (pv 3))) a0e)))))))))),?_⟩
 simp only[aSeq,aSet,b40,aNil,a4u,List.map_cons,List.map_nil,List.length_cons,List.length_nil,List.replicate,List.cons_append,List.nil_append,Nat.reduceAdd,Nat.reduceSub,List.set_cons_zero,List.set_cons_succ]
 refine⟨by decide,fun a ha=>⟨by decide,fun b hb=>⟨by decide,fun c hc=> ?_⟩⟩⟩
 have ab:a≠b:=by rintro rfl;rw[a0d]at hb;cases hb
 have bc:b≠c:=by rintro rfl;rw[a0d]at hc;cases hc
 rw[a0h bc.symm]at hc
 have ac:a≠c:=by rintro rfl;rw[a0d]at hc;cases hc
 rw[a0h ab.symm]at hb
 rw[a0h ac.symm]at hc
 have k0:Keeps M (put (put (put M a (.lst [])) b (.lst [])) c (.lst [])) a b c S0:=⟨by rw[a0h ac,a0h ab,a0d];rfl,by rw[a0h bc,a0d];rfl,by rw[a0d];rfl,a1i (a1i (a1i (.refl M) ha) hb) hc,ha,hb,hc,ab,ac,bc⟩
 generalize put (put (put M a (.lst [])) b (.lst [])) c (.lst [])=M0 at k0 |-
 by_cases h0:x=("":Str)
 . have er:a11 x=some S0:=by unfold a11;rw[if_pos h0]
   refine ifV true (fun R h=> ?_) ?_
   . simp! only[decide_eq_true h0]
     exact h
   exact b3a k0 er q
 refine ifV false (fun R h=> ?_) ?_
 . simp! only[decide_eq_false h0]
   exact h
 have er:a11 x=a0z (some S0) (PySem.Txt.split x "; "):=by unfold a11;rw[if_neg h0]
 rw[if_neg Bool.false_ne_true]
 simp only[aNext]
 simp! only[aBM,a2d,oSplit]
 refine⟨by decide+kernel,by omega,?_⟩
 have hpl:=a2g x "; "
 generalize PySem.Txt.split x "; "=ps at hpl er |-
 refine LoopP.by2 (fun i Γ M'=> ∃o4 o5 S,Γ=[some (.str x),some (.obj a),some (.obj b),some (.obj c),o4,o5]/\Keeps M M' a b c S/\Good S/\Num S/\a0z (some S0) (ps.take i)=some S) ⟨_,_,S0,rfl,k0,good0,num0,rfl⟩ (fun _ _ _ _=>trivial) ?_ ?_
 . rintro E' i Γ M' hrt hi hnx ⟨o4,o5,S,rfl,kp,gd,nm,hS⟩
   dsimp only at hi
   have hi':i<ps.length:=by simpa using hi
   have hl:=hpl _ (List.getElem_mem hi')
   have hst:=a1t hS hi'
   have hul: ∀u∈PySem.Txt.split ps[i] " ",u.length<=1000000:=fun u hu=>by have:=a2g _ _ u hu;omega
   have nw:=gd.nw
   have nj:=gd.nj
   simp only[a2s ps D.str i hi',gaN,List.set_cons_zero,List.set_cons_succ]
   refine seqV (.lst ((PySem.Txt.split ps[i] " ").map D.str)) M' (fun R h=>by
     simp! only[aBM,a2d,oSplit]
     exact⟨by decide+kernel,by omega,h⟩) ?_
   simp only[List.set_cons_zero,List.set_cons_succ]
   generalize PySem.Txt.split ps[i] " "=us at hst hul |-
   have stop:a09 S us=none->E'.rt .non M':=fun hn=>by
     rw[hrt]
     refine .sub kp.sub ?_
     have:a11 x=none:=er.trans (a35 (hst.trans hn))
     unfold dueD at q
     rw[this]at q;exact q
   have ln:((S.ws.map Prod.fst).map D.str).length=S.ws.length:=by rw[List.length_map,List.length_map]
   have lj:(S.js.map eJ).length=S.js.length:=List.length_map ..
   by_cases h2:us.length=2
   . obtain⟨n,y,rfl⟩: ∃n y,us=[n,y]:=by
       match us,h2 with
       | [n,y],_=>exact⟨n,y,rfl⟩
     have hn:=hul n (by simp)
     have hy:=hul y (by simp)
     by_cases hg:a03 n=true/\a14 y=true
     . obtain⟨v1,v2,v3⟩:=b2j hg.2
       have y9:=(a71 hg.2).2.1
       refine ifV true (fun R h=> ?_) ?_
       . simp! only[a3c,a4n]
         refine⟨n,rfl,hn,?_⟩
         rw[hg.1]
         simp! only[]
         refine⟨y,rfl,hy,?_⟩
         rw[hg.2];exact h
       rw[if_pos rfl]
       by_cases hb:S.has n=true\/99<S.ws.length
       . refine a3f (fun R h=> ?_) ?_
         . simp! only[oIn,a74,kp.names,ln]
           refine ite2 (fun _=>h) fun h1=> ?_
           rw[decide_eq_true (show(S.ws.length:Int)>99 by rcases hb with z |z;exact absurd z h1;omega)]
           exact h
         simp! only[]
         refine stop (if_neg fun z=> ?_)
         obtain⟨_,z2,_,_,z5⟩:=a8y z.2
         rcases hb with h |h
         . rw[a1k]at h;exact z2 (of_decide_eq_true h)
         . omega
       have h1: ¬ S.has n=true:=fun z=>hb (.inl z)
       have h3: ¬ 99<S.ws.length:=fun z=>hb (.inr z)
       have hr':refW S n (a2t y)=none:=a8x hg.1 (fun z=>h1 (by rw[a1k];exact decide_eq_true z)) v2 v3 (by omega)
       have hp:a09 S [n,y]=some ⟨S.ws++[(n,a2t y)],S.js,S.nx⟩:=if_pos ⟨hg.2,hr'⟩
       refine a10 (fun R h=> ?_) ?_
       . simp! only[oIn,a74,kp.names,ln,decide_eq_false (show ¬ (S.ws.length:Int)>99 by omega)]
         refine ite2 (fun z=>absurd z h1) fun _=>h
       simp! only[aBM,a2d,kp.names,oAppend,a0d,a0h kp.ab.symm,kp.wheels,oIntT,v1]
       obtain⟨g1,n1⟩:=a4t gd nm hp
       refine⟨by rw[ln];omega,by omega,by decide,by rw[List.length_map];omega,hnx _ _ ⟨_,_,_,rfl,?_,g1,n1,hst.trans hp⟩⟩
       refine⟨?_,?_,?_,a1i (a1i kp.sub kp.fa) kp.fb,kp.fa,kp.fb,kp.fc,kp.ab,kp.ac,kp.bc⟩
       . rw[a0h kp.ab,a0d,List.map_append,List.map_append];rfl
       . rw[a0d,List.map_append];rfl
       . rw[a0h kp.bc.symm,a0h kp.ac.symm];exact kp.joins
     . refine ifV false (fun R h=> ?_) ?_
       . simp! only[a3c,a4n]
         refine⟨n,rfl,hn,?_⟩
         cases e1:a03 n with
         |false=>simp! only[];exact h
         |true=>
           simp! only[]
           refine⟨y,rfl,hy,?_⟩
           cases e2:a14 y with
           |false=>exact h
           |true=>exact absurd ⟨e1,e2⟩ hg
       rw[if_neg Bool.false_ne_true]
       refine ifV false (fun R h=>by simp! only[];exact h) ?_
       rw[if_neg Bool.false_ne_true]
       simp! only[]
       refine stop (if_neg fun z=>hg ⟨(a8y z.2).1,z.1⟩)
   . refine ifV false (fun R h=>by simp! only[List.length_map,decide_eq_false (show ¬ (us.length:Int)=2 by omega)];exact h) ?_
     rw[if_neg Bool.false_ne_true]
     by_cases h3:us.length=3
     . obtain⟨n,k,m,rfl⟩: ∃n k m,us=[n,k,m]:=by
         match us,h3 with
         | [n,k,m],_=>exact⟨n,k,m,rfl⟩
       by_cases hk:a15 k=true
       . refine ifV true (fun R h=> ?_) ?_
         . simp! only[oIn,b2s,hk]
           exact⟨by decide,h⟩
         rw[if_pos rfl]
         by_cases hb:S.has n=false\/S.has m=false\/n=m\/199<S.js.length
         . refine a3f (fun R h=> ?_) ?_
           . simp! only[oIn,a74,kp.names,kp.joins,lj]
             refine ite2 (fun _=>h) fun h1=>ite2 (fun _=>h) fun h2=>ite2 (fun _=>h) fun h3=> ?_
             have h1:S.has n=true:=by simpa using h1
             have h2:S.has m=true:=by simpa using h2
             have h3: ¬ n=m:=fun z=>h3 (decide_eq_true z)
             rw[decide_eq_true (show(S.js.length:Int)>199 by
               rcases hb with z |z |z |z
               . rw[h1]at z;cases z
               . rw[h2]at z;cases z
               . exact absurd z h3
               . omega)]
             exact h
           simp! only[]
           refine stop (if_neg fun z=> ?_)
           obtain⟨_,z2,z3,z4,z5⟩:=a8z z
           rcases hb with h |h |h |h
           . rw[a1k]at h;exact of_decide_eq_false h z2
           . rw[a1k]at h;exact of_decide_eq_false h z3
           . exact z4 h
           . omega
         have b1:S.has n=true:=by cases e:S.has n;exact absurd (.inl e) hb;rfl
         have b2:S.has m=true:=by cases e:S.has m;exact absurd (.inr (.inl e)) hb;rfl
         have b3: ¬ n=m:=fun z=>hb (.inr (.inr (.inl z)))
         have b4: ¬ 199<S.js.length:=fun z=>hb (.inr (.inr (.inr z)))
         have hr':refJ S k n m=none:=b1z hk (by rw[a1k]at b1;exact of_decide_eq_true b1) (by rw[a1k]at b2;exact of_decide_eq_true b2) b3 (by omega)
         have hp:a09 S [n,k,m]=some ⟨S.ws,S.js++[(S.nx,k,n,m)],S.nx+1⟩:=if_pos hr'
         refine a10 (fun R h=> ?_) ?_
         . simp! only[oIn,a74,kp.names,kp.joins,lj,b1,b2,decide_eq_false b3,decide_eq_false (show ¬ (S.js.length:Int)>199 by omega),Bool.not_true]
           exact h
         simp! only[aBM,a2d,kp.joins,oAppend,lj]
         obtain⟨g1,n1⟩:=a4t gd nm hp
         refine⟨by decide,by omega,hnx _ _ ⟨_,_,_,rfl,?_,g1,n1,hst.trans hp⟩⟩
         refine⟨?_,?_,?_,a1i kp.sub kp.fc,kp.fa,kp.fb,kp.fc,kp.ab,kp.ac,kp.bc⟩
         . rw[a0h kp.ac];exact kp.names
         . rw[a0h kp.bc];exact kp.wheels
         . rw[a0d,List.map_append,nm.nx];rfl
       . refine ifV false (fun R h=> ?_) ?_
         . simp! only[oIn,b2s,hk]
           exact⟨by decide,by simpa using h⟩
         rw[if_neg Bool.false_ne_true]
         simp! only[]
         exact stop (if_neg fun z=>hk (a8z z).1)
     . refine ifV false (fun R h=>by simp! only[List.length_map,decide_eq_false (show ¬ (us.length:Int)=3 by omega)];exact h) ?_
       rw[if_neg Bool.false_ne_true]
       simp! only[]
       refine stop ?_
       unfold a09
       split
       . exact absurd rfl h2
       . exact absurd rfl h3
       . rfl
 . rintro Γ M' ⟨o4,o5,S,rfl,kp,gd,nm,hS⟩
   dsimp only at hS
   rw[List.length_map,List.take_length]at hS
   exact b3a kp (er.trans hS) q
theorem comp1{X:Cx}{scope:Scope}{Nc:List Str}{n j:Nat}{x:Str}{c:Addr}(clos:closureFor scope X.env=pure [(x,c)]:=by rfl)(hc:X.env.cells.lookup x=some c:=by rfl)(cell: ∀y∈scope.names,y.2≠ .cell:=by decide+kernel)(kind:scope.kind= .function:=by rfl)
   (names: ∀x∈scope.names,x.2= .local->scope.names.lookup x.1=some .local:=by decide+kernel) (nof: ∀y∈scope.names,y.2= .free->y.1=x:=by decide+kernel)
   (hx : (relabel scope X.env).names.lookup x = some .cell := by rfl) (hd : X.env.scope.names.lookup x = some .cell := by rfl) (hN : X.N[j]? = some x := by rfl) (hNc : Nc[n]? = some x := by rfl) (len : n + 1 = Nc.length := by rfl) : CompOk X scope [(x, c)] Nc (jsOf n [j]) := by
 have look: ∀{l:List (Str×NameKind)}{z:Str}{k:NameKind},l.lookup z=some k->(z,k)∈l:=by
   intro l z k h
   induction l with
   |nil=>cases h
   |cons a l ih=>
     rw[List.lookup_cons]at h
     split at h
     . rename_i e
       cases h
       have e:z=a.1:=by simpa using e
       rw[e];exact List.mem_cons_self
     . exact List.mem_cons_of_mem _ (ih h)
 have one: ∀{z:Str}{d:Addr},([(x,c)]:List (Str×Addr)).lookup z=some d->z=x/\d=c:=by
   intro z d h
   rw[List.lookup_cons]at h
   split at h
   . rename_i e
     cases h
     exact⟨by simpa using e,rfl⟩
   . cases h
 have self:([(x,c)]:List (Str×Addr)).lookup x=some c:=by simp[List.lookup_cons]
 refine⟨clos,fun z d h=> ?_,cell,kind,names,fun z h=> ?_,by simp[jsOf,len],fun k j' h=> ?_⟩
 . obtain⟨rfl,rfl⟩:=one h;exact hc
 . have key : ∀ k', (z, k') ∈ (relabel scope X.env).names -> (k' = .cell \/ k' = .free) -> z = x := fun k' hm hk => by
     obtain⟨⟨n',k⟩,h1,h2⟩:=List.mem_map.mp (show(z,k')∈scope.names.map _ from hm)
     dsimp only at h2
     split at h2
     . rename_i hf
       simp only[Bool.and_eq_true,beq_iff_eq]at hf
       cases h2
       exact nof _ h1 hf.1.1
     . cases h2
       rcases hk with rfl |rfl
       . exact absurd rfl (cell _ h1)
       . exact nof _ h1 rfl
   have:z=x:=by
     rcases h with h |h
     . exact key _ (look h) (.inl rfl)
     . exact key _ (look h) (.inr rfl)
   subst this
   exact⟨c,self⟩
 . unfold jsOf at h
   by_cases hk:k<n
   . rw[List.getElem?_append_left (by simpa using hk),List.getElem?_replicate,if_pos hk]at h
     cases h
   . rw[List.getElem?_append_right (by simp;omega)]at h
     simp only[List.length_replicate,List.map_cons,List.map_nil]at h
     have hk0:k- n=0:=by
       cases hh:k- n with
       |zero=>rfl
       |succ m=>rw[hh]at h;simp at h
     rw[hk0]at h
     have h:j=j':=by simpa using h
     subst h
     have:k=n:=by omega
     subst this
     exact⟨x,c,hNc,hN,hd,self,hx⟩
def Holds(M:Mem)(d:D)(l:List D):Prop:=d= .lst l\/ ∃q,d= .obj q/\M q=some (.lst l)
theorem Holds.dr{M M':Mem}{d:D}{l:List D}(h:Holds M d l)(s:L2.Sub M M'):L2.dr M' d=some l:=by
 rcases h with rfl | ⟨q,rfl,e⟩
 . rfl
 . simp only[L2.dr,s _ _ e]
theorem Holds.up{M M':Mem}{d:D}{l:List D}(h:Holds M d l)(s:L2.Sub M M'):Holds M' d l:=by
 rcases h with rfl | ⟨q,rfl,e⟩
 . exact .inl rfl
 . exact .inr ⟨q,rfl,s _ _ e⟩
theorem b4b{M:Mem}{d:D}{l:List D}{Q:AK}(hd:Holds M d l)(h:shD (.lst l)=true)(q:Q (.bl false) M):oEq true (.lst l) d M Q:=by
 rcases hd with rfl | ⟨a,rfl,e⟩
 . exact a91 h q
 . have e1:drf M (.obj a)= .lst l:=by simp only[drf,e]
   refine⟨.inr ⟨h,by rw[e1];exact h⟩,?_⟩
   have e2:eqB M (.lst l) (.lst l)=true:=b0f h
   have e3:eqB M (.lst l) (.obj a)=true:=by
     unfold eqB at e2 |-
     rw[e1]
     exact e2
   rw[e3];exact q
theorem b4x{n:Nat}{fs:List Nat}{tl te:AE}{gt:AGt}{Γ:G}{M:Mem}{Q:AK}{d:D}(ds:List D)(f:D->D)(ow:D->G)(htl: ∀R:AK,R d M->tl Γ M R)(hd: ∀M',L2.Sub M M'->dr M' d=some ds)(hn:ds.length<=1000)(how: ∀x∈ds,(ow x).length=n)
   (hg: ∀x∈ds,∀own:G,own.length=n-> ∀(M':Mem) (R:G->Mem->Prop),R (ow x++frG fs Γ) M'->gt x (own++frG fs Γ) M' R) (he: ∀x∈ds,∀(M':Mem),L2.Sub M M'-> ∀(R:AK),R (f x) M'->te (ow x++frG fs Γ) M' R)
   (q:Q (.lst (ds.map f)) M):aFz (a2x n fs (iaL tl) gt aYes te) Γ M Q:=by
 refine htl _ ?_
 dsimp only
 rw[hd M (.refl M)]
 refine⟨fun i=>some (f (ds.getD i .non)),hn,fun M' hs=>⟨hd M' hs,fun i hi own ho=> ?_⟩,fun p hp=> ?_⟩
 . have hi':i<ds.length:=hi
   have em:ds.getD i .non∈ds:=by rw[List.getD_eq_getElem?_getD,List.getElem?_eq_getElem hi'];exact List.getElem_mem hi'
   refine hg _ em own ho M' _ ⟨rfl,⟨_,how _ em,rfl⟩,rfl,?_⟩
   rw[if_pos rfl]
   exact he _ em M' hs _ ⟨rfl,rfl⟩
 . have e:outs (fun i=>some (f (ds.getD i .non))) ds.length=ds.map f:=by
     rw[a3k]
     refine List.ext_getElem (by simp) fun i h1 h2=> ?_
     have h3:i<ds.length:=by simpa using h2
     rw[List.getElem_map,List.getElem_map,List.getElem_range,List.getD_eq_getElem?_getD,List.getElem?_eq_getElem h3];rfl
   try dsimp only
   rw[a0d]
   try dsimp only
   rw[a3a hp,e];exact q
noncomputable def owJ:D->G
 | .tup [a,b,c,d]=>[some a,some b,some c,some d]
 |_=>[]
noncomputable def fJ:D->D
 | .tup [.int i,.str k,.str a,.str b]=> .str (rowJ (i,k,a,b))
 |_=> .non
theorem own4{own:G}(h:own.length=4): ∃a b c d,own=[a,b,c,d]:=by
 match own,h with
 | [a,b,c,d],_=>exact⟨a,b,c,d,rfl⟩
def a6r:SpA:=fun ds M Q _=> ∃S wl,ds=[wl,.lst (S.js.map eJ)]/\Holds M wl (S.ws.map eW)/\Good S/\Q (.str (a3e S)) M
theorem a7y{f:Addr}{fd:FuncData}(Fn:Fun K "_law_shown" "_law_shown" a22 f fd)(T:Txt K mg):FnOk P w K mg base (CXE P w) 1 f fd ["_law_wheels","_law_joins"] (a0m K a6r):=by
 refine Fn.okA sc_law_shown (fun ds M Q E h=> ?_) ?_
 . obtain⟨_,_,rfl,_⟩:=h;rfl
 intro cdv A outer s H E F0 ds M Q Ea hr ct hsp
 obtain⟨S,wl,rfl,hw,gd,q⟩:=hsp
 refine⟨_,(a0b (sCompZ (i:=2) sc_law_shown.nd rfl rfl (Nc:=["_law_name_here","_law_teeth_here"]) (n:=2) (fs:=[]) a8g rfl (a2l (paV (pv 0))) (fun _ _ _ _ _=>(b0s (n:=2) rfl (a08 (a0t (i:=0) (show List.Nodup (["_law_name_here","_law_teeth_here"]:List Str)by decide+kernel) rfl (Or.inl rfl)) (a08 (a0t (i:=1) (show List.Nodup (["_law_name_here","_law_teeth_here"]:List Str)by decide+kernel) rfl (Or.inl rfl)) a58)))) (fun _ _ _ _ _=>a69) (fun _ _ _ _ _=>(paOp a0f lAdd (paOp a0f lAdd (paV (pv 0)) paS) (a2c a5q lStrI (by rfl) T.str boot_str (a0a (paV (pv 1)) a0e)))) (by rfl))
     (a0g (sRet (paBM PySem.F.plainAttrs_str PySem.F.slot_str_join PySem.F.type_str_join a89 lJoin paS (a0a (paOp a38 lCat (paV (pv 2)) (paFz (a5b (Nc:=["_law_number","_law_kind","_law_one","_law_other"]) (n:=4) (fs:=[]) a8g rfl (a2l (paV (pv 1))) (fun _ _ _ _ _=>(b0s (n:=4) rfl (a08 (a0t (i:=0) (show List.Nodup (["_law_number","_law_kind","_law_one","_law_other"]:List Str)by decide+kernel) rfl (Or.inl rfl)) (a08 (a0t (i:=1) (show List.Nodup (["_law_number","_law_kind","_law_one","_law_other"]:List Str)by decide+kernel) rfl (Or.inl rfl)) (a08 (a0t (i:=2) (show List.Nodup (["_law_number","_law_kind","_law_one","_law_other"]:List Str)by decide+kernel) rfl (Or.inl rfl)) (a08 (a0t (i:=3) (show List.Nodup (["_law_number","_law_kind","_law_one","_law_other"]:List Str)by decide+kernel) rfl (Or.inl rfl)) a58)))))) (fun _ _ _ _ _=>a69) (fun _ _ _ _ _=>(paOp a0f lAdd (paOp a0f lAdd (paOp a0f lAdd (paOp a0f lAdd (paV (pv 2)) paS) (paV (pv 1))) paS) (paV (pv 3))))))) a0e))))),?_⟩
 have lb:(" ":Str).length=1:=by decide+kernel
 have nw:=gd.nw
 have nj:=gd.nj
 refine cut1 (fun Γ' M1=>M1=M/\Γ'=[some wl,some (.lst (S.js.map eJ)),some (.lst ((S.ws.map rowW).map D.str))]) ?_ ?_
 rotate_left
 . intro rest hrest
   unfold aSeq aSet
   refine b4x (d:=wl) (S.ws.map eW) fW owW (fun R h=> ?_) (fun M' s=>hw.dr s) (by rw[List.length_map];omega) (fun x hx=> ?_) (fun x hx own ho M' R h=> ?_) (fun x hx M' _ R h=> ?_) ?_
   . exact h
   . obtain⟨w',_,rfl⟩:=List.mem_map.mp hx;rfl
   . obtain⟨w',_,rfl⟩:=List.mem_map.mp hx
     obtain⟨a,b,rfl⟩:=own2 ho
     simp! only[eW,a9f,a5m,gaNil]
     exact h
   . obtain⟨w',hw',rfl⟩:=List.mem_map.mp hx
     obtain⟨n,t⟩:=w'
     have nl:=a1p (gd.names _ hw')
     have tl:=gd.teeth _ hw'
     have il:=(a1v tl.1 tl.2).2.2.1
     dsimp only at nl tl il
     simp! only[eW,owW,List.cons_append,List.nil_append,oStrI,a4k,lb]
     exact⟨kM (by omega),a92 tl.1 tl.2,kM (by omega),h⟩
   . refine hrest _ _ ⟨rfl,?_⟩
     rw[List.map_map,List.map_map];rfl
 rintro Γ' M1 ⟨rfl,rfl⟩
 obtain⟨s1,s2⟩:=a2n gd
 refine retV (.str (a3e S)) _ (fun R h=> ?_) (.now q)
 simp only[aBM,aC,a2d,a55,aOp,aV,List.getElem?_cons_zero,List.getElem?_cons_succ]
 refine⟨trivial,?_⟩
 refine b4x (d:= .lst (S.js.map eJ)) (S.js.map eJ) fJ owJ (fun R h=> ?_) (fun M' _=>rfl) (by rw[List.length_map];omega) (fun x hx=> ?_) (fun x hx own ho M' R h=> ?_) (fun x hx M' _ R h=> ?_) ?_
 . exact h
 . obtain⟨w',_,rfl⟩:=List.mem_map.mp hx;rfl
 . obtain⟨w',_,rfl⟩:=List.mem_map.mp hx
   obtain⟨a,b,c,d,rfl⟩:=own4 ho
   simp! only[eJ,a9f,a5m,gaNil]
   exact h
 . obtain⟨j,hj,rfl⟩:=List.mem_map.mp hx
   obtain⟨k1,k2,k3,_⟩:=gd.kinds _ hj
   have l1:=a1p (gd.isN k2)
   have l2:=a1p (gd.isN k3)
   have l3:=(a3n k1).2
   simp! only[eJ,owJ,List.cons_append,List.nil_append,a4k,lb]
   refine⟨kM (by omega),kM (by omega),kM (by omega),kM (by omega),h⟩
 . have e:(S.ws.map rowW).map D.str++(S.js.map eJ).map fJ=(a1o S).map D.str:=by
     unfold a1o
     rw[List.map_append,List.map_map,List.map_map,List.map_map];rfl
   simp! only[oJoin,e,a4r]
   refine⟨by simp only[List.length_map];omega,s1,s2,h⟩
theorem gd2{n:Nat}{a b:D}(h1:Gd n a)(h2:Gd n b):Gd (n+1) (.tup [a,b]):= .tup _ _ fun d hd=>by
 rcases List.mem_cons.mp hd with rfl |hd
 . exact h1
 . rcases List.mem_cons.mp hd with rfl |hd
   . exact h2
   . cases hd
theorem Good.gw{S:TS}(g:Good S):Gd 2 (.lst (S.ws.map eW)):= .lst _ _ fun d hd=>by
 obtain⟨x,hx,rfl⟩:=List.mem_map.mp hd
 exact gd2 (.str _ _ (a88 (g.names x hx))) (.int _ _)
theorem Good.gj{S:TS}(g:Good S):Gd 2 (.lst (S.js.map eJ)):= .lst _ _ fun d hd=>by
 obtain⟨x,hx,rfl⟩:=List.mem_map.mp hd
 obtain⟨h1,h2,h3,_⟩:=g.kinds x hx
 refine .tup _ _ fun e he=> ?_
 simp only[List.mem_cons,List.not_mem_nil,or_false]at he
 rcases he with rfl |rfl |rfl |rfl
 . exact .int _ _
 . exact .str _ _ (kind_ok h1)
 . exact .str _ _ (a88 (g.isN h2))
 . exact .str _ _ (a88 (g.isN h3))
def a6q(C:Addr):SpA:=fun ds M Q _=> ∃p d1 d2 S wl,ds=[.obj p,wl,.lst (S.js.map eJ)]/\Tr C M p d1 d2 S/\Good S/\Holds M wl (S.ws.map eW)/\Q (.bl true) M
theorem a7z{f C:Addr}{fd:FuncData}(Fn:Fun K "_law_right" "_law_right" a23 f fd)(T:Txt K mg)(h_wheels:HasM P w K mg base (CXE P w) 1 C "wheels" ["self"] (a0m K (a3b C)))(h_joins:HasM P w K mg base (CXE P w) 1 C "joins" ["self"] (a0m K (a4y C)))
   (h_law_whole:Has P w K mg base (CXE P w) 1 "_law_whole" ["_law_found"] (a0m K a6o)) (h_shown:Has P w K mg base (CXE P w) 2 "shown" ["train"] (a0m K (a4w C))) (h_law_shown:Has P w K mg base (CXE P w) 1 "_law_shown" ["_law_wheels","_law_joins"] (a0m K a6r)):
   FnOk P w K mg base (CXE P w) 3 f fd ["_law_train","_law_wheels","_law_joins"] (a0m K (a6q C)):=by
 refine Fn.okA sc_law_right (fun ds M Q E h=> ?_) ?_
 . obtain⟨_,_,_,_,_,rfl,_⟩:=h;rfl
 intro cdv A outer s H E F0 ds M Q Ea hr ct hsp
 obtain⟨p,d1,d2,S,wl,rfl,tr,gd,hw,q⟩:=hsp
 refine⟨_,(a0b (sIf ((pwOr (a0s (op_nes (un64 ct)) lNe (paFz (a30 h_wheels (hr.mono (by decide)) ct (paV (pv 0)))) (paV (pv 1)) (a0o _)) (a26 (a0s (op_nes (un64 ct)) lNe (paFz (a30 h_joins (hr.mono (by decide)) ct (paV (pv 0)))) (paV (pv 2)) (a0o _))))).pt
       (a0g (sRet paB))
       a0y)
     (a0b (sFor ct (a2l (paFz (a30 h_wheels (hr.mono (by decide)) ct (paV (pv 0))))) (b0s rfl (a08 (a0t (i:=3) sc_law_right.nd rfl (Or.inl rfl)) (a08 (a0t (i:=4) sc_law_right.nd rfl (Or.inl rfl)) a58)))
       (a0g (sIf ((pwOr (a46 (ptV (a6d (T:="str") (x:="str") (by decide) (by rfl) T.isinstance (by rfl) T.str boot_str (paV (pv 3))))) (a26 (a46 (ptV (a1d h_law_whole (hr.mono (by decide)) (by rfl) ct (a0a (paV (pv 4)) a0e))))))).pt
         (a0g (sRet paB))
         a0y)))
     (a0b (sFor ct (a2l (paFz (a30 h_joins (hr.mono (by decide)) ct (paV (pv 0))))) (b0s rfl (a08 (a0t (i:=5) sc_law_right.nd rfl (Or.inl rfl)) (a08 (a0t (i:=6) sc_law_right.nd rfl (Or.inl rfl)) (a08 (a0t (i:=7) sc_law_right.nd rfl (Or.inl rfl)) (a08 (a0t (i:=8) sc_law_right.nd rfl (Or.inl rfl)) a58)))))
       (a0g (sIf ((pwOr (a46 (ptV (a1d h_law_whole (hr.mono (by decide)) (by rfl) ct (a0a (paV (pv 5)) a0e)))) (pwOr (a46 (ptV (a6d (T:="str") (x:="str") (by decide) (by rfl) T.isinstance (by rfl) T.str boot_str (paV (pv 6))))) (a26 (a46 (ptV (a6d (T:="str") (x:="str") (by decide) (by rfl) T.isinstance (by rfl) T.str boot_str (paV (pv 7))))))))).pt
         (a0g (sRet paB))
         a0y)))
     (a0b (sSet (i:=9) sc_law_right.nd rfl (Or.inl rfl) (a1d h_shown (hr.mono (by decide)) (by rfl) ct (a0a (paV (pv 0)) a0e)))
     (a0g (sRet (b36 (a6d (T:="str") (x:="str") (by decide) (by rfl) T.isinstance (by rfl) T.str boot_str (paV (pv 9))) (b35 (paCmp (a1e (un64 ct)) lEq (paV (pv 9)) (a1d h_law_shown (hr.mono (by decide)) (by rfl) ct (a0a (paV (pv 1)) (a0a (paV (pv 2)) a0e))) (a0o _)))))))))),?_⟩
 refine a10 (fun R h=> ?_) ?_
 . simp only[aOr,aT,aOp]
   refine a45 tr (fun R h=>h) ?_
   simp! only[]
   refine b4b hw gd.gw.sh ?_
   simp! only[]
   refine a6w tr (fun R h=>h) ?_
   try simp! only[]
   exact a91 gd.gj.sh h
 have eb:(!("str":String)== "str")=false:=by decide
 refine cut1 (fun Γ' M1=>M1=M/\ ∃a b c d e g,Γ'=[some (.obj p),some wl,some (.lst (S.js.map eJ)),a,b,c,d,e,g,none]) ?_ ?_
 rotate_left
 . intro rest hrest
   refine forLs (d:= .lst (S.ws.map eW)) (ds:=S.ws.map eW) (fun R h=>by exact a45 tr (fun R h=>h) h) rfl ?_
   refine LoopP.by2 (fun i Γ M'=>M'=M/\ ∃a b c d e g,Γ=[some (.obj p),some wl,some (.lst (S.js.map eJ)),a,b,c,d,e,g,none]) ⟨rfl,_,_,_,_,_,_,rfl⟩ (fun _ _ _ _=>rfl) ?_ ?_
   . rintro E' i Γ M' hrt hi hnx ⟨rfl,a,b,c,d,e,g,rfl⟩
     dsimp only at hi
     have hi':i<S.ws.length:=by simpa using hi
     simp! only[a2s S.ws eW i hi',eW,a9f,a5m,gaNil,b3j,a8a,a39,a6o]
     refine⟨rfl,_,rfl,rfl,?_⟩
     simp only[isInt,Bool.not_true,Bool.false_eq_true,if_false]
     exact hnx _ _ ⟨rfl,_,_,_,_,_,_,rfl⟩
   . rintro Γ M' ⟨rfl,a,b,c,d,e,g,rfl⟩
     exact hrest _ _ ⟨rfl,_,_,_,_,_,_,rfl⟩
 rintro Γ' M1 ⟨rfl,a,b,c,d,e,g,rfl⟩
 refine cut1 (fun Γ' M2=>M2=M1/\ ∃a b c d e g,Γ'=[some (.obj p),some wl,some (.lst (S.js.map eJ)),a,b,c,d,e,g,none]) ?_ ?_
 rotate_left
 . intro rest hrest
   refine forLs (d:= .lst (S.js.map eJ)) (ds:=S.js.map eJ) (fun R h=>by exact a6w tr (fun R h=>h) h) rfl ?_
   refine LoopP.by2 (fun i Γ M'=>M'=M1/\ ∃a b c d e g,Γ=[some (.obj p),some wl,some (.lst (S.js.map eJ)),a,b,c,d,e,g,none]) ⟨rfl,_,_,_,_,_,_,rfl⟩ (fun _ _ _ _=>rfl) ?_ ?_
   . rintro E' i Γ M' hrt hi hnx ⟨rfl,a,b,c,d,e,g,rfl⟩
     dsimp only at hi
     have hi':i<S.js.length:=by simpa using hi
     simp! only[a2s S.js eJ i hi',eJ,a9f,a5m,gaNil,b3j,a8a,a39,a6o]
     refine⟨rfl,_,rfl,rfl,?_⟩
     simp only[isInt,Bool.not_true,Bool.false_eq_true,if_false,eb]
     exact hnx _ _ ⟨rfl,_,_,_,_,_,_,rfl⟩
   . rintro Γ M' ⟨rfl,a,b,c,d,e,g,rfl⟩
     exact hrest _ _ ⟨rfl,_,_,_,_,_,_,rfl⟩
 rintro Γ' M2 ⟨rfl,a,b,c,d,e,g,rfl⟩
 refine seqV (.str (a3e S)) M2 (fun R h=>⟨p,d1,d2,S,rfl,tr,gd,h⟩) ?_
 simp only[List.set_cons_zero,List.set_cons_succ]
 refine retV (.bl true) M2 (fun R h=> ?_) (.now q)
 simp! only[b3j,a8a,a39,a6r]
 have eb':(("str":String)== "str")=true:=by decide
 simp only[eb',if_true]
 refine⟨S,wl,rfl,hw,gd,?_⟩
 simp! only[decide_true]
 exact h
def a3s:SpA:=fun ds M Q _=> ∃S:TS,ds=[.lst (S.js.map eJ)]/\S.js.length<=200/\Q (.lst ((a25 S).js.map eJ)) M
theorem a5d{f:Addr}{fd:FuncData}(Fn:Fun K "_law_numbered" "_law_numbered" a1x f fd)(T:Txt K mg):FnOk P w K mg base (CXE P w) 1 f fd ["_law_joins"] (a0m K a3s):=by
 refine Fn.okA a4z (fun ds M Q E h=> ?_) ?_
 . obtain⟨_,rfl,_⟩:=h;rfl
 intro cdv A outer s H E F0 ds M Q Ea hr ct hsp
 obtain⟨S,rfl,hj,q⟩:=hsp
 refine⟨_,(a0g (sRet (paFz (a5b (Nc:=["_law_k","_law_joins"]) (n:=1) (fs:=[0]) comp1 rfl (a64 rfl T.range (a0a (a0r a0j lLen (by rfl) T.len PySem.boot_len (a0a (paV (pv 0)) a0e)) a0e)) (fun _ _ _ _ _=>(a0t (i:=0) (show List.Nodup (["_law_k","_law_joins"]:List Str)by decide+kernel) rfl (Or.inl rfl))) (fun _ _ _ _ _=>a69) (fun _ _ _ _ _=>(b2e (a0a (paV (pv 0)) (a0a (paIx a0n lIx (paIx a0n lIx (paV (pv 1)) (paV (pv 0)) (fun _ _=>rfl)) paI (fun _ _=>rfl)) (a0a (paIx a0n lIx (paIx a0n lIx (paV (pv 1)) (paV (pv 0)) (fun _ _=>rfl)) paI (fun _ _=>rfl)) (a0a (paIx a0n lIx (paIx a0n lIx (paV (pv 1)) (paV (pv 0)) (fun _ _=>rfl)) paI (fun _ _=>rfl)) a0e)))))))))),?_⟩
 simp! only[aFz,a2x,frG,List.length_map]
 refine⟨by omega,by omega,fun i=>some (((a25 S).js.map eJ).getD i .non),by show(Int.toNat _)<=1000;omega,fun M' _ i hi own ho=> ?_,fun p hp=> ?_⟩
 . obtain⟨o,rfl⟩:=own1 ho
   have hi':i<S.js.length:=by
     have hi:i<Int.toNat (S.js.length:Int):=hi
     omega
   refine⟨⟨[some _],rfl,rfl⟩,?_⟩
   have e1:atI (S.js.map eJ) (i:Int)=some (eJ S.js[i]):=a1n (by rw[List.getElem?_map,List.getElem?_eq_getElem hi'];rfl)
   simp! only[e1,eJ,Option.join_some]
   refine⟨by decide,?_⟩
   have hr':i< (a25 S).js.length:=by show i< (S.js.mapIdx _).length;rw[List.length_mapIdx];exact hi'
   have e5:(a25 S).js[i]=((i:Int),(S.js[i]).2):=by simp[a25]
   rw[a2s (a25 S).js eJ i hr',e5]
   rfl
 . simp only[a0d,a3a hp]
   refine .now ?_
   rw[a3k]
   have e:(List.range (Int.toNat (S.js.length:Int))).map (fun i=>((a25 S).js.map eJ).getD i .non)=(a25 S).js.map eJ:=by
     refine List.ext_getElem (by simp[a25]) fun i h1 h2=> ?_
     rw[List.getElem_map,List.getElem_range,List.getD_eq_getElem?_getD,List.getElem?_eq_getElem h2];rfl
   rw[e];exact q
theorem a8f(ds:List D)(k:Nat):cut ds none (some (k:Int))=ds.take k:=by
 unfold cut
 rw[HT.sIx_none,HT.sIx_nat,Nat.sub_zero,List.drop_zero]
 by_cases h:k<=ds.length
 . rw[Nat.min_eq_left h]
 . rw[Nat.min_eq_right (by omega),List.take_length,List.take_of_length_le (by omega)]
theorem a7c(ds:List D)(k:Nat):cut ds (some (k:Int)) none=ds.drop k:=by
 unfold cut
 rw[HT.sIx_none,HT.sIx_nat]
 by_cases h:k<=ds.length
 . rw[Nat.min_eq_left h,List.take_of_length_le (by rw[List.length_drop];omega)]
 . rw[Nat.min_eq_right (by omega),List.drop_length,List.take_nil,List.drop_eq_nil_of_le (by omega)]
theorem b0b: ∀(js:List (Int×Str×Str×Str)) (o k:Nat),(∀i (h:i<js.length),(js[i]).1=((o+i:Nat):Int))->k<js.length->js.filter (fun j=>decide (j.1≠((o+k:Nat):Int)))=js.take k++js.drop (k+1)
 | [],_,_,_,h=>absurd h (Nat.not_lt_zero _)
 |j::js,o,k,hn,hk=>by
   have h0:j.1=((o+0:Nat):Int):=hn 0 (Nat.zero_lt_succ _)
   have hn': ∀i (h:i<js.length),(js[i]).1=((o+1+i:Nat):Int):=fun i h=>by
     have:=hn (i+1) (Nat.succ_lt_succ h)
     rw[List.getElem_cons_succ]at this
     rw[this];congr 1;omega
   cases k with
   |zero=>
     rw[List.filter_cons,if_neg (by rw[h0];simp)]
     show js.filter _=[]++js
     rw[List.nil_append,List.filter_eq_self]
     intro x hx
     obtain⟨i,hi,rfl⟩:=List.getElem_of_mem hx
     rw[hn' i hi]
     exact decide_eq_true (by omega)
   |succ k=>
     rw[List.filter_cons,if_pos (by rw[h0];exact decide_eq_true (by omega))]
     have:=b0b js (o+1) k hn' (by rw[List.length_cons]at hk;omega)
     rw[show o+1+k=o+(k+1)by omega]at this
     rw[this];rfl
theorem b4n{S:TS}(n:Num S){k:Nat}(h:k<S.js.length):S.hasJ (k:Int)=true:=by
 unfold TS.hasJ
 rw[List.any_eq_true]
 exact⟨S.js[k],List.getElem_mem h,decide_eq_true (n.at' k h)⟩
noncomputable def b09(S:TS)(k:Nat):TS:=⟨S.ws,S.js.take k++S.js.drop (k+1),S.nx⟩
theorem a93{S:TS}{k:Nat}: ∀j∈(b09 S k).js,j∈S.js:=fun j hj=>by
 rcases List.mem_append.mp hj with hj |hj
 . exact List.mem_of_mem_take hj
 . exact List.mem_of_mem_drop hj
theorem b2p{S:TS}(g:Good S)(k:Nat):Good (b09 S k):=by
 refine g.lessJ ?_ (fun j hj=>⟨j,a93 (S:=S) (k:=k) j hj,rfl⟩) _
 show(S.js.take k++S.js.drop (k+1)).length<=S.js.length
 rw[List.length_append,List.length_take,List.length_drop]
 omega
theorem a72{d1 d2:Addr}{n:Int}:(fsT d1 d2 n).lookup ("take_join":Str)=none:=rfl
theorem a73{d1 d2:Addr}{n:Int}:(fsT d1 d2 n).lookup ("put_wheel":Str)=none:=rfl
structure Apart(p d1 d2 p' e1 e2:Addr):Prop where
 a: ∀x,x=p'\/x=e1\/x=e2->x≠p/\x≠d1/\x≠d2
theorem apart{C:Addr}{M:Mem}{p d1 d2 p' e1 e2:Addr}{S:TS}(tr:Tr C M p d1 d2 S)(h0:M p'=none)(h1:M e1=none)(h2:M e2=none):Apart p d1 d2 p' e1 e2:=⟨fun x hx=>by
 have hn:M x=none:=by rcases hx with rfl |rfl |rfl<;>assumption
 refine⟨?_,?_,?_⟩
 . rintro rfl;rw[tr.self]at hn;cases hn
 . rintro rfl;rw[tr.teeth]at hn;cases hn
 . rintro rfl;rw[tr.join]at hn;cases hn⟩
theorem Tr.rest{C:Addr}{M M':Mem}{p d1 d2 p' e1 e2:Addr}{S:TS}(tr:Tr C M p' e1 e2 S)(ap:Apart p d1 d2 p' e1 e2)(b: ∀a,a≠p->a≠d1->a≠d2->M' a=M a):Tr C M' p' e1 e2 S:=by
 obtain⟨x1,x2,x3⟩:=ap.a p' (.inl rfl)
 obtain⟨y1,y2,y3⟩:=ap.a e1 (.inr (.inl rfl))
 obtain⟨z1,z2,z3⟩:=ap.a e2 (.inr (.inr rfl))
 exact tr.far (b _ x1 x2 x3) (b _ y1 y2 y3) (b _ z1 z2 z3)
theorem Tr.take{C:Addr}{M:Mem}{p d1 d2:Addr}{S:TS}(tr:Tr C M p d1 d2 S)(n:Num S){k:Nat}(h:k<S.js.length):Tr C (put M d2 (.dic (dJ (S.js.filter fun j=>decide (j.1≠(k:Int)))))) p d1 d2 (b09 S k):=by
 have e:=b0b S.js 0 k (fun i hi=>by rw[n.at' i hi];congr 1;omega) h
 rw[Nat.zero_add]at e
 rw[e]
 exact⟨by rw[a0h tr.n2];exact tr.self,by rw[a0h tr.ne];exact tr.teeth,a0d,tr.ne,fun j hj=>tr.lt j (a93 (S:=S) (k:=k) j hj)⟩
def a8p(C:Addr):SpA:=fun ds M Q _=> ∃p d1 d2 S n,ds=[.obj p,.lst (S.ws.map eW),.lst (S.js.map eJ),.int n]/\Tr C M p d1 d2 S/\Good S/\Num S/\ ∀M',Q (.bl true) M'
theorem b2l(S:TS):(S.ws.map eW).map (fun d=>match d with | .tup (x::_)=>x |_=> .non)=(S.ws.map Prod.fst).map D.str:=by
 rw[List.map_map,List.map_map];rfl
theorem a7w{f C CT:Addr}{fd:FuncData}{EC:Rk->Addr}(Fn:Fun K "_law_twice" "_law_twice" a20 f fd)(T:Txt K mg)(h_read:Has P w K mg base (CXE P w) 4 "read" ["text"] (a0m K (a4x C CT)))(h_shown:Has P w K mg base (CXE P w) 2 "shown" ["train"] (a0m K (a4w C)))
   (h_law_right:Has P w K mg base (CXE P w) 3 "_law_right" ["_law_train","_law_wheels","_law_joins"] (a0m K (a6q C))) (h_law_numbered:Has P w K mg base (CXE P w) 1 "_law_numbered" ["_law_joins"] (a0m K a3s))
   (h_take_join:HasM P w K mg base (CXE P w) 2 C "take_join" ["self","number"] (a0m K (a6p C EC))) (h_put_wheel:HasM P w K mg base (CXE P w) 2 C "put_wheel" ["self","name","teeth"] (a0m K (a6b C EC))):
   FnOk P w K mg base (CXE P w) 5 f fd ["_law_train","_law_wheels","_law_joins","_law_number"] (a0m K (a8p C)):=by
 refine Fn.okA sc_law_twice (fun ds M Q E h=> ?_) ?_
 . obtain⟨_,_,_,_,_,rfl,_⟩:=h;rfl
 intro cdv A outer s H E F0 ds M Q Ea hr ct hsp
 obtain⟨p,d1,d2,S,n,rfl,tr,gd,nm,q⟩:=hsp
 refine⟨_,(a0b (sSet (i:=4) sc_law_twice.nd rfl (Or.inl rfl) (a1d h_read (hr.mono (by decide)) (by rfl) ct (a0a (a1d h_shown (hr.mono (by decide)) (by rfl) ct (a0a (paV (pv 0)) a0e)) a0e)))
     (a0b (sIf ((pwOr (a46 (ptV (a1d h_law_right (hr.mono (by decide)) (by rfl) ct (a0a (paV (pv 0)) (a0a (paV (pv 1)) (a0a (paV (pv 2)) a0e)))))) (a26 (a46 (ptV (a1d h_law_right (hr.mono (by decide)) (by rfl) ct (a0a (paV (pv 4)) (a0a (paV (pv 1)) (a0a (paV (pv 2)) a0e))))))))).pt
       (a0g (sRet paB))
       a0y)
     (a0b (sSet (i:=5) sc_law_twice.nd rfl (Or.inl rfl) (a2c a4c lList (by rfl) T.list boot_list (a0a (paV (pv 2)) a0e)))
     (a0b (sIf (a0s a50 lGt (a0r a0j lLen (by rfl) T.len PySem.boot_len (a0a (paV (pv 2)) a0e)) paI (a0o _))
       (a0b (sSet (i:=6) sc_law_twice.nd rfl (Or.inl rfl) (paOp a0v lMod (paV (pv 3)) (a0r a0j lLen (by rfl) T.len PySem.boot_len (a0a (paV (pv 2)) a0e))))
       (a0b (a2u (a9x h_take_join (hr.mono (by decide)) ct (paV (pv 0)) (a0a (paV (pv 6)) a0e)))
       (a0g (sSet (i:=5) sc_law_twice.nd rfl (Or.inl rfl) (paOp a38 lCat (paSl a2w lSl (paV (pv 2)) poN (poS (paV (pv 6)))) (paSl a2w lSl (paV (pv 2)) (poS (paOp a0f lAdd (paV (pv 6)) paI)) poN))))))
       a0y)
     (a0b (sSet (i:=7) sc_law_twice.nd rfl (Or.inl rfl) (a2c a4c lListM (by rfl) T.list boot_list (a0a (paV (pv 1)) a0e)))
     (a0b (sIf ((b13 (a0s a81 lLt (a0r a0j lLen (by rfl) T.len PySem.boot_len (a0a (paV (pv 1)) a0e)) paI (a0o _)) (a7p (a0s a1r a5j paS (paFz (a5b (Nc:=["_law_row"]) (n:=1) (fs:=[]) a8g rfl (a2l (paV (pv 1))) (fun _ _ _ _ _=>(a0t (i:=0) (show List.Nodup (["_law_row"]:List Str)by decide+kernel) rfl (Or.inl rfl))) (fun _ _ _ _ _=>a69) (fun _ _ _ _ _=>(paIx a0n lIx (paV (pv 0)) paI (fun _ _=>rfl))))) (by with_unfolding_all rfl))))).pt
       (a0b (a2u (a9x h_put_wheel (hr.mono (by decide)) ct (paV (pv 0)) (a0a paS (a0a (paOp a6e lSub (paOp a9z lPow paI paI) paI) a0e))))
       (a0g (a2u (paBM PySem.F.plainAttrs_list PySem.F.slot_list_append PySem.F.type_list_append a1b a1z (paV (pv 7)) (a0a (b2e (a0a paS (a0a (paOp a6e lSub (paOp a9z lPow paI paI) paI) a0e))) a0e)))))
       a0y)
     (a0b (sIf ((pwOr (a46 (ptV (a1d h_law_right (hr.mono (by decide)) (by rfl) ct (a0a (paV (pv 0)) (a0a (paV (pv 7)) (a0a (paV (pv 5)) a0e)))))) (a26 (a46 (ptV (a1d h_law_right (hr.mono (by decide)) (by rfl) ct (a0a (a1d h_read (hr.mono (by decide)) (by rfl) ct (a0a (a1d h_shown (hr.mono (by decide)) (by rfl) ct (a0a (paV (pv 0)) a0e)) a0e)) (a0a (paV (pv 7)) (a0a (a1d h_law_numbered (hr.mono (by decide)) (by rfl) ct (a0a (paV (pv 5)) a0e)) a0e))))))))).pt
       (a0g (sRet paB))
       a0y)
     (a0g (sRet (a1d h_law_right (hr.mono (by decide)) (by rfl) ct (a0a (paV (pv 4)) (a0a (paV (pv 1)) (a0a (paV (pv 2)) a0e))))))))))))),?_⟩
 have nw:=gd.nw
 have nj:=gd.nj
 refine cut1 (fun Γ' M1=> ∃p' e1 e2,Γ'=[some (.obj p),some (.lst (S.ws.map eW)),some (.lst (S.js.map eJ)),some (.int n),some (.obj p'),none,none,none]/\Tr C M1 p d1 d2 S/\Tr C M1 p' e1 e2 S/\Apart p d1 d2 p' e1 e2) ?_ ?_
 rotate_left
 . intro rest hrest
   simp! only[a4w,a4x]
   refine⟨p,d1,d2,S,rfl,tr,gd,a3e S,rfl,(a2n gd).2,?_⟩
   rw[a44 gd,b0w nm]
   intro p' e1 e2 M1 h0 h1 h2 sb tr'
   exact hrest _ _ ⟨p',e1,e2,rfl,tr.sub sb,tr',apart tr h0 h1 h2⟩
 rintro Γ' M1 ⟨p',e1,e2,rfl,tr1,tb1,ap⟩
 refine a10 (fun R h=> ?_) ?_
 . simp! only[a6q]
   refine⟨p,d1,d2,S,_,rfl,tr1,gd,.inl rfl,?_⟩
   simp only[Bool.not_true,Bool.false_eq_true,if_false]
   refine⟨p',e1,e2,S,_,rfl,tb1,gd,.inl rfl,h⟩
 refine seqV (.lst (S.js.map eJ)) M1 (fun R h=>by simp! only[oList];exact h) ?_
 simp only[List.set_cons_zero,List.set_cons_succ]
 refine cut1 (fun Γ' M2=> ∃S1 o6,Γ'=[some (.obj p),some (.lst (S.ws.map eW)),some (.lst (S.js.map eJ)),some (.int n),some (.obj p'),some (.lst (S1.js.map eJ)),o6,none]/\S1.ws=S.ws/\Good S1/\Tr C M2 p d1 d2 S1/\Tr C M2 p' e1 e2 S) ?_ ?_
 rotate_left
 . intro rest hrest
   by_cases h0:S.js.length=0
   . refine a10 (fun R h=> ?_) ?_
     . simp! only[List.length_map,decide_eq_false (show ¬ (S.js.length:Int)>0 by omega)]
       exact h
     exact hrest _ _ ⟨S,_,rfl,rfl,gd,tr1,tb1⟩
   refine a3f (fun R h=> ?_) ?_
   . simp! only[List.length_map,decide_eq_true (show(S.js.length:Int)>0 by omega)]
     exact h
   have hp:(0:Int)< (S.js.length:Int):=by omega
   have m1:=Int.emod_nonneg n (show(S.js.length:Int)≠0 by omega)
   have m2:=Int.emod_lt_of_pos n hp
   refine seqV (.int (n % (S.js.length:Int))) M1 (fun R h=>by simp! only[List.length_map];exact⟨hp,h⟩) ?_
   generalize n % (S.js.length:Int)=k at m1 m2 |-
   obtain⟨k,rfl⟩:=Int.eq_ofNat_of_zero_le m1
   have hk:k<S.js.length:=by omega
   simp only[List.set_cons_zero,List.set_cons_succ]
   have hl:refL S (k:Int)=none:=by unfold refL;rw[b4n nm hk];rfl
   refine dropV .non (put M1 d2 (.dic (dJ (S.js.filter fun j=>decide (j.1≠(k:Int)))))) (fun R h=> ?_) ?_
   . simp! only[tr1.self,a72,a6p]
     refine⟨p,d1,d2,S,k,rfl,tr1,?_⟩
     rw[hl];exact h
   refine setV (.lst ((b09 S k).js.map eJ)) (put M1 d2 (.dic (dJ (S.js.filter fun j=>decide (j.1≠(k:Int)))))) (fun R h=> ?_) ?_
   . have e1:(k:Int)+1=((k+1:Nat):Int):=by omega
     simp! only[e1,a8f,a7c,List.length_take,List.length_drop,List.length_map]
     refine⟨by omega,?_⟩
     have e2:(S.js.map eJ).take k++(S.js.map eJ).drop (k+1)=(b09 S k).js.map eJ:=by
       show _=(S.js.take k++S.js.drop (k+1)).map eJ
       rw[List.map_append,List.map_take,List.map_drop]
     rw[e2];exact h
   . simp only[List.set_cons_zero,List.set_cons_succ]
     exact hrest _ _ ⟨b09 S k,_,rfl,rfl,b2p gd k,tr1.take nm hk,tb1.rest ap fun a _ _ h=>a0h h⟩
 rintro Γ' M2 ⟨S1,o6,rfl,ew,gd1,tr2,tb2⟩
 refine cut1 (fun Γ' M3=> ∃m,Γ'=[some (.obj p),some (.lst (S.ws.map eW)),some (.lst (S.js.map eJ)),some (.int n),some (.obj p'),some (.lst (S1.js.map eJ)),o6,some (.obj m)]/\M3=put M2 m (.lst (S.ws.map eW))/\M2 m=none) ?_ ?_
 rotate_left
 . intro rest hrest
   simp! only[oListM]
   intro m hm
   exact hrest _ _ ⟨m,rfl,rfl,hm⟩
 rintro Γ' M3 ⟨m,rfl,rfl,hm⟩
 have tr3:Tr C (put M2 m (.lst (S.ws.map eW))) p d1 d2 S1:=tr2.sub (.put hm)
 have tb3:Tr C (put M2 m (.lst (S.ws.map eW))) p' e1 e2 S:=tb2.sub (.put hm)
 have mp:m≠p:=by rintro rfl;rw[tr2.self]at hm;cases hm
 have md:m≠d1:=by rintro rfl;rw[tr2.teeth]at hm;cases hm
 have mj:m≠d2:=by rintro rfl;rw[tr2.join]at hm;cases hm
 refine cut1 (fun Γ' M4=> ∃S2,Γ'=[some (.obj p),some (.lst (S.ws.map eW)),some (.lst (S.js.map eJ)),some (.int n),some (.obj p'),some (.lst (S2.js.map eJ)),o6,some (.obj m)]/\M4 m=some (.lst (S2.ws.map eW))/\Good S2/\Tr C M4 p d1 d2 S2/\Tr C M4 p' e1 e2 S) ?_ ?_
 rotate_left
 . intro rest hrest
   have step: ∀b:Bool,b=(decide (S.ws.length<100)&& !S.has "zz")-> ∀R:Bool->Mem->Prop,R b (put M2 m (.lst (S.ws.map eW)))->aAnd (aT (aOp oLt (b1g oLen (a55 (aV 1) aNil)) (aC (D.int 100)))) (aT (aOp (oIn true) (aC (D.str "zz")) (aFz (a2x 1 [] (iaL (aV 1)) (gaN 0) aYes (aOp oIx (aV 0) (aC (D.int 0))))))) [some (.obj p),some (.lst (S.ws.map eW)),some (.lst (S.js.map eJ)),some (.int n),some (.obj p'),some (.lst (S1.js.map eJ)),o6,some (.obj m)] (put M2 m (.lst (S.ws.map eW))) R:=by
     intro b hb R h
     simp only[aAnd]
     by_cases hl:S.ws.length<100
     . rw[decide_eq_true hl,Bool.true_and]at hb
       simp! only[List.length_map,decide_eq_true (show(S.ws.length:Int)<100 by omega)]
       refine b4x (d:= .lst (S.ws.map eW)) (S.ws.map eW) (fun d=>match d with | .tup (x::_)=>x |_=> .non) (fun d=>[some d]) (fun R h=> ?_) (fun M' _=>rfl) (by rw[List.length_map];omega) (fun x hx=>rfl) (fun x hx own ho M' R h=> ?_) (fun x hx M' _ R h=> ?_) ?_
       . exact h
       . obtain⟨o,rfl⟩:=own1 ho
         exact h
       . obtain⟨w',_,rfl⟩:=List.mem_map.mp hx
         simp! only[eW,List.cons_append,List.nil_append]
         exact h
       . rw[b2l]
         simp! only[a74]
         rw[<-hb];exact h
     . rw[decide_eq_false hl,Bool.false_and]at hb
       simp! only[List.length_map,decide_eq_false (show ¬ (S.ws.length:Int)<100 by omega)]
       rw[<-hb];exact h
   cases hb:(decide (S.ws.length<100)&& !S.has "zz")with
   |false=>
     refine a10 (fun R h=>step false hb.symm R h) ?_
     exact hrest _ _ ⟨S1,rfl,by rw[a0d,ew],gd1,tr3,tb3⟩
   |true=>
     refine a3f (fun R h=>step true hb.symm R h) ?_
     rw[Bool.and_eq_true]at hb
     have h1:=of_decide_eq_true hb.1
     have h2:S.has "zz"=false:=by simpa using hb.2
     have ev:(10:Int)^(9:Int).toNat- 1=999999999:=by decide
     have cp:CPow 10 9:=⟨by decide,by decide,by decide⟩
     have hr':refW S1 "zz" 999999999=none:=by
       refine a8x (by decide+kernel) (fun z=> ?_) (by decide) (by decide) (by rw[ew];exact h1)
       rw[ew]at z
       rw[a1k]at h2
       exact of_decide_eq_false h2 z
     refine dropV .non (put (put M2 m (.lst (S.ws.map eW))) d1 (.dic (dW (S1.ws++[(("zz":Str),(999999999:Int))])))) (fun R h=> ?_) ?_
     . simp! only[tr3.self,a73,a6b,ev]
       refine⟨cp,p,d1,d2,S1,"zz",999999999,rfl,tr3,by decide+kernel,?_⟩
       rw[hr'];exact h
     refine dropE .non (put (put (put M2 m (.lst (S.ws.map eW))) d1 (.dic (dW (S1.ws++[(("zz":Str),(999999999:Int))])))) m (.lst (S.ws.map eW++[.tup [.str "zz",.int 999999999]]))) (fun R h=> ?_) ?_
     . simp! only[aBM,a2d,a0h md,a0d,oAppend,ev]
       exact⟨cp,by decide,by rw[List.length_map];omega,h⟩
     . refine hrest _ _ ⟨⟨S1.ws++[(("zz":Str),(999999999:Int))],S1.js,S1.nx⟩,rfl,?_,gd1.addW hr',?_,?_⟩
       . rw[a0d,<-ew,List.map_append];rfl
       . exact(tr3.wheel _).far (a0h mp.symm) (a0h md.symm) (a0h mj.symm)
       . refine(tb3.rest ap (M':=put (put M2 m (.lst (S.ws.map eW))) d1 (.dic (dW (S1.ws++[(("zz":Str),(999999999:Int))])))) fun a _ h _=>a0h h).far ?_ ?_ ?_
         . exact a0h (by rintro rfl;rw[tb2.self]at hm;cases hm)
         . exact a0h (by rintro rfl;rw[tb2.teeth]at hm;cases hm)
         . exact a0h (by rintro rfl;rw[tb2.join]at hm;cases hm)
 rintro Γ' M4 ⟨S2,rfl,hm4,gd2',tr4,tb4⟩
 refine cut1 (fun Γ' M5=> ∃o5 o7,Γ'=[some (.obj p),some (.lst (S.ws.map eW)),some (.lst (S.js.map eJ)),some (.int n),some (.obj p'),o5,o6,o7]/\Tr C M5 p' e1 e2 S) ?_ ?_
 rotate_left
 . intro rest hrest
   simp! only[a6q,a4x,a4w,a3s]
   refine⟨p,d1,d2,S2,_,rfl,tr4,gd2',.inr ⟨m,rfl,hm4⟩,?_⟩
   simp only[Bool.not_true,Bool.false_eq_true,if_false]
   refine⟨p,d1,d2,S2,rfl,tr4,gd2',a3e S2,rfl,(a2n gd2').2,?_⟩
   rw[a44 gd2']
   intro p'' f1 f2 M5 _ _ _ sb tr''
   refine⟨S2,rfl,gd2'.nj,p'',f1,f2,a25 S2,_,rfl,tr'',b0x gd2',.inr ⟨m,rfl,sb _ _ hm4⟩,?_⟩
   try simp only[Bool.not_true,Bool.false_eq_true,if_false]
   exact hrest _ _ ⟨_,_,rfl,tb4.sub sb⟩
 rintro Γ' M5 ⟨o5,o7,rfl,tb5⟩
 refine retV (.bl true) M5 (fun R h=>⟨p',e1,e2,S,_,rfl,tb5,gd,.inl rfl,h⟩) (.now (q _))
def b1r(CT:Addr):Addr->SpA:=fun a ds M Q _=>ds=[.obj a]/\ExcM M a (.ref CT)/\Q (.bl true) M
theorem a85{f CT CB CJ:Addr}{fd:FuncData}{EC:Rk->Addr}(Fn:Fun K "_law_only" "_law_only" a2o f fd)(T:Txt K mg)(XK:ExK K mg EC)(XT:ExT K mg EC CT CB CJ):
   FnOkH P w K mg base 1 f fd ["_law_e"] (fun a=>a0m K (b1r CT a)):=by
 refine Fn.okHA sc_law_only (fun a ds M Q E h=> ?_) ?_
 . obtain⟨rfl,_⟩:=h;rfl
 intro cdv A a outer s H E F0 ds M Q Ea hr hh hsp
 obtain⟨rfl,he,q⟩:=hsp
 have hu64:(A.deeper (envOfC "_law_only" (a0c a2o) s.heap.objs.size f cdv)).units+64<cLine:=by have:=hr.un;omega
 have X_NoName:=XK.noName
 have X_Twice:=XK.twice
 have X_NoTeeth:=XK.noTeeth
 have X_Full:=XK.full
 have X_NoWheel:=XK.noWheel
 have X_NoJoin:=XK.noJoin
 refine⟨_,(a0b (sForH .never hh (a31 (a0a (a2j X_Full.bound (by rfl) T.isinstance (by rfl) (paV (pv 0))) (a0a (a2j XT.bJ (by rfl) T.isinstance (by rfl) (paV (pv 0))) (a0a (a2j X_NoJoin.bound (by rfl) T.isinstance (by rfl) (paV (pv 0))) (a0a (a2j X_NoName.bound (by rfl) T.isinstance (by rfl) (paV (pv 0))) a0e))))) (a0t (i:=1) sc_law_only.nd rfl (Or.inl rfl))
       (a0g (sIf (ptV (paV (pv 1)))
         (a0g (sRet paB))
         a0y)))
     (a0b (sIf ((pwOr (ptV (a2j X_NoTeeth.bound (by rfl) T.isinstance (by rfl) (paV (pv 0)))) (pwOr (ptV (a2j X_NoWheel.bound (by rfl) T.isinstance (by rfl) (paV (pv 0)))) (a26 (ptV (a2j X_Twice.bound (by rfl) T.isinstance (by rfl) (paV (pv 0)))))))).pt
       (a0g (sRet paB))
       a0y)
     (a0g (sRet (b36 (a2j XT.bX (by rfl) T.isinstance (by rfl) (paV (pv 0))) (b35 (paInstV (by rfl) T.isinstance (by rfl) T.ValueError a5s (paV (pv 0))))))))),?_⟩
 have L:=XT.look
 refine cut1 (fun Γ' M1=>M1=M/\ ∃o,Γ'=[some (.obj a),o]) ?_ ?_
 rotate_left
 . intro rest hrest
   simp! only[aForH,a8o]
   refine⟨CT,false,he,L,XT.other _,CT,false,he,L,XT.jams,CT,false,he,L,XT.other _,CT,false,he,L,XT.other _,by decide,?_⟩
   refine LoopP.by2 (fun i Γ M'=>M'=M/\ ∃o,Γ=[some (.obj a),o]) ⟨rfl,_,rfl⟩ ?_ ?_ ?_
   . rintro i Γ M' ⟨rfl,_⟩;exact⟨_,he⟩
   . rintro E' i Γ M' hrt hi hnx ⟨rfl,o,rfl⟩
     have hi:i<4:=hi
     have e:([D.bl false,.bl false,.bl false,.bl false]:List D).getD i .non= .bl false:=by
       have:i=0\/i=1\/i=2\/i=3:=by omega
       rcases this with rfl |rfl |rfl |rfl<;>rfl
     simp! only[e]
     exact hnx _ _ ⟨rfl,_,rfl⟩
   . rintro Γ M' ⟨rfl,o,rfl⟩
     exact hrest _ _ ⟨rfl,_,rfl⟩
 rintro Γ' M1 ⟨rfl,o,rfl⟩
 refine a10 (fun R h=> ?_) ?_
 . simp! only[a8o]
   refine⟨CT,false,he,L,XT.other _,?_⟩
   simp! only[]
   refine⟨CT,false,he,L,XT.other _,?_⟩
   simp! only[]
   exact⟨CT,false,he,L,XT.other _,h⟩
 simp! only[a8o]
 refine⟨CT,true,he,L,XT.self,?_⟩
 simp! only[]
 exact⟨CT,true,he,L,XT.value,.now q⟩
theorem a0q(a b:Str):(a++b).length=a.length+b.length:=PySem.Str.length_append a b
theorem a2r(j:Int)(h0:0<=j)(h1:j<26): ∃c,atI ("abcdefghijklmnopqrstuvwxyz":Str).cps.toList j=some c:=by
 obtain⟨k,rfl⟩:=Int.eq_ofNat_of_zero_le h0
 have hk:k< ("abcdefghijklmnopqrstuvwxyz":Str).cps.toList.length:=by
   have:("abcdefghijklmnopqrstuvwxyz":Str).cps.toList.length=26:=by decide+kernel
   omega
 exact⟨_,a1n (List.getElem?_eq_getElem hk)⟩
def b1t:SpA:=fun ds M Q _=> ∃a b,ds=[.int a,.int b]/\ ∀x:Str,x.length<=16->Q (.str x) M
theorem a86{f:Addr}{fd:FuncData}(Fn:Fun K "_law_name" "_law_name" a3y f fd)(T:Txt K mg):FnOk P w K mg base (CXE P w) 1 f fd ["_law_number","_law_spin"] (a0m K b1t):=by
 refine Fn.okA sc_law_name (fun ds M Q E h=> ?_) ?_
 . obtain⟨a,b,rfl,_⟩:=h;rfl
 intro cdv A outer s H E F0 ds M Q Ea hr ct hsp
 obtain⟨a,b,rfl,q⟩:=hsp
 refine⟨_,(a0b (sSet (i:=2) sc_law_name.nd rfl (Or.inl rfl) paS)
     (a0b (sSet (i:=3) sc_law_name.nd rfl (Or.inl rfl) (paOp a0f lAdd paI (paOp a0v lMod (paV (pv 0)) paI)))
     (a0b (sSet (i:=0) sc_law_name.nd rfl (Or.inl rfl) (paOp a1a lDiv (paV (pv 0)) paI))
     (a0b (sSet (i:=4) sc_law_name.nd rfl (Or.inl rfl) paS)
     (a0b (sFor ct (a64 rfl T.range (a0a (paV (pv 3)) a0e)) (a0t (i:=5) sc_law_name.nd rfl (Or.inl rfl))
       (a0b (sSet (i:=4) sc_law_name.nd rfl (Or.inl rfl) (paOp a0f lAdd (paV (pv 4)) (paIx a0n lIx (paV (pv 2)) (paOp a0v lMod (paV (pv 0)) paI) (fun _ _=>rfl))))
       (a0g (sSet (i:=0) sc_law_name.nd rfl (Or.inl rfl) (paOp a1a lDiv (paV (pv 0)) paI)))))
     (a0g (sRet (paOp a0f lAdd (paSl a2w lSl (paV (pv 4)) (poS (paOp a0v lMod (paV (pv 1)) (paV (pv 3)))) poN) (paSl a2w lSl (paV (pv 4)) poN (poS (paOp a0v lMod (paV (pv 1)) (paV (pv 3))))))))))))),?_⟩
 simp! only[]
 have hm:=Int.emod_nonneg a (show(8:Int)≠0 by decide)
 have hm2:=Int.emod_lt_of_pos a (show(0:Int)<8 by decide)
 refine⟨by decide,⟨by decide,by decide⟩,by omega,by omega,?_⟩
 refine LoopP.by (fun i Γ M'=>M'=M/\ ∃(n:Int) (x:Str) (k:Option D),x.length<=i/\Γ=[some (.int n),some (.int b),some (.str "abcdefghijklmnopqrstuvwxyz"),some (.int (1+a % 8)),some (.str x),k]) ⟨rfl,_,"",none,by decide,rfl⟩ (fun _ _ _ _=>trivial) ?_ ?_
 . rintro i Γ M' hi ⟨rfl,n,x,k,hx,rfl⟩
   have h1:=Int.emod_nonneg n (show(26:Int)≠0 by decide)
   have h2:=Int.emod_lt_of_pos n (show(0:Int)<26 by decide)
   obtain⟨c,hc⟩:=a2r (n % 26) h1 h2
   simp! only[hc]
   dsimp only at hi
   refine⟨by decide,by decide+kernel,?_,⟨by decide,by decide⟩,hi,_,_,_,?_,rfl⟩
   . have e:(⟨#[c]⟩:Str).length=1:=rfl
     rw[e];exact a62 (by omega)
   . rw[a0q]
     have e:(⟨#[c]⟩:Str).length=1:=rfl
     rw[e];omega
 . rintro Γ M' ⟨rfl,n,x,k,hx,rfl⟩
   simp! only[oSl]
   dsimp only at hx
   have hx8:x.length<=8:=by omega
   have hl:x.length<=sizeLine:=a62 (by omega)
   refine⟨by omega,hl,by omega,hl,?_,?_⟩
   . have h1:=Txt.slice_le x (some (b % (1+a % 8))) none
     have h2:=Txt.slice_le x none (some (b % (1+a % 8)))
     exact a62 (by omega)
   . refine .now (q _ ?_)
     have h1:=Txt.slice_le x (some (b % (1+a % 8))) none
     have h2:=Txt.slice_le x none (some (b % (1+a % 8)))
     rw[a0q];omega
def a8r:SpA:=fun ds M Q _=> ∃a,ds=[.int a]/\ ∀t:Int,1<=t->t<1000000000->Q (.int t) M
theorem a7x{f:Addr}{fd:FuncData}(Fn:Fun K "_law_teeth" "_law_teeth" a21 f fd):FnOk P w K mg base (CXE P w) 1 f fd ["_law_number"] (a0m K a8r):=by
 refine Fn.okA a7m (fun ds M Q E h=> ?_) ?_
 . obtain⟨a,rfl,_⟩:=h;rfl
 intro cdv A outer s H E F0 ds M Q Ea hr ct hsp
 obtain⟨a,rfl,q⟩:=hsp
 have hu64:=hr.units
 refine⟨_,(a0b (sIf (a0s (a1e (un64 ct)) lEq (paOp a0v lMod (paV (pv 0)) paI) paI (a0o _))
       (a0g (sRet (paOp a0f lAdd paI (paOp a0v lMod (paOp a1a lDiv (paV (pv 0)) paI) (paOp a6e lSub (paOp a9z lPow paI paI) paI)))))
       a0y)
     (a0b (sIf (a0s (a1e (un64 ct)) lEq (paOp a0v lMod (paV (pv 0)) paI) paI (a0o _))
       (a0g (sRet (paOp a6e lSub (paOp a6e lSub (paOp a9z lPow paI paI) paI) (paOp a0v lMod (paOp a1a lDiv (paV (pv 0)) paI) paI))))
       a0y)
     (a0g (sRet (paOp a0f lAdd paI (paOp a0v lMod (paOp op_mulB lMul (paOp a1a lDiv (paV (pv 0)) paI) paI) paI)))))),?_⟩
 simp! only[]
 have cp:CPow 10 9:=⟨by decide,by decide,by decide⟩
 have ev:(10:Int)^(9:Int).toNat=1000000000:=by decide
 have x1:=Int.emod_nonneg (a/4) (show((1000000000:Int)- 1)≠0 by decide)
 have x2:=Int.emod_lt_of_pos (a/4) (show(0:Int)<1000000000- 1 by decide)
 have y1:=Int.emod_nonneg (a/4) (show(50:Int)≠0 by decide)
 have y2:=Int.emod_lt_of_pos (a/4) (show(0:Int)<50 by decide)
 have z1:=Int.emod_nonneg (a/4 *7919) (show(997:Int)≠0 by decide)
 have z2:=Int.emod_lt_of_pos (a/4 *7919) (show(0:Int)<997 by decide)
 rw[ev]
 refine⟨by decide,ite2 (fun _=>⟨⟨by decide,by decide⟩,cp,by decide,.now (q _ (by omega) (by omega))⟩) fun _=>⟨by decide,ite2 (fun _=>⟨cp,⟨by decide,by decide⟩,by decide,.now (q _ (by omega) (by omega))⟩) fun _=>⟨⟨by decide,by decide⟩,CMul.ok (.inr ⟨by decide,by decide⟩),by decide,.now (q _ (by omega) (by omega))⟩⟩⟩
def Low(b:Nat)(ps:List Str):Prop:= ∀p∈ps,p.length<=b
theorem Low.snoc{b:Nat}{ps:List Str}(h:Low b ps){x:Str}(hx:x.length<=b):Low b (ps++[x]):=fun p hp=>by
 rcases List.mem_append.mp hp with hp |hp
 . exact h p hp
 . rw[List.mem_singleton.mp hp];exact hx
def a8t:SpA:=fun ds M Q _=> ∃way,ds=[.int way]/\ ∀l ps,M l=none->ps.length<=296->Low 40 ps->Q (.obj l) (put M l (.lst (ps.map D.str)))
theorem a3l{f:Addr}{fd:FuncData}(Fn:Fun K "_law_first_parts" "_law_first_parts" a1j f fd)(T:Txt K mg):FnOk P w K mg base (CXE P w) 1 f fd ["_law_way"] (a0m K a8t):=by
 refine Fn.okA sc_law_first_parts (fun ds M Q E h=> ?_) ?_
 . obtain⟨a,rfl,_⟩:=h;rfl
 intro cdv A outer s H E F0 ds M Q Ea hr ct hsp
 obtain⟨way,rfl,q⟩:=hsp
 refine⟨_,(a0b (sSet (i:=1) sc_law_first_parts.nd rfl (Or.inl rfl) paS)
     (a0b (sSet (i:=2) sc_law_first_parts.nd rfl (Or.inl rfl) (a9y a0e))
     (a0b (sIf ((pwOr (a0s (a1e (un64 ct)) lEq (paV (pv 0)) paI (a0o _)) (a26 (a0s (a1e (un64 ct)) lEq (paV (pv 0)) paI (a0o _))))).pt
       (a0g (sFor ct (a64 rfl T.range (a0a paI a0e)) (a0t (i:=3) sc_law_first_parts.nd rfl (Or.inl rfl))
         (a0b (sSet (i:=4) sc_law_first_parts.nd rfl (Or.inl rfl) (paOp a0f lAdd (paOp a0f lAdd paS (paIx a0n lIx (paV (pv 1)) (paOp a1a lDiv (paV (pv 3)) paI) (fun _ _=>rfl))) (paIx a0n lIx (paV (pv 1)) (paOp a0v lMod (paV (pv 3)) paI) (fun _ _=>rfl))))
         (a0g (a2u (paBM PySem.F.plainAttrs_list PySem.F.slot_list_append PySem.F.type_list_append a1b a1z (paV (pv 2)) (a0a (paOp a0f lAdd (paOp a0f lAdd (paV (pv 4)) paS) (a2c a5q lStrI (by rfl) T.str boot_str (a0a (paOp a0f lAdd paI (paV (pv 3))) a0e))) a0e)))))))
       a0y)
     (a0b (sIf (a0s (a1e (un64 ct)) lEq (paV (pv 0)) paI (a0o _))
       (a0g (sFor ct (a64 rfl T.range (a0a paI a0e)) (a0t (i:=3) sc_law_first_parts.nd rfl (Or.inl rfl))
         (a0g (a2u (paBM PySem.F.plainAttrs_list PySem.F.slot_list_append PySem.F.type_list_append a1b a1z (paV (pv 2)) (a0a (paOp a0f lAdd paS (paIx a0n lIx (paV (pv 1)) (paOp a0f lAdd paI (paOp a0v lMod (paV (pv 3)) paI)) (fun _ _=>rfl))) a0e))))))
       a0y)
     (a0g (sRet (paV (pv 2)))))))),?_⟩
 have e26:("abcdefghijklmnopqrstuvwxyz":Str).length<=sizeLine:=by decide+kernel
 have e3: ∀c,(⟨#[c]⟩:Str).length=1:=fun _=>rfl
 have lb:(" ":Str).length=1:=by decide+kernel
 simp only[aSeq,aSet,aC,b40,aNil,a4u,List.map_cons,List.map_nil,List.length_cons,List.length_nil,List.replicate,List.cons_append,List.nil_append,Nat.reduceAdd,Nat.reduceSub,List.set_cons_zero,List.set_cons_succ]
 refine⟨by decide,fun l hl=> ?_⟩
 have fin: ∀(ps:List Str) (o3 o4:Option D),ps.length<=98->Low 40 ps->
     aSeq (aIf (aT (aOp (oEq false) (aV 0) (aC (D.int 11)))) (aFor (iaR1 (a55 (aC (D.int 198)) aNil)) (gaN 3) (b3k (aBM "list" oAppend (aV 2) (a55 (aOp oAdd (aC (D.str "zqaa band zqa")) (aOp oIx (aV 1) (aOp oAdd (aC (D.int 1)) (aOp oMod (aV 3) (aC (D.int 25)))))) aNil)))) aNext) (aRet (aV 2))
       {nx:=fun _ M'=>Rt Q .non M',rt:=Rt Q} [some (.int way),some (.str "abcdefghijklmnopqrstuvwxyz"),some (.obj l),o3,o4] (put M l (.lst (ps.map D.str))):=by
   intro ps o3 o4 hn hps
   refine cut1 (fun Γ' M1=> ∃ps' o3',Γ'=[some (.int way),some (.str "abcdefghijklmnopqrstuvwxyz"),some (.obj l),o3',o4]/\M1=put M l (.lst (ps'.map D.str))/\ps'.length<=296/\Low 40 ps') ?_ ?_
   rotate_left
   . intro rest hrest
     refine a34 (decide (way=11)) (fun R h=>by simp! only[];exact h) ?_
     refine ite2 (fun _=> ?_) fun _=>hrest _ _ ⟨ps,_,rfl,rfl,by omega,hps⟩
     simp! only[]
     refine⟨by decide,by decide,?_⟩
     refine LoopP.by2 (fun i Γ M'=> ∃ps' o3',Γ=[some (.int way),some (.str "abcdefghijklmnopqrstuvwxyz"),some (.obj l),o3',o4]/\M'=put M l (.lst (ps'.map D.str))/\ps'.length<=98+i/\Low 40 ps') ⟨ps,_,rfl,rfl,by omega,hps⟩ (fun _ _ _ _=>trivial) ?_ ?_
     . rintro E' i Γ M' hrt hi hnx ⟨ps',o3',rfl,rfl,hn',hps'⟩
       have hi:i<198:=hi
       have m1:=Int.emod_nonneg (i:Int) (show(25:Int)≠0 by decide)
       have m2:=Int.emod_lt_of_pos (i:Int) (show(0:Int)<25 by decide)
       obtain⟨c,hc⟩:=a2r (1+(i:Int) % 25) (by omega) (by omega)
       have e2:("zqaa band zqa":Str).length=13:=by decide+kernel
       simp! only[hc,aBM,a2d,a0d,oAppend,a28]
       refine⟨by decide,e26,by rw[e2,e3];decide,by rw[List.length_map];omega,hnx _ _ ⟨ps'++[("zqaa band zqa":Str)++⟨#[c]⟩],_,rfl,?_,by rw[List.length_append];show ps'.length+1<=_;omega,hps'.snoc ?_⟩⟩
       . rw[List.map_append];rfl
       . rw[a0q,e2,e3];decide
     . rintro Γ M' ⟨ps',o3',rfl,rfl,hn',hps'⟩
       exact hrest _ _ ⟨ps',_,rfl,rfl,hn',hps'⟩
   rintro Γ' M1 ⟨ps',o3',rfl,rfl,hn',hps'⟩
   exact .now (q l ps' hl hn' hps')
 refine(fun (h:aSeq (aIf _ _ aNext) _ _ _ _)=>h) (cut1 (fun Γ' M1=> ∃ps' o3' o4',Γ'=[some (.int way),some (.str "abcdefghijklmnopqrstuvwxyz"),some (.obj l),o3',o4']/\M1=put M l (.lst (ps'.map D.str))/\ps'.length<=98/\Low 40 ps') ?_ ?_)
 . rintro Γ' M1 ⟨ps',o3',o4',rfl,rfl,hn',hps'⟩
   exact fin ps' o3' o4' hn' hps'
 . intro rest hrest
   refine a34 (decide (way=3)||decide (way=11)) (fun R h=> ?_) ?_
   . simp! only[]
     cases hd:decide (way=3)with
     |true=>rw[hd]at h;exact h
     |false=>rw[hd]at h;exact h
   refine ite2 (fun _=> ?_) fun _=>hrest _ _ ⟨[],_,_,rfl,rfl,by decide,fun _ h=>(List.not_mem_nil h).elim⟩
   simp! only[]
   refine⟨by decide,by decide,?_⟩
   refine LoopP.by2 (fun i Γ M'=> ∃ps' o3' o4',Γ=[some (.int way),some (.str "abcdefghijklmnopqrstuvwxyz"),some (.obj l),o3',o4']/\M'=put M l (.lst (ps'.map D.str))/\ps'.length<=i/\Low 40 ps') ⟨[],_,_,rfl,rfl,by decide,fun _ h=>(List.not_mem_nil h).elim⟩ (fun _ _ _ _=>trivial) ?_ ?_
   . rintro E' i Γ M' hrt hi hnx ⟨ps',o3',o4',rfl,rfl,hn',hps'⟩
     have hi:i<98:=hi
     have m1:=Int.emod_nonneg (i:Int) (show(26:Int)≠0 by decide)
     have m2:=Int.emod_lt_of_pos (i:Int) (show(0:Int)<26 by decide)
     obtain⟨c,hc⟩:=a2r ((i:Int) % 26) m1 m2
     obtain⟨c',hc'⟩:=a2r ((i:Int)/26) (by omega) (by omega)
     have e2:("zq":Str).length=2:=by decide+kernel
     have il:=(a1v (v:=1+(i:Int)) (by omega) (by omega)).2.2.1
     simp! only[hc,hc',aBM,a2d,a0d,oAppend,a28,oStrI]
     refine⟨⟨by decide,by decide⟩,e26,by rw[e2,e3];decide,by decide,e26,kM (by simp only[a0q,e2,e3];omega),kM (by simp only[a0q,e2,e3,lb];omega),a92 (by omega) (by omega),kM (by simp only[a0q,e2,e3,lb];omega),by rw[List.length_map];omega,hnx _ _ ⟨ps'++[("zq":Str)++⟨#[c']⟩++⟨#[c]⟩++ " "++intS (1+(i:Int))],_,_,rfl,?_,by rw[List.length_append];show ps'.length+1<=_;omega,hps'.snoc ?_⟩⟩
     . rw[List.map_append];rfl
     . simp only[a0q,e2,e3,lb];omega
   . rintro Γ M' ⟨ps',o3',o4',rfl,rfl,hn',hps'⟩
     exact hrest _ _ ⟨ps',_,_,rfl,rfl,hn',hps'⟩
theorem a6a(p:Str): ∃h t,PySem.Txt.split p " "=h::t/\h.length<=p.length:=by
 cases hs:PySem.Txt.split p " " with
 |nil=>
   exfalso
   unfold PySem.Txt.split at hs
   split at hs
   . cases hs
   . split at hs
     . cases hs
     . have:=congrArg List.length hs
       rw[length_partsBetween]at this
       cases this
 |cons h t=>exact⟨h,t,rfl,a2g p " " h (by rw[hs];exact List.mem_cons_self)⟩
noncomputable def a2m(p:Str):Str:=(PySem.Txt.split p " ").headD ""
theorem b4m(p:Str):(a2m p).length<=p.length:=by
 obtain⟨h,t,e,hl⟩:=a6a p
 unfold a2m
 rw[e];exact hl
noncomputable def b25:D->D
 | .str p=> .str (a2m p)
 |_=> .non
theorem a8c{fs:List Nat}{Γ:G}{p:Str}{M:Mem}{R:AK}(hp:p.length<=1000000)(h:R (.str (a2m p)) M):aOp oIx (aBM "str" oSplit (aV 0) (a55 (aC (D.str " ")) aNil)) (aC (D.int 0)) ([some (.str p)]++frG fs Γ) M R:=by
 obtain⟨a,t,e,_⟩:=a6a p
 have e1:a2m p=a:=by unfold a2m;rw[e];rfl
 rw[e1]at h
 simp! only[List.cons_append,List.nil_append,aBM,a2d,oSplit,e]
 exact⟨by decide+kernel,hp,h⟩
theorem a8b(ps:List Str):(ps.map D.str).map b25=(ps.map a2m).map D.str:=by
 rw[List.map_map,List.map_map];rfl
theorem Low.heads{b:Nat}{ps:List Str}(h:Low b ps):Low b (ps.map a2m):=fun p hp=>by
 obtain⟨x,hx,rfl⟩:=List.mem_map.mp hp
 exact Nat.le_trans (b4m x) (h x hx)
theorem b1f(ds:List D):(cut ds none (some 100)).length=min 100 ds.length:=by
 have e:cut ds none (some 100)=ds.take 100:=a8f ds 100
 rw[e,List.length_take]
theorem sub_of{M M':Mem}{l:Addr}{o:MO}(s:L2.Sub M M')(h:M' l=some o):L2.Sub (put M l o) M':=fun a u e=>by
 by_cases ha:a=l
 . subst ha;rw[a0d]at e;cases e;exact h
 . rw[a0h ha]at e;exact s a u e
def a8s:SpA:=fun ds M Q _=> ∃ns:List Int,ds=[.scr (ns.map D.int)]/\ns.length<=63/\ ∀l ps,M l=none->ps.length<=340->Low 120 ps->Q (.obj l) (put M l (.lst (ps.map D.str)))
structure Grow(M M':Mem)(l m:Addr)(ps nms:List Str):Prop where
 parts:M' l=some (.lst (ps.map D.str))
 names:M' m=some (.lst (nms.map D.str))
 sub:L2.Sub M M'
 fl:M l=none
 fm:M m=none
 ne:l≠m
 lp:Low 120 ps
 ln:Low 40 nms
theorem kind4(j:Int)(h0:0<=j)(h1:j<4): ∃k:Str,atI [D.str "mesh",D.str "pin",D.str "band",D.str "cross"] j=some (.str k)/\k.length<=5:=by
 obtain⟨k,e,hm⟩:=a6l D.str ["mesh","pin","band","cross"] j h0 (by simpa using h1)
 refine⟨k,e,?_⟩
 simp only[List.mem_cons,List.not_mem_nil,or_false]at hm
 rcases hm with rfl |rfl |rfl |rfl<;>decide+kernel
theorem namesL(nms:List Str)(n:Str):(if(flD (.str n)&&(nms.map D.str).all flD)=true then some (inD (.str n) (nms.map D.str))else none)=some (inD (.str n) (nms.map D.str)):=by
 rw[if_pos (by rw[b0a];rfl)]
theorem a70{f:Addr}{fd:FuncData}(Fn:Fun K "_law_parts" "_law_parts" a24 f fd)(T:Txt K mg)(h_law_cell_at:Has P w K mg base (CXE P w) 1 "_law_cell_at" ["_law_script","_law_k"] (a0m K a2v))(h_law_first_parts:Has P w K mg base (CXE P w) 1 "_law_first_parts" ["_law_way"] (a0m K a8t))
   (h_law_name:Has P w K mg base (CXE P w) 1 "_law_name" ["_law_number","_law_spin"] (a0m K b1t)) (h_law_teeth:Has P w K mg base (CXE P w) 1 "_law_teeth" ["_law_number"] (a0m K a8r)):FnOk P w K mg base (CXE P w) 2 f fd ["_law_script"] (a0m K a8s):=by
 refine Fn.okA sc_law_parts (fun ds M Q E h=> ?_) ?_
 . obtain⟨a,rfl,_⟩:=h;rfl
 intro cdv A outer s H E F0 ds M Q Ea hr ct hsp
 obtain⟨ns,rfl,hns,q⟩:=hsp
 refine⟨_,(a0b (sSet (i:=1) sc_law_parts.nd rfl (Or.inl rfl) (a1d h_law_cell_at (hr.mono (by decide)) (by rfl) ct (a0a (paV (pv 0)) (a0a paI a0e))))
     (a0b (sSet (i:=2) sc_law_parts.nd rfl (Or.inl rfl) (a1d h_law_first_parts (hr.mono (by decide)) (by rfl) ct (a0a (paOp a0v lMod (paV (pv 1)) paI) a0e)))
     (a0b (sCompM (i:=3) sc_law_parts.nd rfl rfl (Nc:=["_law_part"]) (n:=1) (fs:=[]) a8g rfl (a2l (paSl a2w lSl (paV (pv 2)) poN (poS paI))) (fun _ _ _ _ _=>(a0t (i:=0) (show List.Nodup (["_law_part"]:List Str)by decide+kernel) rfl (Or.inl rfl))) (fun _ _ _ _ _=>a69) (fun _ _ _ _ _=>(paIx a0n lIx (paBM PySem.F.plainAttrs_str PySem.F.slot_str_split PySem.F.type_str_split a2q a6f (paV (pv 0)) (a0a paS a0e)) paI (fun _ _=>rfl))) (by rfl))
     (a0b (sFor ct (iRange3 rfl T.range (a0a paI (a0a (a0r a0j lLen (by rfl) T.len PySem.boot_len (a0a (paSl a2w lSl (paV (pv 0)) poN (poS paI)) a0e)) (a0a paI a0e)))) (a0t (i:=4) sc_law_parts.nd rfl (Or.inl rfl))
       (a0b (sSet (i:=5) sc_law_parts.nd rfl (Or.inl rfl) (paIx a0n lIx (paV (pv 0)) (paV (pv 4)) (fun _ _=>rfl)))
       (a0b (sSet (i:=6) sc_law_parts.nd rfl (Or.inl rfl) (a1d h_law_cell_at (hr.mono (by decide)) (by rfl) ct (a0a (paV (pv 0)) (a0a (paOp a0f lAdd (paV (pv 4)) paI) a0e))))
       (a0b (sSet (i:=7) sc_law_parts.nd rfl (Or.inl rfl) (a1d h_law_name (hr.mono (by decide)) (by rfl) ct (a0a (paOp a1a lDiv (paV (pv 5)) paI) (a0a (paOp a0v lMod (paOp a1a lDiv (paV (pv 1)) paI) paI) a0e))))
       (a0b (sIf (a0s (a1e (un64 ct)) lEq (paOp a0v lMod (paV (pv 6)) paI) paI (a0o _))
         (a0g (sSet (i:=7) sc_law_parts.nd rfl (Or.inl rfl) (paIx a0n lIx (a31 (a0a paS (a0a paS (a0a paS (a0a paS a0e))))) (paOp a0v lMod (paOp a1a lDiv (paV (pv 5)) paI) paI) (fun _ _=>rfl))))
         a0y)
       (a0b (sSet (i:=8) sc_law_parts.nd rfl (Or.inl rfl) (a0r a0j lLen (by rfl) T.len PySem.boot_len (a0a (paV (pv 3)) a0e)))
       (a0g (sIf ((b13 (a0s a50 lGt (paV (pv 8)) paI (a0o _)) (a7p (a0s (a1e (un64 ct)) lEq (paOp a0v lMod (paV (pv 5)) paI) paI (a0o _))))).pt
         (a0b (sSet (i:=9) sc_law_parts.nd rfl (Or.inl rfl) (paOp a0v lMod (paOp a1a lDiv (paV (pv 5)) paI) (paV (pv 8))))
         (a0b (sSet (i:=10) sc_law_parts.nd rfl (Or.inl rfl) (paOp a0v lMod (paOp a0f lAdd (paOp a0f lAdd (paV (pv 9)) paI) (paOp a0v lMod (paV (pv 6)) (paOp a6e lSub (paV (pv 8)) paI))) (paV (pv 8))))
         (a0b (sSet (i:=11) sc_law_parts.nd rfl (Or.inl rfl) (paIx a0n lIx (a31 (a0a paS (a0a paS (a0a paS (a0a paS a0e))))) (paOp a0v lMod (paOp a1a lDiv (paV (pv 6)) paI) paI) (fun _ _=>rfl)))
         (a0g (a2u (paBM PySem.F.plainAttrs_list PySem.F.slot_list_append PySem.F.type_list_append a1b a1z (paV (pv 2)) (a0a (paOp a0f lAdd (paOp a0f lAdd (paOp a0f lAdd (paOp a0f lAdd (paIx a0n lIx (paV (pv 3)) (paV (pv 9)) (fun _ _=>rfl)) paS) (paV (pv 11))) paS) (paIx a0n lIx (paV (pv 3)) (paV (pv 10)) (fun _ _=>rfl))) a0e)))))))
         (a0g (sIf (a0s a1r a5j (paV (pv 7)) (paV (pv 3)) (by with_unfolding_all rfl))
           (a0b (a2u (paBM PySem.F.plainAttrs_list PySem.F.slot_list_append PySem.F.type_list_append a1b a1z (paV (pv 3)) (a0a (paV (pv 7)) a0e)))
           (a0g (a2u (paBM PySem.F.plainAttrs_list PySem.F.slot_list_append PySem.F.type_list_append a1b a1z (paV (pv 2)) (a0a (paOp a0f lAdd (paOp a0f lAdd (paV (pv 7)) paS) (a2c a5q lStrI (by rfl) T.str boot_str (a0a (a1d h_law_teeth (hr.mono (by decide)) (by rfl) ct (a0a (paV (pv 6)) a0e)) a0e))) a0e)))))
           a0y))))))))))
     (a0g (sRet (paV (pv 2)))))))),?_⟩
 have lb:(" ":Str).length=1:=by decide+kernel
 refine cut2 (fun Γ' M1=> ∃(st:Int) (l:Addr) (ps:List Str),Γ'=[some (.scr (ns.map D.int)),some (.int st),some (.obj l),none,none,none,none,none,none,none,none,none]/\M l=none/\M1=put M l (.lst (ps.map D.str))/\ps.length<=296/\Low 40 ps) ?_ ?_
 rotate_left
 . intro rest hrest
   simp! only[a2v,a8t]
   refine⟨ns,0,rfl,Int.le_refl 0,by decide,_,rfl,fun l ps hl hn hp=> ?_⟩
   exact hrest _ _ ⟨_,l,ps,rfl,hl,rfl,hn,hp⟩
 rintro Γ' M1 ⟨st,l,ps,rfl,hl,rfl,hn,hp⟩
 refine cut1 (fun Γ' M1=> ∃(m:Addr) (nms:List Str),Γ'=[some (.scr (ns.map D.int)),some (.int st),some (.obj l),some (.obj m),none,none,none,none,none,none,none,none]/\Grow M M1 l m ps nms/\nms.length<=98) ?_ ?_
 rotate_left
 . intro rest hrest
   unfold aSeq aSet
   refine compG ((ps.take 98).map D.str) b25 (fun d=>[some d]) (fun R h=> ?_) (by rw[List.length_map,List.length_take];omega) (fun x hx=>rfl) (fun x hx own ho M' R h=> ?_) (fun x hx M' _ R h=> ?_) (fun m hm=> ?_)
   . have e:cut (ps.map D.str) none (some 98)=(ps.take 98).map D.str:=(a8f _ 98).trans (List.map_take ..).symm
     simp! only[a0d,e]
     exact h
   . obtain⟨o,rfl⟩:=own1 ho
     exact h
   . obtain⟨p,hp',rfl⟩:=List.mem_map.mp hx
     have:=hp p (List.mem_of_mem_take hp')
     exact a8c (by omega) h
   . rw[a8b]
     have lm:l≠m:=by rintro rfl;rw[a0d]at hm;cases hm
     rw[a0h lm.symm]at hm
     refine hrest _ _ ⟨m,(ps.take 98).map a2m,rfl,⟨by rw[a0h lm,a0d],a0d,a1i (a1i (.refl M) hl) hm,hl,hm,lm,fun p h'=>by have:=hp p h';omega,Low.heads fun p h'=>hp p (List.mem_of_mem_take h')⟩,by rw[List.length_map,List.length_take];omega⟩
 rintro Γ' M1 ⟨m,nms,rfl,gw,hm⟩
 refine cut1 (fun Γ' M2=> ∃ps' nms' o3 o4 o5 o6 o7 o8 o9 o10 o11,Γ'=[some (.scr (ns.map D.int)),some (.int st),some (.obj l),o3,o4,o5,o6,o7,o8,o9,o10,o11]/\Grow M M2 l m ps' nms'/\ps'.length<=340) ?_ ?_
 rotate_left
 . intro rest hrest
   simp only[aSeq,aFor,iaR3,a55,aNil,aC,b1g,aSl,aV,aNoPart,aPart,oSl,slC,slF,L2.dr,oLen,lenC,lenF,L2.dq,L2.dd,Option.map_some,a4o,List.getElem?_cons_zero,List.getElem?_cons_succ,true_and]
   rw[b1f,List.length_map]
   have hmin:min 100 ns.length=ns.length:=by omega
   rw[hmin]
   refine⟨⟨by decide,by decide,by omega,by omega⟩,?_⟩
   refine LoopP.by2 (fun i Γ M'=> ∃ps' nms' o4 o5 o6 o7 o8 o9 o10 o11,Γ=[some (.scr (ns.map D.int)),some (.int st),some (.obj l),some (.obj m),o4,o5,o6,o7,o8,o9,o10,o11]/\Grow M M' l m ps' nms'/\ps'.length<=296+i/\nms'.length<=98+i) ⟨ps,nms,_,_,_,_,_,_,_,_,rfl,gw,by omega,by omega⟩ (fun _ _ _ _=>trivial) ?_ ?_
   . rintro E' i Γ M' hrt hi hnx ⟨ps',nms',o4,o5,o6,o7,o8,o9,o10,o11,rfl,gw',hn',hm'⟩
     have hi:i<a3t 1 ns.length:=hi
     have hi2:2 *i+1<ns.length:=by unfold a3t at hi;omega
     have e1:(1:Int)+(i:Int) *2=((2 *i+1:Nat):Int):=by omega
     have e2:atI (ns.map D.int) (((2 *i+1:Nat)):Int)=some (.int ns[2 *i+1]):=a1n (by simp[List.getElem?_eq_getElem hi2])
     simp only[e1,gaN,List.set_cons_zero,List.set_cons_succ]
     refine seqV (.int ns[2 *i+1]) M' (fun R h=>by simp! only[e2];exact h) ?_
     generalize ns[2 *i+1]=one
     simp only[List.set_cons_zero,List.set_cons_succ]
     refine seqV (.int (cell ns (((2 *i+1:Nat):Int)+1))) M' (fun R h=>by simp! only[a2v];exact⟨ns,_,rfl,by omega,h⟩) ?_
     generalize cell ns (((2 *i+1:Nat):Int)+1)=oth
     simp only[List.set_cons_zero,List.set_cons_succ]
     refine cut1 (fun Γ' M2=>M2=M'/\ ∃x:Str,x.length<=16/\Γ'=[some (.scr (ns.map D.int)),some (.int st),some (.obj l),some (.obj m),some (.int ((2 *i+1:Nat):Int)),some (.int one),some (.int oth),some (.str x),o8,o9,o10,o11]) ?_ ?_
     rotate_left
     . intro rest hrest
       simp! only[b1t]
       refine⟨⟨by decide,by decide⟩,⟨by decide,by decide⟩,by decide,_,_,rfl,fun x hx=>hrest _ _ ⟨rfl,x,hx,rfl⟩⟩
     rintro Γ' M2 ⟨rfl,x,hx,rfl⟩
     refine cut1 (fun Γ' M3=>M3=M2/\ ∃x:Str,x.length<=16/\Γ'=[some (.scr (ns.map D.int)),some (.int st),some (.obj l),some (.obj m),some (.int ((2 *i+1:Nat):Int)),some (.int one),some (.int oth),some (.str x),o8,o9,o10,o11]) ?_ ?_
     rotate_left
     . intro rest hrest
       refine a34 (decide (oth % 16=5)) (fun R h=>by simp! only[];exact⟨by decide,h⟩) ?_
       refine ite2 (fun _=> ?_) fun _=>hrest _ _ ⟨rfl,x,hx,rfl⟩
       obtain⟨k,ek,hk⟩:=kind4 (one/3 % 4) (Int.emod_nonneg _ (by decide)) (Int.emod_lt_of_pos _ (by decide))
       simp! only[ek]
       exact⟨by decide,⟨by decide,by decide⟩,by decide,hrest _ _ ⟨rfl,k,by omega,rfl⟩⟩
     rintro Γ' M3 ⟨rfl,x,hx,rfl⟩
     clear o4 o5 o6 o7
     refine seqV (.int (nms'.length:Int)) M3 (fun R h=>by simp! only[gw'.names,List.length_map];exact h) ?_
     simp only[List.set_cons_zero,List.set_cons_succ]
     have lln:(nms'.map D.str).length=nms'.length:=List.length_map ..
     have llp:(ps'.map D.str).length=ps'.length:=List.length_map ..
     have hsz:i<=31:=by omega
     refine ifV (decide ((nms'.length:Int)>1)&&decide (one % 3=0)) (fun R h=> ?_) ?_
     . simp! only[]
       cases hd:decide ((nms'.length:Int)>1)with
       |true=>rw[hd,Bool.true_and]at h;exact⟨by decide,h⟩
       |false=>rw[hd,Bool.false_and]at h;exact h
     refine ite2 (fun hc=> ?_) fun _=> ?_
     . rw[Bool.and_eq_true]at hc
       have hmany:=of_decide_eq_true hc.1
       have hpos:(0:Int)< (nms'.length:Int):=by omega
       have a1:=Int.emod_nonneg (one/3) (show(nms'.length:Int)≠0 by omega)
       have a2:=Int.emod_lt_of_pos (one/3) hpos
       obtain⟨x1,ex1,hx1⟩:=a6l D.str nms' (one/3 % (nms'.length:Int)) a1 a2
       have b1:=Int.emod_nonneg (one/3 % (nms'.length:Int)+1+oth % ((nms'.length:Int)- 1)) (show(nms'.length:Int)≠0 by omega)
       have b2:=Int.emod_lt_of_pos (one/3 % (nms'.length:Int)+1+oth % ((nms'.length:Int)- 1)) hpos
       obtain⟨x2,ex2,hx2⟩:=a6l D.str nms' ((one/3 % (nms'.length:Int)+1+oth % ((nms'.length:Int)- 1)) % (nms'.length:Int)) b1 b2
       obtain⟨k,ek,hk⟩:=kind4 (oth/7 % 4) (Int.emod_nonneg _ (by decide)) (Int.emod_lt_of_pos _ (by decide))
       have l1:=gw'.ln x1 hx1
       have l2:=gw'.ln x2 hx2
       simp! only[gw'.names,gw'.parts,ex1,ex2,ek,aBM,a2d,oAppend,llp,a0q,lb]
       refine⟨⟨by decide,by decide⟩,hpos,by omega,hpos,by decide,⟨by decide,by decide⟩,by decide,kM (by omega),kM (by omega),kM (by omega),kM (by omega),by omega,hnx _ _ ⟨ps'++[x1++ " "++k++ " "++x2],nms',_,_,_,_,_,_,_,_,rfl,⟨?_,?_,a1i gw'.sub gw'.fl,gw'.fl,gw'.fm,gw'.ne,gw'.lp.snoc ?_,gw'.ln⟩,by rw[List.length_append];show ps'.length+1<=_;omega,by omega⟩⟩
       . rw[a0d,List.map_append];rfl
       . rw[a0h gw'.ne.symm];exact gw'.names
       . simp only[a0q,lb];omega
     . refine ifV (!inD (.str x) (nms'.map D.str)) (fun R h=>by simp! only[gw'.names,oIn,namesL];exact h) ?_
       refine ite2 (fun _=> ?_) fun _=>hnx _ _ ⟨ps',nms',_,_,_,_,_,_,_,_,rfl,gw',by omega,by omega⟩
       simp! only[aBM,a2d,gw'.names,oAppend,lln,a0h gw'.ne,gw'.parts,llp,a8r,oStrI,a0q,lb]
       refine⟨by omega,kM (by omega),_,rfl,fun t t1 t2=> ?_⟩
       have il:=(a1v t1 t2).2.2.1
       refine⟨a92 t1 t2,kM (by omega),by omega,hnx _ _ ⟨ps'++[x++ " "++intS t],nms'++[x],_,_,_,_,_,_,_,_,rfl,⟨?_,?_,a1i (a1i gw'.sub gw'.fm) gw'.fl,gw'.fl,gw'.fm,gw'.ne,gw'.lp.snoc ?_,gw'.ln.snoc (by omega)⟩,by rw[List.length_append];show ps'.length+1<=_;omega,by rw[List.length_append];show nms'.length+1<=_;omega⟩⟩
       . rw[a0d,List.map_append];rfl
       . rw[a0h gw'.ne.symm,a0d,List.map_append];rfl
       . simp only[a0q,lb];omega
   . rintro Γ M' ⟨ps',nms',o4,o5,o6,o7,o8,o9,o10,o11,rfl,gw',hn',hm'⟩
     have hn':ps'.length<=296+a3t 1 ns.length:=hn'
     exact hrest _ _ ⟨ps',nms',_,_,_,_,_,_,_,_,_,rfl,gw',by unfold a3t at hn';omega⟩
 rintro Γ' M2 ⟨ps',nms',o3,o4,o5,o6,o7,o8,o9,o10,o11,rfl,gw',hn'⟩
 exact .sub (sub_of gw'.sub gw'.parts) (q l ps' gw'.fl hn' gw'.lp)
def b1s:SpA:=fun ds M Q _=> ∃(nms:List Str) (k:Int),ds=[.lst (nms.map D.str),.int k]/\Low 120 nms/\ ∀x:Str,x.length<=300->Q (.str x) M
noncomputable abbrev odd1:List Str:=[""," ","a","a b c d","A 5","abcdefghi 5","a1 5"," 5","aa 0","aa 007","aa +1","aa -1"]
noncomputable abbrev odd2(a b:Str):List Str:=["aa 1 ","aa  1"," aa 1",a++ " 9",a++ " pin "++a,a++ " belt "++b]
noncomputable abbrev odd3(a b:Str):List Str:=["aabbccdd mesh "++a,"aa 1000000000",a++ " Mesh "++b,"aa 9;ab 9"]
noncomputable abbrev odd4(a b:Str):List Str:=["aa 999999999",a++ " mesh  "++b,a++ " mesh "++b,b++ " pin "++a]
noncomputable abbrev odd5:List Str:=["ab 01","ab 000000008"]
noncomputable def a7j(a b:Str):List Str:=odd1++odd2 a b++odd3 a b++odd4 a b++odd5
theorem b3o(a b:Str)(ha:a.length<=120)(hb:b.length<=120):Low 300 (a7j a b):=by
 intro x hx
 unfold a7j at hx
 simp only[List.mem_append,List.mem_cons,List.not_mem_nil,or_false]at hx
 have c1:(" 9":Str).length<=20:=by decide+kernel
 have c2:(" pin ":Str).length<=20:=by decide+kernel
 have c3:(" belt ":Str).length<=20:=by decide+kernel
 have c4:("aabbccdd mesh ":Str).length<=20:=by decide+kernel
 have c5:(" Mesh ":Str).length<=20:=by decide+kernel
 have c6:(" mesh  ":Str).length<=20:=by decide+kernel
 have c7:(" mesh ":Str).length<=20:=by decide+kernel
 rcases hx with(((hx |hx) |hx) |hx) |hx
 . rcases hx with rfl |rfl |rfl |rfl |rfl |rfl |rfl |rfl |rfl |rfl |rfl |rfl<;>decide+kernel
 . rcases hx with rfl |rfl |rfl |rfl |rfl |rfl
   . decide+kernel
   . decide+kernel
   . decide+kernel
   . rw[a0q];omega
   . rw[a0q,a0q];omega
   . rw[a0q,a0q];omega
 . rcases hx with rfl |rfl |rfl |rfl
   . rw[a0q];omega
   . decide+kernel
   . rw[a0q,a0q];omega
   . decide+kernel
 . rcases hx with rfl |rfl |rfl |rfl
   . decide+kernel
   . rw[a0q,a0q];omega
   . rw[a0q,a0q];omega
   . rw[a0q,a0q];omega
 . rcases hx with rfl |rfl<;>decide+kernel
theorem a5c{f:Addr}{fd:FuncData}(Fn:Fun K "_law_odd_part" "_law_odd_part" a1w f fd)(T:Txt K mg):FnOk P w K mg base (CXE P w) 1 f fd ["_law_names","_law_number"] (a0m K b1s):=by
 refine Fn.okA sc_law_odd_part (fun ds M Q E h=> ?_) ?_
 . obtain⟨a,b,rfl,_⟩:=h;rfl
 intro cdv A outer s H E F0 ds M Q Ea hr ct hsp
 obtain⟨nms,k,rfl,hl,q⟩:=hsp
 refine⟨_,(a0b (sSet (i:=2) sc_law_odd_part.nd rfl (Or.inl rfl) paS)
     (a0b (sSet (i:=3) sc_law_odd_part.nd rfl (Or.inl rfl) paS)
     (a0b (sIf (a0s a50 lGt (a0r a0j lLen (by rfl) T.len PySem.boot_len (a0a (paV (pv 0)) a0e)) paI (a0o _))
       (a0b (sSet (i:=2) sc_law_odd_part.nd rfl (Or.inl rfl) (paIx a0n lIx (paV (pv 0)) (paOp a0v lMod (paOp a1a lDiv (paV (pv 1)) paI) (a0r a0j lLen (by rfl) T.len PySem.boot_len (a0a (paV (pv 0)) a0e))) (fun _ _=>rfl)))
       (a0g (sSet (i:=3) sc_law_odd_part.nd rfl (Or.inl rfl) (paIx a0n lIx (paV (pv 0)) (paUn un_neg lNeg paI) (fun _ _=>rfl)))))
       a0y)
     (a0b (sSet (i:=4) sc_law_odd_part.nd rfl (Or.inl rfl) (a31 (a0a paS (a0a paS (a0a paS (a0a paS (a0a paS (a0a paS (a0a paS (a0a paS (a0a paS (a0a paS (a0a paS (a0a paS a0e))))))))))))))
     (a0b (sSet (i:=4) sc_law_odd_part.nd rfl (Or.inl rfl) (paOp a38 lCat (paV (pv 4)) (a31 (a0a paS (a0a paS (a0a paS (a0a (paOp a0f lAdd (paV (pv 2)) paS) (a0a (paOp a0f lAdd (paOp a0f lAdd (paV (pv 2)) paS) (paV (pv 2))) (a0a (paOp a0f lAdd (paOp a0f lAdd (paV (pv 2)) paS) (paV (pv 3))) a0e)))))))))
     (a0b (sSet (i:=4) sc_law_odd_part.nd rfl (Or.inl rfl) (paOp a38 lCat (paV (pv 4)) (a31 (a0a (paOp a0f lAdd paS (paV (pv 2))) (a0a paS (a0a (paOp a0f lAdd (paOp a0f lAdd (paV (pv 2)) paS) (paV (pv 3))) (a0a paS a0e)))))))
     (a0b (sSet (i:=4) sc_law_odd_part.nd rfl (Or.inl rfl) (paOp a38 lCat (paV (pv 4)) (a31 (a0a paS (a0a (paOp a0f lAdd (paOp a0f lAdd (paV (pv 2)) paS) (paV (pv 3))) (a0a (paOp a0f lAdd (paOp a0f lAdd (paV (pv 2)) paS) (paV (pv 3))) (a0a (paOp a0f lAdd (paOp a0f lAdd (paV (pv 3)) paS) (paV (pv 2))) a0e)))))))
     (a0b (sSet (i:=4) sc_law_odd_part.nd rfl (Or.inl rfl) (paOp a38 lCat (paV (pv 4)) (a31 (a0a paS (a0a paS a0e)))))
     (a0g (sRet (paIx a0n lIx (paV (pv 4)) (paOp a0v lMod (paV (pv 1)) paI) (fun _ _=>rfl)))))))))))),?_⟩
 have c1:(" 9":Str).length<=20:=by decide+kernel
 have c2:(" pin ":Str).length<=20:=by decide+kernel
 have c3:(" belt ":Str).length<=20:=by decide+kernel
 have c4:("aabbccdd mesh ":Str).length<=20:=by decide+kernel
 have c5:(" Mesh ":Str).length<=20:=by decide+kernel
 have c6:(" mesh  ":Str).length<=20:=by decide+kernel
 have c7:(" mesh ":Str).length<=20:=by decide+kernel
 refine cut2 (fun Γ' M1=>M1=M/\Γ'=[some (.lst (nms.map D.str)),some (.int k),some (.str "a"),some (.str "b"),none]) ?_ ?_
 rotate_left
 . intro rest hrest
   simp! only[]
   exact hrest _ _ ⟨rfl,rfl⟩
 rintro Γ' M1 ⟨rfl,rfl⟩
 refine cut1 (fun Γ' M2=>M2=M1/\ ∃a b:Str,a.length<=120/\b.length<=120/\Γ'=[some (.lst (nms.map D.str)),some (.int k),some (.str a),some (.str b),none]) ?_ ?_
 rotate_left
 . intro rest hrest
   by_cases h0:nms.length=0
   . refine a10 (fun R h=> ?_) ?_
     . simp! only[List.length_map,decide_eq_false (show ¬ (nms.length:Int)>0 by omega)]
       exact h
     exact hrest _ _ ⟨rfl,"a","b",by decide+kernel,by decide+kernel,rfl⟩
   refine a3f (fun R h=> ?_) ?_
   . simp! only[List.length_map,decide_eq_true (show(nms.length:Int)>0 by omega)]
     exact h
   have hpos:(0:Int)< (nms.length:Int):=by omega
   obtain⟨x1,ex1,hx1⟩:=a6l D.str nms (k/28 % (nms.length:Int)) (Int.emod_nonneg _ (by omega)) (Int.emod_lt_of_pos _ hpos)
   obtain⟨x2,hx2,ex2⟩: ∃y,y∈nms/\atI (nms.map D.str) (-1)=some (.str y):=by
     rcases List.eq_nil_or_concat nms with e | ⟨ys,y,e⟩
     . rw[e]at h0;exact absurd rfl h0
     . rw[List.concat_eq_append]at e
       refine⟨y,by rw[e];simp,?_⟩
       rw[e,List.map_append]
       exact b4y (ys.map D.str) (.str y)
   simp! only[List.length_map,ex1,ex2]
   exact⟨⟨by decide,by decide⟩,hpos,hrest _ _ ⟨rfl,x1,x2,hl _ hx1,hl _ hx2,rfl⟩⟩
 rintro Γ' M2 ⟨rfl,a,b,ha,hb,rfl⟩
 have hk1:=Int.emod_nonneg k (show(28:Int)≠0 by decide)
 have hk2:=Int.emod_lt_of_pos k (show(0:Int)<28 by decide)
 obtain⟨x,ex,hx⟩:=a6l D.str (a7j a b) (k % 28) hk1 (by have:(a7j a b).length=28:=rfl;omega)
 refine seqV (.lst (odd1.map D.str)) M2 (fun R h=>by simp! only[];exact⟨by decide,h⟩) ?_
 simp only[List.set_cons_zero,List.set_cons_succ]
 refine seqV (.lst ((odd1++odd2 a b).map D.str)) M2 (fun R h=>by
   simp! only[a0q]
   exact⟨kM (by omega),kM (by omega),kM (by omega),kM (by omega),kM (by omega),Nat.le_of_ble_eq_true rfl,Nat.le_of_ble_eq_true rfl,h⟩) ?_
 simp only[List.set_cons_zero,List.set_cons_succ]
 refine seqV (.lst ((odd1++odd2 a b++odd3 a b).map D.str)) M2 (fun R h=>by
   simp! only[a0q]
   exact⟨kM (by omega),kM (by omega),kM (by omega),Nat.le_of_ble_eq_true rfl,Nat.le_of_ble_eq_true rfl,h⟩) ?_
 simp only[List.set_cons_zero,List.set_cons_succ]
 refine seqV (.lst ((odd1++odd2 a b++odd3 a b++odd4 a b).map D.str)) M2 (fun R h=>by
   simp! only[a0q]
   exact⟨kM (by omega),kM (by omega),kM (by omega),kM (by omega),kM (by omega),kM (by omega),Nat.le_of_ble_eq_true rfl,Nat.le_of_ble_eq_true rfl,h⟩) ?_
 simp only[List.set_cons_zero,List.set_cons_succ]
 refine seqV (.lst ((a7j a b).map D.str)) M2 (fun R h=>by
   simp! only[]
   exact⟨Nat.le_of_ble_eq_true rfl,Nat.le_of_ble_eq_true rfl,h⟩) ?_
 simp only[List.set_cons_zero,List.set_cons_succ]
 refine retV (.str x) M2 (fun R h=> ?_) (.now (q x (b3o a b ha hb x hx)))
 simp only[aOp,aV,aC,oMod,oIc,oIx,ixC,ixF,L2.dq,Option.bind_some,a4o,List.getElem?_cons_zero,List.getElem?_cons_succ,ex,true_and]
 exact⟨by decide,h⟩
theorem b2x{ps:List Str}{b:Nat}(h:Low b ps)(hn:ps.length<=400)(hb:b<=900):(a2f "; " ps).length<=400000:=by
 have e2:("; ":Str).length=2:=by decide+kernel
 have hm:ps.length * (b+2)<=400 *902:=Nat.mul_le_mul hn (by omega)
 rw[slen,a1l]
 have:=b2y ("; ":Str).cps.toList b (ps.map fun p=>p.cps.toList) fun p hp=>by
   obtain⟨q,hq,rfl⟩:=List.mem_map.mp hp
   exact h q hq
 rw[List.length_map,<-slen,e2]at this
 omega
theorem Low.up{b c:Nat}{ps:List Str}(h:Low b ps)(hc:b<=c):Low c ps:=fun p hp=>Nat.le_trans (h p hp) hc
theorem Low.app{b:Nat}{ps qs:List Str}(h:Low b ps)(h':Low b qs):Low b (ps++qs):=fun p hp=>by
 rcases List.mem_append.mp hp with hp |hp
 . exact h p hp
 . exact h' p hp
theorem Low.set{b:Nat}{ps:List Str}(h:Low b ps){x:Str}(hx:x.length<=b)(k:Nat):Low b (ps.set k x):=fun p hp=>by
 rcases List.mem_or_eq_of_mem_set hp with hp |rfl
 . exact h p hp
 . exact hx
theorem map_set{ps:List Str}{x:Str}{k:Nat}:(ps.map D.str).set k (.str x)=(ps.set k x).map D.str:=by
 rw[List.map_set]
structure Bag(M M':Mem)(l:Addr)(ps:List Str)(b:Nat):Prop where
 at':M' l=some (.lst (ps.map D.str))
 sub:L2.Sub M M'
 free:M l=none
 n:ps.length<=341
 low:Low b ps
def b1p:SpA:=fun ds M Q _=> ∃ns:List Int,ds=[.scr (ns.map D.int)]/\ns.length<=63/\ ∀x:Str,x.length<=1000000->Q (.str x) M
theorem a84{f:Addr}{fd:FuncData}(Fn:Fun K "_law_text" "_law_text" a3x f fd)(T:Txt K mg)(h_law_cell_at:Has P w K mg base (CXE P w) 1 "_law_cell_at" ["_law_script","_law_k"] (a0m K a2v))(h_law_parts:Has P w K mg base (CXE P w) 2 "_law_parts" ["_law_script"] (a0m K a8s))
   (h_law_odd_part:Has P w K mg base (CXE P w) 1 "_law_odd_part" ["_law_names","_law_number"] (a0m K b1s)):FnOk P w K mg base (CXE P w) 3 f fd ["_law_script"] (a0m K b1p):=by
 refine Fn.okA sc_law_text (fun ds M Q E h=> ?_) ?_
 . obtain⟨a,rfl,_⟩:=h;rfl
 intro cdv A outer s H E F0 ds M Q Ea hr ct hsp
 obtain⟨ns,rfl,hns,q⟩:=hsp
 refine⟨_,(a0b (sSet (i:=1) sc_law_text.nd rfl (Or.inl rfl) (a1d h_law_parts (hr.mono (by decide)) (by rfl) ct (a0a (paV (pv 0)) a0e)))
     (a0b (sSet (i:=2) sc_law_text.nd rfl (Or.inl rfl) (a1d h_law_cell_at (hr.mono (by decide)) (by rfl) ct (a0a (paV (pv 0)) (a0a paI a0e))))
     (a0b (sSet (i:=3) sc_law_text.nd rfl (Or.inl rfl) (paOp a1a lDiv (a1d h_law_cell_at (hr.mono (by decide)) (by rfl) ct (a0a (paV (pv 0)) (a0a paI a0e))) paI))
     (a0b (sIf (a0s (a1e (un64 ct)) lEq (paOp a0v lMod (paV (pv 2)) paI) paI (a0o _))
       (a0b (sCompZ (i:=4) sc_law_text.nd rfl rfl (Nc:=["_law_part"]) (n:=1) (fs:=[]) a8g rfl (a2l (paV (pv 1))) (fun _ _ _ _ _=>(a0t (i:=0) (show List.Nodup (["_law_part"]:List Str)by decide+kernel) rfl (Or.inl rfl))) (fun _ _ _ _ _=>a69) (fun _ _ _ _ _=>(paIx a0n lIx (paBM PySem.F.plainAttrs_str PySem.F.slot_str_split PySem.F.type_str_split a2q a6f (paV (pv 0)) (a0a paS a0e)) paI (fun _ _=>rfl))) (by rfl))
       (a0b (sSet (i:=5) sc_law_text.nd rfl (Or.inl rfl) (paOp a0v lMod (paV (pv 3)) (paOp a0f lAdd (a0r a0j lLen (by rfl) T.len PySem.boot_len (a0a (paV (pv 1)) a0e)) paI)))
       (a0g (sSet (i:=1) sc_law_text.nd rfl (Or.inl rfl) (paOp a38 lCatM (paOp a38 lCat (paSl a2w lSl (paV (pv 1)) poN (poS (paV (pv 5)))) (a31 (a0a (a1d h_law_odd_part (hr.mono (by decide)) (by rfl) ct (a0a (paV (pv 4)) (a0a (paOp a0f lAdd (paOp a1a lDiv (paV (pv 3)) paI) (paOp a1a lDiv (paV (pv 2)) paI)) a0e))) a0e))) (paSl a2w lSl (paV (pv 1)) (poS (paV (pv 5))) poN))))))
       a0y)
     (a0b (sIfP (ptmAnd (ptmCmp (a1e (un64 ct)) lEq (paOp a0v lMod (paV (pv 2)) paI) (a0o _)) (a7p (a0s a50 lGt (a0r a0j lLen (by rfl) T.len PySem.boot_len (a0a (paV (pv 1)) a0e)) paI (a0o _))))
       (ssConsP (sSet (i:=5) sc_law_text.nd rfl (Or.inl rfl) (paOp a0v lMod (paV (pv 3)) (a0r a0j lLen (by rfl) T.len PySem.boot_len (a0a (paV (pv 1)) a0e)))) (ssOneP (sAsgP (paRepl (paIx a0n lIx (paV (pv 1)) (paV (pv 5)) (fun _ _=>rfl))) (tgSub (paV (pv 1)) (paV (pv 5))))))
       a0y)
     (a0b (sSet (i:=6) sc_law_text.nd rfl (Or.inl rfl) (paBM PySem.F.plainAttrs_str PySem.F.slot_str_join PySem.F.type_str_join a89 lJoin paS (a0a (paV (pv 1)) a0e)))
     (a0b (sIf (a0s (a1e (un64 ct)) lEq (paOp a0v lMod (paV (pv 2)) paI) paI (a0o _))
       (a0b (sSet (i:=5) sc_law_text.nd rfl (Or.inl rfl) (paOp a0v lMod (paV (pv 3)) (paOp a0f lAdd (a0r a0j lLen (by rfl) T.len PySem.boot_len (a0a (paV (pv 6)) a0e)) paI)))
       (a0b (sSet (i:=7) sc_law_text.nd rfl (Or.inl rfl) (paIx a0n lIx paS (paOp a0v lMod (a1d h_law_cell_at (hr.mono (by decide)) (by rfl) ct (a0a (paV (pv 0)) (a0a paI a0e))) paI) (fun _ _=>rfl)))
       (a0b (sIf (a0s (a1e (un64 ct)) lEq (paOp a0v lMod (paOp a1a lDiv (paV (pv 2)) paI) paI) paI (a0o _))
         (a0g (sSet (i:=7) sc_law_text.nd rfl (Or.inl rfl) paS))
         a0y)
       (a0g (sSet (i:=6) sc_law_text.nd rfl (Or.inl rfl) (paOp a0f lAdd (paOp a0f lAdd (paSl a2w lSl (paV (pv 6)) poN (poS (paV (pv 5)))) (paV (pv 7))) (paSl a2w lSl (paV (pv 6)) (poS (paOp a0f lAdd (paV (pv 5)) (paIx a0n lIx (a31 (a0a paI (a0a paI (a0a paI a0e)))) (paOp a0v lMod (paOp a1a lDiv (paV (pv 2)) paI) paI) (fun _ _=>rfl)))) poN)))))))
       a0y)
     (a0g (sRet (paV (pv 6))))))))))),?_⟩
 refine cut1 (fun Γ' M1=> ∃l ps,Γ'=[some (.scr (ns.map D.int)),some (.obj l),none,none,none,none,none,none]/\Bag M M1 l ps 120/\ps.length<=340) ?_ ?_
 rotate_left
 . intro rest hrest
   simp! only[a8s]
   refine⟨ns,rfl,hns,fun l ps hl hn hp=>hrest _ _ ⟨l,ps,rfl,⟨a0d,.put hl,hl,by omega,hp⟩,hn⟩⟩
 rintro Γ' M1 ⟨l,ps,rfl,bg,n0⟩
 refine seqV (.int (cell ns 4)) M1 (fun R h=>by simp! only[a2v];exact⟨ns,4,rfl,by decide,h⟩) ?_
 generalize cell ns 4=st
 simp only[List.set_cons_zero,List.set_cons_succ]
 refine seqV (.int (cell ns 1/3)) M1 (fun R h=>by simp! only[a2v];exact⟨ns,1,rfl,by decide,⟨by decide,by decide⟩,h⟩) ?_
 generalize cell ns 1/3=nb
 simp only[List.set_cons_zero,List.set_cons_succ]
 refine cut1 (fun Γ' M2=> ∃l ps o4 o5,Γ'=[some (.scr (ns.map D.int)),some (.obj l),some (.int st),some (.int nb),o4,o5,none,none]/\Bag M M2 l ps 300) ?_ ?_
 rotate_left
 . intro rest hrest
   refine a34 (decide (st % 4=3)) (fun R h=>by simp! only[];exact⟨by decide,h⟩) ?_
   refine ite2 (fun _=> ?_) fun _=>hrest _ _ ⟨l,ps,_,_,rfl,bg.at',bg.sub,bg.free,bg.n,bg.low.up (by decide)⟩
   refine seqV (.lst ((ps.map a2m).map D.str)) M1 (fun R h=> ?_) ?_
   . refine b4x (d:= .obj l) (ps.map D.str) b25 (fun d=>[some d]) (fun R h=>h) (fun M' s=> ?_) (by rw[List.length_map];omega) (fun x hx=>rfl) (fun x hx own ho M' R h=> ?_) (fun x hx M' _ R h=> ?_) ?_
     . simp only[L2.dr,s _ _ bg.at']
     . obtain⟨o,rfl⟩:=own1 ho
       exact h
     . obtain⟨p,hp',rfl⟩:=List.mem_map.mp hx
       have:=bg.low p hp'
       exact a8c (by omega) h
     . rw[a8b];exact h
   simp only[List.set_cons_zero,List.set_cons_succ]
   have hpos:(0:Int)< (ps.length:Int)+1:=by omega
   have a1:=Int.emod_nonneg nb (show(ps.length:Int)+1≠0 by omega)
   have a2:=Int.emod_lt_of_pos nb hpos
   refine seqV (.int (nb % ((ps.length:Int)+1))) M1 (fun R h=>by simp! only[bg.at',List.length_map];exact⟨hpos,h⟩) ?_
   generalize nb % ((ps.length:Int)+1)=k at a1 a2 |-
   obtain⟨k,rfl⟩:=Int.eq_ofNat_of_zero_le a1
   simp only[List.set_cons_zero,List.set_cons_succ]
   simp! only[bg.at',b1s,a8f,a7c]
   refine⟨⟨by decide,by decide⟩,⟨by decide,by decide⟩,ps.map a2m,_,rfl,Low.heads bg.low,fun x hx=> ?_⟩
   try simp! only[bg.at',a8f,a7c]
   refine⟨by decide,by simp only[List.length_take,List.length_map];omega,by simp only[List.length_append,List.length_cons,List.length_nil,List.length_take,List.length_drop,List.length_map];omega,fun l' hl'=> ?_⟩
   have fl:M l'=none:=by
     cases hh:M l' with
     |none=>rfl
     |some o=>rw[bg.sub _ _ hh]at hl';cases hl'
   refine hrest _ _ ⟨l',ps.take k++[x]++ps.drop k,_,_,rfl,?_,a1i bg.sub fl,fl,by simp only[List.length_append,List.length_cons,List.length_nil,List.length_take,List.length_drop];omega,?_⟩
   . rw[a0d,List.map_append,List.map_append,List.map_take,List.map_drop];rfl
   . refine Low.app (Low.app (fun p hp=> ?_) fun p hp=> ?_) fun p hp=> ?_
     . have:=bg.low p (List.mem_of_mem_take hp);omega
     . rw[List.mem_singleton.mp hp];exact hx
     . have:=bg.low p (List.mem_of_mem_drop hp);omega
 clear n0 bg l ps
 rintro Γ' M2 ⟨l,ps,o4,o5,rfl,bg⟩
 refine cut1 (fun Γ' M3=> ∃ps o5,Γ'=[some (.scr (ns.map D.int)),some (.obj l),some (.int st),some (.int nb),o4,o5,none,none]/\Bag M M3 l ps 302) ?_ ?_
 rotate_left
 . intro rest hrest
   have keep:Bag M M2 l ps 302:=⟨bg.at',bg.sub,bg.free,bg.n,bg.low.up (by decide)⟩
   refine a34 (decide (st % 8=5)&&decide ((ps.length:Int)>0)) (fun R h=> ?_) ?_
   . simp! only[bg.at',List.length_map]
     refine⟨by decide,?_⟩
     cases hd:decide (st % 8=5)with
     |true=>rw[hd,Bool.true_and]at h;exact h
     |false=>rw[hd,Bool.false_and]at h;exact h
   refine ite2 (fun hc=> ?_) fun _=>hrest _ _ ⟨ps,_,rfl,keep⟩
   rw[Bool.and_eq_true]at hc
   have hpos:(0:Int)< (ps.length:Int):=of_decide_eq_true hc.2
   have a1:=Int.emod_nonneg nb (show(ps.length:Int)≠0 by omega)
   have a2:=Int.emod_lt_of_pos nb hpos
   refine seqV (.int (nb % (ps.length:Int))) M2 (fun R h=>by simp! only[bg.at',List.length_map];exact⟨hpos,h⟩) ?_
   generalize nb % (ps.length:Int)=k at a1 a2 |-
   obtain⟨k,rfl⟩:=Int.eq_ofNat_of_zero_le a1
   have hk:k<ps.length:=by omega
   simp only[List.set_cons_zero,List.set_cons_succ]
   have ek:atI (ps.map D.str) (k:Int)=some (.str ps[k]):=a1n (by rw[List.getElem?_map,List.getElem?_eq_getElem hk];rfl)
   have hlk:=bg.low _ (List.getElem_mem hk)
   have ix:L2.ixN (ps.map D.str).length (k:Int)=some k:=by
     rw[List.length_map]
     exact ixN_nat hk
   simp! only[aRepl,gaSub,bg.at',ek]
   refine⟨by omega,fun y hy=> ?_⟩
   simp! only[bg.at',ix]
   refine hrest _ _ ⟨ps.set k y,_,rfl,?_,a1i bg.sub bg.free,bg.free,by rw[List.length_set];exact bg.n,(bg.low.up (by decide)).set (by omega) k⟩
   rw[a0d,map_set]
 clear bg ps o5
 rintro Γ' M3 ⟨ps,o5,rfl,bg⟩
 have n1:=bg.n
 have js:=a6g bg.low (by omega) (by decide)
 have j9:=b2x bg.low (by omega) (by decide)
 refine seqV (.str (a2f "; " ps)) M3 (fun R h=>by
   simp! only[aBM,a2d,oJoin,bg.at',a4r]
   exact⟨js.1,js.2,h⟩) ?_
 simp only[List.set_cons_zero,List.set_cons_succ]
 generalize a2f "; " ps=tx at j9 |-
 have hz: ∀{n:Nat},n<=1000000->n<=sizeLine:=kM
 refine cut1 (fun Γ' M4=>M4=M3/\ ∃o5 o7 y,y.length<=1000000/\Γ'=[some (.scr (ns.map D.int)),some (.obj l),some (.int st),some (.int nb),o4,o5,some (.str y),o7]) ?_ ?_
 rotate_left
 . intro rest hrest
   refine a34 (decide (st % 4=2)) (fun R h=>by simp! only[];exact⟨by decide,h⟩) ?_
   refine ite2 (fun _=> ?_) fun _=>hrest _ _ ⟨rfl,_,_,tx,by omega,rfl⟩
   refine seqV (.int (nb % ((tx.length:Int)+1))) M3 (fun R h=>by simp! only[];exact⟨hz (by omega),by omega,h⟩) ?_
   generalize nb % ((tx.length:Int)+1)=at_
   simp only[List.set_cons_zero,List.set_cons_succ]
   have e20 : (" ;019abgz-+_.,:AZ{`\n" : Str).length = 20 := by decide +kernel
   obtain ⟨c, hc⟩ := str_at " ;019abgz-+_.,:AZ{`\n" (cell ns 2 % 20) (Int.emod_nonneg _ (by decide)) (by rw [e20]; exact Int.emod_lt_of_pos _ (by decide))
   refine seqV (.str ⟨#[c]⟩) M3 (fun R h=>by
     simp! only[a2v]
     refine⟨ns,2,rfl,by decide,?_⟩
     simp! only[hc]
     exact⟨by decide,by decide+kernel,h⟩) ?_
   simp only[List.set_cons_zero,List.set_cons_succ]
   refine cut1 (fun Γ' M4=>M4=M3/\ ∃y:Str,y.length<=1/\Γ'=[some (.scr (ns.map D.int)),some (.obj l),some (.int st),some (.int nb),o4,some (.int at_),some (.str tx),some (.str y)]) ?_ ?_
   rotate_left
   . intro rest hrest
     refine a34 (decide (st/4 % 3=0)) (fun R h=>by simp! only[];exact⟨⟨by decide,by decide⟩,by decide,h⟩) ?_
     refine ite2 (fun _=> ?_) fun _=>hrest _ _ ⟨rfl,⟨#[c]⟩,Nat.le_refl 1,rfl⟩
     simp! only[]
     exact hrest _ _ ⟨rfl,"",by decide+kernel,rfl⟩
   rintro Γ' M4 ⟨rfl,y,hy,rfl⟩
   obtain⟨v,hv,_⟩:=a6l D.int [1,0,1] (st/4 % 3) (Int.emod_nonneg _ (by decide)) (by have:=Int.emod_lt_of_pos (st/4) (show(0:Int)<3 by decide);simpa using this)
   simp only[List.map_cons,List.map_nil]at hv
   have s1:=Txt.slice_le tx none (some at_)
   have s2:=Txt.slice_le tx (some (at_+v)) none
   simp! only[hv,a0q]
   refine⟨hz (by omega),hz (by omega),by decide,⟨by decide,by decide⟩,by decide,hz (by omega),hz (by omega),hrest _ _ ⟨rfl,_,_,_,?_,rfl⟩⟩
   simp only[a0q];omega
 rintro Γ' M4 ⟨rfl,o5',o7,y,hy,rfl⟩
 exact .sub bg.sub (q y hy)
theorem b4r{x:Str}{S:TS}(h:a11 x=some S):dueD x= .lst [.lst (S.ws.map eW),.lst (S.js.map eJ)]:=by unfold dueD;rw[h]
theorem b4s{x:Str}(h:a11 x=none):dueD x= .non:=by unfold dueD;rw[h]
theorem ok_law{f C CT CB CJ:Addr}{fd:FuncData}{EC:Rk->Addr}(Fn:Fun K "law" "law" a6v f fd)(XT:ExT K mg EC CT CB CJ)(h_law_cell_at:Has P w K mg base (CXE P w) 1 "_law_cell_at" ["_law_script","_law_k"] (a0m K a2v))(h_law_text:Has P w K mg base (CXE P w) 3 "_law_text" ["_law_script"] (a0m K b1p))
   (h_law_due:Has P w K mg base (CXE P w) 2 "_law_due" ["_law_text_here"] (a0m K spDue)) (h_read:Has P w K mg base (CXE P w) 4 "read" ["text"] (a0m K (a4x C CT)))
   (h_law_only:HasH P w K mg base 1 "_law_only" ["_law_e"] (fun a=>a0m K (b1r CT a)))
   (h_law_twice:Has P w K mg base (CXE P w) 5 "_law_twice" ["_law_train","_law_wheels","_law_joins","_law_number"] (a0m K (a8p C))):FnOk P w K mg base (CXE P w) 6 f fd ["_law_script"] (a0m K spTrue):=by
 refine Fn.okA sc_law (fun ds M Q E h=> ?_) ?_
 . obtain⟨a,rfl,_⟩:=h;rfl
 intro cdv A outer s H E F0 ds M Q Ea hr ct hsp
 obtain⟨ns,rfl,hS,q⟩:=hsp
 refine⟨_,(a0b (sSet (i:=1) sc_law.nd rfl (Or.inl rfl) (a1d h_law_text (hr.mono (by decide)) (by rfl) ct (a0a (paV (pv 0)) a0e)))
     (a0b (sSet (i:=2) sc_law.nd rfl (Or.inl rfl) (a1d h_law_due (hr.mono (by decide)) (by rfl) ct (a0a (paV (pv 1)) a0e)))
     (a0b (sSet (i:=3) sc_law.nd rfl (Or.inl rfl) paB)
     (a0b (sSet (i:=4) sc_law.nd rfl (Or.inl rfl) paB)
     (a0b (sSet (i:=5) sc_law.nd rfl (Or.inl rfl) paN)
     (a0b (sTry ct (fun _ _ _ ct=>(a0g (sSet (i:=5) sc_law.nd rfl (Or.inl rfl) (a1d h_read (hr.mono (by decide)) (by rfl) ct (a0a (paV (pv 1)) a0e)))))
       (fun pn=>(haAs (i:=6) (K':=K) rfl (ct.pl.pin pn) sc_law.nd rfl rfl XT.bT (by rfl) (fun _=>(a0b (sSet (i:=3) sc_law.nd rfl (Or.inl rfl) paB)
         (a0g (sSet (i:=4) sc_law.nd rfl (Or.inl rfl) (paFunH h_law_only ((hr.mono (by decide)).hand _) rfl (by rfl) (a0a (paV (pv 6)) a0e)))))) (haNil ct rfl pn))) a0y)
     (a0b (sIf (a0s op_isN lIs (paV (pv 2)) paN (a0o _))
       (a0g (sRet (b36 (paV (pv 3)) (b35 (paV (pv 4))))))
       a0y)
     (a0b (sIf (ptV (paV (pv 3)))
       (a0g (sRet paB))
       a0y)
     (a0g (sRet (a1d h_law_twice (hr.mono (by decide)) (by rfl) ct (a0a (paV (pv 5)) (a0a (paIx a0n lIx (paV (pv 2)) paI (fun _ _=>rfl)) (a0a (paIx a0n lIx (paV (pv 2)) paI (fun _ _=>rfl)) (a0a (a1d h_law_cell_at (hr.mono (by decide)) (by rfl) ct (a0a (paV (pv 0)) (a0a paI a0e))) a0e))))))))))))))),?_⟩
 refine cut1 (fun Γ' M1=> ∃x:Str,x.length<=1000000/\Γ'=[some (.scr (ns.map D.int)),some (.str x),none,none,none,none,none]) ?_ ?_
 rotate_left
 . intro rest hrest
   simp! only[b1p]
   exact⟨ns,rfl,hS.len,fun x hx=>hrest _ _ ⟨x,hx,rfl⟩⟩
 rintro Γ' M1 ⟨x,hx,rfl⟩
 refine seqV (dueD x) M1 (fun R h=>⟨x,rfl,hx,h⟩) ?_
 simp only[List.set_cons_zero,List.set_cons_succ]
 refine seqV (.bl false) M1 (fun R h=>h) ?_
 simp only[List.set_cons_zero,List.set_cons_succ]
 refine seqV (.bl false) M1 (fun R h=>h) ?_
 simp only[List.set_cons_zero,List.set_cons_succ]
 refine seqV .non M1 (fun R h=>h) ?_
 simp only[List.set_cons_zero,List.set_cons_succ]
 cases hr':a11 x with
 |some S=>
   obtain⟨gd,nm⟩:=a7n hr'
   refine cut1 (fun Γ' M2=> ∃p d1 d2,Γ'=[some (.scr (ns.map D.int)),some (.str x),some (dueD x),some (.bl false),some (.bl false),some (.obj p),none]/\Tr C M2 p d1 d2 S) ?_ ?_
   rotate_left
   . intro rest hrest
     simp! only[aTry,a4x]
     refine⟨x,rfl,hx,?_⟩
     rw[hr']
     intro p d1 d2 M' _ _ _ _ tr
     exact hrest _ _ ⟨p,d1,d2,rfl,tr⟩
   rintro Γ' M2 ⟨p,d1,d2,rfl,tr⟩
   rw[b4r hr']
   refine a10 (fun R h=>by simp! only[];exact h) ?_
   refine a10 (fun R h=>by simp! only[];exact h) ?_
   simp! only[a2v,a8p]
   exact⟨ns,3,rfl,by decide,p,d1,d2,S,_,rfl,tr,gd,nm,fun M'=> .now (q _)⟩
 |none=>
   refine cut1 (fun Γ' M2=> ∃o5,Γ'=[some (.scr (ns.map D.int)),some (.str x),some (dueD x),some (.bl true),some (.bl true),o5,none]) ?_ ?_
   rotate_left
   . intro rest hrest
     simp! only[aTry,a4x]
     refine⟨x,rfl,hx,?_⟩
     rw[hr']
     intro M' _
     refine⟨true,XT.trainT,?_⟩
     rw[if_pos rfl]
     intro a M2 he
     simp! only[aFunH,b1r]
     exact⟨he,hrest _ _ ⟨_,rfl⟩⟩
   rintro Γ' M2 ⟨o5,rfl⟩
   rw[b4s hr']
   refine a3f (fun R h=>by simp! only[];exact h) ?_
   refine retV (.bl true) M2 (fun R h=>by simp! only[];exact h) (.now (q _))
end
theorem b2q{α:Type}(us:List α)(h:us.length=1): ∃a,us=[a]:=List.length_eq_one_iff.mp h
theorem len_2{α:Type}(us:List α)(h:us.length=2): ∃a b,us=[a,b]:=by
 cases us with
 |nil=>cases h
 |cons a us=>
   obtain⟨b,rfl⟩:=b2q us (by simpa using h)
   exact⟨a,b,rfl⟩
theorem len_3{α:Type}(us:List α)(h:us.length=3): ∃a b c,us=[a,b,c]:=by
 cases us with
 |nil=>cases h
 |cons a us=>
   obtain⟨b,c,rfl⟩:=len_2 us (by simpa using h)
   exact⟨a,b,c,rfl⟩
theorem len_4{α:Type}(us:List α)(h:us.length=4): ∃a b c d,us=[a,b,c,d]:=by
 cases us with
 |nil=>cases h
 |cons a us=>
   obtain⟨b,c,d,rfl⟩:=len_3 us (by simpa using h)
   exact⟨a,b,c,d,rfl⟩
theorem len_5{α:Type}(us:List α)(h:us.length=5): ∃a b c d e,us=[a,b,c,d,e]:=by
 cases us with
 |nil=>cases h
 |cons a us=>
   obtain⟨b,c,d,e,rfl⟩:=len_4 us (by simpa using h)
   exact⟨a,b,c,d,e,rfl⟩
def DAt(K:PySem.W.Frag)(x:Str)(st:Stmt)(f:Addr):Prop:=PySem.W.nsIn K mainGlobals x=some (some (.ref f))/\ ∃fd,Fun K x x st f fd
theorem DAt.mk{K:PySem.W.Frag}{x:Str}{st:Stmt}{f:Addr}{oc:Value}{od an:Option Addr}{sl:Array (Option Value)}{kV dc pm cd ct:Value}(a:PySem.W.nsIn K mainGlobals x=some (some (.ref f)))(l:K.lookup f=some ⟨oc,od,.func (PySem.W.fnOf x x (a1f st) (a04 st) (a0c st) .none kV dc pm an cd ct),sl⟩)(c:PySem.W.codeIn K cd x=true)(k:PySem.W.keepIn K (.ref f)=true):DAt K x st f:=⟨a,_,a4a l c k⟩
local macro_rules
 | `(tactic| bv_omega) => `(tactic| (intro _ _ _ _ _ _ us hl; first | (obtain ⟨_, h9⟩ := b2q us hl; subst h9; rfl) | (obtain ⟨_, _, h9⟩ := len_2 us hl; subst h9; rfl) | (obtain ⟨_, _, _, h9⟩ := len_3 us hl; subst h9; rfl) | (obtain ⟨_, _, _, _, h9⟩ := len_4 us hl; subst h9; rfl) | (obtain ⟨_, _, _, _, _, h9⟩ := len_5 us hl; subst h9; rfl)))
section
variable {P:Program}{w:World}{K:PySem.W.Frag}{mg:Str->Option Value}{base h:Heap}{x:Str}{st:Stmt}{f:Addr}{ps:List Str}{n:Nat}
theorem DAt.has{sp:L2.Sp}(d:DAt K x st f)(X:K.In h)(G:h.Ns mainGlobals mg)(ok: ∀fd,Fun K x x st f fd->FnOk P w K mg base (CXE P w) n f fd ps sp)(hb: ∀(kV doc pm:Value) (an:Option Addr) (cdv ct:Value) (us:List Value),us.length=ps.length->bindArgs (PySem.W.fnOf x x (a1f st) (a04 st) (a0c st) .none kV doc pm an cdv ct) ⟨us,[]⟩=pure (ps.zip us):=by bv_omega):Has P w K mg base (CXE P w) n x ps sp:=by
 obtain⟨a,fd,F⟩:=d
 exact⟨f,fd,ok fd F,PySem.W.mg_of X G a,F.kp,F.binds hb⟩
theorem DAt.hasH{sp:Addr->L2.Sp}(d:DAt K x st f)(X:K.In h)(G:h.Ns mainGlobals mg)(ok: ∀fd,Fun K x x st f fd->FnOkH P w K mg base n f fd ps sp)(hb: ∀(kV doc pm:Value) (an:Option Addr) (cdv ct:Value) (us:List Value),us.length=ps.length->bindArgs (PySem.W.fnOf x x (a1f st) (a04 st) (a0c st) .none kV doc pm an cdv ct) ⟨us,[]⟩=pure (ps.zip us):=by bv_omega):HasH P w K mg base n x ps sp:=by
 obtain⟨a,fd,F⟩:=d
 exact⟨f,fd,ok fd F,PySem.W.mg_of X G a,F.kp,F.binds hb⟩
end
theorem all_mk{l:PySem.W.OpenLaw}{w:World}{K:PySem.W.Frag}{h:Heap}{mg:Str->Option Value}{fa:Addr}(X:K.In h)(G:h.Ns mainGlobals mg)(hfa:mg "law"=some (.ref fa))(hp:l.prog.given.tree=none)
   {f0 f1 f2 f3 f4 f5 f6 f7 f8 f9 f10 f11 f12 f13 f14 f15 f16 f17 f18 f19 f20 f21 f22 f23 f24 f25 f26 f27 C_Train E_NoName E_Twice E_NoTeeth E_Full E_NoWheel E_NoJoin E_TrainError E_NoText E_Jams q_KINDS:Addr}{od1 an1 od2 an2 od3 an3 od4 an4 od5 an5 od6 an6 od27 an27 qd_KINDS:Option Addr}{sl1 sl2 sl3 sl4 sl5 sl6 sl27 qs_KINDS:Array (Option Value)}{oc1 kV1 dc1 pm1 cd1 ct1 oc2 kV2 dc2 pm2 cd2 ct2 oc3 kV3 dc3 pm3 cd3 ct3 oc4 kV4 dc4 pm4 cd4 ct4 oc5 kV5 dc5 pm5 cd5 ct5 oc6 kV6 dc6 pm6 cd6 ct6 oc27 kV27 dc27 pm27 cd27 ct27:Value}
   {t_LONGEST_NAME t_TEETH_BOUND t_MOST_WHEELS t_MOST_JOINS t_MOST_FIGURES t_LETTERS t_FIGURES t_KINDS0 t_KINDS1 t_KINDS2 t_KINDS3:Tok}
   {qn_KINDS:Nat}
   (aC_Train:PySem.W.nsIn K mainGlobals "Train"=some (some (.ref C_Train)))
   (aE_NoName:PySem.W.nsIn K mainGlobals "NoName"=some (some (.ref E_NoName)))
   (aE_Twice:PySem.W.nsIn K mainGlobals "Twice"=some (some (.ref E_Twice)))
   (aE_NoTeeth:PySem.W.nsIn K mainGlobals "NoTeeth"=some (some (.ref E_NoTeeth)))
   (aE_Full:PySem.W.nsIn K mainGlobals "Full"=some (some (.ref E_Full)))
   (aE_NoWheel:PySem.W.nsIn K mainGlobals "NoWheel"=some (some (.ref E_NoWheel)))
   (aE_NoJoin:PySem.W.nsIn K mainGlobals "NoJoin"=some (some (.ref E_NoJoin)))
   (aE_TrainError:PySem.W.nsIn K mainGlobals "TrainError"=some (some (.ref E_TrainError)))
   (aE_NoText:PySem.W.nsIn K mainGlobals "NoText"=some (some (.ref E_NoText)))
   (aE_Jams:PySem.W.nsIn K mainGlobals "Jams"=some (some (.ref E_Jams)))
   (d0:DAt K "is_name" a42 f0)
   (a1:PySem.W.findIn K (.ref C_Train) "__init__"=some (some (.ref f1)))
   (i1:PySem.W.isFn K (.ref f1)=true)
   (l1:K.lookup f1=some ⟨oc1,od1,.func (PySem.W.fnOf "__init__" "Train.__init__" (a1f a01) (a04 a01) (a0c a01) .none kV1 dc1 pm1 an1 cd1 ct1),sl1⟩)
   (c1:PySem.W.codeIn K cd1 "Train.__init__"=true)
   (k1:PySem.W.keepIn K (.ref f1)=true)
   (a2:PySem.W.findIn K (.ref C_Train) "put_wheel"=some (some (.ref f2)))
   (i2:PySem.W.isFn K (.ref f2)=true)
   (l2:K.lookup f2=some ⟨oc2,od2,.func (PySem.W.fnOf "put_wheel" "Train.put_wheel" (a1f a0x) (a04 a0x) (a0c a0x) .none kV2 dc2 pm2 an2 cd2 ct2),sl2⟩)
   (c2:PySem.W.codeIn K cd2 "Train.put_wheel"=true)
   (k2:PySem.W.keepIn K (.ref f2)=true)
   (a3:PySem.W.findIn K (.ref C_Train) "put_join"=some (some (.ref f3)))
   (i3:PySem.W.isFn K (.ref f3)=true)
   (l3:K.lookup f3=some ⟨oc3,od3,.func (PySem.W.fnOf "put_join" "Train.put_join" (a1f a00) (a04 a00) (a0c a00) .none kV3 dc3 pm3 an3 cd3 ct3),sl3⟩)
   (c3:PySem.W.codeIn K cd3 "Train.put_join"=true)
   (k3:PySem.W.keepIn K (.ref f3)=true)
   (a4:PySem.W.findIn K (.ref C_Train) "take_join"=some (some (.ref f4)))
   (i4:PySem.W.isFn K (.ref f4)=true)
   (l4:K.lookup f4=some ⟨oc4,od4,.func (PySem.W.fnOf "take_join" "Train.take_join" (a1f a0w) (a04 a0w) (a0c a0w) .none kV4 dc4 pm4 an4 cd4 ct4),sl4⟩)
   (c4:PySem.W.codeIn K cd4 "Train.take_join"=true)
   (k4:PySem.W.keepIn K (.ref f4)=true)
   (a5:PySem.W.findIn K (.ref C_Train) "wheels"=some (some (.ref f5)))
   (i5:PySem.W.isFn K (.ref f5)=true)
   (l5:K.lookup f5=some ⟨oc5,od5,.func (PySem.W.fnOf "wheels" "Train.wheels" (a1f a07) (a04 a07) (a0c a07) .none kV5 dc5 pm5 an5 cd5 ct5),sl5⟩)
   (c5:PySem.W.codeIn K cd5 "Train.wheels"=true)
   (k5:PySem.W.keepIn K (.ref f5)=true)
   (a6:PySem.W.findIn K (.ref C_Train) "joins"=some (some (.ref f6)))
   (i6:PySem.W.isFn K (.ref f6)=true)
   (l6:K.lookup f6=some ⟨oc6,od6,.func (PySem.W.fnOf "joins" "Train.joins" (a1f a1c) (a04 a1c) (a0c a1c) .none kV6 dc6 pm6 an6 cd6 ct6),sl6⟩)
   (c6:PySem.W.codeIn K cd6 "Train.joins"=true)
   (k6:PySem.W.keepIn K (.ref f6)=true)
   (d7:DAt K "told_teeth" a2h f7)
   (d8:DAt K "put_part" a3w f8)
   (d9:DAt K "read" b1x f9)
   (d10:DAt K "shown" a8v f10)
   (d11:DAt K "_law_cell_at" a2a f11)
   (d12:DAt K "_law_whole" a2z f12)
   (d13:DAt K "_law_name" a3y f13)
   (d14:DAt K "_law_teeth" a21 f14)
   (d15:DAt K "_law_first_parts" a1j f15)
   (d16:DAt K "_law_parts" a24 f16)
   (d17:DAt K "_law_odd_part" a1w f17)
   (d18:DAt K "_law_text" a3x f18)
   (d19:DAt K "_law_is_name" a19 f19)
   (d20:DAt K "_law_is_number" a1q f20)
   (d21:DAt K "_law_due" a41 f21)
   (d22:DAt K "_law_shown" a22 f22)
   (d23:DAt K "_law_right" a23 f23)
   (d24:DAt K "_law_numbered" a1x f24)
   (d25:DAt K "_law_twice" a20 f25)
   (d26:DAt K "_law_only" a2o f26)
   (a27:PySem.W.nsIn K mainGlobals "law"=some (some (.ref f27)))
   (l27:K.lookup f27=some ⟨oc27,od27,.func (PySem.W.fnOf "law" "law" (a1f a6v) (a04 a6v) (a0c a6v) .none kV27 dc27 pm27 an27 cd27 ct27),sl27⟩)
   (c27:PySem.W.codeIn K cd27 "law"=true)
   (k27:PySem.W.keepIn K (.ref f27)=true)
   (pg_Train:PySem.W.plainGet K C_Train Str.empty=true)
   (hd_Train:PySem.W.hasDictIn K C_Train=true)
   (po_Train:PySem.W.plainOver K C_Train=true)
   (sa_Train:PySem.W.findIn K (.ref C_Train) "__setattr__"=some (some (.builtin "object.__setattr__")))
   (mk_Train:PySem.W.makesIn K C_Train=true)
   (kc_Train:PySem.W.keepIn K (.ref C_Train)=true)
   (n_Train_teeth_of:PySem.W.findIn K (.ref C_Train) "teeth_of"=some none)
   (n_Train_join_of:PySem.W.findIn K (.ref C_Train) "join_of"=some none)
   (n_Train_next_number:PySem.W.findIn K (.ref C_Train) "next_number"=some none)
   (z0:PySem.W.nsIn K mainGlobals "len"=some none)
   (z1:PySem.W.nsIn K mainGlobals "all"=some none)
   (z2:PySem.W.nsIn K mainGlobals "list"=some none)
   (z3:PySem.W.nsIn K mainGlobals "range"=some none)
   (z4:PySem.W.nsIn K mainGlobals "isinstance"=some none)
   (z5:PySem.W.nsIn K mainGlobals "int"=some none)
   (z6:PySem.W.nsIn K mainGlobals "bool"=some none)
   (z7:PySem.W.nsIn K mainGlobals "str"=some none)
   (z8:PySem.W.nsIn K mainGlobals "ValueError"=some none)
   (g_LONGEST_NAME:PySem.W.nsIn K mainGlobals "LONGEST_NAME"=some (some (.int 8 t_LONGEST_NAME)))
   (g_TEETH_BOUND:PySem.W.nsIn K mainGlobals "TEETH_BOUND"=some (some (.int 1000000000 t_TEETH_BOUND)))
   (g_MOST_WHEELS:PySem.W.nsIn K mainGlobals "MOST_WHEELS"=some (some (.int 100 t_MOST_WHEELS)))
   (g_MOST_JOINS:PySem.W.nsIn K mainGlobals "MOST_JOINS"=some (some (.int 200 t_MOST_JOINS)))
   (g_MOST_FIGURES:PySem.W.nsIn K mainGlobals "MOST_FIGURES"=some (some (.int 9 t_MOST_FIGURES)))
   (g_LETTERS:PySem.W.nsIn K mainGlobals "LETTERS"=some (some (.str "abcdefghijklmnopqrstuvwxyz" t_LETTERS)))
   (g_FIGURES:PySem.W.nsIn K mainGlobals "FIGURES"=some (some (.str "0123456789" t_FIGURES)))
   (g_KINDS:PySem.W.nsIn K mainGlobals "KINDS"=some (some (.ref q_KINDS)))
   (gl_KINDS:K.lookup q_KINDS=some ⟨.type "tuple",qd_KINDS,.seq #[.str "mesh" t_KINDS0,.str "pin" t_KINDS1,.str "band" t_KINDS2,.str "cross" t_KINDS3] qn_KINDS,qs_KINDS⟩)
   (ex_NoName:PySem.W.excIn K E_NoName bmV "ValueError.__new__"=true)
   (ex_Twice:PySem.W.excIn K E_Twice bmV "ValueError.__new__"=true)
   (ex_NoTeeth:PySem.W.excIn K E_NoTeeth bmV "ValueError.__new__"=true)
   (ex_Full:PySem.W.excIn K E_Full bmV "ValueError.__new__"=true)
   (ex_NoWheel:PySem.W.excIn K E_NoWheel bmV "ValueError.__new__"=true)
   (ex_NoJoin:PySem.W.excIn K E_NoJoin bmV "ValueError.__new__"=true)
   (ex_TrainError:PySem.W.excIn K E_TrainError bmV "ValueError.__new__"=true)
   (ex_NoText:PySem.W.excIn K E_NoText bmV "ValueError.__new__"=true)
   (ex_Jams:PySem.W.excIn K E_Jams bmV "ValueError.__new__"=true)
   (lc_NoText:PySem.W.isClsIn K E_NoText=true)
   (lg_NoText:PySem.W.findIn K (.ref E_NoText) "__getattribute__"=some (some (.builtin "BaseException.__getattribute__")))
   (ln_NoText:PySem.W.findIn K (.ref E_NoText) "__getattr__"=some none)
   (la_NoText:PySem.W.findIn K (.ref E_NoText) "__class__"=some (some (.builtin "object.__class__")))
   (ls_NoText:PySem.W.specialIn K (.builtin "object.__class__") "__get__"=some (some (.builtin "getset_descriptor.__get__")))
   (lt_NoText:PySem.W.takesIn K (.builtin "object.__class__")=some true)
   (lo_NoText:PySem.W.mroIn K E_NoText (.type "object")=some true)
   (lb_NoText:PySem.W.mroIn K E_NoText (.type "BaseException")=some true)
   (lb_NoName:PySem.W.mroIn K E_NoName (.type "BaseException")=some true)
   (lb_Twice:PySem.W.mroIn K E_Twice (.type "BaseException")=some true)
   (lb_NoTeeth:PySem.W.mroIn K E_NoTeeth (.type "BaseException")=some true)
   (lb_Full:PySem.W.mroIn K E_Full (.type "BaseException")=some true)
   (lb_NoWheel:PySem.W.mroIn K E_NoWheel (.type "BaseException")=some true)
   (lb_NoJoin:PySem.W.mroIn K E_NoJoin (.type "BaseException")=some true)
   (kt_NoText_NoName:PySem.W.kitOne K (.ref E_NoText) (.ref E_NoName)=some false)
   (kt_NoText_Twice:PySem.W.kitOne K (.ref E_NoText) (.ref E_Twice)=some false)
   (kt_NoText_NoTeeth:PySem.W.kitOne K (.ref E_NoText) (.ref E_NoTeeth)=some false)
   (kt_NoText_Full:PySem.W.kitOne K (.ref E_NoText) (.ref E_Full)=some false)
   (kt_NoText_NoWheel:PySem.W.kitOne K (.ref E_NoText) (.ref E_NoWheel)=some false)
   (kt_NoText_NoJoin:PySem.W.kitOne K (.ref E_NoText) (.ref E_NoJoin)=some false)
   (kt_NoText_Jams:PySem.W.kitOne K (.ref E_NoText) (.ref E_Jams)=some false)
   (kt_NoText_NoText:PySem.W.kitOne K (.ref E_NoText) (.ref E_NoText)=some true)
   (kt_NoText_ValueError:PySem.W.kitOne K (.ref E_NoText) (.type "ValueError")=some true)
   (xm_NoName_TrainError:PySem.W.exmOne K (.ref E_NoName) (.ref E_TrainError)=some true)
   (xm_Twice_TrainError:PySem.W.exmOne K (.ref E_Twice) (.ref E_TrainError)=some true)
   (xm_NoTeeth_TrainError:PySem.W.exmOne K (.ref E_NoTeeth) (.ref E_TrainError)=some true)
   (xm_Full_TrainError:PySem.W.exmOne K (.ref E_Full) (.ref E_TrainError)=some true)
   (xm_NoWheel_TrainError:PySem.W.exmOne K (.ref E_NoWheel) (.ref E_TrainError)=some true)
   (xm_NoJoin_TrainError:PySem.W.exmOne K (.ref E_NoJoin) (.ref E_TrainError)=some true)
   (xm_NoText_TrainError:PySem.W.exmOne K (.ref E_NoText) (.ref E_TrainError)=some true)
   : ∃fd:FuncData,(∀(s:Shared) (v:Value),BindsTo s fd ⟨[v],[]⟩ [("_law_script",v)])/\ ∀base:Heap,K.In base->base.Ns mainGlobals mg->base.NoSeer->FnOk l.prog w K mg base CX0 6 fa fd ["_law_script"] (a4m K):=by
 have e:=hfa.symm.trans (PySem.W.mg_of X G a27)
 cases e
 have T:Txt K mg:=⟨PySem.W.mg_none_of X G z0,PySem.W.mg_none_of X G z1,PySem.W.mg_none_of X G z2,PySem.W.mg_none_of X G z3,PySem.W.mg_none_of X G z4,PySem.W.mg_none_of X G z5,PySem.W.mg_none_of X G z6,PySem.W.mg_none_of X G z7,PySem.W.mg_none_of X G z8,⟨_,PySem.W.mg_of X G g_LONGEST_NAME⟩,⟨_,PySem.W.mg_of X G g_TEETH_BOUND⟩,⟨_,PySem.W.mg_of X G g_MOST_WHEELS⟩,⟨_,PySem.W.mg_of X G g_MOST_JOINS⟩,⟨_,PySem.W.mg_of X G g_MOST_FIGURES⟩,⟨_,PySem.W.mg_of X G g_LETTERS⟩,⟨_,PySem.W.mg_of X G g_FIGURES⟩,⟨_,PySem.W.mg_of X G g_KINDS,fun _=> .inr ⟨_,_,_,gl_KINDS,rfl,rfl,Nat.le_of_ble_eq_true rfl,(.cons ⟨_,rfl⟩ (.cons ⟨_,rfl⟩ (.cons ⟨_,rfl⟩ (.cons ⟨_,rfl⟩ .nil))))⟩⟩⟩
 have F_Train___init__:=a4a (st:=a01) l1 c1 k1
 have b_Train___init__:=F_Train___init__.binds (ps:=["self"]) fun _ _ _ _ _ _ us hl=>by obtain⟨_,rfl⟩:=b2q us hl;rfl
 have me_Train___init__:Meth K C_Train "__init__" _:=⟨a1,i1,k1⟩
 have F_Train_put_wheel:=a4a (st:=a0x) l2 c2 k2
 have b_Train_put_wheel:=F_Train_put_wheel.binds (ps:=["self","name","teeth"]) fun _ _ _ _ _ _ us hl=>by obtain⟨_,_,_,rfl⟩:=len_3 us hl;rfl
 have me_Train_put_wheel:Meth K C_Train "put_wheel" _:=⟨a2,i2,k2⟩
 have F_Train_put_join:=a4a (st:=a00) l3 c3 k3
 have b_Train_put_join:=F_Train_put_join.binds (ps:=["self","kind","one","other"]) fun _ _ _ _ _ _ us hl=>by obtain⟨_,_,_,_,rfl⟩:=len_4 us hl;rfl
 have me_Train_put_join:Meth K C_Train "put_join" _:=⟨a3,i3,k3⟩
 have F_Train_take_join:=a4a (st:=a0w) l4 c4 k4
 have b_Train_take_join:=F_Train_take_join.binds (ps:=["self","number"]) fun _ _ _ _ _ _ us hl=>by obtain⟨_,_,rfl⟩:=len_2 us hl;rfl
 have me_Train_take_join:Meth K C_Train "take_join" _:=⟨a4,i4,k4⟩
 have F_Train_wheels:=a4a (st:=a07) l5 c5 k5
 have b_Train_wheels:=F_Train_wheels.binds (ps:=["self"]) fun _ _ _ _ _ _ us hl=>by obtain⟨_,rfl⟩:=b2q us hl;rfl
 have me_Train_wheels:Meth K C_Train "wheels" _:=⟨a5,i5,k5⟩
 have F_Train_joins:=a4a (st:=a1c) l6 c6 k6
 have b_Train_joins:=F_Train_joins.binds (ps:=["self"]) fun _ _ _ _ _ _ us hl=>by obtain⟨_,rfl⟩:=b2q us hl;rfl
 have me_Train_joins:Meth K C_Train "joins" _:=⟨a6,i6,k6⟩
 have F_law:=a4a (st:=a6v) l27 c27 k27
 have cl_Train:Cls K C_Train:=⟨pg_Train,hd_Train,po_Train,sa_Train⟩
 have pl_teeth_of:Pln K C_Train "teeth_of":=⟨cl_Train,n_Train_teeth_of⟩
 have pl_join_of:Pln K C_Train "join_of":=⟨cl_Train,n_Train_join_of⟩
 have pl_next_number:Pln K C_Train "next_number":=⟨cl_Train,n_Train_next_number⟩
 have X_NoName:ExCls K mg "NoName" E_NoName:=⟨PySem.W.mg_of X G aE_NoName,ex_NoName⟩
 have X_Twice:ExCls K mg "Twice" E_Twice:=⟨PySem.W.mg_of X G aE_Twice,ex_Twice⟩
 have X_NoTeeth:ExCls K mg "NoTeeth" E_NoTeeth:=⟨PySem.W.mg_of X G aE_NoTeeth,ex_NoTeeth⟩
 have X_Full:ExCls K mg "Full" E_Full:=⟨PySem.W.mg_of X G aE_Full,ex_Full⟩
 have X_NoWheel:ExCls K mg "NoWheel" E_NoWheel:=⟨PySem.W.mg_of X G aE_NoWheel,ex_NoWheel⟩
 have X_NoJoin:ExCls K mg "NoJoin" E_NoJoin:=⟨PySem.W.mg_of X G aE_NoJoin,ex_NoJoin⟩
 have X_TrainError:ExCls K mg "TrainError" E_TrainError:=⟨PySem.W.mg_of X G aE_TrainError,ex_TrainError⟩
 have X_NoText:ExCls K mg "NoText" E_NoText:=⟨PySem.W.mg_of X G aE_NoText,ex_NoText⟩
 have X_Jams:ExCls K mg "Jams" E_Jams:=⟨PySem.W.mg_of X G aE_Jams,ex_Jams⟩
 refine⟨PySem.W.fnOf "law" "law" (a1f a6v) (a04 a6v) (a0c a6v) .none kV27 dc27 pm27 an27 cd27 ct27,fun s v=> .of_eq rfl,fun base kb nb sb=> ?_⟩
 let EC:Rk->Addr:=fun r=>match r with | .noName=>E_NoName | .twice=>E_Twice | .noTeeth=>E_NoTeeth | .full=>E_Full | .noWheel=>E_NoWheel | .noJoin=>E_NoJoin
 have XK:ExK K mg EC:=⟨X_NoName,X_Twice,X_NoTeeth,X_Full,X_NoWheel,X_NoJoin⟩
 have XT:ExT K mg EC E_NoText E_TrainError E_Jams:=⟨X_TrainError.1,X_Jams.1,X_NoText.1,fun r=>match r with | .noName=>xm_NoName_TrainError | .twice=>xm_Twice_TrainError | .noTeeth=>xm_NoTeeth_TrainError | .full=>xm_Full_TrainError | .noWheel=>xm_NoWheel_TrainError | .noJoin=>xm_NoJoin_TrainError,xm_NoText_TrainError,fun r=>match r with | .noName=>lb_NoName | .twice=>lb_Twice | .noTeeth=>lb_NoTeeth | .full=>lb_Full | .noWheel=>lb_NoWheel | .noJoin=>lb_NoJoin,lb_NoText,⟨lc_NoText,lg_NoText,ln_NoText,la_NoText,ls_NoText,lt_NoText,lo_NoText,lb_NoText⟩,fun r=>match r with | .noName=>kt_NoText_NoName | .twice=>kt_NoText_Twice | .noTeeth=>kt_NoText_NoTeeth | .full=>kt_NoText_Full | .noWheel=>kt_NoText_NoWheel | .noJoin=>kt_NoText_NoJoin,kt_NoText_Jams,kt_NoText_NoText,kt_NoText_ValueError⟩
 have h_law_cell_at:=d11.has (P:=l.prog) (w:=w) (base:=base) X G fun _ F=>ok_cell F T
 have h_law_whole:=d12.has (P:=l.prog) (w:=w) (base:=base) X G fun _ F=>b37 F T
 have h_is_name:=d0.has (P:=l.prog) (w:=w) (base:=base) X G fun _ F=>b02 F T
 have h_Train:HasC l.prog w K mg base 1 "Train" C_Train (a9s C_Train):=⟨PySem.W.mg_of X G aC_Train,_,_,ok_init F_Train___init__ pl_teeth_of pl_join_of pl_next_number,⟨mk_Train,me_Train___init__.1,me_Train___init__.2,kc_Train⟩,b_Train___init__⟩
 have h_put_wheel:HasM l.prog w K mg base (CXE l.prog w) 2 C_Train "put_wheel" ["self","name","teeth"] (a0m K (a6b C_Train EC)):=⟨cl_Train,_,_,a7v F_Train_put_wheel T XK pl_teeth_of h_is_name,me_Train_put_wheel,b_Train_put_wheel⟩
 have h_put_join:HasM l.prog w K mg base (CXE l.prog w) 2 C_Train "put_join" ["self","kind","one","other"] (a0m K (a9r C_Train EC)):=⟨cl_Train,_,_,a83 F_Train_put_join T XK pl_teeth_of pl_join_of pl_next_number,me_Train_put_join,b_Train_put_join⟩
 have h_take_join:HasM l.prog w K mg base (CXE l.prog w) 2 C_Train "take_join" ["self","number"] (a0m K (a6p C_Train EC)):=⟨cl_Train,_,_,a7u F_Train_take_join XK pl_join_of,me_Train_take_join,b_Train_take_join⟩
 have h_wheels:HasM l.prog w K mg base (CXE l.prog w) 1 C_Train "wheels" ["self"] (a0m K (a3b C_Train)):=⟨cl_Train,_,_,b2g F_Train_wheels T pl_teeth_of,me_Train_wheels,b_Train_wheels⟩
 have h_joins:HasM l.prog w K mg base (CXE l.prog w) 1 C_Train "joins" ["self"] (a0m K (a4y C_Train)):=⟨cl_Train,_,_,b39 F_Train_joins T pl_join_of,me_Train_joins,b_Train_joins⟩
 have h_told_teeth:=d7.has (P:=l.prog) (w:=w) (base:=base) X G fun _ F=>a61 F T X_NoText
 have h_put_part:=d8.has (P:=l.prog) (w:=w) (base:=base) X G fun _ F=>a82 F T X_NoText h_put_wheel h_put_join h_told_teeth
 have h_read:=d9.has (P:=l.prog) (w:=w) (base:=base) X G fun _ F=>ok_read F X_NoText XT h_Train h_put_part
 have h_shown:=d10.has (P:=l.prog) (w:=w) (base:=base) X G fun _ F=>b38 F h_wheels h_joins
 have h_law_is_name:=d19.has (P:=l.prog) (w:=w) (base:=base) X G fun _ F=>a51 F T
 have h_law_is_number:=d20.has (P:=l.prog) (w:=w) (base:=base) X G fun _ F=>a4f F T
 have h_law_due:=d21.has (P:=l.prog) (w:=w) (base:=base) X G fun _ F=>b01 F T h_law_is_name h_law_is_number
 have h_law_shown:=d22.has (P:=l.prog) (w:=w) (base:=base) X G fun _ F=>a7y F T
 have h_law_right:=d23.has (P:=l.prog) (w:=w) (base:=base) X G fun _ F=>a7z F T h_wheels h_joins h_law_whole h_shown h_law_shown
 have h_law_numbered:=d24.has (P:=l.prog) (w:=w) (base:=base) X G fun _ F=>a5d F T
 have h_law_twice:=d25.has (P:=l.prog) (w:=w) (base:=base) X G fun _ F=>a7w F T h_read h_shown h_law_right h_law_numbered h_take_join h_put_wheel
 have h_law_only:=d26.hasH (P:=l.prog) (w:=w) (base:=base) X G fun _ F=>a85 F T XK XT
 have h_law_name:=d13.has (P:=l.prog) (w:=w) (base:=base) X G fun _ F=>a86 F T
 have h_law_teeth:=d14.has (P:=l.prog) (w:=w) (base:=base) X G fun _ F=>a7x F
 have h_law_first_parts:=d15.has (P:=l.prog) (w:=w) (base:=base) X G fun _ F=>a3l F T
 have h_law_parts:=d16.has (P:=l.prog) (w:=w) (base:=base) X G fun _ F=>a70 F T h_law_cell_at h_law_first_parts h_law_name h_law_teeth
 have h_law_odd_part:=d17.has (P:=l.prog) (w:=w) (base:=base) X G fun _ F=>a5c F T
 have h_law_text:=d18.has (P:=l.prog) (w:=w) (base:=base) X G fun _ F=>a84 F T h_law_cell_at h_law_parts h_law_odd_part
 exact law_ok (ok_law (C:=C_Train) F_law XT h_law_cell_at h_law_text h_law_due h_read h_law_only h_law_twice)
theorem walk{l:PySem.W.OpenLaw}{q:Program}{loose:List Str}{XP:(Str->Option Value)->Heap->Prop}{YP:World->Heap->Prop}{d:DefRec}{K:Params->PySem.W.Frag}(hn:l.most=some 63)(hdf:d.params.defaults=[])(him:importsNone q=true)
   (hY: ∀(w:World) (h:Heap),YP w h->(K w.params).In h)
   (F: ∀(w:World) (mg:Str->Option Value) (fa:Addr) (h:Heap),(K w.params).In h->h.Ns mainGlobals mg->mg d.name=some (.ref fa)->
     ∃fd:FuncData,(∀(s:Shared) (u:Value),BindsTo s fd ⟨[u],[]⟩ [("_law_script",u)])/\ ∀base:Heap,(K w.params).In base->base.Ns mainGlobals mg->base.NoSeer->FnOk l.prog w (K w.params) mg base CX0 6 fa fd ["_law_script"] (a4m (K w.params))):
   PySem.W.WalkO q loose XP YP l.row.toRowW d [] (fun f vs=>PySem.call f vs):=
 L2.walk_ofB (n:=63) (k:=6) (x:="_law_script") (CX:=CX0) (sp:=a4m) hn (by decide) hdf ⟨rfl,by decide,by decide⟩ him hY F (fun _ _ a ns hl _ hS=>⟨a,ns,rfl,hS,hl,fun _=>rfl⟩) fun _ _ _ _ z=>z
end K4
open PySem PySem.W PyProof.Rows
local macro_rules
 | `(tactic| bv_normalize) => `(tactic| (refine' K4.DAt.mk ?a ?l ?c ?k; (case a => k_is); (case l => k_is); (case c => k_is); (case k => k_is)))
noncomputable def PySem.W.Fast.tw1719411876556796022:Nat:=0
noncomputable def PySem.W.Fast.tw14383446444975129347:Nat:=0
noncomputable def PySem.W.Fast.tw6927662058373891123:Nat:=0
noncomputable def PySem.W.Fast.tw6524434574221984573:Nat:=0
noncomputable def PySem.W.Fast.tw4396961799610650087:Nat:=0
noncomputable def PySem.W.Fast.tw13286618795040255640:Nat:=0
noncomputable def PySem.W.Fast.tw16485183705869545363:Nat:=0
noncomputable def PySem.W.Fast.tw15164537901777256056:Nat:=0
noncomputable def PySem.W.Fast.tw15141030072524013378:Nat:=0
noncomputable def PySem.W.Fast.tw14649301986641736763:Nat:=0
noncomputable def PySem.W.Fast.tw13258377601157944903:Nat:=0
noncomputable def PySem.W.Fast.tw15432691211414810030:Nat:=0
noncomputable def PySem.W.Fast.tw14382340853093213699:Nat:=0
noncomputable def PySem.W.Fast.tw5801015584286239529:Nat:=0
noncomputable def PySem.W.Fast.tw10245631516240497179:Nat:=0
noncomputable def PySem.W.Fast.tw7925115640332951423:Nat:=0
noncomputable def PySem.W.Fast.tw67876816196444709:Nat:=0
noncomputable def PySem.W.Fast.tw462529466301097316:Nat:=0
noncomputable def PySem.W.Fast.tw17531870544885422548:Nat:=0
noncomputable def PySem.W.Fast.tw14535935189558054204:Nat:=0
noncomputable def PySem.W.Fast.tw4377339779349279286:Nat:=0
noncomputable def PySem.W.Fast.tw9224064197768313544:Nat:=0
noncomputable def PySem.W.Fast.tw17012798994926265120:Nat:=0
noncomputable def PySem.W.Fast.tw14174058371949162975:Nat:=0
noncomputable def PySem.W.Fast.tw512550297370649063:Nat:=0
noncomputable def PySem.W.Fast.tw6835989131072127644:Nat:=0
noncomputable def PySem.W.Fast.tw2060571619666379717:Nat:=0
noncomputable def PySem.W.Fast.tw8769760214281883456:Nat:=0
noncomputable def PySem.W.Fast.tw10606498167599256119:Nat:=0
noncomputable def PySem.W.Fast.tw7199153480816265458:Nat:=0
noncomputable def PySem.W.Fast.tw4854338834931127671:Nat:=0
noncomputable def PySem.W.Fast.tw6628264255981120859:Nat:=0
noncomputable def PySem.W.Fast.tw15054485965961433190:Nat:=0
noncomputable def PySem.W.Fast.tw16988321933583043443:Nat:=0
noncomputable def PySem.W.Fast.tw183183713674007734:Nat:=0
noncomputable def PySem.W.Fast.tw2395125637449049069:Nat:=0
noncomputable def PySem.W.Fast.tw1791977295070600306:Nat:=0
noncomputable def PySem.W.Fast.tw3374404163601158999:Nat:=0
noncomputable def PySem.W.Fast.tw11389041251745020429:Nat:=0
noncomputable def PySem.W.Fast.tw15040956868279392544:Nat:=0
noncomputable def PySem.W.Fast.tw9919059305071995718:Nat:=0
noncomputable def PySem.W.Fast.tw1488359636950039795:Nat:=0
noncomputable def PySem.W.Fast.tw16715259692794108006:Nat:=0
noncomputable def PySem.W.Fast.tw725593265430577453:Nat:=0
noncomputable def PySem.W.Fast.tw14247830262072555679:Nat:=0
noncomputable def PySem.W.Fast.tw16717119462525293904:Nat:=0
noncomputable def PySem.W.Fast.tw12444907350726590251:Nat:=0
noncomputable def PySem.W.Fast.tw8687079282141570825:Nat:=0
noncomputable def PySem.W.Fast.tw17919805264925565820:Nat:=0
noncomputable def PySem.W.Fast.tw9870280078940333004:Nat:=0
noncomputable def PySem.W.Fast.tw1137088268224513244:Nat:=0
set_option maxRecDepth 100000 in
set_option maxHeartbeats 0 in
theorem PySem.Challenge.cw_cogtrain_k04_texts_holds : PySem.Challenge.rw_cogtrain_k04_texts.Holds := by
 w_on;o_law;k_head;(case hw=>w_witness2)
 k_fill
 refine K4.walk (l:=PySem.Challenge.rw_cogtrain_k04_texts) rfl rfl (by decide+kernel) (fun w h Y=>PySem.W.kIn_of Y) ?F
 case F=>
   intro w mg fa h KX G hmg
   refine' K4.all_mk KX G hmg rfl ?aC_Train ?aE_NoName ?aE_Twice ?aE_NoTeeth ?aE_Full ?aE_NoWheel ?aE_NoJoin ?aE_TrainError ?aE_NoText ?aE_Jams ?d0 ?a1 ?i1 ?l1 ?c1 ?k1 ?a2 ?i2 ?l2 ?c2 ?k2 ?a3 ?i3 ?l3 ?c3 ?k3 ?a4 ?i4 ?l4 ?c4 ?k4 ?a5 ?i5 ?l5 ?c5 ?k5 ?a6 ?i6 ?l6 ?c6 ?k6 ?d7 ?d8 ?d9 ?d10 ?d11 ?d12 ?d13 ?d14 ?d15 ?d16 ?d17 ?d18 ?d19 ?d20 ?d21 ?d22 ?d23 ?d24 ?d25 ?d26 ?a27 ?l27 ?c27 ?k27 ?pg_Train ?hd_Train ?po_Train ?sa_Train ?mk_Train ?kc_Train ?n_Train_teeth_of ?n_Train_join_of ?n_Train_next_number ?z0 ?z1 ?z2 ?z3 ?z4 ?z5 ?z6 ?z7 ?z8 ?g_LONGEST_NAME ?g_TEETH_BOUND ?g_MOST_WHEELS ?g_MOST_JOINS ?g_MOST_FIGURES ?g_LETTERS ?g_FIGURES ?g_KINDS ?gl_KINDS ?ex_NoName ?ex_Twice ?ex_NoTeeth ?ex_Full ?ex_NoWheel ?ex_NoJoin ?ex_TrainError ?ex_NoText ?ex_Jams ?lc_NoText ?lg_NoText ?ln_NoText ?la_NoText ?ls_NoText ?lt_NoText ?lo_NoText ?lb_NoText ?lb_NoName ?lb_Twice ?lb_NoTeeth ?lb_Full ?lb_NoWheel ?lb_NoJoin ?kt_NoText_NoName ?kt_NoText_Twice ?kt_NoText_NoTeeth ?kt_NoText_Full ?kt_NoText_NoWheel ?kt_NoText_NoJoin ?kt_NoText_Jams ?kt_NoText_NoText ?kt_NoText_ValueError ?xm_NoName_TrainError ?xm_Twice_TrainError ?xm_NoTeeth_TrainError ?xm_Full_TrainError ?xm_NoWheel_TrainError ?xm_NoJoin_TrainError ?xm_NoText_TrainError
   (case aC_Train=>k_is)
   (case aE_NoName=>k_is)
   (case aE_Twice=>k_is)
   (case aE_NoTeeth=>k_is)
   (case aE_Full=>k_is)
   (case aE_NoWheel=>k_is)
   (case aE_NoJoin=>k_is)
   (case aE_TrainError=>k_is)
   (case aE_NoText=>k_is)
   (case aE_Jams=>k_is)
   (case d0=>bv_normalize)
   (case a1=>k_is)
   (case i1=>k_is)
   (case l1=>k_is)
   (case c1=>k_is)
   (case k1=>k_is)
   (case a2=>k_is)
   (case i2=>k_is)
   (case l2=>k_is)
   (case c2=>k_is)
   (case k2=>k_is)
   (case a3=>k_is)
   (case i3=>k_is)
   (case l3=>k_is)
   (case c3=>k_is)
   (case k3=>k_is)
   (case a4=>k_is)
   (case i4=>k_is)
   (case l4=>k_is)
   (case c4=>k_is)
   (case k4=>k_is)
   (case a5=>k_is)
   (case i5=>k_is)
   (case l5=>k_is)
   (case c5=>k_is)
   (case k5=>k_is)
   (case a6=>k_is)
   (case i6=>k_is)
   (case l6=>k_is)
   (case c6=>k_is)
   (case k6=>k_is)
   (case d7=>bv_normalize)
   (case d8=>bv_normalize)
   (case d9=>bv_normalize)
   (case d10=>bv_normalize)
   (case d11=>bv_normalize)
   (case d12=>bv_normalize)
   (case d13=>bv_normalize)
   (case d14=>bv_normalize)
   (case d15=>bv_normalize)
   (case d16=>bv_normalize)
   (case d17=>bv_normalize)
   (case d18=>bv_normalize)
   (case d19=>bv_normalize)
   (case d20=>bv_normalize)
   (case d21=>bv_normalize)
   (case d22=>bv_normalize)
   (case d23=>bv_normalize)
   (case d24=>bv_normalize)
   (case d25=>bv_normalize)
   (case d26=>bv_normalize)
   (case a27=>k_is)
   (case l27=>k_is)
   (case c27=>k_is)
   (case k27=>k_is)
   (case pg_Train=>k_is)
   (case hd_Train=>k_is)
   (case po_Train=>k_is)
   (case sa_Train=>k_is)
   (case mk_Train=>k_is)
   (case kc_Train=>k_is)
   (case n_Train_teeth_of=>k_is)
   (case n_Train_join_of=>k_is)
   (case n_Train_next_number=>k_is)
   (case z0=>k_is)
   (case z1=>k_is)
   (case z2=>k_is)
   (case z3=>k_is)
   (case z4=>k_is)
   (case z5=>k_is)
   (case z6=>k_is)
   (case z7=>k_is)
   (case z8=>k_is)
   (case g_LONGEST_NAME=>k_is)
   (case g_TEETH_BOUND=>k_is)
   (case g_MOST_WHEELS=>k_is)
   (case g_MOST_JOINS=>k_is)
   (case g_MOST_FIGURES=>k_is)
   (case g_LETTERS=>k_is)
   (case g_FIGURES=>k_is)
   (case g_KINDS=>k_is)
   (case gl_KINDS=>k_is)
   (case ex_NoName=>k_exc)
   (case ex_Twice=>k_exc)
   (case ex_NoTeeth=>k_exc)
   (case ex_Full=>k_exc)
   (case ex_NoWheel=>k_exc)
   (case ex_NoJoin=>k_exc)
   (case ex_TrainError=>k_exc)
   (case ex_NoText=>k_exc)
   (case ex_Jams=>k_exc)
   (case lc_NoText=>k_is)
   (case lg_NoText=>k_is)
   (case ln_NoText=>k_is)
   (case la_NoText=>k_is)
   (case ls_NoText=>k_is)
   (case lt_NoText=>k_is)
   (case lo_NoText=>k_is)
   (case lb_NoText=>k_is)
   (case lb_NoName=>k_is)
   (case lb_Twice=>k_is)
   (case lb_NoTeeth=>k_is)
   (case lb_Full=>k_is)
   (case lb_NoWheel=>k_is)
   (case lb_NoJoin=>k_is)
   (case kt_NoText_NoName=>kit_is)
   (case kt_NoText_Twice=>kit_is)
   (case kt_NoText_NoTeeth=>kit_is)
   (case kt_NoText_Full=>kit_is)
   (case kt_NoText_NoWheel=>kit_is)
   (case kt_NoText_NoJoin=>kit_is)
   (case kt_NoText_Jams=>kit_is)
   (case kt_NoText_NoText=>kit_is)
   (case kt_NoText_ValueError=>kit_is)
   (case xm_NoName_TrainError=>kts_exm)
   (case xm_Twice_TrainError=>kts_exm)
   (case xm_NoTeeth_TrainError=>kts_exm)
   (case xm_Full_TrainError=>kts_exm)
   (case xm_NoWheel_TrainError=>kts_exm)
   (case xm_NoJoin_TrainError=>kts_exm)
   (case xm_NoText_TrainError=>kts_exm)
#print axioms PySem.Challenge.cw_cogtrain_k04_texts_holds
