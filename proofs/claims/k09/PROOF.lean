import PyProof.Rows.All
import Wide.All
import OpenK.AllK
import Wide.FinOn
import Lean
import PyProof.EqAt
import PyProof.EqKinds
import PyProof.TupleCall
import PySem.Challenge.RW_cogtrain_k09_whole_more_and_less
set_option Elab.async false
set_option linter.all false
set_option maxRecDepth 100000
namespace L2
open PySem PySem.Spec PyProof.Rows
noncomputable abbrev Key:=Sum Int Str
noncomputable def b08:Key->Value->Bool
 | .inl k,v=>Value.isInt k v
 | .inr x,v=>Value.isStrOf x v
noncomputable def keyH(w:World):Key->Int
 | .inl k=>hashInt k
 | .inr x=>hashStr w x
theorem a07: ∀{k:Key}{v:Value},b08 k v=true->(∃i t,k=Sum.inl i/\v=Value.int i t)\/(∃x t,k=Sum.inr x/\v=Value.str x t)
 | .inl i,v,h=>by
   obtain⟨t,e⟩:=Value.isInt_shape (k:=i) (v:=v) h
   exact .inl ⟨i,t,rfl,e⟩
 | .inr x,v,h=>by
   obtain⟨t,e⟩:=Value.isStrOf_shape (x:=x) (v:=v) h
   exact .inr ⟨x,t,rfl,e⟩
theorem b5z(i:Int)(t:Tok):b08 (.inl i) (.int i t)=true:=by simp[b08,Value.isInt]
theorem b5y(x:Str)(t:Tok):b08 (.inr x) (.str x t)=true:=by simp[b08,Value.isStrOf]
theorem key_ll(a b:Int):decide ((Sum.inl a:Key)=Sum.inl b)=(a==b):=by
 by_cases e:a=b
 . subst e;simp
 . have h: ¬ (Sum.inl a:Key)=Sum.inl b:=fun q=>e (Sum.inl.inj q)
   rw[decide_eq_false h]
   exact(beq_eq_false_iff_ne.mpr e).symm
theorem key_rr(a b:Str):decide ((Sum.inr a:Key)=Sum.inr b)=decide (a=b):=by
 by_cases e:a=b
 . subst e;simp
 . have h: ¬ (Sum.inr a:Key)=Sum.inr b:=fun q=>e (Sum.inr.inj q)
   rw[decide_eq_false h,decide_eq_false e]
theorem key_lr(a:Int)(b:Str):decide ((Sum.inl a:Key)=Sum.inr b)=false:=decide_eq_false (fun q=>nomatch q)
theorem key_rl(a:Str)(b:Int):decide ((Sum.inr a:Key)=Sum.inl b)=false:=decide_eq_false (fun q=>nomatch q)
noncomputable def a0z(prog:Program)(w:World):PySem.KeyKind prog w Key where
 is:=b08
 hash:=keyH w
 inj:=fun v a b ha hb=>by
   rcases a07 ha with⟨i,t,rfl,rfl⟩ | ⟨x,t,rfl,rfl⟩
   . rcases a07 hb with⟨j,u,rfl,e⟩ | ⟨y,u,rfl,e⟩
     . injection e with e1 _;rw[e1]
     . exact nomatch e
   . rcases a07 hb with⟨j,u,rfl,e⟩ | ⟨y,u,rfl,e⟩
     . exact nomatch e
     . injection e with e1 _;rw[e1]
 byValue:=fun k v h=>by
   rcases a07 h with⟨i,t,rfl,rfl⟩ | ⟨x,t,rfl,rfl⟩<;>rfl
 pyHash:=fun hv h=>by
   rcases a07 hv with⟨i,t,rfl,rfl⟩ | ⟨x,t,rfl,rfl⟩
   . exact wpAny_pyHash_int h
   . exact wpAny_pyHash_str h
 eqBool:=fun hu hv h=>by
   rcases a07 hu with⟨i,t,rfl,rfl⟩ | ⟨x,t,rfl,rfl⟩
   . rcases a07 hv with⟨j,u,rfl,rfl⟩ | ⟨y,u,rfl,rfl⟩
     . rw[key_ll]at h;exact wpAny_eqBool_int h
     . rw[key_lr]at h;exact SeqAt.EqAt.int_str i t y u _ _ _ _ h
   . rcases a07 hv with⟨j,u,rfl,rfl⟩ | ⟨y,u,rfl,rfl⟩
     . rw[key_rl]at h;exact SeqAt.EqAt.str_int x t j u _ _ _ _ h
     . rw[key_rr]at h;exact wpAny_eqBool_str h
 «strs» := fun k x t v h => by
   rcases a07 h with⟨i,u,rfl,e⟩ | ⟨y,u,rfl,e⟩
   . exact nomatch e
   . injection e with e1 _
     subst e1
     cases v<;>rfl
theorem b03(prog:Program)(w:World)(i:Int)(t:Tok):(a0z prog w).is (.inl i) (.int i t)=true:=b5z i t
theorem b02(prog:Program)(w:World)(x:Str)(t:Tok):(a0z prog w).is (.inr x) (.str x t)=true:=b5y x t
inductive V where
 |non |bl (b:Bool) |int (i:Int) |str (x:Str) |byt (b:Array UInt8) |flt (b:UInt64) |ref (a:Addr) |ty (n:String)
 deriving DecidableEq
def RelV:V->Value->Prop
 | .non,u=>u=Value.none
 | .bl b,u=>u=Value.bool b
 | .int i,u=> ∃t,u=Value.int i t
 | .str x,u=> ∃t,u=Value.str x t
 | .byt b,u=> ∃t,u=Value.bytes b t
 | .flt b,u=> ∃t,u=Value.float b t
 | .ref a,u=>u=Value.ref a
 | .ty n,u=>u=Value.type n
abbrev Vals:List V->List Value->Prop:=Paired RelV
theorem Vals.length{xs:List V}{us:List Value}(r:Vals xs us):xs.length=us.length:=Paired.length r
theorem Vals.get: ∀{xs:List V}{us:List Value}{i:Nat}{x:V},Vals xs us->xs[i]? =some x-> ∃u,us[i]? =some u/\RelV x u
 |_,_,_,_,.nil,e=>by simp at e
 |_,_,0,_,.cons r _,e=>by simp at e;subst e;exact⟨_,rfl,r⟩
 |_,_,i+1,x,.cons _ t,e=>by
   obtain⟨u,h1,h2⟩:=Vals.get (i:=i) (x:=x) t (by simpa using e)
   exact⟨u,by simpa using h1,h2⟩
theorem Vals.set{x:V}{u:Value}(r:RelV x u): ∀{xs:List V}{us:List Value} (i:Nat),Vals xs us->Vals (xs.set i x) (us.set i u)
 |_,_,_,.nil=> .nil
 |_,_,0,.cons _ t=> .cons r t
 |_,_,i+1,.cons q t=> .cons q (Vals.set r i t)
theorem Vals.append: ∀{xs ys:List V}{us ws:List Value},Vals xs us->Vals ys ws->Vals (xs++ys) (us++ws)
 |_,_,_,_,.nil,s=>s
 |_,_,_,_,.cons r t,s=> .cons r (Vals.append t s)
theorem Vals.take: ∀{xs:List V}{us:List Value} (n:Nat),Vals xs us->Vals (xs.take n) (us.take n)
 |_,_,0,_=> .nil
 |_,_,_+1,.nil=> .nil
 |_,_,n+1,.cons r t=> .cons r (Vals.take n t)
theorem Vals.drop: ∀{xs:List V}{us:List Value} (n:Nat),Vals xs us->Vals (xs.drop n) (us.drop n)
 |_,_,0,r=>r
 |_,_,_+1,.nil=> .nil
 |_,_,n+1,.cons _ t=>Vals.drop n t
def RelO:Option V->Option Value->Prop
 |some v,some u=>RelV v u
 |none,none=>True
 |_,_=>False
def KV{κ:Type}:List (κ×V)->List (κ×Value)->Prop:=Paired fun (p:κ×V) (q:κ×Value)=>p.1=q.1/\RelV p.2 q.2
noncomputable def kV:Key->V
 | .inl i=> .int i
 | .inr x=> .str x
inductive HO where
 /-- a list -/
 |lst (xs:List V)
 /-- a tuple (never changes) -/
 |tup (xs:List V)
 /-- a dict whose keys are ints and texts; one whose keys are tuples of ints and texts (the empty one is both) -/
 |dK (kvs:List (Key×V)) |dT (kvs:List (List Key×V))
 /-- a set of ints: its members, its size -/
 |set (S:Int->Bool) (n:Nat)
 /-- an instance of the class at C, its dict at dx, its attributes -/
 |ins (C dx:Addr) (fs:List (Str×V))
 /-- the dict of the instance at x -/
 |own (x:Addr)
 /-- the dict of an exception -/
 |xd (fs:List (Str×V))
 /-- a bound method, f of x -/
 |met (f x:Addr)
 /-- a range object lo, lo + 1, .. below hi -/
 |rng (lo hi:Int)
 /-- a thing that is known to the object (the script; a dict while a loop walks it): read, never written while it is so -/
 |frz (o:Obj) (u:HO)
 /-- a code object's table -/
 |tbl (ps:Array Value)
 /-- any other thing, by what is true of its one object (a def of one's own: SetO a S n := HO.ext fun h => ..) -/
 |ext (φ:Heap->Prop)
noncomputable abbrev Hp:=Addr->Option HO
noncomputable def upd(H:Hp)(a:Addr)(o:HO):Hp:=fun b=>if b=a then some o else H b
theorem a0u{H:Hp}{a:Addr}{o:HO}:upd H a o a=some o:=by unfold upd;rw[if_pos rfl]
theorem a0p{H:Hp}{a b:Addr}{o:HO}(h:b≠a):upd H a o b=H b:=by unfold upd;rw[if_neg h]
theorem a4c{H:Hp}{a b:Addr}{o u:HO}(h:H a=some o)(h':H b=some u)(d:o≠u):a≠b:=by
 intro e;subst e;rw[h]at h';exact d (Option.some.inj h')
theorem a23{H:Hp}{a b:Addr}{o:HO}(h:H a=some o)(h':H b=none):a≠b:=by
 intro e;subst e;rw[h]at h';cases h'
section
variable (P:Program)(w:World)
def ObjOk(H:Hp)(h:Heap)(a:Addr):HO->Prop
 | .lst xs=>xs.length<=sizeLine/\ ∃(its:List Value) (n:Nat),Vals xs its/\h.get? a=some {cls:= .type "list",data:= .seq its.toArray n}
 | .tup xs=>xs.length<=sizeLine/\ ∃its:List Value,Vals xs its/\IsTup h a its.toArray
 | .dK kvs=>kvs.length<=sizeLine/\(a==sysModules)=false/\ ∃vs,KV kvs vs/\h.DictOf (a0z P w) a vs
 | .dT kvs=>kvs.length<=sizeLine/\(a==sysModules)=false/\ ∃xs:List (List Key×Addr×Value),
     Paired (fun (p:List Key×V) (q:List Key×Addr×Value)=>p.1=q.1/\H q.2.1=some (.tup (p.1.map kV))/\RelV p.2 q.2.2) kvs xs/\
     ∃o es ep,h.get? a=some o/\o.ExactDict/\o.data= .dict es ep/\es.toList=xs.map (entryOfKey (tupleKind (a0z P w)))/\(xs.map (·.1)).Nodup
 | .set S n=>h.SetOf (intKind P w) a S n
 | .ins C dx fs=>H dx=some (.own a)/\fs.length<=1000/\dx≠a/\h.get? a=some (PySem.W.instObj C dx)/\
     ∃mA,h.Ns1 dx mA/\(∀f,RelO (fs.lookup f) (mA f))/\PySem.Within mA (fs.map (·.1))
 | .own _=> ∃o,h.get? a=some o
 | .xd fs=> ∃mA,h.Ns1 a mA/\ ∀f,RelO (fs.lookup f) (mA f)
 | .rng lo hi=> ∃t u v,h.get? a=some {cls:= .type "range",data:= .fields #[.int lo t,.int hi u,.int 1 v]}
 | .frz o u=>h.get? a=some o/\ObjOk H h a u
 | .tbl ps=>h.get? a=some {cls:= .none,data:= .fields ps}
 | .met f x=>h.get? a=some (PySem.W.methodObj (.ref f) (.ref x))
 | .ext φ=>φ h/\(∃o,h.get? a=some o)/\ ∀h1 h2:Heap,φ h1->(∀o,h1.get? a=some o->h2.get? a=some o)->φ h2
def HOk(H:Hp)(h:Heap):Prop:= ∀a o,H a=some o->ObjOk P w H h a o
end
section
variable {P:Program}{w:World}{H H':Hp}{h h':Heap}{a:Addr}{o:HO}
theorem ObjOk.lt(x:ObjOk P w H h a o):a<h.objs.size:=by
 cases o with
 |lst xs=>obtain⟨_,_,_,_,e⟩:=x;exact Heap.lt_size e
 |tup xs=>obtain⟨_,_,_,p⟩:=x;exact p.lt
 |dK kvs=>obtain⟨_,_,_,_,o,_,_,e,_⟩:=x;exact Heap.lt_size e
 |dT kvs=>obtain⟨_,_,_,_,o,_,_,e,_⟩:=x;exact Heap.lt_size e
 |set S n=>obtain⟨o,_,_,_,e,_⟩:=x;exact Heap.lt_size e
 |ins C dx fs=>obtain⟨_,_,_,e,_⟩:=x;exact Heap.lt_size e
 |own y=>obtain⟨_,e⟩:=x;exact Heap.lt_size e
 |xd fs=>obtain⟨_,⟨_,_,_,e,_⟩,_⟩:=x;exact Heap.lt_size e
 |rng lo hi=>obtain⟨_,_,_,e⟩:=x;exact Heap.lt_size e
 |frz ob u=>obtain⟨e,_⟩:=x;exact Heap.lt_size e
 |tbl ps=>exact Heap.lt_size (show h.get? a=some _ from x)
 |met f y=>exact Heap.lt_size (show h.get? a=some _ from x)
 |ext φ=>obtain⟨_,⟨_,e⟩,_⟩:=x;exact Heap.lt_size e
theorem Paired.mapP{α β:Type}{F G:α->β->Prop}: ∀{l₁:List α}{l₂:List β},Paired F l₁ l₂->(∀a b,F a b->G a b)->Paired G l₁ l₂
 |_,_,.nil,_=> .nil
 |_,_,.cons r t,f=> .cons (f _ _ r) (Paired.mapP t f)
theorem ObjOk.stay(x:ObjOk P w H h a o)(k: ∀b u,(b=a\/H b=some (.own a))->h.get? b=some u->h'.get? b=some u)
   (ho: ∀b,H b=some (.own a)->H' b=some (.own a)) (ht: ∀b xs,H b=some (.tup xs)->H' b=some (.tup xs)):ObjOk P w H' h' a o:=by
 induction o with
 |lst xs=>obtain⟨z,its,n,r,e⟩:=x;exact⟨z,its,n,r,k _ _ (.inl rfl) e⟩
 |tup xs=>obtain⟨z,its,r,ob,e,c⟩:=x;exact⟨z,its,r,ob,k _ _ (.inl rfl) e,c⟩
 |dK kvs=>obtain⟨z,y,vs,r,ob,es,ep,e,c⟩:=x;exact⟨z,y,vs,r,ob,es,ep,k _ _ (.inl rfl) e,c⟩
 |dT kvs=>
   obtain⟨z,y,xs,r,ob,es,ep,e,c⟩:=x
   exact⟨z,y,xs,Paired.mapP r fun p q z=>⟨z.1,ht _ _ z.2.1,z.2.2⟩,ob,es,ep,k _ _ (.inl rfl) e,c⟩
 |set S n=>obtain⟨ob,es,ep,t,e,c⟩:=x;exact⟨ob,es,ep,t,k _ _ (.inl rfl) e,c⟩
 |ins C dx fs=>
   obtain⟨d,z,ne,e,mA,⟨od,es,ep,e2,c⟩,r⟩:=x
   exact⟨ho _ d,z,ne,k _ _ (.inl rfl) e,mA,⟨od,es,ep,k _ _ (.inr d) e2,c⟩,r⟩
 |own y=>obtain⟨ob,e⟩:=x;exact⟨ob,k _ _ (.inl rfl) e⟩
 |xd fs=>obtain⟨mA,⟨od,es,ep,e,c⟩,r⟩:=x;exact⟨mA,⟨od,es,ep,k _ _ (.inl rfl) e,c⟩,r⟩
 |rng lo hi=>obtain⟨t,u,v,e⟩:=x;exact⟨t,u,v,k _ _ (.inl rfl) e⟩
 |frz ob u ih=>obtain⟨e,q⟩:=x;exact⟨k _ _ (.inl rfl) e,ih q⟩
 |tbl ps=>
   have e:h.get? a=some {cls:= .none,data:= .fields ps}:=x
   show h'.get? a=some {cls:= .none,data:= .fields ps}
   exact k a _ (.inl rfl) e
 |met f y=>
   have e:h.get? a=some (PySem.W.methodObj (.ref f) (.ref y)):=x
   show h'.get? a=some (PySem.W.methodObj (.ref f) (.ref y))
   exact k a _ (.inl rfl) e
 |ext φ=>obtain⟨p,⟨o,e⟩,st⟩:=x;exact⟨st _ _ p fun o q=>k _ _ (.inl rfl) q,⟨o,k _ _ (.inl rfl) e⟩,st⟩
theorem HOk.lt(x:HOk P w H h)(e:H a=some o):a<h.objs.size:=(x a o e).lt
theorem HOk.fresh(x:HOk P w H h)(e:h.objs.size<=a):H a=none:=by
 cases q:H a with
 |none=>rfl
 |some u=>exact absurd (Nat.lt_of_lt_of_le (x.lt q) e) (Nat.lt_irrefl _)
theorem HOk.kept(x:HOk P w H h)(k: ∀b u,h.get? b=some u->h'.get? b=some u):HOk P w H h':=fun a o e=>
 (x a o e).stay (fun b u _ q=>k b u q) (fun _ q=>q) fun _ _ q=>q
theorem HOk.laid(x:HOk P w H h)(k: ∀b u,h.get? b=some u->h'.get? b=some u)(hp:h.objs.size<=a)(new:ObjOk P w (upd H a o) h' a o):HOk P w (upd H a o) h':=fun b u e=>by
 have hn:=x.fresh hp
 by_cases hb:b=a
 . subst hb;rw[a0u]at e;cases e;exact new
 . rw[a0p hb]at e
   exact(x b u e).stay (fun c v _ q=>k c v q) (fun c q=>by rw[a0p (a23 q hn)];exact q) fun c xs q=>by rw[a0p (a23 q hn)];exact q
end
def Rd(H:Hp)(a:Addr)(u:HO):Prop:=H a=some u\/ ∃o,H a=some (.frz o u)
theorem Rd.of{H:Hp}{a:Addr}{u:HO}(h:H a=some u):Rd H a u:= .inl h
theorem Rd.ok{P:Program}{w:World}{H:Hp}{h:Heap}{a:Addr}{u:HO}(r:Rd H a u)(x:HOk P w H h):ObjOk P w H h a u:=by
 rcases r with r | ⟨o,r⟩
 . exact x a u r
 . obtain⟨_,q⟩:=x a _ r
   exact q
def Mut:Option HO->Prop
 |some (.lst _)=>True
 |some (.dK _)=>True
 |some (.dT _)=>True
 |some (.set _ _)=>True
 |some (.ins _ _ _)=>True
 |some (.ext _)=>True
 |_=>False
section
variable {P:Program}{w:World}{H:Hp}{h h':Heap}{x e:Addr}{o':HO}
theorem HOk.write(ok:HOk P w H h)(mu:Mut (H x))(he:e=x\/H e=some (.own x))(k: ∀b u,b≠e->h.get? b=some u->h'.get? b=some u)(heo: ∃u,h'.get? e=some u)
   (new:ObjOk P w (upd H x o') h' x o'):HOk P w (upd H x o') h':=fun b u q=>by
 have nown: ∀c y,H c=some (.own y)->c≠x:=fun c y r z=>by subst z;rw[r]at mu;exact mu
 have ntup: ∀c xs,H c=some (.tup xs)->c≠x:=fun c xs r z=>by subst z;rw[r]at mu;exact mu
 by_cases hb:b=x
 . subst hb;rw[a0u]at q;cases q;exact new
 . rw[a0p hb]at q
   by_cases hbe:b=e
   . have q':H b=some (.own x):=by
       rcases he with z |z
       . exact absurd (hbe.trans z) hb
       . rw[hbe];exact z
     rw[q]at q';cases q'
     obtain⟨v,hv⟩:=heo
     exact⟨v,by rw[hbe];exact hv⟩
   . refine(ok b u q).stay (fun c v hc r=>k c v ?_ r) (fun c r=>by rw[a0p (nown c b r)];exact r) fun c xs r=>by rw[a0p (ntup c xs r)];exact r
     rcases hc with rfl |hc
     . exact hbe
     . rintro rfl
       rcases he with z |z
       . exact nown c b hc z
       . rw[hc]at z;cases z;exact hb rfl
end
structure Un(fs ex:List Addr)(H H':Hp)(h h':Heap):Prop where
 keep: ∀b o,h.get? b=some o->H b=none->b∉fs->b∉ex->h'.get? b=some o
 slot: ∀b o,h.get? b=some o->H b=none->b∈fs->b∉ex-> ∃sl,h'.get? b=some {o with slots:=sl}
 free: ∀b o,h.get? b=some o->H b=none->b∉ex->H' b=none
 there: ∀b o,h.get? b=some o->b∉ex-> ∃o',h'.get? b=some o'
 tups: ∀b xs,H b=some (.tup xs)->H' b=some (.tup xs)
 frzs: ∀b o u,H b=some (.frz o u)->H' b=some (.frz o u)
 tbls: ∀b ps,H b=some (.tbl ps)-> ∃more,H' b=some (.tbl (ps++more))
section
variable {fs fs' ex ex':List Addr}{H H1 H2:Hp}{h h1 h2 h':Heap}{a x e:Addr}{o:HO}
theorem Un.any(u:Un fs ex H H1 h h1){b:Addr}{ob:Obj}(q:h.get? b=some ob)(n:H b=none)(hx:b∉ex): ∃sl,h1.get? b=some {ob with slots:=sl}:=by
 by_cases hb:b∈fs
 . exact u.slot b ob q n hb hx
 . exact⟨ob.slots,u.keep b ob q n hb hx⟩
theorem Un.kept(k: ∀b u,h.get? b=some u->h'.get? b=some u):Un fs ex H H h h':=
 ⟨fun b ob q _ _ _=>k b ob q,fun b ob q _ _ _=>⟨ob.slots,k b ob q⟩,fun _ _ _ n _=>n,fun b ob q _=>⟨ob,k b ob q⟩,fun _ _ q=>q,fun _ _ _ q=>q,fun _ ps q=>⟨#[],by rw[q];simp⟩⟩
theorem Un.refl:Un fs ex H H h h:=Un.kept fun _ _ q=>q
theorem Un.laid(k: ∀b u,h.get? b=some u->h'.get? b=some u)(hp:h.objs.size<=a)(hn:H a=none):Un fs ex H (upd H a o) h h' where
 keep:=fun b u q _ _ _=>k b u q
 slot:=fun b u q _ _ _=>⟨u.slots,k b u q⟩
 free:=fun b u q n _=>by rw[a0p (Nat.ne_of_lt (Nat.lt_of_lt_of_le (Heap.lt_size q) hp))];exact n
 there:=fun b u q _=>⟨u,k b u q⟩
 tups:=fun b xs q=>by rw[a0p (a23 q hn)];exact q
 frzs:=fun b u xs q=>by rw[a0p (a23 q hn)];exact q
 tbls:=fun b ps q=>⟨#[],by rw[a0p (a23 q hn),q];simp⟩
theorem Un.write(mu:Mut (H x))(he:e=x\/H e=some (.own x))(k: ∀b u,b≠e->h.get? b=some u->h'.get? b=some u)(heo: ∃u,h'.get? e=some u):Un fs ex H (upd H x o) h h':=by
 have hx: ∀b,H b=none->b≠x:=fun b n z=>by subst z;rw[n]at mu;exact mu
 have hb: ∀b,H b=none->b≠e:=fun b n z=>by
   subst z
   rcases he with r |r
   . exact hx b n r
   . rw[n]at r;cases r
 have hm: ∀b u,H b=some u-> ¬ Mut (some u)->b≠x:=fun b u q nm z=>by subst z;rw[q]at mu;exact nm mu
 refine⟨fun b u q n _ _=>k b u (hb b n) q,fun b u q n _ _=>⟨u.slots,k b u (hb b n) q⟩,fun b u q n _=>by rw[a0p (hx b n)];exact n,fun b u q _=> ?_,
   fun b xs q=>by rw[a0p (hm b _ q fun z=>z)];exact q,fun b u xs q=>by rw[a0p (hm b _ q fun z=>z)];exact q,fun b ps q=>⟨#[],by rw[a0p (hm b _ q fun z=>z),q];simp⟩⟩
 by_cases hbe:b=e
 . subst hbe;exact heo
 . exact⟨u,k b u hbe q⟩
end
noncomputable def trk(h:Heap)(H:Hp):List Addr:=(List.range h.objs.size).filter fun a=>(H a).isSome
noncomputable def hidT(h:Heap)(H:Hp):Heap:=PySem.W.hideAll h (trk h H)
theorem b6b(h:Heap)(H:Hp):(hidT h H).objs.size=h.objs.size:=PySem.W.hideAll_size _ _
theorem b2t{h:Heap}{H:Hp}{b:Addr}{o:Obj}(e:h.get? b=some o)(n:H b=none):(hidT h H).get? b=some o:=
 PySem.W.hideAll_get _ e fun hm=>by
   have q:(H b).isSome=true:=(List.mem_filter.mp hm).2
   rw[n]at q;simp at q
theorem of_hidT{h:Heap}{H:Hp}{b:Addr}{o:Obj}(e:(hidT h H).get? b=some o):h.get? b=some o/\H b=none:=by
 have e':h.get? b=some o:=PySem.W.of_hideAll (trk h H) e
 refine⟨e',?_⟩
 cases q:H b with
 |none=>rfl
 |some x=>
   have hm:b∈trk h H:=List.mem_filter.mpr ⟨List.mem_range.mpr (Heap.lt_size e'),by simp[q]⟩
   have z:(hidT h H).get? b=none:=PySem.W.hideAll_none (trk h H) hm
   rw[z]at e;cases e
noncomputable def allNews(g h:Heap)(L:Addr):List (Addr×Obj):=(List.range h.objs.size).filterMap fun a=>if a=L\/(g.get? a).isSome=true then none else(h.get? a).map fun o=>(a,o)
noncomputable def rest(g h:Heap)(L d:Addr):List (Addr×Obj):=(allNews g h L).filter fun p=>decide (p.1≠d)
structure Mod(K:PySem.W.Frag)(mg:Str->Option Value)(base:Heap):Prop where
 kin:K.In base
 glob:base.Ns mainGlobals mg
 blt: ∃mb,base.Ns builtinsNs mb/\ ∀x:Str,x≠ "__name__"->mb x=bootBuiltins x
 nolimit:base.NoLimit
structure Cx where
 prog:Program
 w:World
 K:PySem.W.Frag
 mg:Str->Option Value
 base:Heap
 A:Around
 N:List Str
 s₀:Shared
 H₀:Hp
 env:Env
 outer:List Env
 stack:List Env
 ex:List Addr
 fn:Str->Bool
 calm:Bool
 pn:List (Addr×Obj)
 xe:Value->Shared->Prop
noncomputable def frs(l:List Env):List Addr:=l.filterMap (·.frame)
noncomputable abbrev Cx.fs(X:Cx):List Addr:=frs X.outer
def Vis(sc:Scope)(x:Str):Prop:=sc.names.lookup x=some .local\/sc.names.lookup x=some .cell\/sc.names.lookup x=some .free
def Loc(sc:Scope)(x:Str):Prop:=sc.names.lookup x=some .local\/sc.names.lookup x=some .cell
def Look(env:Env)(h:Heap)(m:Str->Option Value)(x:Str)(u:Value):Prop:=
 (env.kindOf x=some .local/\m x=some u)\/((env.kindOf x=some .cell\/env.kindOf x=some .free)/\ ∃c,env.cells.lookup x=some c/\h.IsCell c (some u))
structure Cx.Ok(X:Cx):Prop where
 mod:Mod X.K X.mg X.base
 kind:X.env.scope.kind= .function
 glob:X.env.globals=mainGlobals
 blt:X.env.builtins=builtinsNs
 above:X.s₀.heap.objs.size<=X.env.locals
 inj: ∀x y c,X.env.cells.lookup x=some c->X.env.cells.lookup y=some c->x=y
 has: ∀x,(X.env.kindOf x=some .cell\/X.env.kindOf x=some .free)-> ∃c,X.env.cells.lookup x=some c
 cab: ∀x c,X.fn x=true->X.env.cells.lookup x=some c->X.s₀.heap.objs.size<=c
 hd:X.calm=true->X.A.handled=none
 frames:X.A.frames=some X.stack
 stk:X.stack=X.outer\/(X.stack=X.env::X.outer/\X.env.frame=some X.env.locals)
 exf: ∀b∈X.ex,b≠X.env.locals/\ ∀x c,X.env.cells.lookup x=some c->c≠b
 bs: ∀b o,X.base.get? b=some o->X.s₀.heap.get? b=some o/\X.H₀ b=none
 bsz:X.base.objs.size<=X.s₀.heap.objs.size
 noex: ∀b o,X.base.get? b=some o->b∉X.ex
 exfs: ∀b∈X.ex,b∉X.fs
 funs:X.s₀.heap.FunFrames X.base X.outer
 frf: ∀b∈X.fs,X.H₀ b=none
structure Inv(X:Cx)(pins:List (Addr×Obj))(σ:List (Option V))(H:Hp)(s:Shared):Prop where
 ok:X.Ok
 os:s.os=X.s₀.os
 bare:AllBare s.gens
 base:Un X.fs X.ex X.H₀ H X.s₀.heap s.heap
 loc: ∃m,s.heap.Ns X.env.locals m/\ ∀(i:Nat) (x:Str) (v:V),X.N[i]? =some x->σ[i]? =some (some v)->Vis X.env.scope x-> ∃u,RelV v u/\Look X.env s.heap m x u
 cell: ∀x c,X.env.cells.lookup x=some c-> ∃v,s.heap.IsCell c v
 free:H X.env.locals=none
 freeC: ∀x c,X.env.cells.lookup x=some c->H c=none
 pin: ∀p∈X.pn++pins,s.heap.get? p.1=some p.2/\H p.1=none/\p.1≠X.env.locals/\p.1∉X.fs/\ ∀v,p.2.data≠ .cell v
 hok:HOk X.prog X.w H s.heap
 len:σ.length=X.N.length
section
variable {X:Cx}{pins:List (Addr×Obj)}{σ:List (Option V)}{H H':Hp}{s:Shared}{h':Heap}
theorem Cx.Ok.nofr(ok:X.Ok){b:Addr}{o:Obj}(e:X.base.get? b=some o):b∉X.fs:=fun hb=>by
 have:=(ok.funs.mem hb).1
 rw[e]at this;cases this
theorem Inv.bs(I:Inv X pins σ H s): ∀b o,X.base.get? b=some o->s.heap.get? b=some o/\H b=none:=fun b o e=>
 ⟨I.base.keep b o (I.ok.bs b o e).1 (I.ok.bs b o e).2 (I.ok.nofr e) (I.ok.noex b o e),I.base.free b o (I.ok.bs b o e).1 (I.ok.bs b o e).2 (I.ok.noex b o e)⟩
theorem Inv.bk(I:Inv X pins σ H s): ∀b o,X.base.get? b=some o->s.heap.get? b=some o:=fun b o e=>(I.bs b o e).1
theorem Inv.mod(I:Inv X pins σ H s):Mod X.K X.mg X.base:=I.ok.mod
theorem Inv.kIn(I:Inv X pins σ H s):X.K.In s.heap:=I.ok.mod.kin.keeps I.bk
theorem Inv.nolimit(I:Inv X pins σ H s):s.heap.NoLimit:=I.ok.mod.nolimit.keeps I.bk
theorem Inv.lt(I:Inv X pins σ H s):X.env.locals<s.heap.objs.size:=let ⟨_,hn,_⟩:=I.loc;hn.lt
theorem Inv.sz(I:Inv X pins σ H s):X.s₀.heap.objs.size<=s.heap.objs.size:=Nat.le_trans I.ok.above (Nat.le_of_lt I.lt)
theorem Inv.nofs(I:Inv X pins σ H s){a:Addr}(h:s.heap.objs.size<=a):a∉X.fs:=fun hb=>by
 obtain⟨_,o,ho,_⟩:=I.ok.funs.mem hb
 exact absurd (Nat.lt_of_lt_of_le (Heap.lt_size ho) (Nat.le_trans I.sz h)) (Nat.lt_irrefl _)
theorem Inv.cne(I:Inv X pins σ H s): ∀x c,X.env.cells.lookup x=some c->c≠X.env.locals:=fun x c e z=>by
 obtain⟨v,o,ho,hd⟩:=I.cell x c e
 obtain⟨m,⟨o',es,ep,ho',hd',_⟩,_⟩:=I.loc
 rw[z,ho']at ho;cases ho;rw[hd']at hd;cases hd
theorem Inv.funs(I:Inv X pins σ H s):s.heap.FunFrames X.base X.outer:=by
 have all: ∀(l:List Env),(∀b∈frs l,b∈X.fs)->X.s₀.heap.FunFrames X.base l->s.heap.FunFrames X.base l:=by
   intro l
   induction l with
   |nil=>intro _ _;trivial
   |cons env r ih=>
     intro hs hl
     obtain⟨hk,⟨L,o,hf,hn,ho,hd⟩,hr⟩:=hl
     have hL:L∈X.fs:=hs L (by unfold frs;rw[List.filterMap_cons,hf];exact List.mem_cons_self)
     obtain⟨sl,e⟩:=I.base.slot L o ho (I.ok.frf L hL) hL fun z=>I.ok.exfs L z hL
     exact⟨hk,⟨L,_,hf,hn,e,hd⟩,ih (fun b hb=>hs b (by unfold frs;rw[List.filterMap_cons,hf];exact List.mem_cons_of_mem _ hb)) hr⟩
 exact all X.outer (fun _ hb=>hb) I.ok.funs
theorem Inv.stack(I:Inv X pins σ H s):s.heap.FunFrames X.base X.stack:=by
 rcases I.ok.stk with e | ⟨e,hf⟩
 . rw[e];exact I.funs
 . rw[e]
   obtain⟨m,hn,_⟩:=I.loc
   refine .cons (by rw[I.ok.kind];decide) hf hn ?_ I.funs
   exact Heap.get?_none_of_le (Nat.le_trans I.ok.bsz I.ok.above)
theorem Inv.stkSub(I:Inv X pins σ H s): ∀b∈frs X.stack,b∈X.env.locals::X.fs:=fun b hb=>by
 rcases I.ok.stk with e | ⟨e,hf⟩
 . rw[e]at hb;exact List.mem_cons_of_mem _ hb
 . rw[e]at hb
   unfold frs at hb
   rw[List.filterMap_cons,hf]at hb
   exact hb
theorem Inv.stkFree(I:Inv X pins σ H s): ∀b∈frs X.stack,H b=none:=fun b hb=>by
 rcases List.mem_cons.mp (I.stkSub b hb)with e |hb
 . rw[e];exact I.free
 . obtain⟨_,o,ho,_⟩:=I.ok.funs.mem hb
   exact I.base.free b o ho (I.ok.frf b hb) fun z=>I.ok.exfs b z hb
theorem Inv.step{g':Array GenState}{t':Nat}{d':Drawn}{ch:List Addr}(I:Inv X pins σ H s)
   (hch: ∀b∈ch,(b∈X.ex\/X.s₀.heap.objs.size<=b)/\b≠X.env.locals/\(∀x c,X.env.cells.lookup x=some c->c≠b)/\ ∀p∈X.pn++pins,p.1≠b)
   (keep: ∀b o,b≠X.env.locals->b∉X.fs->b∉ch->s.heap.get? b=some o->H b=none->h'.get? b=some o)
   (slot: ∀b o,b≠X.env.locals->b∈X.fs->b∉ch->s.heap.get? b=some o->H b=none-> ∃sl,h'.get? b=some {o with slots:=sl}) (free: ∀b o,b∉ch->s.heap.get? b=some o->H b=none->H' b=none)
   (there: ∀b o,b∉ch->s.heap.get? b=some o-> ∃o',h'.get? b=some o')
   (tups: ∀b xs,H b=some (.tup xs)->H' b=some (.tup xs)) (frzs: ∀b o u,H b=some (.frz o u)->H' b=some (.frz o u)) (tbls: ∀b ps,H b=some (.tbl ps)-> ∃more,H' b=some (.tbl (ps++more)))
   (ns: ∀m,s.heap.Ns X.env.locals m->h'.Ns X.env.locals m) (hok:HOk X.prog X.w H' h') (hg:AllBare g'):
   Inv X pins σ H' {s with heap:=h',gens:=g',drawn:=d',toks:=t'}:=by
 have neL: ∀b o,X.s₀.heap.get? b=some o->b≠X.env.locals:=fun b o e=>Nat.ne_of_lt (Nat.lt_of_lt_of_le (Heap.lt_size e) I.ok.above)
 have neC: ∀b o,X.s₀.heap.get? b=some o->b∉X.ex->b∉ch:=fun b o e hx hb=>by
   rcases(hch b hb).1 with z |z
   . exact hx z
   . exact absurd (Nat.lt_of_lt_of_le (Heap.lt_size e) z) (Nat.lt_irrefl _)
 have cellK: ∀x c,X.env.cells.lookup x=some c-> ∀v,s.heap.IsCell c v->h'.IsCell c v:=fun x c e v ⟨o,ho,hd⟩=>by
   have nch:c∉ch:=fun z=>(hch c z).2.2.1 x c e rfl
   by_cases hc:c∈X.fs
   . obtain⟨sl,q⟩:=slot c o (I.cne x c e) hc nch ho (I.freeC x c e)
     exact⟨_,q,hd⟩
   . exact⟨o,keep c o (I.cne x c e) hc nch ho (I.freeC x c e),hd⟩
 refine⟨I.ok,I.os,hg,⟨fun b o e n hb hx=> ?_,fun b o e n hb hx=> ?_,fun b o e n hx=> ?_,fun b o e hx=> ?_,fun b xs e=>tups b xs (I.base.tups b xs e),fun b o xs e=>frzs b o xs (I.base.frzs b o xs e),fun b ps e=> ?_⟩,?_,fun x c e=> ?_,?_,fun x c e=> ?_,fun p hp=> ?_,hok,I.len⟩
 . exact keep b o (neL b o e) hb (neC b o e hx) (I.base.keep b o e n hb hx) (I.base.free b o e n hx)
 . obtain⟨sl,e1⟩:=I.base.slot b o e n hb hx
   obtain⟨sl',e2⟩:=slot b _ (neL b o e) hb (neC b o e hx) e1 (I.base.free b o e n hx)
   exact⟨sl',e2⟩
 . obtain⟨o',e1⟩:=I.base.there b o e hx
   exact free b o' (neC b o e hx) e1 (I.base.free b o e n hx)
 . obtain⟨o',e1⟩:=I.base.there b o e hx
   exact there b o' (neC b o e hx) e1
 . obtain⟨m1,e1⟩:=I.base.tbls b ps e
   obtain⟨m2,e2⟩:=tbls b _ e1
   exact⟨m1++m2,by rw[e2,Array.append_assoc]⟩
 . obtain⟨m,hn,hl⟩:=I.loc
   refine⟨m,ns m hn,fun i x v e1 e2 e3=> ?_⟩
   obtain⟨u,r,l⟩:=hl i x v e1 e2 e3
   refine⟨u,r,?_⟩
   rcases l with l | ⟨k,c,e,z⟩
   . exact .inl l
   . exact .inr ⟨k,c,e,cellK x c e _ z⟩
 . obtain⟨v,z⟩:=I.cell x c e
   exact⟨v,cellK x c e v z⟩
 . obtain⟨m,⟨o,_,_,ho,_⟩,_⟩:=I.loc
   exact free _ o (fun z=>(hch _ z).2.1 rfl) ho I.free
 . obtain⟨v,o,ho,hd⟩:=I.cell x c e
   exact free c o (fun z=>(hch c z).2.2.1 x c e rfl) ho (I.freeC x c e)
 . obtain⟨e,n,ne,nf,d⟩:=I.pin p hp
   have nch:p.1∉ch:=fun z=>(hch p.1 z).2.2.2 p hp rfl
   exact⟨keep p.1 p.2 ne nf nch e n,free p.1 p.2 nch e n,ne,nf,d⟩
theorem Inv.un{t':Nat}(I:Inv X pins σ H s)(u:Un X.fs [] H H' s.heap h')(hok:HOk X.prog X.w H' h'):Inv X pins σ H' {s with heap:=h',toks:=t'}:=by
 obtain⟨m,⟨o,es,ep,ho,r⟩,_⟩:=id I.loc
 obtain⟨sl,hL⟩:=u.any ho I.free (by simp)
 exact I.step (g':=s.gens) (d':=s.drawn) (ch:=[]) (fun _ z=>nomatch z) (fun b o _ hb _ e n=>u.keep b o e n hb (by simp)) (fun b o _ hb _ e n=>u.slot b o e n hb (by simp)) (fun b o _ e n=>u.free b o e n (by simp)) (fun b o _ e=>u.there b o e (by simp)) u.tups u.frzs u.tbls (fun m' hm=>by
   obtain⟨o',es',ep',ho',r'⟩:=hm
   rw[ho]at ho';cases ho'
   exact⟨_,es',ep',hL,r'⟩) hok I.bare
theorem Inv.call{g':Array GenState}{t':Nat}{d':Drawn}{ch:List Addr}(I:Inv X pins σ H s)(u:Un (frs X.stack) ch H H' s.heap h')(hok:HOk X.prog X.w H' h')(hg:AllBare g')
   (hch: ∀b∈ch,(b∈X.ex\/X.s₀.heap.objs.size<=b)/\b≠X.env.locals/\(∀x c,X.env.cells.lookup x=some c->c≠b)/\ ∀p∈X.pn++pins,p.1≠b):
   Inv X pins σ H' {s with heap:=h',gens:=g',drawn:=d',toks:=t'}:=by
 obtain⟨m,⟨o,es,ep,ho,r⟩,_⟩:=id I.loc
 obtain⟨sl,hL⟩:=u.any ho I.free fun z=>(hch _ z).2.1 rfl
 exact I.step (ch:=ch) hch (fun b o hL hb hc e n=>u.keep b o e n (fun z=>(List.mem_cons.mp (I.stkSub b z)).elim hL hb) hc) (fun b o _ _ hc e n=>u.any e n hc) (fun b o hc e n=>u.free b o e n hc) (fun b o hc e=>u.there b o e hc) u.tups u.frzs u.tbls (fun m' hm=>by
   obtain⟨o',es',ep',ho',r'⟩:=hm
   rw[ho]at ho';cases ho'
   exact⟨_,es',ep',hL,r'⟩) hok hg
theorem Inv.turned{t':Nat}{it:Addr}(I:Inv X pins σ H s)(k: ∀b o,b≠it->s.heap.get? b=some o->h'.get? b=some o)(hn:H it=none)(hL:it≠X.env.locals)
   (h1:it∈X.ex\/X.s₀.heap.objs.size<=it) (h2: ∀x c,X.env.cells.lookup x=some c->c≠it) (h3: ∀p∈X.pn++pins,p.1≠it):Inv X pins σ H {s with heap:=h',toks:=t'}:=by
 have nit: ∀b u,H b=some u->b≠it:=fun b u e z=>by rw[z,hn]at e;cases e
 refine I.step (g':=s.gens) (d':=s.drawn) (ch:=[it]) (fun b hb=> ?_) (fun b o _ _ hc e _=>k b o (fun z=>hc (by simp[z])) e) (fun b o _ _ hc e _=>⟨o.slots,k b o (fun z=>hc (by simp[z])) e⟩) (fun _ _ _ _ n=>n)
   (fun b o hc e=>⟨o,k b o (fun z=>hc (by simp[z])) e⟩) (fun _ _ e=>e) (fun _ _ _ e=>e) (fun b ps e=>⟨#[],by rw[e];simp⟩) (fun m hm=> ?_) (fun b u e=> ?_) I.bare
 . have e:b=it:=by simpa using hb
   subst e
   exact⟨h1,hL,h2,h3⟩
 . obtain⟨o,es,ep,ho,r⟩:=hm
   exact⟨o,es,ep,k _ o (Ne.symm hL) ho,r⟩
 . refine(I.hok b u e).stay (fun c v hc q=>k c v ?_ q) (fun _ q=>q) fun _ _ q=>q
   rcases hc with z |z
   . rw[z];exact nit b u e
   . exact nit c _ z
theorem Inv.tok(I:Inv X pins σ H s)(t:Nat):Inv X pins σ H {s with toks:=t}:=I.un (h':=s.heap) (t':=t) Un.refl I.hok
theorem Inv.kept{t':Nat}(I:Inv X pins σ H s)(k: ∀b u,s.heap.get? b=some u->h'.get? b=some u):Inv X pins σ H {s with heap:=h',toks:=t'}:=I.un (Un.kept k) (I.hok.kept k)
theorem Inv.laid{a:Addr}{o:HO}{t':Nat}(I:Inv X pins σ H s)(k: ∀b u,s.heap.get? b=some u->h'.get? b=some u)(hp:s.heap.objs.size<=a)(new:ObjOk X.prog X.w (upd H a o) h' a o):
   Inv X pins σ (upd H a o) {s with heap:=h',toks:=t'}:=I.un (Un.laid k hp (I.hok.fresh hp)) (I.hok.laid k hp new)
theorem Inv.write{x e:Addr}{o:HO}{t':Nat}(I:Inv X pins σ H s)(mu:Mut (H x))(he:e=x\/H e=some (.own x))(k: ∀b u,b≠e->s.heap.get? b=some u->h'.get? b=some u)(heo: ∃u,h'.get? e=some u)
   (new:ObjOk X.prog X.w (upd H x o) h' x o):Inv X pins σ (upd H x o) {s with heap:=h',toks:=t'}:=I.un (Un.write mu he k heo) (I.hok.write mu he k heo new)
theorem Inv.pins_of{pins':List (Addr×Obj)}(I:Inv X pins σ H s)(h: ∀p∈pins',s.heap.get? p.1=some p.2/\H p.1=none/\p.1≠X.env.locals/\p.1∉X.fs/\ ∀v,p.2.data≠ .cell v):Inv X pins' σ H s:=
 ⟨I.ok,I.os,I.bare,I.base,I.loc,I.cell,I.free,I.freeC,fun p hp=>(List.mem_append.mp hp).elim (fun z=>I.pin p (List.mem_append_left _ z)) (h p),I.hok,I.len⟩
theorem b2g{N:List Str}(hN:N.Nodup){i j:Nat}{x:Str}(a:N[i]? =some x)(b:N[j]? =some x):i=j:=by
 obtain⟨h1,e1⟩:=List.getElem?_eq_some_iff.mp a
 obtain⟨h2,e2⟩:=List.getElem?_eq_some_iff.mp b
 exact(List.getElem_inj hN).mp (e1.trans e2.symm)
theorem a9c{M:Model}{A:Around}{E:Value->Shared->Prop}{i:Nat}{x:Str}{v:V}{u:Value}{Q:Unit->Shared->Prop}(I:Inv X pins σ H s)(hN:X.N.Nodup)(hi:X.N[i]? =some x)(hx:Loc X.env.scope x)(r:RelV v u)
   (h: ∀s',Inv X pins (σ.set i (some v)) H s'->(∃a,Heap.SameBut a s.heap s'.heap/\(a=X.env.locals\/X.env.cells.lookup x=some a))->Q () s') (hf:X.fn x=true\/X.env.scope.names.lookup x=some .local:=by first |exact .inl rfl |exact .inr rfl |assumption):wpAny M A (storeName X.env x u) Q E s:=by
 obtain⟨m,hn,hl⟩:=id I.loc
 have hcls:(X.env.scope.kind== .class||(X.env.scope.kind== .module&&X.env.locals !=X.env.globals))=false:=by rw[I.ok.kind];rfl
 have hiσ:i<σ.length:=by rw[I.len];exact(List.getElem?_eq_some_iff.mp hi).1
 have cne:=I.cne
 have tracked: ∀{a:Addr}{h':Heap},(∃o,s.heap.get? a=some o/\H a=none)->Heap.SameBut a s.heap h'->HOk X.prog X.w H h':=fun {a h'} ha hs b ob e=>by
   obtain⟨_,_,hfree⟩:=ha
   refine(I.hok b ob e).stay (fun c w' hc q=>(hs.2 c ?_).trans q) (fun _ q=>q) fun _ _ q=>q
   rintro rfl
   rcases hc with rfl |hc
   . rw[hfree]at e;cases e
   . rw[hfree]at hc;cases hc
 rcases hx with hk |hk
 . refine wpAny_storeName_local hk hn (fun h' hn' hs=> ?_) hcls
   obtain⟨oL,_,_,hoL,_⟩:=id hn
   refine h _ ⟨I.ok,I.os,I.bare,⟨fun b o e n hb hx=> ?_,fun b o e n hb hx=> ?_,I.base.free,fun b o e hx=> ?_,I.base.tups,I.base.frzs,I.base.tbls⟩,⟨_,hn',fun j y v' e1 e2 e3=> ?_⟩,fun y c e=> ?_,I.free,I.freeC,fun p hp=> ?_,tracked ⟨oL,hoL,I.free⟩ hs,by simpa using I.len⟩ ⟨_,hs,.inl rfl⟩
   . exact(hs.2 b (Nat.ne_of_lt (Nat.lt_of_lt_of_le (Heap.lt_size e) I.ok.above))).trans (I.base.keep b o e n hb hx)
   . obtain⟨sl,e1⟩:=I.base.slot b o e n hb hx
     exact⟨sl,(hs.2 b (Nat.ne_of_lt (Nat.lt_of_lt_of_le (Heap.lt_size e) I.ok.above))).trans e1⟩
   . obtain⟨o',e1⟩:=I.base.there b o e hx
     exact⟨o',(hs.2 b (Nat.ne_of_lt (Nat.lt_of_lt_of_le (Heap.lt_size e) I.ok.above))).trans e1⟩
   . by_cases hj:j=i
     . subst hj
       rw[hi]at e1;cases e1
       rw[List.getElem?_set_self hiσ]at e2
       cases e2
       exact⟨u,r,.inl ⟨hk,by simp⟩⟩
     . rw[List.getElem?_set_ne (Ne.symm hj)]at e2
       obtain⟨u',r',q⟩:=hl j y v' e1 e2 e3
       refine⟨u',r',?_⟩
       rcases q with⟨k,e⟩ | ⟨k,c,e,z⟩
       . refine .inl ⟨k,?_⟩
         have:y≠x:=fun e=>hj (b2g hN e1 (e▸hi))
         simp[this,e]
       . exact .inr ⟨k,c,e,z.sameBut hs (cne y c e)⟩
   . obtain⟨w',z⟩:=I.cell y c e
     exact⟨w',z.sameBut hs (cne y c e)⟩
   . obtain⟨e,n,ne,nf,d⟩:=I.pin p hp
     exact⟨(hs.2 p.1 ne).trans e,n,ne,nf,d⟩
 . have hfn:X.fn x=true:=by
     rcases hf with z |z
     . exact z
     . rw[z]at hk;cases hk
   obtain⟨c,hc⟩:=I.ok.has x (.inl hk)
   obtain⟨w',z⟩:=I.cell x c hc
   refine wpAny_storeName_cell I.ok.kind hk hc z (fun h' hc' hs=> ?_)
   obtain⟨oc,hoc,hocd⟩:=id z
   refine h {s with heap:=h'} ⟨I.ok,I.os,I.bare,⟨fun b o e n hb hx=> ?_,fun b o e n hb hx=> ?_,I.base.free,fun b o e hx=> ?_,I.base.tups,I.base.frzs,I.base.tbls⟩,⟨m,hn.sameBut hs (Ne.symm (cne x c hc)),fun j y v' e1 e2 e3=> ?_⟩,fun y c' e=> ?_,I.free,I.freeC,fun p hp=> ?_,tracked ⟨oc,hoc,I.freeC x c hc⟩ hs,by simpa using I.len⟩ ⟨c,hs,.inr hc⟩
   . exact(hs.2 b (Nat.ne_of_lt (Nat.lt_of_lt_of_le (Heap.lt_size e) (I.ok.cab x c hfn hc)))).trans (I.base.keep b o e n hb hx)
   . obtain⟨sl,e1⟩:=I.base.slot b o e n hb hx
     exact⟨sl,(hs.2 b (Nat.ne_of_lt (Nat.lt_of_lt_of_le (Heap.lt_size e) (I.ok.cab x c hfn hc)))).trans e1⟩
   . obtain⟨o',e1⟩:=I.base.there b o e hx
     exact⟨o',(hs.2 b (Nat.ne_of_lt (Nat.lt_of_lt_of_le (Heap.lt_size e) (I.ok.cab x c hfn hc)))).trans e1⟩
   . by_cases hj:j=i
     . subst hj
       rw[hi]at e1;cases e1
       rw[List.getElem?_set_self hiσ]at e2
       cases e2
       exact⟨u,r,.inr ⟨.inl hk,c,hc,hc'⟩⟩
     . rw[List.getElem?_set_ne (Ne.symm hj)]at e2
       obtain⟨u',r',q⟩:=hl j y v' e1 e2 e3
       refine⟨u',r',?_⟩
       rcases q with q | ⟨k,c',e,z'⟩
       . exact .inl q
       . refine .inr ⟨k,c',e,z'.sameBut hs ?_⟩
         rintro rfl
         exact hj (b2g hN e1 (I.ok.inj _ _ _ e hc▸hi))
   . by_cases hcc:c'=c
     . subst hcc;exact⟨_,hc'⟩
     . obtain⟨w2,z2⟩:=I.cell y c' e
       exact⟨w2,z2.sameBut hs hcc⟩
   . obtain⟨e,n,ne,nf,d⟩:=I.pin p hp
     refine⟨(hs.2 p.1 ?_).trans e,n,ne,nf,d⟩
     intro q
     rw[q,hoc]at e
     have q':oc=p.2:=Option.some.inj e
     exact d w' (by rw[<-q'];exact hocd)
theorem b1v{M:Model}{A:Around}{E:Value->Shared->Prop}{i:Nat}{x:Str}{v:V}{u:Value}{Q:Unit->Shared->Prop}(I:Inv X pins σ H s)(hN:X.N.Nodup)(hi:X.N[i]? =some x)(hx:Loc X.env.scope x)(r:RelV v u)
   (h: ∀s',Inv X pins (σ.set i (some v)) H s'->Q () s') (hf:X.fn x=true\/X.env.scope.names.lookup x=some .local:=by first |exact .inl rfl |exact .inr rfl |assumption):wpAny M A (storeName X.env x u) Q E s:=
 a9c I hN hi hx r (fun s' I' _=>h s' I') hf
theorem Inv.call'{s':Shared}{ch:List Addr}(I:Inv X pins σ H s)(ho:s'.os=s.os)(u:Un (frs X.stack) ch H H' s.heap s'.heap)(hok:HOk X.prog X.w H' s'.heap)(hg:AllBare s'.gens)
   (hch: ∀b∈ch,(b∈X.ex\/X.s₀.heap.objs.size<=b)/\b≠X.env.locals/\(∀x c,X.env.cells.lookup x=some c->c≠b)/\ ∀p∈X.pn++pins,p.1≠b):Inv X pins σ H' s':=by
 obtain⟨h',g',d',t',o'⟩:=s'
 have e:o'=s.os:=ho
 subst e
 exact I.call (g':=g') (t':=t') (d':=d') u hok hg hch
end
noncomputable abbrev XK:=Value->Option Addr->Hp->Prop
noncomputable abbrev St:=List (Option V)
noncomputable abbrev VK:=V->Hp->Prop
noncomputable abbrev TE:=St->Hp->VK->Prop
noncomputable abbrev TT:=St->Hp->(Bool->Hp->Prop)->Prop
noncomputable abbrev TA:=St->Hp->(List V->Hp->Prop)->Prop
structure Ends where
 nx:St->Hp->Prop
 rt:VK
 bk:St->Hp->Prop:=fun _ _=>False
 ct:St->Hp->Prop:=fun _ _=>False
noncomputable abbrev TS:=Ends->St->Hp->Prop
def EP(X:Cx)(pins:List (Addr×Obj))(σ:St)(Q:VK)(u:Value)(s':Shared):Prop:= ∃v H',Inv X pins σ H' s'/\RelV v u/\Q v H'
def TP(X:Cx)(pins:List (Addr×Obj))(σ:St)(Q:Bool->Hp->Prop)(b:Bool)(s':Shared):Prop:= ∃H',Inv X pins σ H' s'/\Q b H'
def AP(X:Cx)(pins:List (Addr×Obj))(σ:St)(Q:List V->Hp->Prop)(us:List Value)(s':Shared):Prop:= ∃vs H',Inv X pins σ H' s'/\Vals vs us/\Q vs H'
def SP(X:Cx)(pins:List (Addr×Obj))(D:Ends)(f:Flow)(s':Shared):Prop:=
 match f with
 | .next=> ∃σ' H',Inv X pins σ' H' s'/\D.nx σ' H'
 | .brk=> ∃σ' H',Inv X pins σ' H' s'/\D.bk σ' H'
 | .cont=> ∃σ' H',Inv X pins σ' H' s'/\D.ct σ' H'
 | .ret u=> ∃v σ' H',Inv X pins σ' H' s'/\RelV v u/\D.rt v H'
def PE(X:Cx)(e:Expr)(t:TE):Prop:=
 ∀(pins:List (Addr×Obj)) (s:Shared) (σ:St) (H:Hp) (Q:VK),Inv X pins σ H s->t σ H Q->wpAny (model X.prog X.w) X.A (eval e X.env) (EP X pins σ Q) X.xe s
def PT(X:Cx)(e:Expr)(t:TT):Prop:=
 ∀(pins:List (Addr×Obj)) (s:Shared) (σ:St) (H:Hp) (Q:Bool->Hp->Prop),Inv X pins σ H s->t σ H Q->wpAny (model X.prog X.w) X.A (isTrue e X.env (eval e X.env)) (TP X pins σ Q) X.xe s
def PW(X:Cx)(e:Expr)(t:TT):Prop:=
 ∀(whole:Sem Value) (pins:List (Addr×Obj)) (s:Shared) (σ:St) (H:Hp) (Q:Bool->Hp->Prop),Inv X pins σ H s->t σ H Q->wpAny (model X.prog X.w) X.A (isTrue e X.env whole) (TP X pins σ Q) X.xe s
theorem PW.pt{X:Cx}{e:Expr}{t:TT}(h:PW X e t):PT X e t:=h _
def PA(X:Cx)(es:List Expr)(t:TA):Prop:=
 ∀(pos:Pos) (pins:List (Addr×Obj)) (s:Shared) (σ:St) (H:Hp) (Q:List V->Hp->Prop),Inv X pins σ H s->t σ H Q->wpAny (model X.prog X.w) X.A (spliced (backTo pos (starEach es X.env))) (AP X pins σ Q) X.xe s
def PS(X:Cx)(st:Stmt)(t:TS):Prop:=
 ∀(pins:List (Addr×Obj)) (s:Shared) (σ:St) (H:Hp) (D:Ends),Inv X pins σ H s->t D σ H->wpAny (model X.prog X.w) X.A (exec st X.env) (SP X pins D) X.xe s
def PSs(X:Cx)(st:List Stmt)(t:TS):Prop:=
 ∀(pins:List (Addr×Obj)) (s:Shared) (σ:St) (H:Hp) (D:Ends),Inv X pins σ H s->t D σ H->wpAny (model X.prog X.w) X.A (execs st X.env) (SP X pins D) X.xe s
theorem thn{α:Type}{t:Sem α}{Q Q':α->Shared->Prop}{M:Model}{A:Around}{E:Value->Shared->Prop}{s:Shared}(h:wpAny M A t Q E s)(hQ: ∀a s,Q a s->Q' a s):wpAny M A t Q' E s:=wpAny_mono h hQ fun _ _ x=>x
section
variable {X:Cx}
def tVar(i:Nat):TE:=fun σ H Q=> ∃v,σ[i]? =some (some v)/\Q v H
def tC(v:V):TE:=fun _ H Q=>Q v H
theorem pe_var{i:Nat}{x:Str}{pos:Pos}(hN:X.N[i]? =some x)(hv:Vis X.env.scope x)(hd:(x==("__debug__":Str))=false:=by decide)(hcd:(x==("__classdict__":Str))=false:=by decide):PE X (.Name x pos) (tVar i):=by
 intro pins s σ H Q I h
 obtain⟨v,e,h⟩:=h
 obtain⟨m,hn,hl⟩:=I.loc
 obtain⟨u,r,l⟩:=hl i x v hN e hv
 have fin:EP X pins σ Q u s:=⟨v,H,I,r,h⟩
 rcases l with⟨hk,hm⟩ | ⟨hk,c,hc,hcell⟩
 . exact wpAny_Name (wpAny_loadName_local I.ok.kind hk hn hm fin) hd
 . rcases hk with hk |hk
   . exact wpAny_Name (wpAny_loadName_cell I.ok.kind hk hc hcell fin) hd
   . exact wpAny_Name (wpAny_loadName_free I.ok.kind hk hc hcell fin hcd) hd
theorem pe_int{i j pos}:PE X (.Constant (.int i) j pos) (tC (.int i)):=fun _ _ _ H _ I h=>wpAny_Constant_int ⟨.int i,H,I.tok _,⟨_,rfl⟩,h⟩
theorem pe_bl{b j pos}:PE X (.Constant (.bool b) j pos) (tC (.bl b)):=fun _ _ _ H _ I h=>Constant_bool ⟨.bl b,H,I,rfl,h⟩
theorem pe_non{j pos}:PE X (.Constant .none j pos) (tC .non):=fun _ _ _ H _ I h=>Constant_none ⟨.non,H,I,rfl,h⟩
theorem pe_str{x j pos}:PE X (.Constant (.str x) j pos) (tC (.str x)):=fun _ _ _ H _ I h=>Calls.Constant_str ⟨.str x,H,I.tok _,⟨_,rfl⟩,h⟩
def Gl(X:Cx)(x:Str):Prop:=X.env.kindOf x=some .globalImplicit
theorem a5j{E:Value->Shared->Prop}{pins:List (Addr×Obj)}{s:Shared}{σ:St}{H:Hp}{x:Str}{u:Value}{pos:Pos}{Q:Value->Shared->Prop}(I:Inv X pins σ H s)(hg:Gl X x)(hm:X.mg x=some u)(h:Q u s)
   (hd:(x==("__debug__":Str))=false:=by decide):wpAny (model X.prog X.w) X.A (eval (.Name x pos) X.env) Q E s:=
 Calls.Name_function_global I.ok.kind hg (Calls.loadGlobal_global (by rw[I.ok.glob];exact I.mod.glob.keeps I.bk) hm h) hd
theorem a90{E:Value->Shared->Prop}{pins:List (Addr×Obj)}{s:Shared}{σ:St}{H:Hp}{x:Str}{u:Value}{pos:Pos}{Q:Value->Shared->Prop}(I:Inv X pins σ H s)(hg:Gl X x)(hm:X.mg x=none)(hv:bootBuiltins x=some u)(h:Q u s)
   (hn:x≠ "__name__":=by decide) (hd:(x==("__debug__":Str))=false:=by decide):wpAny (model X.prog X.w) X.A (eval (.Name x pos) X.env) Q E s:=by
 obtain⟨mb,h1,h2⟩:=I.mod.blt
 exact Calls.Name_function_global I.ok.kind hg (Calls.loadGlobal_builtin (by rw[I.ok.glob];exact I.mod.glob.keeps I.bk) hm (by rw[I.ok.blt];exact h1.keeps I.bk) ((h2 x hn).trans hv) h) hd
theorem a5e{x:Str}{v:V}{u:Value}{pos:Pos}(hg:Gl X x)(hm:X.mg x=some u)(r:RelV v u)(hd:(x==("__debug__":Str))=false:=by decide):PE X (.Name x pos) (tC v):=
 fun _ _ _ H _ I h=>a5j I hg hm ⟨v,H,I,r,h⟩ hd
theorem pe_bltn{x:Str}{v:V}{u:Value}{pos:Pos}(hg:Gl X x)(hm:X.mg x=none)(hv:bootBuiltins x=some u)(r:RelV v u)(hn:x≠ "__name__":=by decide)(hd:(x==("__debug__":Str))=false:=by decide):PE X (.Name x pos) (tC v):=
 fun _ _ _ H _ I h=>a90 I hg hm hv ⟨v,H,I,r,h⟩ hn hd
variable {a b:Expr}{ta tb:TE}{pos:Pos}
def PC(X:Cx)(op:CmpOp)(a b:Expr)(t:TE):Prop:=
 ∀(pins:List (Addr×Obj)) (s:Shared) (σ:St) (H:Hp) (Q:VK),Inv X pins σ H s->t σ H Q->
   wpAny (model X.prog X.w) X.A (eval a X.env) (fun v s₁=>wpAny (model X.prog X.w) X.A (eval b X.env) (fun u s₂=>wpAny (model X.prog X.w) X.A (compareOp op v u) (EP X pins σ Q) X.xe s₂) X.xe s₁) X.xe s
noncomputable def tB(t:TE):TT:=fun σ H Q=>t σ H fun x H1=> ∃c,x= .bl c/\Q c H1
theorem pt_cmp{op:CmpOp}{t:TE}(h:PC X op a b t)(h1:behindInMarks op b=false:=by first |exact nobehind _ (by decide) (by decide) |rfl):PT X (.Compare a [op] [b] pos) (tB t):=by
 intro pins s σ H Q I hw
 refine wpAny_isTrue_Compare1 (thn (h pins s σ H _ I hw) fun v s1 h1=>thn h1 fun u s2 h2=>thn h2 fun c s3 ⟨x,H1,I1,r1,q1⟩=> ?_) h1
 obtain⟨d,rfl,q⟩:=q1
 cases r1
 exact wpAny_truthy_bool ⟨H1,I1,q⟩
theorem pt_val{e:Expr}{t:TE}(h:PE X e t)(he: ∀whole,isTrue e X.env whole=(do let v <-whole;standAt e.pos;holding [v] (truthy v)):=by intro _;rfl):PT X e (tB t):=by
 intro pins s σ H Q I hw
 refine isTrue_plain (thn (h pins s σ H _ I hw) fun v s1 ⟨x,H1,I1,r1,q1⟩=> ?_) (he _)
 obtain⟨d,rfl,q⟩:=q1
 cases r1
 exact wpAny_truthy_bool ⟨H1,I1,q⟩
variable {tA tB':TT}{rest:List Expr}
noncomputable def tAnd(t u:TT):TT:=fun σ H Q=>t σ H fun c H1=>if c=true then u σ H1 Q else Q false H1
noncomputable def tOr(t u:TT):TT:=fun σ H Q=>t σ H fun c H1=>if c=true then Q true H1 else u σ H1 Q
noncomputable def tNot(t:TT):TT:=fun σ H Q=>t σ H fun c H1=>Q (!c) H1
theorem pw_and1(ha:PT X a tA):PW X (.BoolOp .And [a] pos) tA:=by
 intro wh pins s σ H Q I h
 refine isTrue_and (thn (ha pins s σ H Q I h) fun c s1 e=> ?_)
 cases c with
 |true=>exact isTrue_and_nil e
 |false=>exact e
theorem pw_or1(ha:PT X a tA):PW X (.BoolOp .Or [a] pos) tA:=by
 intro wh pins s σ H Q I h
 refine isTrue_or (thn (ha pins s σ H Q I h) fun c s1 e=> ?_)
 cases c with
 |false=>exact isTrue_or_nil e
 |true=>exact e
theorem pw_and(ha:PT X a tA)(hb:PW X (.BoolOp .And (b::rest) pos) tB'):PW X (.BoolOp .And (a::b::rest) pos) (tAnd tA tB'):=by
 intro wh pins s σ H Q I h
 refine isTrue_and (thn (ha pins s σ H _ I h) fun c s1 zz9=> ?_)
 obtain⟨H1,I1,q1⟩:=zz9
 cases c with
 |true=>exact hb wh pins s1 σ H1 Q I1 q1
 |false=>exact⟨H1,I1,q1⟩
theorem pw_or(ha:PT X a tA)(hb:PW X (.BoolOp .Or (b::rest) pos) tB'):PW X (.BoolOp .Or (a::b::rest) pos) (tOr tA tB'):=by
 intro wh pins s σ H Q I h
 refine isTrue_or (thn (ha pins s σ H _ I h) fun c s1 zz9=> ?_)
 obtain⟨H1,I1,q1⟩:=zz9
 cases c with
 |true=>exact⟨H1,I1,q1⟩
 |false=>exact hb wh pins s1 σ H1 Q I1 q1
theorem pt_not(ha:PT X a tA):PT X (.UnaryOp .Not a pos) (tNot tA):=by
 intro pins s σ H Q I h
 exact isTrue_not (ha pins s σ H (fun c H1=>Q (!c) H1) I h)
def tAndV(ta tb:TE):TE:=fun σ H Q=>ta σ H fun x H1=> ∃c,x= .bl c/\if c=true then tb σ H1 Q else Q (.bl false) H1
def tOrV(ta tb:TE):TE:=fun σ H Q=>ta σ H fun x H1=> ∃c,x= .bl c/\if c=true then Q (.bl true) H1 else tb σ H1 Q
theorem pe_one{op}{t:TE}(h:PE X a t):PE X (.BoolOp op [a] pos) t:=fun pins s σ H Q I hw=>BoolOp_one (h pins s σ H Q I hw)
theorem pe_and(ha:PE X a ta)(hb:PE X (.BoolOp .And (b::rest) pos) tb):PE X (.BoolOp .And (a::b::rest) pos) (tAndV ta tb):=by
 intro pins s σ H Q I h
 refine BoolOp_and (thn (ha pins s σ H _ I h) fun v s1 zz9=> ?_)
 obtain⟨x,H1,I1,r1,q1⟩:=zz9
 obtain⟨c,rfl,q1⟩:=q1
 cases r1
 refine wpAny_truthy_bool ?_
 cases c with
 |true=>exact hb pins s1 σ H1 Q I1 q1
 |false=>exact⟨.bl false,H1,I1,rfl,q1⟩
theorem pe_or(ha:PE X a ta)(hb:PE X (.BoolOp .Or (b::rest) pos) tb):PE X (.BoolOp .Or (a::b::rest) pos) (tOrV ta tb):=by
 intro pins s σ H Q I h
 refine BoolOp_or (thn (ha pins s σ H _ I h) fun v s1 zz9=> ?_)
 obtain⟨x,H1,I1,r1,q1⟩:=zz9
 obtain⟨c,rfl,q1⟩:=q1
 cases r1
 refine wpAny_truthy_bool ?_
 cases c with
 |false=>exact hb pins s1 σ H1 Q I1 q1
 |true=>exact⟨.bl true,H1,I1,rfl,q1⟩
end
def SqL(K:PySem.W.Frag)(H:Hp)(a:Addr)(xs:List V):Prop:=
 Rd H a (.lst xs)\/
   ∃(o:Obj) (its:Array Value) (n:Nat),K.lookup a=some o/\o.cls= .type "list"/\o.dict=none/\o.data= .seq its n/\its.size<=sizeLine/\Vals xs its.toList
def SqT(K:PySem.W.Frag)(H:Hp)(a:Addr)(xs:List V):Prop:=
 Rd H a (.tup xs)\/
   ∃(o:Obj) (its:Array Value) (n:Nat),K.lookup a=some o/\o.cls= .type "tuple"/\o.data= .seq its n/\its.size<=sizeLine/\Vals xs its.toList
noncomputable def absV:Value->Option V
 | .none=>some .non
 | .bool b=>some (.bl b)
 | .int i _=>some (.int i)
 | .str x _=>some (.str x)
 | .bytes b _=>some (.byt b)
 | .float b _=>some (.flt b)
 | .ref a=>some (.ref a)
 | .type n=>some (.ty n)
 |_=>none
theorem RelV.abs{x:V}{u:Value}(r:RelV x u):absV u=some x:=by
 cases x with
 |non=>cases r;rfl
 |bl _=>cases r;rfl
 |int _=>obtain⟨t,rfl⟩:=r;rfl
 |str _=>obtain⟨t,rfl⟩:=r;rfl
 |byt _=>obtain⟨t,rfl⟩:=r;rfl
 |flt _=>obtain⟨t,rfl⟩:=r;rfl
 |ref _=>cases r;rfl
 |ty _=>cases r;rfl
theorem RelV.inj{x y:V}{u:Value}(r:RelV x u)(q:RelV y u):x=y:=Option.some.inj (r.abs.symm.trans q.abs)
theorem Vals.inj: ∀{xs ys:List V}{us:List Value},Vals xs us->Vals ys us->xs=ys
 |_,_,_,.nil,.nil=>rfl
 |_,_,_,.cons r t,.cons r' t'=>by rw[r.inj r',Vals.inj t t']
section
variable {X:Cx}{pins:List (Addr×Obj)}{σ:St}{H:Hp}{s:Shared}{a:Addr}{xs ys:List V}
theorem SqL.of{K:PySem.W.Frag}(h:H a=some (.lst xs)):SqL K H a xs:= .inl (.inl h)
theorem SqT.of{K:PySem.W.Frag}(h:H a=some (.tup xs)):SqT K H a xs:= .inl (.inl h)
theorem Inv.list(I:Inv X pins σ H s)(h:SqL X.K H a xs): ∃its:List Value,Vals xs its/\PlainL s.heap a its.toArray/\xs.length<=sizeLine:=by
 rcases h with h | ⟨o,its,n,hk,hc,hd,hs,hz,r⟩
 . obtain⟨z,its,n,r,e⟩:=h.ok I.hok
   exact⟨its,r,⟨_,n,e,rfl,rfl,rfl⟩,z⟩
 . refine⟨its.toList,r,⟨o,n,I.kIn a o hk,hc,hd,by simpa using hs⟩,?_⟩
   have e:=r.length
   simp only[Array.length_toList]at e
   omega
theorem Inv.tuple(I:Inv X pins σ H s)(h:SqT X.K H a xs): ∃its:List Value,Vals xs its/\IsTup s.heap a its.toArray/\xs.length<=sizeLine:=by
 rcases h with h | ⟨o,its,n,hk,hc,hs,hz,r⟩
 . obtain⟨z,its,r,p⟩:=h.ok I.hok
   exact⟨its,r,p,z⟩
 . refine⟨its.toList,r,⟨o,I.kIn a o hk,hc,n,by simpa using hs⟩,?_⟩
   have e:=r.length
   simp only[Array.length_toList]at e
   omega
theorem Inv.list_inj(I:Inv X pins σ H s)(h:SqL X.K H a xs)(h':SqL X.K H a ys):xs=ys:=by
 obtain⟨its,r,⟨o,n,e,_,_,d⟩,_⟩:=I.list h
 obtain⟨its',r',⟨o',n',e',_,_,d'⟩,_⟩:=I.list h'
 rw[e]at e';cases e'
 rw[d]at d'
 injection d' with d1 _
 have:its=its':=by simpa using congrArg Array.toList d1
 subst this
 exact r.inj r'
end
noncomputable abbrev Cx.wish(X:Cx)(E:Value->Shared->Prop):Cx:={X with xe:=E}
theorem Cx.Ok.wish{X:Cx}(ok:X.Ok)(E:Value->Shared->Prop):(X.wish E).Ok:=
 ⟨ok.mod,ok.kind,ok.glob,ok.blt,ok.above,ok.inj,ok.has,ok.cab,ok.hd,ok.frames,ok.stk,ok.exf,ok.bs,ok.bsz,ok.noex,ok.exfs,ok.funs,ok.frf⟩
theorem Cx.Ok.unwish{X:Cx}{E:Value->Shared->Prop}(ok:(X.wish E).Ok):X.Ok:=
 ⟨ok.mod,ok.kind,ok.glob,ok.blt,ok.above,ok.inj,ok.has,ok.cab,ok.hd,ok.frames,ok.stk,ok.exf,ok.bs,ok.bsz,ok.noex,ok.exfs,ok.funs,ok.frf⟩
section
variable {X:Cx}{pins:List (Addr×Obj)}{σ:St}{H:Hp}{s:Shared}{E:Value->Shared->Prop}
theorem Inv.wish(I:Inv X pins σ H s)(E:Value->Shared->Prop):Inv (X.wish E) pins σ H s:=⟨I.ok.wish E,I.os,I.bare,I.base,I.loc,I.cell,I.free,I.freeC,I.pin,I.hok,I.len⟩
theorem Inv.unwish(I:Inv (X.wish E) pins σ H s):Inv X pins σ H s:=⟨I.ok.unwish,I.os,I.bare,I.base,I.loc,I.cell,I.free,I.freeC,I.pin,I.hok,I.len⟩
theorem SP.unwish{D:Ends}{f:Flow}{s':Shared}(h:SP (X.wish E) pins D f s'):SP X pins D f s':=by
 cases f with
 |next=>obtain⟨σ',H',I,q⟩:=h;exact⟨σ',H',I.unwish,q⟩
 |brk=>obtain⟨σ',H',I,q⟩:=h;exact⟨σ',H',I.unwish,q⟩
 |cont=>obtain⟨σ',H',I,q⟩:=h;exact⟨σ',H',I.unwish,q⟩
 |ret u=>obtain⟨v,σ',H',I,r,q⟩:=h;exact⟨v,σ',H',I.unwish,r,q⟩
end
section
variable {X:Cx}{st:Stmt}{rest:List Stmt}{t u:TS}{e:Expr}{te:TE}{pos:Pos}
noncomputable def tNext:TS:=fun D σ H=>D.nx σ H
noncomputable def tSeq(t u:TS):TS:=fun D σ H=>t {D with nx:=u D} σ H
theorem pss_nil:PSs X [] tNext:=fun _ _ σ H _ I h=>wpAny_execs_nil ⟨σ,H,I,h⟩
theorem b7h(h1:PS X st t)(h2:PSs X rest u):PSs X (st::rest) (tSeq t u):=by
 intro pins s σ H D I h
 refine wpAny_execs_cons (thn (h1 pins s σ H {D with nx:=u D} I h) fun f s1 q=> ?_)
 cases f with
 |next=>
   obtain⟨σ',H',I',q⟩:=q
   exact h2 pins s1 σ' H' D I' q
 |ret v=>exact q
 |brk=>exact q
 |cont=>exact q
theorem pss_one(h1:PS X st t):PSs X [st] t:=by
 intro pins s σ H D I h
 refine wpAny_execs_cons (thn (h1 pins s σ H D I h) fun f s1 q=> ?_)
 cases f with
 |next=>exact wpAny_execs_nil q
 |ret v=>exact q
 |brk=>exact q
 |cont=>exact q
theorem Inv.quiet{pins:List (Addr×Obj)}{σ:St}{H:Hp}{s:Shared}(I:Inv X pins σ H s):interactive X.env=false:=by simp[interactive,I.ok.kind]
noncomputable def tDrop(te:TE):TS:=fun D σ H=>te σ H fun _ H1=>D.nx σ H1
theorem ps_expr(he:PE X e te)(hs:swapsWith e none pos.line X.env=pure false:=by rfl):PS X (.Expr e pos) (tDrop te):=by
 intro pins s σ H D I h
 exact wpAny_Expr_any (thn (he pins s σ H _ I h) fun v s1 ⟨x,H1,I1,r1,q1⟩=>⟨σ,H1,I1,q1⟩) I.quiet hs
noncomputable def tRet(te:TE):TS:=fun D σ H=>te σ H D.rt
theorem ps_ret(he:PE X e te):PS X (.Return (some e) pos) (tRet te):=by
 intro pins s σ H D I h
 exact wpAny_Return_some (thn (he pins s σ H _ I h) fun v s1 ⟨x,H1,I1,r1,q1⟩=>⟨x,σ,H1,I1,r1,q1⟩)
noncomputable def tIfS(c:TT)(t u:TS):TS:=fun D σ H=>c σ H fun b H1=>if b=true then t D σ H1 else u D σ H1
theorem ps_if{c:Expr}{a b:List Stmt}{tc:TT}(hc:PT X c tc)(ha:PSs X a t)(hb:PSs X b u):PS X (.If c a b pos) (tIfS tc t u):=by
 intro pins s σ H D I h
 refine wpAny_If (thn (hc pins s σ H _ I h) fun d s1 zz9=> ?_)
 obtain⟨H1,I1,q1⟩:=zz9
 cases d with
 |true=>exact ha pins s1 σ H1 D I1 q1
 |false=>exact hb pins s1 σ H1 D I1 q1
end
noncomputable abbrev TG:=V->St->Hp->(St->Hp->Prop)->Prop
noncomputable abbrev TGs:=List V->St->Hp->(St->Hp->Prop)->Prop
def PG(X:Cx)(target:Expr)(t:TG):Prop:=
 ∀(pins:List (Addr×Obj)) (s:Shared) (σ:St) (H:Hp) (v:V) (u:Value) (Q:St->Hp->Prop),Inv X pins σ H s->RelV v u->t v σ H Q->
   wpAny (model X.prog X.w) X.A (assign target X.env u) (fun _ s'=> ∃σ' H',Inv X pins σ' H' s'/\Q σ' H') X.xe s
def PGs(X:Cx)(ts:List Expr)(t:TGs):Prop:=
 ∀(pins:List (Addr×Obj)) (s:Shared) (σ:St) (H:Hp) (vs:List V) (us:List Value) (Q:St->Hp->Prop),Inv X pins σ H s->Vals vs us->t vs σ H Q->
   wpAny (model X.prog X.w) X.A (assignInOrder ((assignEach ts X.env).map (·.2)) us) (fun _ s'=> ∃σ' H',Inv X pins σ' H' s'/\Q σ' H') X.xe s
noncomputable abbrev TSet:=V->V->V->Hp->(Hp->Prop)->Prop
def PSet(X:Cx)(t:TSet):Prop:=
 ∀(pins:List (Addr×Obj)) (s:Shared) (σ:St) (H:Hp) (o i v:V) (ov iv u:Value) (Q:Hp->Prop),Inv X pins σ H s->RelV o ov->RelV i iv->RelV v u->t o i v H Q->
   wpAny (model X.prog X.w) X.A (setItem ov iv u) (fun _ s'=> ∃H',Inv X pins σ H' s'/\Q H') X.xe s
section
variable {X:Cx}{pos:Pos}
def gName(i:Nat):TG:=fun v σ H Q=>Q (σ.set i (some v)) H
theorem pg_name{i:Nat}{x:Str}(hN:X.N.Nodup)(hi:X.N[i]? =some x)(hx:Loc X.env.scope x)(hf:X.fn x=true\/X.env.scope.names.lookup x=some .local:=by first |exact .inl rfl |exact .inr rfl |assumption):PG X (.Name x pos) (gName i):=by
 intro pins s σ H v u Q I r h
 exact wpAny_assign_Name (b1v I hN hi hx r (fun s' I'=>⟨_,H,I',h⟩) hf)
def gNil:TGs:=fun vs σ H Q=>vs=[]/\Q σ H
def gCons(t:TG)(u:TGs):TGs:=fun vs σ H Q=> ∃v r,vs=v::r/\t v σ H fun σ' H'=>u r σ' H' Q
theorem pgs_nil:PGs X [] gNil:=by
 intro pins s σ H vs us Q I r h
 obtain⟨e,h⟩:=h
 subst e
 cases r
 exact assignInOrder_nil ⟨σ,H,I,h⟩
theorem b7l{e:Expr}{es:List Expr}{t:TG}{u:TGs}(h1:PG X e t)(h2:PGs X es u)
   (hs:(assignEach (e::es) X.env).map (·.2)=assign e X.env::(assignEach es X.env).map (·.2):=by rfl):PGs X (e::es) (gCons t u):=by
 intro pins s σ H vs us Q I r h
 obtain⟨v,vr,e1,h⟩:=h
 subst e1
 cases r with
 |cons r rr=>
   rw[hs]
   refine assignInOrder_cons (thn (h1 pins s σ H _ _ _ I r h) fun _ s1 zz9=> ?_)
   obtain⟨σ1,H1,I1,q1⟩:=zz9
   exact h2 pins s1 σ1 H1 _ _ Q I1 rr q1
def gTup(K:PySem.W.Frag)(n:Nat)(t:TGs):TG:=fun v σ H Q=> ∃a xs,v= .ref a/\SqT K H a xs/\xs.length=n/\t xs σ H Q
theorem pg_tup{es:List Expr}{k:Nat}{t:TGs}{n:Nat}(hc:X.calm=true)(h:PGs X es t)
   (hn:(assignEach es X.env).length=n:=by rfl) (hst:(assignEach es X.env).findIdx? (·.1)=none:=by rfl):PG X (.Tuple es k pos) (gTup X.K n t):=by
 intro pins s σ H v u Q I r hw
 obtain⟨a,xs,e1,hq,hl,hw⟩:=hw
 subst e1
 cases r
 obtain⟨its,rv,ht,hz⟩:=I.tuple hq
 refine assign_Tuple_tuple (I.ok.hd hc) ht (by simp[hn,<-hl,rv.length]) hst fun h' hx=> ?_
 have I1:Inv X pins σ H {s with heap:=h'}:=I.kept (t':=s.toks) fun b o e=>hx b o (Nat.ne_of_lt (Heap.lt_size e)) e
 exact h pins _ σ H xs _ Q I1 (by simpa using rv) hw
def gSub(to ti:TE)(t:TSet):TG:=fun v σ H Q=>to σ H fun o H1=>ti σ H1 fun i H2=>t o i v H2 fun H3=>Q σ H3
theorem pg_sub{o i:Expr}{to ti:TE}{t:TSet}(ho:PE X o to)(hi:PE X i ti)(hs:PSet X t)
   (ha: ∀v,assign (.Subscript o i pos) X.env v=(do
     let ov <-holding [v] (eval o X.env)
     let iv <-holding [v,ov] (eval i X.env)
     standAt pos
     holding [v,ov,iv] (setItem ov iv v)
     release [v,ov,iv] []):=by intro _;rfl):PG X (.Subscript o i pos) (gSub to ti t):=by
 intro pins s σ H v u Q I r h
 rw[ha]
 refine wpAny_bind (wpAny_holding (thn (ho pins s σ H _ I h) fun ov s1 zz9=> ?_))
 obtain⟨x,H1,I1,r1,q1⟩:=zz9
 refine wpAny_bind (wpAny_holding (thn (hi pins s1 σ H1 _ I1 q1) fun iv s2 zz9=> ?_))
 obtain⟨y,H2,I2,r2,q2⟩:=zz9
 refine wpAny_bind (wpAny_standAt (wpAny_bind (wpAny_holding (thn (hs pins s2 σ H2 x y v ov iv u _ I2 r1 r2 r q2) fun _ s3 zz9=> ?_))))
 obtain⟨H3,I3,q3⟩:=zz9
 exact wpAny_release ⟨σ,H3,I3,q3⟩
noncomputable def tAsg(te:TE)(g:TG):TS:=fun D σ H=>te σ H fun x H1=>g x σ H1 D.nx
theorem ps_asg{tg e:Expr}{te:TE}{g:TG}(he:PE X e te)(hg:PG X tg g)(hs:swapsWithSole [tg] e pos.line X.env=pure false:=by rfl)(hw:swappedStores [tg] e X.env=pure none:=by rfl)
   (h1:(assignEach [tg] X.env).map (·.2)=[assign tg X.env]:=by rfl):PS X (.Assign [tg] e pos) (tAsg te g):=by
 intro pins s σ H D I h
 refine wpAny_Assign_stores (thn (he pins s σ H _ I h) fun v s1 ⟨x,H1,I1,r1,q1⟩=> ?_) hs hw
 rw[h1]
 exact thn (hg pins s1 σ H1 x v _ I1 r1 q1) fun _ s2 q=>q
theorem ps_set{i:Nat}{x:Str}{e:Expr}{te:TE}{pos':Pos}(hN:X.N.Nodup)(hi:X.N[i]? =some x)(hx:Loc X.env.scope x)(he:PE X e te)(hs:swapsWith e (some (.Name x pos')) pos.line X.env=pure false:=by rfl)(hf:X.fn x=true\/X.env.scope.names.lookup x=some .local:=by first |exact .inl rfl |exact .inr rfl |assumption):
   PS X (.Assign [.Name x pos'] e pos) (tAsg te (gName i)):=by
 intro pins s σ H D I h
 refine wpAny_Assign_Name (thn (he pins s σ H _ I h) fun v s1 ⟨y,H1,I1,r1,q1⟩=> ?_) hs
 exact b1v I1 hN hi hx r1 (fun s2 I2=>⟨_,H1,I2,q1⟩) hf
end
section
variable {X:Cx}{pos:Pos}
noncomputable def tWhile(c:TT)(tb:TS):TS:=fun D σ H=> ∃W:Nat->St->Hp->Prop,(∃m,W m σ H)/\ ∀m σ H,W m σ H->
 c σ H fun b H1=>if b=true then ∃N:St->Hp->Prop,(∀σ' H',N σ' H'-> ∃m',m'<m/\W m' σ' H')/\tb {D with nx:=N,ct:=N,bk:=D.nx} σ H1 else D.nx σ H1
theorem b7i{c:Expr}{body:List Stmt}{tc:TT}{tb:TS}(hp:PassesOwn (model X.prog X.w) X.A X.env X.xe)(hc:PT X c tc)(hb:PSs X body tb):PS X (.While c body [] pos) (tWhile tc tb):=by
 intro pins s σ H D I h
 obtain⟨W,⟨m0,w0⟩,turn⟩:=h
 refine wpAny_While (codeAny_whileLoop (fun n s'=> ∃σ' H',Inv X pins σ' H' s'/\W n σ' H') ?_ m0 ⟨σ,H,I,w0⟩)
 rintro n s1 ⟨σ1,H1,I1,w1⟩
 refine wpAny_passesOwn hp (thn (hc pins s1 σ1 H1 _ I1 (turn n σ1 H1 w1)) fun b s2 zz9=> ?_)
 obtain⟨H2,I2,q2⟩:=zz9
 cases b with
 |true=>
   obtain⟨N,hN,q2⟩:=q2
   rw[if_pos rfl]
   refine wpAny_passesOwn hp (thn (hb pins s2 σ1 H2 _ I2 q2) fun f s3 q3=> ?_)
   cases f with
   |next=>
     obtain⟨σ3,H3,I3,n3⟩:=q3
     obtain⟨m',hm,w3⟩:=hN σ3 H3 n3
     exact⟨m',hm,σ3,H3,I3,w3⟩
   |cont=>
     obtain⟨σ3,H3,I3,n3⟩:=q3
     obtain⟨m',hm,w3⟩:=hN σ3 H3 n3
     exact⟨m',hm,σ3,H3,I3,w3⟩
   |brk=>exact q3
   |ret v=>exact q3
 |false=>
   rw[if_neg Bool.false_ne_true]
   exact wpAny_execs_nil ⟨σ1,H2,I2,q2⟩
end
structure It where
 go:Nat->Hp->Prop
 yld:Nat->Hp->V->Hp->Prop
 stop:Nat->Hp->Prop
def FpOk(X:Cx)(pins:List (Addr×Obj))(H:Hp)(b:Addr):Prop:=
 H b=none/\b≠X.env.locals/\b∉X.fs/\(b∈X.ex\/X.s₀.heap.objs.size<=b)/\(∀x c,X.env.cells.lookup x=some c->c≠b)/\ ∀p∈X.pn++pins,p.1≠b
theorem Inv.fpOk{X:Cx}{pins:List (Addr×Obj)}{σ:St}{H H':Hp}{s:Shared}{b:Addr}(I:Inv X pins σ H s)(hb:s.heap.objs.size<=b)(hn:H' b=none):FpOk X pins H' b:=by
 refine⟨hn,Nat.ne_of_gt (Nat.lt_of_lt_of_le I.lt hb),I.nofs hb,.inr (Nat.le_trans I.sz hb),fun x c e z=> ?_,fun p hp z=> ?_⟩
 . obtain⟨v,q⟩:=I.cell x c e
   exact absurd (Nat.lt_of_lt_of_le q.lt (by rw[z];exact hb)) (Nat.lt_irrefl _)
 . exact absurd (Nat.lt_of_lt_of_le (Heap.lt_size (I.pin p hp).1) (by rw[z];exact hb)) (Nat.lt_irrefl _)
structure Turn(P:Program)(w:World)(K:PySem.W.Frag)(tg:Expr)(J:It)(fp:List Addr)(it:Addr)(tn:Nat->Heap->Prop):Prop where
 mem:it∈fp
 obj: ∀i h,tn i h-> ∀b∈fp,∃o,h.get? b=some o/\ ∀v,o.data≠ .cell v
 keep: ∀i h h',tn i h->(∀b∈fp,∀o,h.get? b=some o->h'.get? b=some o)->tn i h'
 item: ∀(X:Cx),X.prog=P->X.w=w->X.K=K->X.calm=true-> ∀(i:Nat) (pins:List (Addr×Obj)) (s:Shared) (σ:St) (H:Hp) (E:Value->Shared->Prop),Inv X pins σ H s->(∀b∈fp,FpOk X pins H b)->tn i s.heap->J.go i H->
   wpAny (model P w) X.A (pyNext (.ref it)) (fun r s1=> ∃u,r=some u/\
     wpAny (model P w) X.A (letOwnedTupleGo tg (.ref it) u) (fun _ s2=> ∃x H',Inv X pins σ H' s2/\RelV x u/\J.yld i H x H'/\tn (i+1) s2.heap/\ ∀b∈fp,H' b=none) E s1) E s
 done: ∀(X:Cx),X.prog=P->X.w=w->X.K=K->X.calm=true-> ∀(i:Nat) (pins:List (Addr×Obj)) (s:Shared) (σ:St) (H:Hp) (E:Value->Shared->Prop),Inv X pins σ H s->(∀b∈fp,FpOk X pins H b)->tn i s.heap->J.stop i H->
   wpAny (model P w) X.A (pyNext (.ref it)) (fun r s1=>r=none/\Inv X pins σ H s1) E s
 self: ∀(A:Around) (i:Nat) (s:Shared) (Q:Value->Shared->Prop) (E:Value->Shared->Prop),tn i s.heap->Q (.ref it) s->wpAny (model P w) A (pyIter (.ref it)) Q E s
noncomputable abbrev TI:=St->Hp->(It->Hp->Prop)->Prop
def PIE(X:Cx)(pins:List (Addr×Obj))(σ:St)(tg:Expr)(R:It->Hp->Prop)(itv:Value)(s2:Shared):Prop:=
 ∃(it:Addr) (fp:List Addr) (tn:Nat->Heap->Prop) (J:It) (H':Hp),itv= .ref it/\Inv X pins σ H' s2/\Turn X.prog X.w X.K tg J fp it tn/\tn 0 s2.heap/\(∀b∈fp,FpOk X pins H' b)/\R J H'
def PI(X:Cx)(tg iter:Expr)(wi:TI):Prop:=
 ∀(pins:List (Addr×Obj)) (s:Shared) (σ:St) (H:Hp) (R:It->Hp->Prop),Inv X pins σ H s->wi σ H R->
   wpAny (model X.prog X.w) X.A (eval iter X.env) (fun v s1=>wpAny (model X.prog X.w) X.A (pyIter v) (PIE X pins σ tg R) X.xe s1) X.xe s
theorem b8b{M:Model}{A:Around}{E:Value->Shared->Prop}{s:Shared}{tg:Expr}{it:Addr}{u:Value}{o:Obj}{n:String}{vs:Array Value}{Q:Unit->Shared->Prop}(ho:s.heap.get? it=some o)(hc:o.cls= .type n)(hd:o.data= .fields vs)
   (hn:["enumerate","zip","dict_itemiterator","dict_reverseitemiterator","odict_iterator","itertools.zip_longest","itertools.pairwise"].contains n=false) (hQ:Q () s):wpAny M A (letOwnedTupleGo tg (.ref it) u) Q E s:=by
 unfold letOwnedTupleGo
 cases tg<;>first
   |exact wpAny_pure hQ
   | (cases u<;>first
       |exact wpAny_pure hQ
       | (refine wpAny_bind (wpAny_load ho ?_)
          rw[hc,hd]
          show wpAny M A (if(["enumerate","zip","dict_itemiterator","dict_reverseitemiterator","odict_iterator","itertools.zip_longest","itertools.pairwise"].contains n&&vs[0]? ==some (rawInt _))=true then _ else _) Q E s
          rw[if_neg (by intro h;rw[hn,Bool.false_and]at h;cases h)]
          exact wpAny_pure hQ))
noncomputable def Itl(K:PySem.W.Frag)(a:Addr):It:=
 ⟨fun i H=> ∃xs x,SqL K H a xs/\xs[i]? =some x,fun i H x H'=>H'=H/\ ∀xs,SqL K H a xs->xs[i]? =some x,fun i H=> ∃xs,SqL K H a xs/\xs.length<=i⟩
noncomputable def Itr(lo:Int)(n:Nat):It:=⟨fun i _=>i<n,fun i H x H'=>H'=H/\x= .int (lo+i),fun i _=>n<=i⟩
theorem b30{P:Program}{w:World}{K:PySem.W.Frag}{tg:Expr}(a it:Addr):Turn P w K tg (Itl K a) [it] it (fun i h=>h.IsListIter it a i) where
 mem:=by simp
 obj:=fun i h st b hb=>by
   have e:b=it:=by simpa using hb
   subst e
   obtain⟨o,e,c,d⟩:=st
   exact⟨o,e,fun v z=>by rw[d]at z;cases z⟩
 keep:=fun i h h' st k=>st.at fun o e=>k it (by simp) o e
 item:=by
   intro X hP hw hK hc i pins s σ H E I hf st hg
   subst hP hw hK
   obtain⟨xs,x,hq,hx⟩:=hg
   obtain⟨its,rv,p,hz⟩:=I.list hq
   obtain⟨u,hu,ru⟩:=rv.get hx
   obtain⟨f0,f1,f2,f3,f4,f5⟩:=hf it (by simp)
   refine wpAny_pyNext_list_item st p.isList (x:=u) (by simpa using hu) fun h' st' sb=> ?_
   have I1:Inv X pins σ H {s with heap:=h'}:=I.turned (t':=s.toks) (fun b o hb e=>(sb.2 b hb).trans e) f0 f1 f3 f4 f5
   obtain⟨o,e,c,d⟩:=id st'
   exact⟨u,rfl,b8b (s:={s with heap:=h'}) e c d (by decide) ⟨x,H,I1,ru,⟨rfl,fun ys hy=>by rw[I.list_inj hy hq];exact hx⟩,st',fun b hb=>(hf b hb).1⟩⟩
 done:=by
   intro X hP hw hK hc i pins s σ H E I hf st hg
   subst hP hw hK
   obtain⟨xs,hq,hx⟩:=hg
   obtain⟨its,rv,p,hz⟩:=I.list hq
   obtain⟨f0,f1,f2,f3,f4,f5⟩:=hf it (by simp)
   have hl:=rv.length
   exact wpAny_pyNext_list_end (I.ok.hd hc) st p.isList (by simp;omega) fun h' eb=>⟨rfl,I.turned (t':=s.toks) (fun b o hb e=>eb b o hb e) f0 f1 f3 f4 f5⟩
 self:=fun _ _ _ _ _ st h=>wpAny_pyIter_listiter st h
theorem b27{P:Program}{w:World}{K:PySem.W.Frag}{tg:Expr}(it:Addr)(lo:Int)(n:Nat):Turn P w K tg (Itr lo n) [it] it (fun i h=>IsRangeIter h it (lo+(i:Nat) *1) ((n:Int)- (i:Nat)) 1) where
 mem:=by simp
 obj:=fun i h st b hb=>by
   have e:b=it:=by simpa using hb
   subst e
   exact⟨_,st,fun v z=>by
     have z':Data.fields _=Data.cell v:=z
     cases z'⟩
 keep:=fun i h h' st k=>k it (by simp) _ st
 item:=by
   intro X hP hw hK hc i pins s σ H E I hf st hg
   subst hP hw hK
   obtain⟨f0,f1,f2,f3,f4,f5⟩:=hf it (by simp)
   have W:=Walks.range (prog:=X.prog) (w:=X.w) (I.ok.hd hc) it lo 1 n
   refine W.item i s _ _ hg st fun v h' tk hv st' kk=> ?_
   obtain⟨t,rfl⟩:=hv
   have I1:Inv X pins σ H {s with heap:=h',toks:=tk}:=I.turned (fun b o hb e=>kk b o (by simpa using hb) e) f0 f1 f3 f4 f5
   refine⟨_,rfl,b8b (s:={s with heap:=h',toks:=tk}) (n:="range_iterator") st' rfl rfl (by decide) ⟨.int (lo+i),H,I1,⟨t,?_⟩,⟨rfl,rfl⟩,st',fun b hb=>(hf b hb).1⟩⟩
   rw[Int.mul_one]
 done:=by
   intro X hP hw hK hc i pins s σ H E I hf st hg
   subst hP hw hK
   obtain⟨f0,f1,f2,f3,f4,f5⟩:=hf it (by simp)
   exact wpAny_pyNext_range_end (I.ok.hd hc) st (by have:n<=i:=hg;omega) fun h' eb=>⟨rfl,I.turned (t':=s.toks) (fun b o hb e=>eb b o hb e) f0 f1 f3 f4 f5⟩
 self:=fun _ _ _ _ _ st h=>wpAny_pyIter_rangeiter st h
section
variable {X:Cx}{tg:Expr}
def iList(K:PySem.W.Frag)(tl:TE):TI:=fun σ H R=>tl σ H fun x H1=> ∃a,x= .ref a/\(∃xs,SqL K H1 a xs)/\R (Itl K a) H1
theorem pi_list{l:Expr}{tl:TE}(hl:PE X l tl):PI X tg l (iList X.K tl):=by
 intro pins s σ H R I h
 refine thn (hl pins s σ H _ I h) fun v s1 zz9=> ?_
 obtain⟨x,H1,I1,r1,q1⟩:=zz9
 obtain⟨a,e,⟨xs,hq⟩,q⟩:=q1
 subst e
 cases r1
 obtain⟨its,rv,p,hz⟩:=I1.list hq
 refine wpAny_pyIter_list p.isList ?_
 refine⟨s1.heap.objs.size,[s1.heap.objs.size],_,_,H1,rfl,I1.kept (t':=s1.toks) fun b o e=>Heap.get?_push_of_some _ e,b30 a _,⟨_,Heap.get?_push_size _ rfl,rfl,rfl⟩,fun b hb=> ?_,q⟩
 have e:b=s1.heap.objs.size:=by simpa using hb
 subst e
 exact I1.fpOk (Nat.le_refl _) (I1.hok.fresh (Nat.le_refl _))
theorem b18{pins:List (Addr×Obj)}{σ:St}{H:Hp}{s:Shared}{R:It->Hp->Prop}{E:Value->Shared->Prop}{lo hi:Int}{t u v:Tok}{tk:Nat}(I:Inv X pins σ H s)(h1: -(2^62)<=lo)(h2:lo<2^62)(h3: -(2^62)<=hi)(h4:hi<2^62)
   (q:R (Itr lo (hi- lo).toNat) H):wpAny (model X.prog X.w) X.A (pyIter (.ref s.heap.objs.size)) (PIE X pins σ tg R) E {s with heap:=s.heap.push {cls:= .type "range",data:= .fields #[.int lo t,.int hi u,.int 1 v]},toks:=tk}:=by
 refine wpAny_pyIter_range (IsRange.new ..) (small_one h1 h2 h3 h4) ?_
 have I1:Inv X pins σ H {s with heap:=s.heap.push {cls:= .type "range",data:= .fields #[.int lo t,.int hi u,.int 1 v]},toks:=tk}:=I.kept fun b o e=>Heap.get?_push_of_some _ e
 refine⟨(s.heap.push {cls:= .type "range",data:= .fields #[.int lo t,.int hi u,.int 1 v]}).objs.size,[(s.heap.push {cls:= .type "range",data:= .fields #[.int lo t,.int hi u,.int 1 v]}).objs.size],_,_,H,rfl,
   I1.kept (t':=tk) fun b o e=>Heap.get?_push_of_some _ e,b27 _ lo (hi- lo).toNat,?_,fun b hb=> ?_,q⟩
 . have e1:lo+((0:Nat):Int) *1=lo:=by simp
   have e2:(((hi- lo).toNat:Nat):Int)- ((0:Nat):Int)=Builtin.Range.rangeSize lo hi 1:=by rw[rangeSize_one];split<;>omega
   show IsRangeIter _ _ (lo+((0:Nat):Int) *1) ((((hi- lo).toNat:Nat):Int)- ((0:Nat):Int)) 1
   rw[e1,e2]
   exact Heap.get?_push_size _ rfl
 . have e:b=(s.heap.push {cls:= .type "range",data:= .fields #[.int lo t,.int hi u,.int 1 v]}).objs.size:=by simpa using hb
   subst e
   exact I1.fpOk (Nat.le_refl _) (I1.hok.fresh (Nat.le_refl _))
def iRng1(ta:TA):TI:=fun σ H R=>ta σ H fun vs H1=> ∃j:Int,vs=[.int j]/\ -(2^62)<=j/\j<2^62/\R (Itr 0 j.toNat) H1
def iRng2(ta:TA):TI:=fun σ H R=>ta σ H fun vs H1=> ∃i j:Int,vs=[.int i,.int j]/\(-(2^62)<=i/\i<2^62/\ -(2^62)<=j/\j<2^62)/\R (Itr i (j- i).toNat) H1
theorem b4w{a:Expr}{ta:TA}{p pos:Pos}(hg:Gl X "range")(hm:X.mg "range"=none)(ha:PA X [a] ta)(hs:starEach [a] X.env=[(false,eval a X.env)]:=by rfl):PI X tg (.Call (.Name "range" p) [a] [] pos) (iRng1 ta):=by
 intro pins s σ H R I h
 refine Call_ (a90 I hg hm boot_range (PyProof.Rows.callWith_type1 (thn (ha pos pins s σ H _ I h) fun us s1 ⟨vs,H1,I1,r1,q1⟩=> ?_) hs rfl))
 obtain⟨j,e,q1,q2,q⟩:=q1
 subst e
 cases r1 with
 |cons r rr=>
   cases rr
   obtain⟨t,rfl⟩:=r
   exact call_range_1 (b18 I1 (by omega) (by omega) q1 q2 (by simpa using q))
theorem b4v{a b:Expr}{ta:TA}{p pos:Pos}(hg:Gl X "range")(hm:X.mg "range"=none)(ha:PA X [a,b] ta)(hs:starEach [a,b] X.env=[(false,eval a X.env),(false,eval b X.env)]:=by rfl)(hs2:starEach [b] X.env=[(false,eval b X.env)]:=by rfl):
   PI X tg (.Call (.Name "range" p) [a,b] [] pos) (iRng2 ta):=by
 intro pins s σ H R I h
 refine Call_ (a90 I hg hm boot_range (PyProof.Rows.callWith_type1 (thn (ha pos pins s σ H _ I h) fun us s1 ⟨vs,H1,I1,r1,q1⟩=> ?_) (by rw[hs,hs2]) (by rw[hs2];rfl)))
 obtain⟨i,j,e,⟨q1,q2,q3,q4⟩,q⟩:=q1
 subst e
 cases r1 with
 |cons r rr=>
   cases rr with
   |cons r' rr=>
     cases rr
     obtain⟨t,rfl⟩:=r
     obtain⟨t',rfl⟩:=r'
     exact call_range_2 (b18 I1 q1 q2 q3 q4 q)
noncomputable def tFor(wi:TI)(g:TG)(tb:TS):TS:=fun D σ H=>wi σ H fun J H1=> ∃W:Nat->Nat->St->Hp->Prop,(∃m,W 0 m σ H1)/\ ∀i m σ H,W i m σ H->
 (J.stop i H/\D.nx σ H)\/(J.go i H/\ ∃N:St->Hp->Prop,(∀σ' H',N σ' H'-> ∃m',m'<m/\W (i+1) m' σ' H')/\ ∀x H',J.yld i H x H'->g x σ H' fun σ2 H2=>tb {D with nx:=N,ct:=N,bk:=D.nx} σ2 H2)
noncomputable def a9h(fp:List Addr)(h:Heap):List (Addr×Obj):=fp.filterMap fun b=>(h.get? b).map fun o=>(b,o)
theorem a3y{fp:List Addr}{h:Heap}{b:Addr}{o:Obj}(hb:b∈fp)(e:h.get? b=some o):(b,o)∈a9h fp h:=List.mem_filterMap.mpr ⟨b,hb,by rw[e];rfl⟩
theorem b49{fp:List Addr}{h:Heap}{p:Addr×Obj}(hp:p∈a9h fp h):p.1∈fp/\h.get? p.1=some p.2:=by
 obtain⟨b,hb,e⟩:=List.mem_filterMap.mp hp
 cases q:h.get? b with
 |none=>rw[q]at e;cases e
 |some o=>
   rw[q]at e
   have e':(b,o)=p:=Option.some.inj e
   subst e'
   exact⟨hb,q⟩
theorem Inv.pinned{pins:List (Addr×Obj)}{σ:St}{H:Hp}{s:Shared}{fp:List Addr}(I:Inv X pins σ H s)(hf: ∀b∈fp,FpOk X pins H b)(ho: ∀b∈fp,∃o,s.heap.get? b=some o/\ ∀v,o.data≠ .cell v):Inv X (pins++a9h fp s.heap) σ H s:=
 I.pins_of fun p hp=>(List.mem_append.mp hp).elim (fun z=>I.pin p (List.mem_append_right _ z)) fun z=>by
   obtain⟨hb,e⟩:=b49 z
   obtain⟨f0,f1,f2,_⟩:=hf p.1 hb
   obtain⟨o,e',d⟩:=ho p.1 hb
   rw[e]at e';cases e'
   exact⟨e,f0,f1,f2,d⟩
theorem Inv.unpinned{pins pl:List (Addr×Obj)}{σ:St}{H:Hp}{s:Shared}(I:Inv X (pins++pl) σ H s):Inv X pins σ H s:=I.pins_of fun p hp=>I.pin p (List.mem_append_right _ (List.mem_append_left _ hp))
theorem ps_for{iter:Expr}{body:List Stmt}{wi:TI}{g:TG}{tb:TS}{pos:Pos}(hp:PassesOwn (model X.prog X.w) X.A X.env X.xe)(hc:X.calm=true)(hi:PI X tg iter wi)(hg:PG X tg g)(hb:PSs X body tb)
   (hs: ∀x,foldedSetIterable iter X.env x=pure x:=by intro _;rfl):PS X (.For tg iter body [] pos) (tFor wi g tb):=by
 intro pins s σ H D I h
 refine wpAny_For (thn (hi pins s σ H _ I h) fun v s1 h1=>thn h1 fun itv s2 h2=> ?_) hs
 obtain⟨it,fp,tn,J,H2,e,I2,T,st2,f2,W,⟨m0,w0⟩,turn⟩:=h2
 subst e
 -- what stays true of the iterator's objects through the loop
 have stat: ∀{H':Hp},(∀b∈fp,H' b=none)-> ∀b∈fp,FpOk X pins H' b:=fun hn b hb=>⟨hn b hb,(f2 b hb).2⟩
 refine codeAny_forLoop_any (fun n s'=> ∃i σ' H',Inv X pins σ' H' s'/\tn i s'.heap/\(∀b∈fp,H' b=none)/\W i n σ' H') ?_ m0 ⟨0,σ,H2,I2,st2,fun b hb=>(f2 b hb).1,w0⟩
 rintro n s3 ⟨i,σ3,H3,I3,st3,fr3,w3⟩
 rcases turn i n σ3 H3 w3 with⟨stop,qn⟩ | ⟨go,N,hN,step⟩
 . refine wpAny_passesOwn hp (thn (T.done X rfl rfl rfl hc i pins s3 σ3 H3 X.xe I3 (stat fr3) st3 stop) fun r s4 zz9=> ?_)
   obtain⟨hr,I4⟩:=zz9
   subst hr
   exact wpAny_execs_nil ⟨σ3,H3,I4,qn⟩
 . refine wpAny_passesOwn hp (thn (T.item X rfl rfl rfl hc i pins s3 σ3 H3 X.xe I3 (stat fr3) st3 go) fun r s4 zz9=> ?_)
   obtain⟨u,hr,h4⟩:=zz9
   subst hr
   refine wpAny_passesOwn hp (thn h4 fun _ s5 zz9=> ?_)
   obtain⟨x,H5,I5,r5,y5,st5,fr5⟩:=zz9
   have I5':=I5.pinned (stat fr5) (T.obj _ _ st5)
   refine wpAny_passesOwn hp (thn (hg _ s5 σ3 H5 x u _ I5' r5 (step x H5 y5)) fun _ s6 zz9=> ?_)
   obtain⟨σ6,H6,I6,q6⟩:=zz9
   refine wpAny_passesOwn hp (thn (hb _ s6 σ6 H6 _ I6 q6) fun f s7 q7=> ?_)
   have again: ∀{σ7:St}{H7:Hp},Inv X (pins++a9h fp s5.heap) σ7 H7 s7->N σ7 H7-> ∃m,m<n/\ ∃i σ' H',Inv X pins σ' H' s7/\tn i s7.heap/\(∀b∈fp,H' b=none)/\W i m σ' H':=fun {σ7 H7} I7 n7=>by
     obtain⟨m',hm,w7⟩:=hN σ7 H7 n7
     refine⟨m',hm,i+1,σ7,H7,I7.unpinned,T.keep _ _ _ st5 fun b hb o e=>(I7.pin (b,o) (List.mem_append_right _ (List.mem_append_right _ (a3y hb e)))).1,fun b hb=> ?_,w7⟩
     obtain⟨o,e,d⟩:=T.obj _ _ st5 b hb
     exact(I7.pin (b,o) (List.mem_append_right _ (List.mem_append_right _ (a3y hb e)))).2.1
   cases f with
   |next=>obtain⟨σ7,H7,I7,n7⟩:=q7;exact again I7 n7
   |cont=>obtain⟨σ7,H7,I7,n7⟩:=q7;exact again I7 n7
   |brk=>obtain⟨σ7,H7,I7,q7⟩:=q7;exact⟨σ7,H7,I7.unpinned,q7⟩
   |ret v=>obtain⟨x7,σ7,H7,I7,r7,q7⟩:=q7;exact⟨x7,σ7,H7,I7.unpinned,r7,q7⟩
end
noncomputable abbrev R2:=V->V->Hp->VK->Prop
def OpR(X:Cx)(f:Value->Value->Sem Value)(r:R2):Prop:=
 ∀(pins:List (Addr×Obj)) (s:Shared) (σ:St) (H:Hp) (x y:V) (v u:Value) (Q:VK),Inv X pins σ H s->RelV x v->RelV y u->r x y H Q->
   wpAny (model X.prog X.w) X.A (f v u) (EP X pins σ Q) X.xe s
def UnR(X:Cx)(f:Value->Sem Value)(r:V->Hp->VK->Prop):Prop:=
 ∀(pins:List (Addr×Obj)) (s:Shared) (σ:St) (H:Hp) (x:V) (v:Value) (Q:VK),Inv X pins σ H s->RelV x v->r x H Q->
   wpAny (model X.prog X.w) X.A (f v) (EP X pins σ Q) X.xe s
def CallR(X:Cx)(f:Value)(r:List V->Hp->VK->Prop):Prop:=
 ∀(pins:List (Addr×Obj)) (s:Shared) (σ:St) (H:Hp) (xs:List V) (us:List Value) (Q:VK),Inv X pins σ H s->Vals xs us->r xs H Q->
   wpAny (model X.prog X.w) X.A (call f us) (EP X pins σ Q) X.xe s
def tOp(r:R2)(ta tb:TE):TE:=fun σ H Q=>ta σ H fun x H1=>tb σ H1 fun y H2=>r x y H2 Q
def tUn(r:V->Hp->VK->Prop)(ta:TE):TE:=fun σ H Q=>ta σ H fun x H1=>r x H1 Q
def rI(C:Int->Int->Prop)(g:Int->Int->V):R2:=fun x y H Q=> ∃i j,x= .int i/\y= .int j/\C i j/\Q (g i j) H
def rI0(g:Int->Int->V):R2:=fun x y H Q=> ∃i j,x= .int i/\y= .int j/\Q (g i j) H
def rU(g:Int->V):V->Hp->VK->Prop:=fun x H Q=> ∃i,x= .int i/\Q (g i) H
section
variable {X:Cx}{a b c:Expr}{ta tb tc:TE}{pos:Pos}
theorem binT(ha:PE X a ta)(hb:PE X b tb){pins:List (Addr×Obj)}{s:Shared}{σ:St}{H:Hp}{R:V->V->Hp->Prop}(I:Inv X pins σ H s)
   (h:ta σ H fun x H1=>tb σ H1 fun y H2=>R x y H2) {Q:Value->Shared->Prop}{f:Value->Value->Sem Value}
   (hf: ∀v u s2 x y H2,Inv X pins σ H2 s2->RelV x v->RelV y u->R x y H2->wpAny (model X.prog X.w) X.A (f v u) Q X.xe s2):
   wpAny (model X.prog X.w) X.A (eval a X.env) (fun v s₁=>wpAny (model X.prog X.w) X.A (eval b X.env) (fun u s₂=>wpAny (model X.prog X.w) X.A (f v u) Q X.xe s₂) X.xe s₁) X.xe s:=by
 refine thn (ha pins s σ H _ I h) fun v s1 zz9=> ?_
 obtain⟨x,H1,I1,r1,q1⟩:=zz9
 refine thn (hb pins s1 σ H1 _ I1 q1) fun u s2 zz9=> ?_
 obtain⟨y,H2,I2,r2,q2⟩:=zz9
 exact hf v u s2 x y H2 I2 r1 r2 q2
theorem pe_op{op:Operator}{r:R2}(ho:OpR X (binaryOp op) r)(ha:PE X a ta)(hb:PE X b tb):PE X (.BinOp a op b pos) (tOp r ta tb):=by
 intro pins s σ H Q I h
 exact wpAny_BinOp (binT ha hb I h fun v u s2 x y H2 I2 rx ry q=>ho pins s2 σ H2 x y v u Q I2 rx ry q)
theorem pe_un{op:UnaryOp}{r:V->Hp->VK->Prop}(ho:UnR X (unaryOp op) r)(ha:PE X a ta):PE X (.UnaryOp op a pos) (tUn r ta):=by
 intro pins s σ H Q I h
 exact UnaryOp_ (thn (ha pins s σ H _ I h) fun v s1 ⟨x,H1,I1,r1,q1⟩=>ho pins s1 σ H1 x v Q I1 r1 q1)
theorem opI{f:Value->Value->Sem Value}{C:Int->Int->Prop}{g:Int->Int->Int}
   (rule: ∀(i j:Int) (t u:Tok) (s:Shared) (Q:Value->Shared->Prop) (E:Value->Shared->Prop),C i j->Q (.int (g i j) s.toks) {s with toks:=s.toks+1}->wpAny (model X.prog X.w) X.A (f (.int i t) (.int j u)) Q E s):
   OpR X f (rI C fun i j=> .int (g i j)):=by
 intro pins s σ H x y v u Q I rx ry h
 obtain⟨i,j,rfl,rfl,hc,q⟩:=h
 obtain⟨t,rfl⟩:=rx
 obtain⟨t',rfl⟩:=ry
 exact rule i j t t' s _ _ hc ⟨.int (g i j),H,I.tok _,⟨_,rfl⟩,q⟩
theorem opI0{f:Value->Value->Sem Value}{g:Int->Int->Int}
   (rule: ∀(i j:Int) (t u:Tok) (s:Shared) (Q:Value->Shared->Prop) (E:Value->Shared->Prop),Q (.int (g i j) s.toks) {s with toks:=s.toks+1}->wpAny (model X.prog X.w) X.A (f (.int i t) (.int j u)) Q E s):
   OpR X f (rI0 fun i j=> .int (g i j)):=by
 intro pins s σ H x y v u Q I rx ry h
 obtain⟨i,j,rfl,rfl,q⟩:=h
 obtain⟨t,rfl⟩:=rx
 obtain⟨t',rfl⟩:=ry
 exact rule i j t t' s _ _ ⟨.int (g i j),H,I.tok _,⟨_,rfl⟩,q⟩
theorem opB0{f:Value->Value->Sem Value}{g:Int->Int->Bool}
   (rule: ∀(i j:Int) (t u:Tok) (s:Shared) (Q:Value->Shared->Prop) (E:Value->Shared->Prop),Q (.bool (g i j)) s->wpAny (model X.prog X.w) X.A (f (.int i t) (.int j u)) Q E s):
   OpR X f (rI0 fun i j=> .bl (g i j)):=by
 intro pins s σ H x y v u Q I rx ry h
 obtain⟨i,j,rfl,rfl,q⟩:=h
 obtain⟨t,rfl⟩:=rx
 obtain⟨t',rfl⟩:=ry
 exact rule i j t t' s _ _ ⟨.bl (g i j),H,I,rfl,q⟩
def CDiv(i j:Int):Prop:=0<j/\j<1073741824
def CPow(i j:Int):Prop:=0<=j/\j<=1000000/\i.natAbs<2^64
def CMul(i j:Int):Prop:=(-(2^64)<i/\i<2^64)\/(-(2^64)<j/\j<2^64)
theorem CMul.ok{i j:Int}(h:CMul i j):IntMulOk i j:=by
 rcases h with⟨h1,h2⟩ | ⟨h1,h2⟩
 . exact .of_left (intBits_le_64 h1 h2)
 . exact .of_right (intBits_le_64 h1 h2)
theorem op_add:OpR X (binaryOp .Add) (rI0 fun i j=> .int (i+j)):=opI0 fun _ _ _ _ _ _ _ q=>add_int q
theorem op_sub:OpR X (binaryOp .Sub) (rI0 fun i j=> .int (i- j)):=opI0 fun _ _ _ _ _ _ _ q=>sub_int q
theorem a2k:OpR X (binaryOp .FloorDiv) (rI CDiv fun i j=> .int (i/j)):=opI fun i j _ _ _ _ _ hc q=>by
 have h1:(0:Int)<j:=hc.1
 have h2:j<1073741824:=hc.2
 exact floordiv_int (by omega) (by rw[Int.fdiv_eq_ediv_of_nonneg i (by omega)];exact q) (.inl (PyProof.noPylong_small (by omega)))
theorem a04:OpR X (binaryOp .Mod) (rI (fun _ j=>0<j) fun i j=> .int (i % j)):=opI fun i j _ _ _ _ _ hc q=>by
 have h1:(0:Int)<j:=hc
 exact mod_int' (by omega) (by rw[Int.fmod_eq_emod_of_nonneg i (by omega)];exact q)
theorem op_pow:OpR X (binaryOp .Pow) (rI CPow fun i j=> .int (i^j.toNat)):=opI fun _ _ _ _ _ _ _ hc q=>pow_int_small hc.1 hc.2.1 hc.2.2 q
theorem unI{f:Value->Sem Value}{g:Int->Int}
   (rule: ∀(i:Int) (t:Tok) (s:Shared) (Q:Value->Shared->Prop) (E:Value->Shared->Prop),Q (.int (g i) s.toks) {s with toks:=s.toks+1}->wpAny (model X.prog X.w) X.A (f (.int i t)) Q E s):
   UnR X f (rU fun i=> .int (g i)):=by
 intro pins s σ H x v Q I rx h
 obtain⟨i,rfl,q⟩:=h
 obtain⟨t,rfl⟩:=rx
 exact rule i t s _ _ ⟨.int (g i),H,I.tok _,⟨_,rfl⟩,q⟩
theorem b1t:UnR X (unaryOp .USub) (rU fun i=> .int (-i)):=unI fun _ _ _ _ _ q=>neg_int q
end
noncomputable def scal:V->V->Bool
 | .non,.non=>true | .non,.int _=>true | .int _,.non=>true | .non,.bl _=>true | .bl _,.non=>true | .non,.str _=>true | .str _,.non=>true
 | .int _,.int _=>true | .bl _,.bl _=>true | .str _,.str _=>true | .byt _,.byt _=>true
 | .int _,.str _=>true | .str _,.int _=>true | .bl _,.str _=>true | .str _,.bl _=>true
 |_,_=>false
def rEq:R2:=fun x y H Q=>scal x y=true/\Q (.bl (decide (x=y))) H
def rNe:R2:=fun x y H Q=>scal x y=true/\Q (.bl (!decide (x=y))) H
theorem b6p{i j:Int}:decide (V.int i=V.int j)=(i==j):=by
 rw[Bool.eq_iff_iff]
 simp
theorem dec_bl{i j:Bool}:decide (V.bl i=V.bl j)=(i==j):=by
 rw[Bool.eq_iff_iff]
 simp
theorem b1n{i j:Str}:decide (V.str i=V.str j)=(i==j):=by
 rw[Bool.eq_iff_iff]
 simp
theorem b6q{i j:Array UInt8}:decide (V.byt i=V.byt j)=(i.toList==j.toList):=by
 rw[Bool.eq_iff_iff]
 cases i
 cases j
 simp
section
variable {X:Cx}{a b c:Expr}{ta tb tc:TE}{pos:Pos}
theorem a05{pins:List (Addr×Obj)}{σ:St}{H:Hp}{s:Shared}{Q:VK}{k k':Bool}(I:Inv X pins σ H s)(q:Q (.bl k) H)(e:k=k'):EP X pins σ Q (.bool k') s:=by
 subst e
 exact⟨.bl k,H,I,rfl,q⟩
theorem op_eq:OpR X (compareOp .Eq) rEq:=by
 intro pins s σ H x y v u Q I rx ry h
 obtain⟨hs,q⟩:=h
 cases x with
 |non=>
   cases rx
   cases y with
   |non=>cases ry;exact PySem.EqNone.eq_none_none (a05 I q (by simp))
   |bl j=>cases ry;exact PySem.EqNone.eq_none_bool (a05 I q (by simp))
   |int j=>obtain⟨t',rfl⟩:=ry;exact PySem.EqNone.eq_none_int (a05 I q (by simp))
   |str j=>obtain⟨t',rfl⟩:=ry;exact PySem.EqNone.eq_none_str (a05 I q (by simp))
   |_=>exact absurd (show false=true from hs) Bool.false_ne_true
 |bl i=>
   cases rx
   cases y with
   |non=>cases ry;exact PySem.EqNone.eq_bool_none (a05 I q (by simp))
   |bl j=>cases ry;exact eq_bool (a05 I q dec_bl)
   |str j=>obtain⟨t',rfl⟩:=ry;exact PySem.EqMixed.eq_bool_str (a05 I q (by simp))
   |_=>exact absurd (show false=true from hs) Bool.false_ne_true
 |int i=>
   obtain⟨t,rfl⟩:=rx
   cases y with
   |non=>cases ry;exact PySem.EqNone.eq_int_none (a05 I q (by simp))
   |int j=>obtain⟨t',rfl⟩:=ry;exact eq_int (a05 I q b6p)
   |str j=>obtain⟨t',rfl⟩:=ry;exact PySem.EqMixed.eq_int_str (a05 I q (by simp))
   |_=>exact absurd (show false=true from hs) Bool.false_ne_true
 |str i=>
   obtain⟨t,rfl⟩:=rx
   cases y with
   |non=>cases ry;exact PySem.EqNone.eq_str_none (a05 I q (by simp))
   |bl j=>cases ry;exact PySem.EqMixed.eq_str_bool (a05 I q (by simp))
   |int j=>obtain⟨t',rfl⟩:=ry;exact PySem.EqMixed.eq_str_int (a05 I q (by simp))
   |str j=>obtain⟨t',rfl⟩:=ry;exact eq_str (a05 I q b1n)
   |_=>exact absurd (show false=true from hs) Bool.false_ne_true
 |byt i=>
   obtain⟨t,rfl⟩:=rx
   cases y with
   |byt j=>obtain⟨t',rfl⟩:=ry;exact PySem.W.eq_bytes (a05 I q b6q)
   |_=>exact absurd (show false=true from hs) Bool.false_ne_true
 |_=>cases y<;>exact absurd (show false=true from hs) Bool.false_ne_true
theorem op_ne:OpR X (compareOp .NotEq) rNe:=by
 intro pins s σ H x y v u Q I rx ry h
 obtain⟨hs,q⟩:=h
 cases x with
 |non=>
   cases rx
   cases y with
   |non=>cases ry;exact PySem.EqNone.ne_none_none (a05 I q (by simp))
   |bl j=>cases ry;exact PySem.EqNone.ne_none_bool (a05 I q (by simp))
   |int j=>obtain⟨t',rfl⟩:=ry;exact PySem.EqNone.ne_none_int (a05 I q (by simp))
   |str j=>obtain⟨t',rfl⟩:=ry;exact PySem.EqNone.ne_none_str (a05 I q (by simp))
   |_=>exact absurd (show false=true from hs) Bool.false_ne_true
 |bl i=>
   cases rx
   cases y with
   |non=>cases ry;exact PySem.EqNone.ne_bool_none (a05 I q (by simp))
   |bl j=>cases ry;exact ne_bool (a05 I q (congrArg not dec_bl))
   |str j=>obtain⟨t',rfl⟩:=ry;exact PySem.EqMixed.ne_bool_str (a05 I q (by simp))
   |_=>exact absurd (show false=true from hs) Bool.false_ne_true
 |int i=>
   obtain⟨t,rfl⟩:=rx
   cases y with
   |non=>cases ry;exact PySem.EqNone.ne_int_none (a05 I q (by simp))
   |int j=>obtain⟨t',rfl⟩:=ry;exact ne_int (a05 I q (congrArg not b6p))
   |str j=>obtain⟨t',rfl⟩:=ry;exact PySem.EqMixed.ne_int_str (a05 I q (by simp))
   |_=>exact absurd (show false=true from hs) Bool.false_ne_true
 |str i=>
   obtain⟨t,rfl⟩:=rx
   cases y with
   |non=>cases ry;exact PySem.EqNone.ne_str_none (a05 I q (by simp))
   |bl j=>cases ry;exact PySem.EqMixed.ne_str_bool (a05 I q (by simp))
   |int j=>obtain⟨t',rfl⟩:=ry;exact PySem.EqMixed.ne_str_int (a05 I q (by simp))
   |str j=>obtain⟨t',rfl⟩:=ry;exact ne_str (a05 I q (congrArg not b1n))
   |_=>exact absurd (show false=true from hs) Bool.false_ne_true
 |byt i=>
   obtain⟨t,rfl⟩:=rx
   cases y with
   |byt j=>obtain⟨t',rfl⟩:=ry;exact PySem.W.ne_bytes (a05 I q (congrArg not b6q))
   |_=>exact absurd (show false=true from hs) Bool.false_ne_true
 |_=>cases y<;>exact absurd (show false=true from hs) Bool.false_ne_true
theorem a7f:OpR X (compareOp .Lt) (rI0 fun i j=> .bl (decide (i<j))):=opB0 fun _ _ _ _ _ _ _ q=>lt_int q
theorem b3h:OpR X (compareOp .Gt) (rI0 fun i j=> .bl (decide (j<i))):=opB0 fun _ _ _ _ _ _ _ q=>gt_int q
theorem op_ge:OpR X (compareOp .GtE) (rI0 fun i j=> .bl (decide (j<=i))):=opB0 fun _ _ _ _ _ _ _ q=>ge_int q
theorem b44:OpR X (compareOp .In) (fun x y H Q=> ∃i j,x= .str i/\y= .str j/\Q (.bl (!(Builtin.Str.occurrences j i 0 j.length 1).isEmpty)) H):=by
 intro pins s σ H x y v u Q I rx ry h
 obtain⟨i,j,rfl,rfl,q⟩:=h
 obtain⟨t,rfl⟩:=rx
 obtain⟨t',rfl⟩:=ry
 exact in_str (a05 I q rfl)
theorem a13:OpR X (compareOp .Is) (fun x y H Q=>y= .non/\Q (.bl (decide (x= .non))) H):=by
 intro pins s σ H x y v u Q I rx ry h
 obtain⟨rfl,q⟩:=h
 cases ry
 refine is_none_gen (a05 I q ?_)
 cases x<;>first
   | (cases rx;rfl)
   | (obtain⟨t,rfl⟩:=rx;rfl)
theorem a3c:OpR X (compareOp .IsNot) (fun x y H Q=>y= .non/\Q (.bl (!decide (x= .non))) H):=by
 intro pins s σ H x y v u Q I rx ry h
 obtain⟨rfl,q⟩:=h
 cases ry
 refine isnot_none_gen (a05 I q ?_)
 cases x<;>first
   | (cases rx;rfl)
   | (obtain⟨t,rfl⟩:=rx;rfl)
theorem a9k:OpR X (compareOp .NotIn) (fun x y H Q=> ∃i j,x= .str i/\y= .str j/\Q (.bl (!(!(Builtin.Str.occurrences j i 0 j.length 1).isEmpty))) H):=by
 intro pins s σ H x y v u Q I rx ry h
 obtain⟨i,j,rfl,rfl,q⟩:=h
 obtain⟨t,rfl⟩:=rx
 obtain⟨t',rfl⟩:=ry
 exact notIn_str (a05 I q rfl)
theorem OpR.or{f:Value->Value->Sem Value}{r r':R2}(h:OpR X f r)(h':OpR X f r'):OpR X f (fun x y H Q=>r x y H Q\/r' x y H Q):=by
 intro pins s σ H x y v u Q I rx ry q
 rcases q with q |q
 . exact h pins s σ H x y v u Q I rx ry q
 . exact h' pins s σ H x y v u Q I rx ry q
theorem a0k(b:Expr){op:CmpOp}(h:op≠ .In:=by decide)(h2:op≠ .NotIn:=by decide):behindInMarks op b=false:=by
 have e1:(op==CmpOp.In)=false:=by cases op<;>first |rfl |exact absurd rfl h
 have e2:(op==CmpOp.NotIn)=false:=by cases op<;>first |rfl |exact absurd rfl h2
 cases b<;>simp[behindInMarks,e1,e2]
theorem pe_cmpR{op:CmpOp}{r:R2}(ho:OpR X (compareOp op) r)(ha:PE X a ta)(hb:PE X b tb)(hm:behindInMarks op b=false):PE X (.Compare a [op] [b] pos) (tOp r ta tb):=by
 intro pins s σ H Q I h
 exact wpAny_Compare1 (binT ha hb I h fun v u s2 x y H2 I2 rx ry q=>ho pins s2 σ H2 x y v u Q I2 rx ry q) hm
noncomputable def tTest(t:TE):TT:=fun σ H Q=>t σ H fun x H'=> ∃k,x= .bl k/\Q k H'
theorem pt_cmpR{op:CmpOp}{r:R2}(ho:OpR X (compareOp op) r)(ha:PE X a ta)(hb:PE X b tb)(hm:behindInMarks op b=false):PT X (.Compare a [op] [b] pos) (tTest (tOp r ta tb)):=by
 intro pins s σ H Q I h
 refine wpAny_isTrue_Compare1 (thn (ha pins s σ H _ I h) fun v s1 ⟨x,H1,I1,r1,q1⟩=>thn (hb pins s1 σ H1 _ I1 q1) fun u s2 ⟨y,H2,I2,r2,q2⟩=>
   thn (ho pins s2 σ H2 x y v u _ I2 r1 r2 q2) fun c s3 ⟨z,H3,I3,r3,k,e,q3⟩=> ?_) hm
 subst e
 cases r3
 exact wpAny_truthy_bool ⟨H3,I3,q3⟩
theorem a9y:(sizeLine:Nat)<2^63:=by rw[sizeLine_eq];decide
theorem b3i:OpR X (binaryOp .Add) (fun x y H Q=> ∃i j,x= .str i/\y= .str j/\i.length+j.length<=sizeLine/\Q (.str (i++j)) H):=by
 intro pins s σ H x y v u Q I rx ry h
 obtain⟨i,j,rfl,rfl,hz,q⟩:=h
 obtain⟨t,rfl⟩:=rx
 obtain⟨t',rfl⟩:=ry
 exact add_str (fun t' tk=>⟨.str (i++j),H,I.tok _,⟨_,rfl⟩,q⟩) hz
theorem b3y{x:V}{us:List Value}(r:Vals [x] us): ∃u,us=[u]/\RelV x u:=by
 cases r with
 |cons r1 r2=>cases r2;exact⟨_,rfl,r1⟩
theorem vals2{x y:V}{us:List Value}(r:Vals [x,y] us): ∃u w',us=[u,w']/\RelV x u/\RelV y w':=by
 cases r with
 |cons r1 r2=>
   cases r2 with
   |cons r3 r4=>cases r4;exact⟨_,_,rfl,r1,r3⟩
theorem b23:CallR X (.builtin "abs") (fun xs H Q=> ∃i,xs=[.int i]/\Q (.int (if i<0 then -i else i)) H):=by
 intro pins s σ H xs us Q I r h
 obtain⟨i,rfl,q⟩:=h
 obtain⟨u,rfl,t,rfl⟩:=b3y r
 exact call_abs_int fun u tk=>⟨.int (if i<0 then -i else i),H,I.tok _,⟨_,rfl⟩,q⟩
theorem b6w(hc:X.calm=true):CallR X (.builtin "max") (fun xs H Q=> ∃i j,xs=[.int i,.int j]/\Q (.int (if j>i then j else i)) H):=by
 intro pins s σ H xs us Q I r h
 obtain⟨i,j,rfl,q⟩:=h
 obtain⟨u,w',rfl,⟨t,rfl⟩,⟨t',rfl⟩⟩:=vals2 r
 refine max_two_ints (I.ok.hd hc) fun h' tk k=>⟨_,H,I.kept k,?_,q⟩
 by_cases hj:j>i
 . rw[if_pos hj,if_pos hj];exact⟨_,rfl⟩
 . rw[if_neg hj,if_neg hj];exact⟨_,rfl⟩
def LenV(K:PySem.W.Frag)(x:V)(H:Hp)(n:Nat):Prop:=
 match x with
 | .str y=>y.length<=sizeLine/\n=y.length
 | .byt y=>y.size<=sizeLine/\n=y.size
 | .ref p=>(∃xs,SqL K H p xs/\n=xs.length)\/ ∃xs,SqT K H p xs/\n=xs.length
 |_=>False
theorem call_len:CallR X (.builtin "len") (fun xs H Q=> ∃x n,xs=[x]/\LenV X.K x H n/\Q (.int n) H):=by
 intro pins s σ H xs us Q I r h
 obtain⟨x,n,rfl,e,q⟩:=h
 obtain⟨u,rfl,rx⟩:=b3y r
 have hl:=a9y
 have hs:sizeLine=16777216:=sizeLine_eq
 cases x with
 |str y=>
   obtain⟨t,rfl⟩:=rx
   obtain⟨hy,e'⟩:y.length<=sizeLine/\n=y.length:=e
   subst e'
   exact len_str (by omega) ⟨.int _,H,I.tok _,⟨_,rfl⟩,q⟩
 |byt y=>
   obtain⟨t,rfl⟩:=rx
   obtain⟨hy,e'⟩:y.size<=sizeLine/\n=y.size:=e
   subst e'
   exact PySem.W.len_bytes (by omega) ⟨.int _,H,I.tok _,⟨_,rfl⟩,q⟩
 |ref p=>
   cases rx
   have e':(∃xs,SqL X.K H p xs/\n=xs.length)\/ ∃xs,SqT X.K H p xs/\n=xs.length:=e
   rcases e' with⟨xs,hx,e'⟩ | ⟨xs,hx,e'⟩
   . subst e'
     obtain⟨its,r',pl,hz⟩:=I.list hx
     have hlen:=r'.length
     exact Calls.call_len_list pl.isList (by simp only[List.size_toArray];omega) ⟨.int xs.length,H,I.tok _,⟨_,by simp only[List.size_toArray];rw[hlen]⟩,q⟩
   . subst e'
     obtain⟨its,r',pl,hz⟩:=I.tuple hx
     have hlen:=r'.length
     exact len_tuple pl (by simp only[List.size_toArray];omega) ⟨.int xs.length,H,I.tok _,⟨_,by simp only[List.size_toArray];rw[hlen]⟩,q⟩
 |_=>exact(show False from e).elim
end
structure ObjM(h:Heap)(x dx C:Addr)(mA:Str->Option Value):Prop where
 obj:h.get? x=some (PySem.W.instObj C dx)
 ns:h.Ns1 dx mA
 ne:dx≠x
theorem b5k{h:Heap}{dx:Addr}{mA:Str->Option Value}(n:h.Ns1 dx mA): ∃od,h.get? dx=some od/\ ∀name,PySem.W.lookIn name od=some (mA name):=by
 obtain⟨o,es,ep,ho,hd,hk,_,hm⟩:=n
 refine⟨o,ho,fun name=> ?_⟩
 have e:=hm name
 unfold nsFind findBy at e
 rw[<-Array.find?_toList]at e
 unfold PySem.W.lookIn
 rw[hd]
 dsimp only
 split
 . rename_i y q
   rw[q]at e
   exact congrArg some e
 . rename_i q
   rw[q]at e
   have a:es.toList.any (·.refKey)=false:=by
     rw[List.any_eq_false]
     intro y hy
     obtain⟨z,t,hkey⟩:=hk y (Array.mem_toList_iff.mp hy)
     simp[DictEntry.refKey,hkey]
   have a': ¬ es.toList.any (·.refKey)=true:=by rw[a];exact Bool.false_ne_true
   rw[if_neg a']
   exact congrArg some e
theorem ObjM.look{h:Heap}{x dx C:Addr}{mA:Str->Option Value}(I:ObjM h x dx C mA): ∃od,PySem.W.InstAt h x (PySem.W.instObj C dx) C (some od)/\ ∀name,PySem.W.lookIn name od=some (mA name):=
 let ⟨od,ho,hl⟩:=b5k I.ns
 ⟨od,⟨I.obj,rfl,rfl,ho⟩,hl⟩
section
variable {prog:Program}{w:World}{A:Around}{E:Value->Shared->Prop}{s:Shared}{K:PySem.W.Frag}{x dx C f:Addr}{mA:Str->Option Value}{name:Str}{v:Value}
theorem get_map{expr:Bool}{Q:Value->Shared->Prop}(X:K.In s.heap)(I:ObjM s.heap x dx C mA)(hg:PySem.W.plainGet K C name=true)(hh:PySem.W.hasDictIn K C=true)
   (ha:PySem.W.findIn K (.ref C) name=some none) (hv:mA name=some v) (hv':PySem.W.handedIn v=true) (h:Q v {s with toks:=s.toks+1}):
   wpAny (model prog w) A (getAttr (.ref x) name expr) Q E s:=by
 obtain⟨od,J,hl⟩:=I.look
 exact PySem.W.get_value X J (PySem.W.plainGet_of hg).1 (PySem.W.findObj_own hh ha rfl (by rw[hl,hv])) hv' h
theorem b8c{pl:Sem Bool}{Q:Value×List Value->Shared->Prop}(X:K.In s.heap)(I:ObjM s.heap x dx C mA)(hg:PySem.W.plainGet K C name=true)
   (hf:PySem.W.findIn K (.ref C) name=some (some (.ref f))) (ht:PySem.W.isFn K (.ref f)=true) (hv:mA name=none) (h:Q (.ref f,[.ref x]) s):
   wpAny (model prog w) A (getMethod (.ref x) name pl) Q E s:=by
 obtain⟨od,J,hl⟩:=I.look
 exact PySem.W.method_fn X J (PySem.W.plainGet_of hg).1 (PySem.W.plainGet_of hg).2 hf (beq_iff_eq.mp ht) (by show(PySem.W.lookIn name od).map (·.isSome)=some false;rw[hl,hv];rfl) h
theorem set_map{ns:List Str}{Q:Unit->Shared->Prop}(X:K.In s.heap)(I:ObjM s.heap x dx C mA)
   (hs:PySem.W.findIn K (.ref C) "__setattr__"=some (some (.builtin "object.__setattr__"))) (hp:PySem.W.plainOver K C=true) (ht:PySem.W.takerIn K C name=some none) (hh:PySem.W.hasDictIn K C=true)
   (hw:PySem.Within mA ns) (hsz:ns.length<=sizeLine)
   (h: ∀h',ObjM h' x dx C (fun y=>if y=name then some v else mA y)->Heap.SameBut dx s.heap h'->Q () {s with heap:=h',toks:=s.toks+2}):
   wpAny (model prog w) A (setAttr (.ref x) name v) Q E s:=by
 obtain⟨od,J,hl⟩:=I.look
 refine PySem.W.set_plain X J hs (PySem.W.osa_open (s:={s with toks:=s.toks+1}) (r:=none) X J hp ht fun b=> ?_)
 obtain⟨cd,hc,hd'⟩:=PySem.W.any_some hh
 have hx:s.heap.get? x=some ⟨.ref C,some dx,.plain,#[]⟩:=I.obj
 refine wpAny_bind (wpAny_pure (wpAny_bind (wpAny_bind (wpAny_loadPart hx (wpAny_bind (PySem.W.Looks.here (s:={s with toks:=s.toks+1}) (PySem.W.looks_clsIn X hc) ?_))))))
 rw[hd']
 refine wpAny_pure (a:=some dx) (wpAny_bind (wpAny_pure (wpAny_bind ?_)))
 refine wpAny_nsSet1 (s:={s with toks:=s.toks+1}) I.ns fun h' hn2 hs2=> ?_
 obtain⟨oD,esD,epD,hoD,hdD,hcD⟩:=hn2.count (PySem.Within.cons name v hw)
 refine wpAny_bind (wpAny_lookBehind hoD (by rw[hdD];exact pastItsLine_dict (Nat.le_trans hcD (by rw[List.length_cons];omega))) ?_)
 exact wpAny_pure (h _ ⟨(hs2.2 _ (Ne.symm I.ne)).trans I.obj,hn2,I.ne⟩ hs2)
theorem b71{R:Result->Shared->Prop}{vs:List Value}{kw:List (Str×Value)}(X:K.In s.heap)(hm:PySem.W.makesIn K C=true)
   (hi:PySem.W.findIn K (.ref C) "__init__"=some (some (.ref f))) (hf:PySem.W.typeIn K (.ref f)=some (.type "function"))
   (h:codeAny (model prog w) (A.under (.builtin "type.__call__" ⟨.ref C::vs,kw⟩)) (.call (.ref f) ⟨.ref (s.heap.objs.size+1)::vs,kw⟩) (PySem.W.InitBack (s.heap.objs.size+1) R)
     {s with heap:=(s.heap.push PySem.W.emptyDict).push (PySem.W.instObj C s.heap.objs.size)}):
   codeAny (model prog w) A (.call (.ref C) ⟨vs,kw⟩) R s:=by
 obtain⟨hh,g,d,t,os⟩:=s
 exact PySem.W.make_core (PySem.W.makes_of X hm) (PySem.W.looks_findIn X hi) (fun self=>PySem.W.bind_fn X self hf) (.inl rfl) h
end
noncomputable def putF(f:Str)(v:V):List (Str×V)->List (Str×V)
 | []=>[(f,v)]
 | (g,x)::r=>if g=f then(g,v)::r else(g,x)::putF f v r
theorem a6u(f g:Str)(v:V): ∀fs:List (Str×V),(putF f v fs).lookup g=if g=f then some v else fs.lookup g
 | []=>by
   show List.lookup g [(f,v)]=_
   by_cases h:g=f
   . have hb:(g==f)=true:=beq_iff_eq.mpr h
     simp only[List.lookup,hb,if_pos h]
   . have hb:(g==f)=false:=beq_eq_false_iff_ne.mpr h
     simp only[List.lookup,hb,if_neg h]
 | (k,x)::r=>by
   have ih:=a6u f g v r
   rw[show putF f v ((k,x)::r)=(if k=f then(k,v)::r else(k,x)::putF f v r)from rfl]
   by_cases hk:k=f
   . rw[if_pos hk]
     by_cases h:g=k
     . have hb:(g==k)=true:=beq_iff_eq.mpr h
       simp only[List.lookup,hb,if_pos (h.trans hk)]
     . have hb:(g==k)=false:=beq_eq_false_iff_ne.mpr h
       simp only[List.lookup,hb,if_neg (fun e:g=f=>h (e.trans hk.symm))]
   . rw[if_neg hk]
     by_cases h:g=k
     . have hb:(g==k)=true:=beq_iff_eq.mpr h
       simp only[List.lookup,hb,if_neg (fun e:g=f=>hk (h.symm.trans e))]
     . have hb:(g==k)=false:=beq_eq_false_iff_ne.mpr h
       simp only[List.lookup,hb]
       exact ih
theorem a6x(f:Str)(v:V): ∀fs:List (Str×V),f∈(putF f v fs).map (·.1)/\ ∀g,g∈fs.map (·.1)->g∈(putF f v fs).map (·.1)
 | []=>⟨by simp[putF],fun g h=>by simp at h⟩
 | (k,x)::r=>by
   obtain⟨i1,i2⟩:=a6x f v r
   rw[show putF f v ((k,x)::r)=(if k=f then(k,v)::r else(k,x)::putF f v r)from rfl]
   by_cases hk:k=f
   . rw[if_pos hk]
     subst hk
     exact⟨by simp,fun g h=>by simpa using h⟩
   . rw[if_neg hk]
     refine⟨?_,fun g h=> ?_⟩
     . rw[List.map_cons]
       exact List.mem_cons_of_mem _ i1
     . rw[List.map_cons]at h |-
       rcases List.mem_cons.mp h with e |e
       . exact List.mem_cons.mpr (.inl e)
       . exact List.mem_cons_of_mem _ (i2 g e)
theorem a6w(f:Str)(v:V): ∀fs:List (Str×V),(putF f v fs).length<=fs.length+1
 | []=>by simp[putF]
 | (k,x)::r=>by
   have ih:=a6w f v r
   rw[show putF f v ((k,x)::r)=(if k=f then(k,v)::r else(k,x)::putF f v r)from rfl]
   by_cases hk:k=f
   . rw[if_pos hk,List.length_cons,List.length_cons];omega
   . rw[if_neg hk,List.length_cons,List.length_cons];omega
theorem RelO.some_of{v:V}{o:Option Value}(r:RelO (some v) o): ∃u,o=some u/\RelV v u:=by
 cases o with
 |none=>exact(show False from r).elim
 |some u=>exact⟨u,rfl,r⟩
theorem RelO.none_of{o:Option Value}(r:RelO none o):o=none:=by
 cases o with
 |none=>rfl
 |some u=>exact(show False from r).elim
theorem b6c{v:V}{u:Value}(r:RelV v u):PySem.W.handedIn u=true:=by
 cases v with
 |non=>cases(show u=Value.none from r);rfl
 |bl b=>cases(show u=Value.bool b from r);rfl
 |int i=>obtain⟨t,e⟩:=(show ∃t,u=Value.int i t from r);cases e;rfl
 |str x=>obtain⟨t,e⟩:=(show ∃t,u=Value.str x t from r);cases e;rfl
 |byt b=>obtain⟨t,e⟩:=(show ∃t,u=Value.bytes b t from r);cases e;rfl
 |flt b=>obtain⟨t,e⟩:=(show ∃t,u=Value.float b t from r);cases e;rfl
 |ref a=>cases(show u=Value.ref a from r);rfl
 |ty n=>cases(show u=Value.type n from r);rfl
section
variable {P:Program}{w:World}{H H':Hp}{h h':Heap}{a C dx:Addr}{fs fs':List (Str×V)}
theorem a82(hok:HOk P w H h)(e:H a=some (.ins C dx fs)): ∃mA,ObjM h a dx C mA/\(∀f,RelO (fs.lookup f) (mA f))/\PySem.Within mA (fs.map (·.1))/\fs.length<=1000/\H dx=some (.own a):=by
 obtain⟨d,z,ne,ob,mA,n,r,q⟩:=(show ObjOk P w H h a (.ins C dx fs)from hok a _ e)
 exact⟨mA,⟨ob,n,ne⟩,r,q,z,d⟩
end
structure Cls(K:PySem.W.Frag)(C:Addr):Prop where
 pg:PySem.W.plainGet K C Str.empty=true
 hd:PySem.W.hasDictIn K C=true
 po:PySem.W.plainOver K C=true
 sa:PySem.W.findIn K (.ref C) "__setattr__"=some (some (.builtin "object.__setattr__"))
theorem Cls.get{K:PySem.W.Frag}{C:Addr}(c:Cls K C)(f:Str):PySem.W.plainGet K C f=true:=c.pg
def NoAttr(K:PySem.W.Frag)(C:Addr)(f:Str):Prop:=PySem.W.findIn K (.ref C) f=some none
theorem NoAttr.taker{K:PySem.W.Frag}{C:Addr}{f:Str}(n:NoAttr K C f):PySem.W.takerIn K C f=some none:=by
 unfold PySem.W.takerIn
 rw[show PySem.W.findIn K (.ref C) f=some none from n]
 rfl
structure Meth(K:PySem.W.Frag)(C:Addr)(m:Str)(f:Addr):Prop where
 at_:PySem.W.findIn K (.ref C) m=some (some (.ref f))
 fn:PySem.W.isFn K (.ref f)=true
 kp:PySem.W.keepIn K (.ref f)=true
section
variable {X:Cx}{pins:List (Addr×Obj)}{σ:St}{H:Hp}{s:Shared}{a C dx:Addr}{fs:List (Str×V)}{f:Str}{v:V}{A:Around}{E:Value->Shared->Prop}
theorem b3t{b:Bool}{Q:Value->Shared->Prop}(I:Inv X pins σ H s)(e:H a=some (.ins C dx fs))(c:Cls X.K C)(n:NoAttr X.K C f)(l:fs.lookup f=some v)
   (h: ∀u s',Inv X pins σ H s'->RelV v u->Q u s'):wpAny (model X.prog X.w) A (getAttr (.ref a) f b) Q E s:=by
 obtain⟨mA,O,r,_,_,_⟩:=a82 I.hok e
 obtain⟨u,hu,ru⟩:=RelO.some_of (v:=v) (o:=mA f) (by rw[<-l];exact r f)
 exact get_map I.kIn O (c.get f) c.hd n hu (b6c ru) (h u _ (I.tok _) ru)
theorem a72{m:Str}{g:Addr}{pl:Sem Bool}{Q:Value×List Value->Shared->Prop}(I:Inv X pins σ H s)(e:H a=some (.ins C dx fs))(c:Cls X.K C)(k:Meth X.K C m g)(l:fs.lookup m=none)
   (h:Q (.ref g,[.ref a]) s):wpAny (model X.prog X.w) A (getMethod (.ref a) m pl) Q E s:=by
 obtain⟨mA,O,r,_,_,_⟩:=a82 I.hok e
 have hn:mA m=none:=RelO.none_of (by rw[<-l];exact r m)
 exact b8c I.kIn O (c.get m) k.at_ k.fn hn h
theorem b3e{y:V}{u:Value}{Q:Unit->Shared->Prop}(I:Inv X pins σ H s)(e:H a=some (.ins C dx fs))(c:Cls X.K C)(n:NoAttr X.K C f)(hl:fs.length<1000)(ry:RelV y u)
   (h: ∀s',Inv X pins σ (upd H a (.ins C dx (putF f y fs))) s'->Q () s'):wpAny (model X.prog X.w) A (setAttr (.ref a) f u) Q E s:=by
 obtain⟨mA,O,r,wi,_,ho⟩:=a82 I.hok e
 have hz:(fs.map (·.1)).length<=sizeLine:=by rw[List.length_map,sizeLine_eq];omega
 refine set_map I.kIn O c.sa c.po n.taker c.hd wi hz fun h' O' sb=>h _ ?_
 have hd: ∃o,h'.get? dx=some o:=let ⟨o,_,_,e',_⟩:=O'.ns;⟨o,e'⟩
 refine I.write (x:=a) (e:=dx) (by rw[e];exact True.intro) (.inr ho) (fun b q hb z=>(sb.2 b hb).trans z) hd ?_
 refine⟨by rw[a0p O.ne];exact ho,?_,O.ne,O'.obj,_,O'.ns,fun g=> ?_,fun g hg=> ?_⟩
 . have:=a6w f y fs;omega
 . show RelO ((putF f y fs).lookup g) (if g=f then some u else mA g)
   rw[a6u]
   by_cases q:g=f
   . rw[if_pos q,if_pos q];exact ry
   . rw[if_neg q,if_neg q];exact r g
 . by_cases q:g=f
   . rw[q];exact(a6x f y fs).1
   . refine(a6x f y fs).2 g (wi g fun z=>hg ?_)
     show(if g=f then some u else mA g)=none
     rw[if_neg q];exact z
theorem Inv.made(I:Inv X pins σ H s):Inv X pins σ (upd (upd H s.heap.objs.size (.own (s.heap.objs.size+1))) (s.heap.objs.size+1) (.ins C s.heap.objs.size []))
   {s with heap:=(s.heap.push PySem.W.emptyDict).push (PySem.W.instObj C s.heap.objs.size)}:=by
 have e1:(s.heap.push PySem.W.emptyDict).get? s.heap.objs.size=some PySem.W.emptyDict:=Heap.get?_push_size s.heap rfl
 have e2:((s.heap.push PySem.W.emptyDict).push (PySem.W.instObj C s.heap.objs.size)).get? (s.heap.objs.size+1)=some (PySem.W.instObj C s.heap.objs.size):=by
   have:=Heap.get?_push_size (s.heap.push PySem.W.emptyDict) (o:=PySem.W.instObj C s.heap.objs.size) rfl
   rwa [Heap.size_push]at this
 have e3:(s.heap.push PySem.W.emptyDict).Ns s.heap.objs.size (fun _=>none):=⟨PySem.W.emptyDict,#[],_,e1,rfl,(fun e he=>absurd he (by simp)),fun _=>rfl⟩
 have I1:=I.laid (a:=s.heap.objs.size) (o:= .own (s.heap.objs.size+1)) (h':=s.heap.push PySem.W.emptyDict) (t':=s.toks) (fun b u q=>Heap.get?_push_of_some _ q) (Nat.le_refl _) ⟨_,e1⟩
 refine I1.laid (a:=s.heap.objs.size+1) (o:= .ins C s.heap.objs.size []) (t':=s.toks) (fun b u q=>Heap.get?_push_of_some _ q) (Nat.le_of_eq (Heap.size_push _ _)) ?_
 have ne:s.heap.objs.size≠s.heap.objs.size+1:=Nat.ne_of_lt (Nat.lt_succ_self _)
 refine⟨by rw[a0p ne,a0u],Nat.zero_le _,ne,e2,fun _=>none,(Heap.Ns1.of_empty e3).at fun o q=>Heap.get?_push_of_some _ q,fun _=>True.intro,fun y hy=>absurd rfl hy⟩
theorem attr_of{prog:Program}{w:World}{env:Env}{e:Expr}{f:Str}{pos:Pos}{s:Shared}{Q:Value->Shared->Prop}(hb:attributeBase e f env (eval e env)=eval e env)
   (h:wpAny (model prog w) A (eval e env) (fun o s₁=>wpAny (model prog w) A (getAttr o f true) Q E s₁) E s):wpAny (model prog w) A (eval (.Attribute e f pos) env) Q E s:=
 Attribute_any_ h (by rw[arm_eval_Attribute,hb])
end
def tFld(K:PySem.W.Frag)(ta:TE)(f:Str):TE:=fun σ H Q=>ta σ H fun x H1=> ∃a C dx fs v,x= .ref a/\H1 a=some (.ins C dx fs)/\Cls K C/\NoAttr K C f/\fs.lookup f=some v/\Q v H1
noncomputable def sFld(K:PySem.W.Frag)(ta tv:TE)(f:Str):TS:=fun D σ H=>tv σ H fun y H1=>ta σ H1 fun x H2=> ∃a C dx fs,x= .ref a/\H2 a=some (.ins C dx fs)/\Cls K C/\NoAttr K C f/\fs.length<1000/\
 D.nx σ (upd H2 a (.ins C dx (putF f y fs)))
section
variable {X:Cx}{o e value:Expr}{f:Str}{pos pos' tpos:Pos}{ta tv:TE}
theorem pe_fld(he:PE X e ta)(hb:attributeBase e f X.env (eval e X.env)=eval e X.env):PE X (.Attribute e f pos) (tFld X.K ta f):=by
 intro pins s σ H Q I h
 refine attr_of hb (thn (he pins s σ H _ I h) fun u s1 zz9=> ?_)
 obtain⟨x,H1,I1,rx,a,C,dx,fs,v,ex,ea,c,n,l,q⟩:=zz9
 subst ex
 obtain rfl:u=Value.ref a:=rx
 exact b3t I1 ea c n l fun u' s2 I2 ru=>⟨v,H1,I2,ru,q⟩
theorem ps_fld(ha:PE X o ta)(hv:PE X value tv)(hs:swapsWith value (some (.Attribute o f pos')) pos.line X.env=pure false):PS X (.Assign [.Attribute o f pos'] value pos) (sFld X.K ta tv f):=by
 intro pins s σ H D I h
 refine plainObj_wpAny_Assign_Attribute (thn (hv pins s σ H _ I h) fun u s1 ⟨y,H1,I1,ry,q⟩=>thn (ha pins s1 σ H1 _ I1 q) fun ov s2 ⟨x,H2,I2,rx,a,C,dx,fs,ex,ea,c,n,l,q2⟩=> ?_) hs
 subst ex
 obtain rfl:ov=Value.ref a:=rx
 exact b3e I2 ea c n l ry fun s3 I3=>⟨σ,_,I3,q2⟩
end
section
variable {X:Cx}{pins:List (Addr×Obj)}{σ:St}{H:Hp}{s:Shared}{A:Around}{E:Value->Shared->Prop}{Q:Value->Shared->Prop}{c:Value}{b:Bool}
inductive TyOf(K:PySem.W.Frag)(H:Hp):V->Value->Prop where
 |non:TyOf K H .non (.type "NoneType")
 |bl (x:Bool):TyOf K H (.bl x) (.type "bool")
 |int (i:Int):TyOf K H (.int i) (.type "int")
 |str (x:Str):TyOf K H (.str x) (.type "str")
 |flt (x:UInt64):TyOf K H (.flt x) (.type "float")
 |lst {a:Addr}{xs:List V} (e:H a=some (.lst xs)):TyOf K H (.ref a) (.type "list")
 |frz {a:Addr}{o:Obj}{xs:List V} (e:H a=some (.frz o (.lst xs))):TyOf K H (.ref a) (.type "list")
 |tup {a:Addr}{xs:List V} (e:H a=some (.tup xs)):TyOf K H (.ref a) (.type "tuple")
 |dK {a:Addr}{kvs:List (Key×V)} (e:H a=some (.dK kvs)):TyOf K H (.ref a) (.type "dict")
 |dT {a:Addr}{kvs:List (List Key×V)} (e:H a=some (.dT kvs)):TyOf K H (.ref a) (.type "dict")
 |ins {a C dx:Addr}{fs:List (Str×V)} (e:H a=some (.ins C dx fs)) (cl:Cls K C) (ha:PySem.W.findIn K (.ref C) "__class__"=some (some (.builtin "object.__class__")))
     (hn:PySem.W.specialIn K (.builtin "object.__class__") "__get__"=some (some (.builtin "getset_descriptor.__get__"))) (htk:PySem.W.takesIn K (.builtin "object.__class__")=some true)
     (hm:PySem.W.mroIn K C (.type "object")=some true):TyOf K H (.ref a) (.ref C)
theorem b55{x:V}{u t:Value}(I:Inv X pins σ H s)(rx:RelV x u)(ty:TyOf X.K H x t)(e:PySem.W.kitOne X.K t c=some b)(h: ∀tk,Q (.bool b) {s with toks:=tk}):
   wpAny (model X.prog X.w) A (call (.builtin "isinstance") [u,c]) Q E s:=by
 cases ty with
 |non=>cases(show u=Value.none from rx);exact PySem.W.kia_one PySem.W.kitx_none I.kIn True.intro e (fun z=>nomatch z) h
 |bl y=>cases(show u=Value.bool y from rx);exact PySem.W.kia_one PySem.W.kitx_bool I.kIn True.intro e (fun z=>nomatch z) h
 |int i=>obtain⟨t,q⟩:=(show ∃t,u=Value.int i t from rx);cases q;exact PySem.W.kia_one PySem.W.kitx_int I.kIn True.intro e (fun z=>nomatch z) h
 |str y=>obtain⟨t,q⟩:=(show ∃t,u=Value.str y t from rx);cases q;exact PySem.W.kia_one PySem.W.kitx_str I.kIn True.intro e (fun z=>nomatch z) h
 |flt y=>obtain⟨t,q⟩:=(show ∃t,u=Value.float y t from rx);cases q;exact PySem.W.kia_one PySem.W.kitx_float I.kIn True.intro e (fun z=>nomatch z) h
 | @lst a xs ea=>
   cases(show u=Value.ref a from rx)
   obtain⟨_,_,n,_,h1⟩:=(show ObjOk X.prog X.w H s.heap a (.lst xs)from I.hok a _ ea)
   exact PySem.W.kia_one PySem.W.kitx_list I.kIn ⟨_,h1,rfl⟩ e (fun z=>nomatch z) h
 | @frz a ob xs ea=>
   cases(show u=Value.ref a from rx)
   obtain⟨_,_,_,n,_,h1⟩:=(show ObjOk X.prog X.w H s.heap a (.frz ob (.lst xs))from I.hok a _ ea)
   exact PySem.W.kia_one PySem.W.kitx_list I.kIn ⟨_,h1,rfl⟩ e (fun z=>nomatch z) h
 | @tup a xs ea=>
   cases(show u=Value.ref a from rx)
   obtain⟨_,_,_,p⟩:=(show ObjOk X.prog X.w H s.heap a (.tup xs)from I.hok a _ ea)
   obtain⟨o,h1,h2,_⟩:=p
   exact PySem.W.kia_one PySem.W.kitx_tuple I.kIn ⟨o,h1,h2⟩ e (fun z=>nomatch z) h
 | @dK a kvs ea=>
   cases(show u=Value.ref a from rx)
   obtain⟨_,_,vs,_,p⟩:=(show ObjOk X.prog X.w H s.heap a (.dK kvs)from I.hok a _ ea)
   obtain⟨o,es,ep,h1,h2,_⟩:=p
   exact PySem.W.kia_one PySem.W.kitx_dict I.kIn ⟨o,h1,h2.1⟩ e (fun z=>nomatch z) h
 | @dT a kvs ea=>
   cases(show u=Value.ref a from rx)
   obtain⟨_,_,xs,_,o,es,ep,h1,h2,_⟩:=(show ObjOk X.prog X.w H s.heap a (.dT kvs)from I.hok a _ ea)
   exact PySem.W.kia_one PySem.W.kitx_dict I.kIn ⟨o,h1,h2.1⟩ e (fun z=>nomatch z) h
 | @ins a C dx fs ea cl ha hn htk hm=>
   cases(show u=Value.ref a from rx)
   obtain⟨mA,O,_⟩:=a82 I.hok ea
   obtain⟨od,J,_⟩:=O.look
   exact PySem.W.kia_one (PySem.W.kitx_own (cl.get _) cl.hd ha hn htk hm) I.kIn J e (fun z=>nomatch z) h
end
structure Room(k:Nat)(A:Around):Prop where
 hd:A.handled=none
 dp:A.depth+3 *k+5<recursionLimit
 un:A.units+16 *k+200<cLine
theorem Room.mono{j k:Nat}{A:Around}(r:Room k A)(h:j<=k):Room j A:=⟨r.hd,by have:=r.dp;omega,by have:=r.un;omega⟩
theorem Room.deeper{k:Nat}{A:Around}(r:Room (k+1) A)(env:Env):Room k (A.deeper env):=
 ⟨r.hd,by have:=r.dp;show A.depth+1+3 *k+5<_;omega,by have:=r.un;show A.units+3+16 *k+200<_;omega⟩
theorem Room.in1{k:Nat}{A:Around}(r:Room (k+1) A):Room k A.in1:=
 ⟨r.hd,by have:=r.dp;show A.depth+3 *k+5<_;omega,by have:=r.un;show A.units+1+16 *k+200<_;omega⟩
theorem b3q{A:Around}{C:Addr}{us:List Value}{kw:List (Str×Value)}:(A.under (.builtin "type.__call__" ⟨.ref C::us,kw⟩)).depth=A.depth+1:=by
 first |rfl |simp[Around.under,Code.weight,Code.isCreation,Code.isGuard,Code.isCaller,Code.frames,Code.isFrame,guardIds]
theorem b3p{A:Around}{C:Addr}{us:List Value}{kw:List (Str×Value)}:(A.under (.builtin "type.__call__" ⟨.ref C::us,kw⟩)).units=A.units+1:=by
 first |rfl |simp[Around.under,Code.cUnits,Code.frames,Code.isFrame]
theorem Room.make{k:Nat}{A:Around}(r:Room (k+1) A)(C:Addr)(us:List Value)(kw:List (Str×Value)):Room k (A.under (.builtin "type.__call__" ⟨.ref C::us,kw⟩)):=
 ⟨r.hd,by have:=r.dp;rw[b3q];omega,by have:=r.un;rw[b3p];omega⟩
theorem Room.depth{k:Nat}{A:Around}(r:Room k A):A.depth<recursionLimit:=by have:=r.dp;omega
theorem Room.units{k:Nat}{A:Around}(r:Room k A):A.units+64<cLine:=by have:=r.un;omega
def tNil:TA:=fun _ H Q=>Q [] H
def tCons(ta:TE)(tr:TA):TA:=fun σ H Q=>ta σ H fun x H1=>tr σ H1 fun xs H2=>Q (x::xs) H2
section
variable {X:Cx}{e:Expr}{es:List Expr}{te:TE}{t:TA}{pos:Pos}
theorem pa_nil:PA X [] tNil:=fun _ _ _ _ H Q I h=>Calls.spliced_nil ⟨[],H,I,.nil,h⟩
theorem a5f(ha:PE X e te)(hr:PA X es t)(hs:starEach (e::es) X.env=(false,eval e X.env)::starEach es X.env:=by rfl):PA X (e::es) (tCons te t):=by
 intro pos pins s σ H Q I h
 rw[hs]
 show wpAny _ _ (spliced ((false,eval e X.env)::backTo pos (starEach es X.env))) _ _ s
 refine Calls.spliced_cons (thn (ha pins s σ H _ I h) fun u s1 zz9=> ?_)
 obtain⟨x,H1,I1,r1,q1⟩:=zz9
 exact thn (hr pos pins s1 σ H1 _ I1 q1) fun us s2 ⟨xs,H2,I2,r2,q2⟩=>⟨x::xs,H2,I2,.cons r1 r2,q2⟩
def tTup(t:TA):TE:=fun σ H Q=>t σ H fun xs H1=>xs.length<=sizeLine/\ ∀p,H1 p=none->Q (.ref p) (upd H1 p (.tup xs))
def tLst(t:TA):TE:=fun σ H Q=>t σ H fun xs H1=>xs.length<=sizeLine/\ ∀p,H1 p=none->Q (.ref p) (upd H1 p (.lst xs))
theorem pe_tup{x1}(h:PA X es t):PE X (.Tuple es x1 pos) (tTup t):=by
 intro pins s σ H Q I hq
 refine wpAny_Tuple_spliced (thn (h pos pins s σ H _ I hq) fun us s1 ⟨xs,H1,I1,r,z,q⟩=>⟨by rw[<-r.length];exact z,?_⟩)
 have hf:H1 s1.heap.objs.size=none:=I1.hok.fresh (Nat.le_refl _)
 refine⟨.ref s1.heap.objs.size,upd H1 s1.heap.objs.size (.tup xs),I1.laid (t':=s1.toks) (fun b u e=>Heap.get?_push_of_some _ e) (Nat.le_refl _) ?_,rfl,q _ hf⟩
 exact⟨z,us,r,⟨_,Heap.get?_push_size _ rfl,rfl,_,rfl⟩⟩
theorem pe_lst(h:PA X es t):PE X (.List es pos) (tLst t):=by
 intro pins s σ H Q I hq
 refine wpAny_List_spliced (thn (h pos pins s σ H _ I hq) fun us s1 ⟨xs,H1,I1,r,z,q⟩=>⟨by rw[<-r.length];exact z,?_⟩)
 have hf:H1 s1.heap.objs.size=none:=I1.hok.fresh (Nat.le_refl _)
 refine⟨.ref s1.heap.objs.size,upd H1 s1.heap.objs.size (.lst xs),I1.laid (t':=s1.toks) (fun b u e=>Heap.get?_push_of_some _ e) (Nat.le_refl _) ?_,rfl,q _ hf⟩
 exact⟨z,us,0,r,Heap.get?_push_size _ rfl⟩
end
noncomputable abbrev Sp:=List V->Hp->VK->XK->Prop
noncomputable abbrev CXT:=List Env->Hp->Shared->XK->Value->Shared->Prop
structure Env0(P:Program)(w:World)(K:PySem.W.Frag)(mg:Str->Option Value)(base:Heap)(A:Around)(outer:List Env)(s:Shared)(H:Hp):Prop where
 frames:A.frames=some outer
 mod:Mod K mg base
 bs: ∀b o,base.get? b=some o->s.heap.get? b=some o/\H b=none
 bsz:base.objs.size<=s.heap.objs.size
 funs:s.heap.FunFrames base outer
 frf: ∀b∈frs outer,H b=none
 hok:HOk P w H s.heap
 bare:AllBare s.gens
def CE(outer:List Env)(P:Program)(w:World)(H:Hp)(s:Shared)(Q:VK)(u:Value)(s':Shared):Prop:=
 ∃v H',s'.os=s.os/\AllBare s'.gens/\Un (frs outer) [] H H' s.heap s'.heap/\HOk P w H' s'.heap/\RelV v u/\Q v H'
def CR(CX:CXT)(outer:List Env)(P:Program)(w:World)(H:Hp)(s:Shared)(Q:VK)(E:XK)(r:Result)(s':Shared):Prop:=
 match r with
 | .ok (.ret u)=>CE outer P w H s Q u s'
 | .ok _=>False
 | .error e=>CX outer H s E e s'
structure FnOk(P:Program)(w:World)(K:PySem.W.Frag)(mg:Str->Option Value)(base:Heap)(CX:CXT)(k:Nat)(f:Addr)(fd:FuncData)(ps:List Str)(sp:Sp):Prop where
 len: ∀vs H Q E,sp vs H Q E->vs.length=ps.length
 run: ∀(A:Around) (outer:List Env) (s:Shared) (H:Hp) (args:Args) (us:List Value) (vs:List V) (Q:VK) (E:XK),Room k A->Env0 P w K mg base A outer s H->BindsTo s fd args (ps.zip us)->Vals vs us->sp vs H Q E->
   codeAny (model P w) A (.call (.ref f) args) (CR CX outer P w H s Q E) s
theorem Env0.make{P:Program}{w:World}{K:PySem.W.Frag}{mg:Str->Option Value}{base:Heap}{A:Around}{outer:List Env}{s:Shared}{H:Hp}(e:Env0 P w K mg base A outer s H)(C:Addr)(us:List Value)(kw:List (Str×Value)):
   Env0 P w K mg base (A.under (.builtin "type.__call__" ⟨.ref C::us,kw⟩)) outer s H:=⟨by first |exact e.frames | (simpa[Around.under,Code.envs,Code.isFrame,pushEnvs]using e.frames),e.mod,e.bs,e.bsz,e.funs,e.frf,e.hok,e.bare⟩
section
variable {X:Cx}{pins:List (Addr×Obj)}{σ:St}{H:Hp}{s s':Shared}
theorem Inv.env0(I:Inv X pins σ H s):Env0 X.prog X.w X.K X.mg X.base X.A X.stack s H:=
 ⟨I.ok.frames,I.ok.mod,I.bs,Nat.le_trans I.ok.bsz I.sz,I.stack,I.stkFree,I.hok,I.bare⟩
theorem Inv.after{Q:VK}{u:Value}(I:Inv X pins σ H s)(h:CE X.stack X.prog X.w H s Q u s'):EP X pins σ Q u s':=by
 obtain⟨v,H',os,bare,un,hok,r,q⟩:=h
 obtain⟨hh,g,d,t,os'⟩:=s'
 obtain rfl:os'=s.os:=os
 exact⟨v,H',I.call (h':=hh) (g':=g) (d':=d) (t':=t) (ch:=[]) un hok bare (fun b z=>absurd z (by simp)),r,q⟩
end
def tMake(C:Addr)(sp:Sp)(dvs:List V)(E:XK)(t:TA):TE:=fun σ H Q=>t σ H fun vs H1=> ∀x dx,H1 x=none->H1 dx=none->dx≠x->
 sp (.ref x::(vs++dvs)) (upd (upd H1 dx (.own x)) x (.ins C dx [])) (fun v H2=>v= .non/\Q (.ref x) H2) E
def Binds(K:PySem.W.Frag)(fd:FuncData)(ps:List Str)(ds:List Value):Prop:=
 ∀(s:Shared) (us:List Value),K.In s.heap->(us++ds).length=ps.length->BindsTo s fd ⟨us,[]⟩ (ps.zip (us++ds))
theorem Binds.all{K:PySem.W.Frag}{fd:FuncData}{ps:List Str}(h: ∀us:List Value,us.length=ps.length->bindArgs fd ⟨us,[]⟩=pure (ps.zip us)):Binds K fd ps []:=fun s us _ hl=>by
 rw[List.append_nil]at hl |-
 exact .of_eq (h us hl)
def b63(CX:CXT)(X:Cx)(E:XK):Prop:= ∀(pins:List (Addr×Obj)) (σ:St) (H:Hp) (s:Shared) (e:Value) (s':Shared),Inv X pins σ H s->CX X.stack H s E e s'->X.xe e s'
section
variable {X:Cx}{CX:CXT}{k:Nat}{f C:Addr}{fd:FuncData}{ps:List Str}{sp:Sp}{dvs:List V}{ds:List Value}{E:XK}{x m:Str}{p pos apos:Pos}{e o:Expr}{es:List Expr}{ta:TE}{t:TA}
structure Mk(K:PySem.W.Frag)(C f:Addr):Prop where
 makes:PySem.W.makesIn K C=true
 init:PySem.W.findIn K (.ref C) "__init__"=some (some (.ref f))
 fn:PySem.W.isFn K (.ref f)=true
 kp:PySem.W.keepIn K (.ref C)=true
theorem b7c{pins:List (Addr×Obj)}{σ:St}{H:Hp}{s:Shared}{Q:VK}{us:List Value}{vs:List V}(M:Mk X.K C f)(F:FnOk X.prog X.w X.K X.mg X.base CX k f fd ps sp)(hr:Room (k+1) X.A)(hb:Binds X.K fd ps ds)(hd:Vals dvs ds)
   (hx:b63 CX X E) (I:Inv X pins σ H s) (r:Vals vs us)
   (h: ∀x dx,H x=none->H dx=none->dx≠x->sp (.ref x::(vs++dvs)) (upd (upd H dx (.own x)) x (.ins C dx [])) (fun v H2=>v= .non/\Q (.ref x) H2) E):
   wpAny (model X.prog X.w) X.A (call (.ref C) us) (EP X pins σ Q) X.xe s:=by
 have hq:=h (s.heap.objs.size+1) s.heap.objs.size (I.hok.fresh (Nat.le_succ _)) (I.hok.fresh (Nat.le_refl _)) (Nat.ne_of_lt (Nat.lt_succ_self _))
 have I2:=Inv.made (C:=C) I
 have r2:Vals (V.ref (s.heap.objs.size+1)::(vs++dvs)) (Value.ref (s.heap.objs.size+1)::(us++ds)):= .cons rfl (r.append hd)
 have hl:(Value.ref (s.heap.objs.size+1)::us++ds).length=ps.length:=by
   have e:=r2.length
   rw[F.len _ _ _ _ hq]at e
   exact e.symm
 refine wpAny_call (b71 (f:=f) I.kIn M.makes M.init (beq_iff_eq.mp M.fn) (codeAny_mono (F.run _ X.stack _ _ ⟨Value.ref (s.heap.objs.size+1)::us,[]⟩ (Value.ref (s.heap.objs.size+1)::(us++ds)) _ _ E (hr.make C us [])
   (I2.env0.make C us []) (hb _ (Value.ref (s.heap.objs.size+1)::us) I2.kIn hl) r2 hq) fun r s' hq'=> ?_))
 cases r with
 |error e=>exact hx pins σ _ _ e s' I2 hq'
 |ok fl=>
   cases fl with
   |ret u=>
     obtain⟨v,H',I3,rv,ev,q3⟩:=I2.after hq'
     subst ev
     exact⟨rv,⟨V.ref (s.heap.objs.size+1),H',I3,rfl,q3⟩⟩
   |next=>exact False.elim hq'
   |brk=>exact False.elim hq'
   |cont=>exact False.elim hq'
theorem b7o(M:Mk X.K C f)(F:FnOk X.prog X.w X.K X.mg X.base CX k f fd ps sp)(hr:Room (k+1) X.A)(hg:Gl X x)(hm:X.mg x=some (.ref C))(hb:Binds X.K fd ps ds)(hd:Vals dvs ds)(hx:b63 CX X E)
   (hdb:(x==("__debug__":Str))=false:=by decide):PE X (.Call (.Name x p) [] [] pos) (tMake C sp dvs E tNil):=by
 intro pins s σ H Q I h
 refine wpAny_Call_Name_kw (a5j I hg hm ?_ hdb)
 exact PySem.W.callWith_K0 I.kIn M.kp (b7c (us:=[]) M F hr hb hd hx I .nil h)
end
section
variable {X:Cx}{CX:CXT}{k:Nat}{f C:Addr}{fd:FuncData}{ps ks:List Str}{sp:Sp}{E:XK}{x m:Str}{p pos apos kpos:Pos}{e o:Expr}{es:List Expr}{kws:List Keyword}{te ta:TE}{t tk:TA}{nm:Option Str}
variable {g:List Value->List Value->List Value}{gV:List V->List V->List V}
end
structure FnScope(N P:List Str)(sc:Scope):Prop where
 kind:sc.kind= .function
 co:sc.isCoroutine=false
 gen:sc.isGenerator=false
 nd:N.Nodup
 pre:N.take P.length=P
 par: ∀x∈P,sc.names.lookup x=some .local\/sc.names.lookup x=some .cell
 nofree: ∀y∈sc.names,y.2≠ .free
theorem a99{kindOf:Str->Option NameKind}{x:Str}: ∀{binds:List (Str×Value)}{m:Str->Option Value},(∀v,(x,v)∉binds)->bindL kindOf binds m x=m x
 | [],_,_=>rfl
 | (n,v)::r,m,h=>by
   unfold bindL
   rw[a99 fun w hw=>h w (List.mem_cons_of_mem _ hw)]
   split
   . have:x≠n:=by rintro rfl;exact h v List.mem_cons_self
     simp[this]
   . rfl
theorem b0b{kindOf:Str->Option NameKind}{x:Str}: ∀{binds:List (Str×Value)}{m:Str->Option Value},(∀v,(x,v)∉binds)->bindC kindOf binds m x=m x
 | [],_,_=>rfl
 | (n,v)::r,m,h=>by
   unfold bindC
   rw[b0b fun w hw=>h w (List.mem_cons_of_mem _ hw)]
   split
   . rfl
   . have:x≠n:=by rintro rfl;exact h v List.mem_cons_self
     simp[this]
theorem b0a{kindOf:Str->Option NameKind}{x:Str}{v:Value}: ∀{P:List Str}{vs:List Value}{i:Nat}{m:Str->Option Value},P.Nodup->P[i]? =some x->vs[i]? =some v->kindOf x=some .local->
   bindL kindOf (P.zip vs) m x=some v
 | [],_,_,_,_,h,_,_=>by simp at h
 |_::_,[],_,_,_,_,h,_=>by simp at h
 |p::P,w::vs,0,m,nd,h1,h2,hk=>by
   simp at h1 h2;subst h1;subst h2
   show bindL kindOf ((p,w)::P.zip vs) m p=_
   unfold bindL
   rw[a99 fun v hv=>(List.nodup_cons.mp nd).1 (List.of_mem_zip hv).1,if_pos hk]
   simp
 |p::P,w::vs,i+1,m,nd,h1,h2,hk=>by
   show bindL kindOf ((p,w)::P.zip vs) m x=_
   unfold bindL
   exact b0a (i:=i) (List.nodup_cons.mp nd).2 (by simpa using h1) (by simpa using h2) hk
theorem b0c{kindOf:Str->Option NameKind}{x:Str}{v:Value}: ∀{P:List Str}{vs:List Value}{i:Nat}{m:Str->Option Value},P.Nodup->P[i]? =some x->vs[i]? =some v->kindOf x≠some .local->
   bindC kindOf (P.zip vs) m x=some v
 | [],_,_,_,_,h,_,_=>by simp at h
 |_::_,[],_,_,_,_,h,_=>by simp at h
 |p::P,w::vs,0,m,nd,h1,h2,hk=>by
   simp at h1 h2;subst h1;subst h2
   show bindC kindOf ((p,w)::P.zip vs) m p=_
   unfold bindC
   rw[b0b fun v hv=>(List.nodup_cons.mp nd).1 (List.of_mem_zip hv).1,if_neg hk]
   simp
 |p::P,w::vs,i+1,m,nd,h1,h2,hk=>by
   show bindC kindOf ((p,w)::P.zip vs) m x=_
   unfold bindC
   exact b0c (i:=i) (List.nodup_cons.mp nd).2 (by simpa using h1) (by simpa using h2) hk
noncomputable def start(N:List Str)(vs:List V):St:=vs.map some++List.replicate (N.length- vs.length) none
noncomputable def cxOf(CX:CXT)(P:Program)(w:World)(K:PySem.W.Frag)(mg:Str->Option Value)(base:Heap)(N:List Str)(qual:Str)(scope:Scope)(f:Addr)(cd:Value)(A:Around)(outer:List Env)(s:Shared)(H:Hp)(E:XK):Cx where
 prog:=P
 w:=w
 K:=K
 mg:=mg
 base:=base
 A:=A.deeper (envOfC qual scope s.heap.objs.size f cd)
 N:=N
 s₀:=s
 H₀:=H
 env:=envOfC qual scope s.heap.objs.size f cd
 outer:=outer
 stack:=envOfC qual scope s.heap.objs.size f cd::outer
 ex:=[]
 calm:=true
 fn:=fun _=>true
 pn:=[]
 xe:=fun e s'=>wpAny (model P w) (A.deeper (envOfC qual scope s.heap.objs.size f cd)) (leaving (envOfC qual scope s.heap.objs.size f cd) e) (fun _ s''=>CX outer H s E e s'') (fun e' s''=>CX outer H s E e' s'') s'
theorem b22{sc:Scope}{n:Nat}{x:Str}(h:sc.names.lookup x=some .cell): ∃c,(cellsFrom n sc.names []).lookup x=some c:=by
 have q:=PySem.W.cellsFrom_some sc.names n [] (.inl h)
 exact Option.isSome_iff_exists.mp q
theorem b57{CX:CXT}{P:Program}{w:World}{K:PySem.W.Frag}{mg:Str->Option Value}{base:Heap}{N ps:List Str}{qual:Str}{scope:Scope}{f:Addr}{cd:Value}{A:Around}{outer:List Env}{s s1:Shared}{H:Hp}{E:XK}{us:List Value}{vs:List V}
   (S:FnScope N ps scope) (hd:A.handled=none) (e0:Env0 P w K mg base A outer s H) (hl:vs.length=ps.length) (r:Vals vs us)
   (x:InCallC s s.heap.objs.size (bindL (envOfC qual scope s.heap.objs.size f cd).kindOf (ps.zip us) fun _=>none) (cellsFrom (s.heap.objs.size+1) scope.names []) (bindC (envOfC qual scope s.heap.objs.size f cd).kindOf (ps.zip us) fun _=>none) s1):
   Inv (cxOf CX P w K mg base N qual scope f cd A outer s H E) [] (start N vs) H s1:=by
 have hpl:ps.length<=N.length:=by have:=congrArg List.length S.pre;rw[List.length_take]at this;omega
 obtain⟨h1,tk,rfl,hk⟩:=x.done
 have noA: ∀b:Addr,b∉(cxOf CX P w K mg base N qual scope f cd A outer s H E).ex:=fun b z=>absurd (show b∈([]:List Addr)from z) (by simp)
 refine⟨⟨e0.mod,S.kind,rfl,rfl,Nat.le_refl _,fun y z c h1 h2=> ?_,fun y hy=> ?_,fun y c _ h=> ?_,fun _=>hd,Around.frames_deeper e0.frames,.inr ⟨rfl,rfl⟩,fun b z=>absurd z (noA b),e0.bs,e0.bsz,fun b _ _=>noA b,fun b z=>absurd z (noA b),e0.funs,e0.frf⟩,
   rfl,e0.bare,Un.kept hk,⟨_,x.toInCall.ns,fun i y v h1 h2 h3=> ?_⟩,fun y c h=>⟨_,x.cell y c h⟩,e0.hok.fresh (Nat.le_refl _),fun y c h=> ?_,fun p hp=>absurd (show p∈([]:List (Addr×Obj))from hp) (by simp),e0.hok.kept hk,?_⟩
 . exact name_of_addr x.apart (PySem.mem_of_lookup h1) (PySem.mem_of_lookup h2)
 . have hy:scope.names.lookup y=some .cell\/scope.names.lookup y=some .free:=hy
   rcases hy with hy |hy
   . exact b22 hy
   . exact absurd rfl (S.nofree _ (PySem.mem_of_lookup hy))
 . exact Nat.le_of_lt (x.above y c (PySem.mem_of_lookup h))
 . have hi:i<vs.length:=by
     unfold start at h2
     by_cases hi:i<vs.length
     . exact hi
     . rw[List.getElem?_append_right (by simpa using hi)]at h2
       rw[List.getElem?_replicate]at h2
       split at h2<;>cases h2
   have ha:vs[i]? =some v:=by
     unfold start at h2
     rw[List.getElem?_append_left (by simpa using hi),List.getElem?_map]at h2
     cases e:vs[i]? with
     |none=>rw[e]at h2;cases h2
     |some a=>rw[e]at h2;cases h2;rfl
   obtain⟨u,hu,rv⟩:=r.get ha
   have hp:ps[i]? =some y:=by
     rw[<-S.pre,List.getElem?_take_of_lt (by omega)];exact h1
   have ndP:ps.Nodup:=by rw[<-S.pre];exact S.nd.sublist (List.take_sublist _ _)
   refine⟨u,rv,?_⟩
   rcases S.par y (List.mem_of_getElem? hp)with k |k
   . exact .inl ⟨k,b0a ndP hp hu k⟩
   . obtain⟨c,e⟩:=b22 (n:=s.heap.objs.size+1) k
     refine .inr ⟨.inl k,c,e,?_⟩
     have q:=x.cell y c e
     rw[b0c ndP hp hu (by show scope.names.lookup y≠_;rw[k];decide)]at q
     exact q
 . exact e0.hok.fresh (Nat.le_of_lt (x.above y c (PySem.mem_of_lookup h)))
 . unfold start
   show _=N.length
   rw[List.length_append,List.length_map,List.length_replicate]
   omega
theorem fn_of{CX:CXT}{P:Program}{w:World}{K:PySem.W.Frag}{mg:Str->Option Value}{base:Heap}{k:Nat}{f:Addr}{name qual:Str}{params:Arguments}{body:List Stmt}{scope:Scope}{dV kV doc pm cdv ct oc:Value}{an od:Option Addr}
   {osl:Array (Option Value)}{N ps:List Str}{sp:Sp} (lk:K.lookup f=some ⟨oc,od,.func (PySem.W.fnOf name qual params body scope dV kV doc pm an cdv ct),osl⟩) (hcd:PySem.W.codeIn K cdv qual=true) (S:FnScope N ps scope)
   (len: ∀vs H Q E,sp vs H Q E->vs.length=ps.length)
   (hbody: ∀(A:Around) (outer:List Env) (s:Shared) (H:Hp) (vs:List V) (Q:VK) (E:XK),Room k (A.deeper (envOfC qual scope s.heap.objs.size f cdv))->sp vs H Q E->
     ∃t,PSs (cxOf CX P w K mg base N qual scope f cdv A outer s H E) body t/\t {nx:=fun _ H'=>Q .non H',rt:=Q} (start N vs) H):
   FnOk P w K mg base CX (k+1) f (PySem.W.fnOf name qual params body scope dV kV doc pm an cdv ct) ps sp:=by
 refine⟨len,fun A outer s H args us vs Q E hr e0 hb r hsp=> ?_⟩
 have hl:=len _ _ _ _ hsp
 have KX:K.In s.heap:=e0.mod.kin.keeps fun b o e=>(e0.bs b o e).1
 have lim:s.heap.NoLimit:=e0.mod.nolimit.keeps fun b o e=>(e0.bs b o e).1
 have hkind: ∀y∈ps.zip us,scope.names.lookup y.1=some .local\/(scope.names.lookup y.1=some .cell/\((cellsFrom (s.heap.objs.size+1) scope.names []).lookup y.1).isSome=true):=fun ⟨n,v⟩ hy=>by
   rcases S.par n (List.of_mem_zip hy).1 with q |q
   . exact .inl q
   . exact .inr ⟨q,PySem.W.cellsFrom_some _ _ _ (.inl q)⟩
 refine codeAny_call_function hr.depth (KX _ _ lk) rfl S.co S.gen rfl (PySem.W.codeRec_of KX hcd) (hb _ _ _ _ ?_)
 refine wpAny_newFunctionEnv_cells S.kind hkind fun env he s1 x=> ?_
 subst he
 refine⟨lim.keeps x.toInCall.keep,codeAny_func ?_⟩
 obtain⟨t,ht,hq⟩:=hbody A outer s H vs Q E (hr.deeper _) hsp
 have I:Inv (cxOf CX P w K mg base N qual scope f cdv A outer s H E) [] (start N vs) H s1:=b57 S hr.hd e0 hl r x
 refine wpAny_mono (ht [] s1 (start N vs) H _ I hq) (fun fl s' hs=> ?_) fun e s' hs=>hs
 have fin: ∀{σ':St}{H':Hp}{v:V}{u:Value},Inv (cxOf CX P w K mg base N qual scope f cdv A outer s H E) [] σ' H' s'->RelV v u->Q v H'->CE outer P w H s Q u s':=
   fun {σ' H' v u} J rv q=>⟨v,H',J.os,J.bare,J.base,J.hok,rv,q⟩
 cases fl with
 |ret u=>
   obtain⟨v,σ',H',J,rv,q⟩:=hs
   exact fin J rv q
 |next=>
   obtain⟨σ',H',J,q⟩:=hs
   exact fin (v:=V.non) (u:=Value.none) J rfl q
 |brk=>
   obtain⟨_,_,_,q⟩:=hs
   exact False.elim q
 |cont=>
   obtain⟨_,_,_,q⟩:=hs
   exact False.elim q
section
variable {X:Cx}{x:Str}{p pos:Pos}{e:Expr}{es:List Expr}{t:TA}{id T:String}{r:List V->Hp->VK->Prop}
def tCB(r:List V->Hp->VK->Prop)(t:TA):TE:=fun σ H Q=>t σ H fun vs H1=>r vs H1 Q
theorem a8p(hc:CallR X (.builtin id) r)(hg:Gl X x)(hm:X.mg x=none)(hv:bootBuiltins x=some (.builtin id))(ha:PA X (e::es) t)(hn:x≠ "__name__":=by decide)(hdb:(x==("__debug__":Str))=false:=by decide)
   (he:starEach (e::es) X.env=(false,eval e X.env)::starEach es X.env:=by rfl) (hpl:(backTo pos (starEach es X.env)).any (·.1)=false:=by rfl):PE X (.Call (.Name x p) (e::es) [] pos) (tCB r t):=by
 intro pins s σ H Q I h
 refine wpAny_Call_Name_kw (a90 I hg hm hv ?_ hn hdb)
 exact PyProof.Rows.callWith_builtin1 (thn (ha pos pins s σ H _ I h) fun us s1 ⟨vs,H1,I1,r1,q1⟩=>hc pins s1 σ H1 vs us Q I1 r1 q1) he hpl
theorem a4o(hc:CallR X (.type T) r)(hg:Gl X x)(hm:X.mg x=none)(hv:bootBuiltins x=some (.type T))(ha:PA X (e::es) t)(hn:x≠ "__name__":=by decide)(hdb:(x==("__debug__":Str))=false:=by decide)
   (he:starEach (e::es) X.env=(false,eval e X.env)::starEach es X.env:=by rfl) (hpl:(backTo pos (starEach es X.env)).any (·.1)=false:=by rfl):PE X (.Call (.Name x p) (e::es) [] pos) (tCB r t):=by
 intro pins s σ H Q I h
 refine wpAny_Call_Name_kw (a90 I hg hm hv ?_ hn hdb)
 exact PyProof.Rows.callWith_type1 (thn (ha pos pins s σ H _ I h) fun us s1 ⟨vs,H1,I1,r1,q1⟩=>hc pins s1 σ H1 vs us Q I1 r1 q1) he hpl
end
end L2
namespace HT
open PySem PyProof.Rows
section
open PySem.SeqAt
open PySem.AutoSeq1 (wpAny_loadPart')
open PySem.MeetsSeq PySem.MeetsSeq2 PySem.MeetsSeq3
end
section
variable {prog:Program}{w:World}{A:Around}{E:Value->Shared->Prop}{s:Shared}
noncomputable def sIx(n d:Nat):Option Int->Nat
 |none=>d
 |some v=>if v<0 then(v+(n:Int)).toNat else min v.toNat n
theorem sIx_none(n d:Nat):sIx n d none=d:=rfl
theorem sIx_nat(n d k:Nat):sIx n d (some (k:Int))=min k n:=by
 show(if(k:Int)<0 then((k:Int)+(n:Int)).toNat else min (k:Int).toNat n)=min k n
 rw[if_neg (by omega),Int.toNat_natCast]
end
end HT
namespace L2
open PySem PySem.Spec PyProof.Rows
noncomputable abbrev TO:=St->Hp->(Option Int->Hp->Prop)->Prop
def PO(X:Cx)(e:Option Expr)(t:TO):Prop:=
 ∀(pins:List (Addr×Obj)) (s:Shared) (σ:St) (H:Hp) (Q:Option Int->Hp->Prop),Inv X pins σ H s->t σ H Q->
   wpAny (model X.prog X.w) X.A (evalPart e X.env) (fun u s'=> ∃o H',Inv X pins σ H' s'/\IsPart u o/\Q o H') X.xe s
noncomputable def tNoPart:TO:=fun _ H Q=>Q none H
noncomputable def tPart(t:TE):TO:=fun σ H Q=>t σ H fun x H1=> ∃i,x= .int i/\Q (some i) H1
section
variable {X:Cx}{e:Expr}{te:TE}{lo hi:Option Expr}{tl th:TO}{pos p2:Pos}
theorem po_none:PO X none tNoPart:=by
 intro pins s σ H Q I h
 rw[evalPart_none]
 exact wpAny_pure ⟨none,H,I,.none,h⟩
theorem po_some(h:PE X e te):PO X (some e) (tPart te):=by
 intro pins s σ H Q I hw
 rw[evalPart_some]
 refine thn (h pins s σ H _ I hw) fun u s1 zz9=> ?_
 obtain⟨x,H1,I1,r1,q1⟩:=zz9
 obtain⟨i,rfl,q⟩:=q1
 obtain⟨t,rfl⟩:=r1
 exact⟨some i,H1,I1,.int i t,q⟩
def SlR(X:Cx)(r:V->Option Int->Option Int->Hp->VK->Prop):Prop:=
 ∀(pins:List (Addr×Obj)) (s:Shared) (σ:St) (H:Hp) (x:V) (v vl vu:Value) (lo hi:Option Int) (sl:Addr) (Q:VK),Inv X pins σ H s->RelV x v->s.heap.IsSliceOf sl vl vu .none->IsPart vl lo->IsPart vu hi->r x lo hi H Q->
   ∃T id,typeLookup (.type T) "__getitem__"=pure (some (.builtin id))/\s.TypeIs v T/\wpAny (model X.prog X.w) X.A (getItem v (.ref sl)) (EP X pins σ Q) X.xe s
theorem SlR.or{r r':V->Option Int->Option Int->Hp->VK->Prop}(h:SlR X r)(h':SlR X r'):SlR X (fun x lo hi H Q=>r x lo hi H Q\/r' x lo hi H Q):=by
 intro pins s σ H x v vl vu lo hi sl Q I rx hs pl pu q
 rcases q with q |q
 . exact h pins s σ H x v vl vu lo hi sl Q I rx hs pl pu q
 . exact h' pins s σ H x v vl vu lo hi sl Q I rx hs pl pu q
def tSl(r:V->Option Int->Option Int->Hp->VK->Prop)(te:TE)(tl th:TO):TE:=fun σ H Q=>te σ H fun x H1=>tl σ H1 fun l H2=>th σ H2 fun u H3=>r x l u H3 Q
theorem b7m{r:V->Option Int->Option Int->Hp->VK->Prop}(hr:SlR X r)(he:PE X e te)(hl:PO X lo tl)(hu:PO X hi th):PE X (.Subscript e (.Slice lo hi none p2) pos) (tSl r te tl th):=by
 intro pins s σ H Q I h
 refine Subscript_ (thn (he pins s σ H _ I h) fun v s1 zz9=> ?_)
 obtain⟨x,H1,I1,r1,q1⟩:=zz9
 refine wpAny_Slice (thn (hl pins s1 σ H1 _ I1 q1) fun vl s2 ⟨l,H2,I2,pl,q2⟩=>thn (hu pins s2 σ H2 _ I2 q2) fun vu s3 zz9=> ?_)
 obtain⟨u,H3,I3,pu,q3⟩:=zz9
 rw[evalPart_none]
 refine wpAny_pure ?_
 have I4:Inv X pins σ H3 {s3 with heap:=s3.heap.push {cls:= .type "slice",data:= .fields #[vl,vu,.none]}}:=I3.kept (t':=s3.toks) fun b ob q=>Heap.get?_push_of_some _ q
 obtain⟨T,id,hT,ht,hg⟩:=hr pins {s3 with heap:=s3.heap.push {cls:= .type "slice",data:= .fields #[vl,vu,.none]}} σ H3 x v vl vu l u s3.heap.objs.size Q I4 r1 (Heap.IsSliceOf.new ..) pl pu q3
 show wpAny (model X.prog X.w) X.A (subscriptTail e (.Slice lo hi none p2) v (.ref s3.heap.objs.size)) (EP X pins σ Q) X.xe {s3 with heap:=s3.heap.push {cls:= .type "slice",data:= .fields #[vl,vu,.none]}}
 exact tail_any (ops:=[.ref s3.heap.objs.size,v]) ht hT hg (by with_unfolding_all rfl)
noncomputable def cutV(xs:List V)(lo hi:Option Int):List V:=(xs.drop (HT.sIx xs.length 0 lo)).take (HT.sIx xs.length xs.length hi- HT.sIx xs.length 0 lo)
theorem b1o(xs:List V)(lo hi:Option Int):(cutV xs lo hi).length<=xs.length:=by
 unfold cutV
 rw[List.length_take,List.length_drop]
 omega
end
noncomputable def ixN(n:Nat)(i:Int):Option Nat:=if 0<=i then(if i<n then some i.toNat else none)else if -(n:Int)<=i then some (i+n).toNat else none
noncomputable def atI{α:Type}(xs:List α)(i:Int):Option α:=(ixN xs.length i).bind fun j=>xs[j]?
theorem b53{n:Nat}{i:Int}{j:Nat}(h:ixN n i=some j):seqIndex? i n=some j/\j<n/\ -(n:Int)<=i/\i<n:=by
 unfold ixN at h
 by_cases h0:0<=i
 . rw[if_pos h0]at h
   by_cases h1:i<n
   . rw[if_pos h1]at h
     have e:i.toNat=j:=Option.some.inj h
     exact⟨by rw[seqIndex_of h0 h1,e],by omega,by omega,h1⟩
   . rw[if_neg h1]at h;cases h
 . rw[if_neg h0]at h
   by_cases h1: -(n:Int)<=i
   . rw[if_pos h1]at h
     have e:(i+n).toNat=j:=Option.some.inj h
     exact⟨by rw[seqIndex_neg (by omega) h1,e],by omega,h1,by omega⟩
   . rw[if_neg h1]at h;cases h
theorem b1r{α:Type}{xs:List α}{i:Int}{v:α}(h:atI xs i=some v): ∃j,seqIndex? i xs.length=some j/\xs[j]? =some v/\j<xs.length/\ -(xs.length:Int)<=i/\i<xs.length:=by
 unfold atI at h
 cases e:ixN xs.length i with
 |none=>rw[e]at h;cases h
 |some j=>
   rw[e]at h
   obtain⟨h1,h2,h3,h4⟩:=b53 e
   exact⟨j,h1,h,h2,h3,h4⟩
theorem a3s{α:Type}{xs:List α}{j:Nat}{v:α}(h:xs[j]? =some v):atI xs (j:Int)=some v:=by
 have hj:j<xs.length:=(List.getElem?_eq_some_iff.mp h).1
 have e:ixN xs.length (j:Int)=some j:=by
   unfold ixN
   rw[if_pos (by omega),if_pos (by omega)];simp
 unfold atI;rw[e];exact h
def b62(b:Expr):Prop:= ∀o i,subscripted b false o i=operate [o,i] (getItem o i)
def IxR(X:Cx)(r:R2):Prop:=
 ∀(value slice:Expr) (pins:List (Addr×Obj)) (s:Shared) (σ:St) (H:Hp) (x y:V) (v u:Value) (Q:VK),Inv X pins σ H s->RelV x v->RelV y u->r x y H Q->
   subscripted slice false v u=operate [v,u] (getItem v u)->wpAny (model X.prog X.w) X.A (subscriptTail value slice v u) (EP X pins σ Q) X.xe s
def MtR(X:Cx)(id:String)(r:V->List V->Hp->VK->Prop):Prop:=
 ∀(pins:List (Addr×Obj)) (s:Shared) (σ:St) (H:Hp) (x:V) (xs:List V) (v:Value) (us:List Value) (Q:VK),Inv X pins σ H s->RelV x v->Vals xs us->r x xs H Q->
   wpAny (model X.prog X.w) X.A (call (.builtin id) (v::us)) (EP X pins σ Q) X.xe s
section
variable {X:Cx}{a b:Expr}{ta tb:TE}{pos:Pos}
theorem IxR.or{r r':R2}(h:IxR X r)(h':IxR X r'):IxR X (fun x y H Q=>r x y H Q\/r' x y H Q):=by
 intro value slice pins s σ H x y v u Q I rx ry q hs
 rcases q with q |q
 . exact h value slice pins s σ H x y v u Q I rx ry q hs
 . exact h' value slice pins s σ H x y v u Q I rx ry q hs
theorem pe_ix{r:R2}(hr:IxR X r)(ha:PE X a ta)(hb:PE X b tb)(hs:b62 b):PE X (.Subscript a b pos) (tOp r ta tb):=by
 intro pins s σ H Q I h
 exact Subscript_ (binT ha hb I h fun v u s2 x y H2 I2 rx ry q=>hr a b pins s2 σ H2 x y v u Q I2 rx ry q (hs _ _))
def rIxL(K:PySem.W.Frag):R2:=fun x y H Q=> ∃p xs i v,x= .ref p/\y= .int i/\SqL K H p xs/\atI xs i=some v/\Q v H
def rIxT(K:PySem.W.Frag):R2:=fun x y H Q=> ∃p xs i v,x= .ref p/\y= .int i/\SqT K H p xs/\atI xs i=some v/\Q v H
def rIxS:R2:=fun x y H Q=> ∃z i c,x= .str z/\y= .int i/\z.length<=sizeLine/\atI z.cps.toList i=some c/\Q (.str ⟨#[c]⟩) H
theorem ix_list:IxR X (rIxL X.K):=by
 intro value slice pins s σ H x y v u Q I rx ry h hs
 obtain⟨p,xs,i,z,rfl,rfl,hq,he,q⟩:=h
 cases rx
 obtain⟨t,rfl⟩:=ry
 obtain⟨its,r,pl,hz⟩:=I.list hq
 obtain⟨j,h1,h2,h3,h4,h5⟩:=b1r he
 obtain⟨w,ew,rw'⟩:=r.get h2
 have hl:=r.length
 have hn:=a9y
 have fin:EP X pins σ Q w s:=⟨z,H,I,rw',q⟩
 by_cases h0:0<=i
 . have hj:i.toNat=j:=by
     rw[seqIndex_of h0 h5]at h1
     exact Option.some.inj h1
   exact item_listR pl.isList h0 (by omega) (by rw[hj];simpa using ew) fin hs
 . have hj:(i+(its.toArray.size:Int)).toNat=j:=by
     rw[seqIndex_neg (by omega) h4]at h1
     rw[List.size_toArray,<-hl]
     exact Option.some.inj h1
   exact subscriptTail_builtinR (x:=w) pl.isList.typeIs slot_list_getitem.lookup
     (wpAny_getItem_list_neg (Q:=fun r s'=>r=w/\EP X pins σ Q r s') pl.isList (by omega) (by rw[List.size_toArray]<;>omega) (by omega) (by rw[hj];simpa using ew) ⟨rfl,fin⟩) hs
theorem ix_tup:IxR X (rIxT X.K):=by
 intro value slice pins s σ H x y v u Q I rx ry h hs
 obtain⟨p,xs,i,z,rfl,rfl,hq,he,q⟩:=h
 cases rx
 obtain⟨t,rfl⟩:=ry
 obtain⟨its,r,pl,hz⟩:=I.tuple hq
 obtain⟨j,h1,h2,h3,h4,h5⟩:=b1r he
 obtain⟨w,ew,rw'⟩:=r.get h2
 have hl:=r.length
 have hn:=a9y
 have fin:EP X pins σ Q w s:=⟨z,H,I,rw',q⟩
 exact subscriptTail_builtinR (x:=w) pl.typeIs slot_tuple_getitem.lookup
   (getItem_tuple (j:=j) (Q:=fun r s'=>r=w/\EP X pins σ Q r s') pl (by omega) (by omega) (by rw[List.size_toArray,<-hl];exact h1) (by simpa using ew) ⟨rfl,fin⟩) hs
theorem ix_str:IxR X rIxS:=by
 intro value slice pins s σ H x y v u Q I rx ry h hs
 obtain⟨z,i,c,rfl,rfl,hz,he,q⟩:=h
 obtain⟨t,rfl⟩:=rx
 obtain⟨t',rfl⟩:=ry
 obtain⟨j,h1,h2,h3,h4,h5⟩:=b1r he
 have hl:z.cps.toList.length=z.length:=by simp[Str.length]
 rw[hl]at h1 h4 h5
 have hn:=a9y
 exact tail_any (typeIs_str s z t) slot_str_getitem.lookup (getItem_str (c:=c) (by
   have e1:decide (i< -(2^63:Int))=false:=decide_eq_false (by omega)
   have e2:decide (i>=2^63)=false:=decide_eq_false (by omega)
   rw[e1,e2,Bool.or_false]) (by rw[h1];simpa using h2) ⟨.str ⟨#[c]⟩,H,I.tok _,⟨_,rfl⟩,q⟩) hs
def rIx(K:PySem.W.Frag):R2:=fun x y H Q=>rIxL K x y H Q\/rIxT K x y H Q\/rIxS x y H Q
theorem a0d:IxR X (rIx X.K):=ix_list.or (ix_tup.or ix_str)
theorem b3o(its:List Value)(n j:Nat)(u:Value):Obj.mapSeq (·.setIfInBounds j u) {cls:= .type "list",data:= .seq its.toArray n}={cls:= .type "list",data:= .seq (its.set j u).toArray n}:=by
 simp[Obj.mapSeq]
theorem Inv.lst{pins:List (Addr×Obj)}{σ:St}{H:Hp}{s:Shared}{p:Addr}{xs:List V}(I:Inv X pins σ H s)(h:H p=some (.lst xs)):
   ∃(its:List Value) (n:Nat),Vals xs its/\s.heap.get? p=some {cls:= .type "list",data:= .seq its.toArray n}/\xs.length<=sizeLine:=by
 obtain⟨z,its,n,r,e⟩:=I.hok p _ h
 exact⟨its,n,r,e,z⟩
theorem Inv.lstUpd{pins:List (Addr×Obj)}{σ:St}{H:Hp}{s:Shared}{p:Addr}{xs ys:List V}{its its':List Value}{n n':Nat}{f:Obj->Obj}(I:Inv X pins σ H s)(h:H p=some (.lst xs))
   (ho:s.heap.get? p=some {cls:= .type "list",data:= .seq its.toArray n}) (hf:f {cls:= .type "list",data:= .seq its.toArray n}={cls:= .type "list",data:= .seq its'.toArray n'}) (r:Vals ys its') (hz:ys.length<=sizeLine) (t:Nat):
   Inv X pins σ (upd H p (.lst ys)) {s with heap:=s.heap.update p f,toks:=t}:=by
 have e:(s.heap.update p f).get? p=some {cls:= .type "list",data:= .seq its'.toArray n'}:=by
   rw[Heap.get?_update_self f ho (by rw[hf]<;>rfl),hf]
 refine I.write (x:=p) (e:=p) (by rw[h];trivial) (.inl rfl) (fun b u hb q=>(Heap.get?_update_other _ _ (Ne.symm hb)).trans q) ⟨_,e⟩ ?_
 exact⟨hz,its',n',r,e⟩
def rSetL:V->V->V->Hp->(Hp->Prop)->Prop:=fun o i v H Q=> ∃p xs k j,o= .ref p/\i= .int k/\H p=some (.lst xs)/\ixN xs.length k=some j/\Q (upd H p (.lst (xs.set j v)))
theorem b68:PSet X rSetL:=by
 intro pins s σ H o i v ov iv u Q I ro ri rv h
 obtain⟨p,xs,k,j,rfl,rfl,hp,hj,q⟩:=h
 cases ro
 obtain⟨t,rfl⟩:=ri
 obtain⟨its,n,r,ho,hz⟩:=I.lst hp
 obtain⟨h1,h2,h3,h4⟩:=b53 hj
 have hl:=r.length
 have hn:=a9y
 have I':Inv X pins σ (upd H p (.lst (xs.set j v))) {s with heap:=s.heap.update p (Obj.mapSeq (·.setIfInBounds j u))}:=
   I.lstUpd hp ho (b3o its n j u) (r.set rv j) (by rw[List.length_set];exact hz) s.toks
 by_cases h0:0<=k
 . have hk:k.toNat=j:=by
     rw[seqIndex_of h0 h4]at h1
     exact Option.some.inj h1
   exact PySem.W.ki_setAt ho h0 (by omega) (by rw[List.size_toArray,<-hl];exact h4) (by rw[hk];exact⟨_,I',q⟩)
 . have hk:(k+(its.toArray.size:Int)).toNat=j:=by
     rw[seqIndex_neg (by omega) h3]at h1
     rw[List.size_toArray,<-hl]
     exact Option.some.inj h1
   exact PySem.W.ki_setBack ho (by omega) (by rw[List.size_toArray,<-hl];exact h3) (by omega) (by rw[hk];exact⟨_,I',q⟩)
theorem a9e(lo hi:Option Int)(n:Nat):(sliceBounds lo hi none n).1=((HT.sIx n 0 lo:Nat):Int)/\(sliceBounds lo hi none n).2.1=((HT.sIx n n hi:Nat):Int)/\(sliceBounds lo hi none n).2.2=1:=by
 refine⟨?_,?_,rfl⟩
 . cases lo with
   |none=>simp[sliceBounds,HT.sIx]
   |some i=>
     simp only[sliceBounds,HT.sIx,Option.getD_none,show(1:Int)>0 by decide,if_true]
     by_cases h:i<0
     . simp only[h,if_true]<;>omega
     . simp only[h,if_false]<;>omega
 . cases hi with
   |none=>simp[sliceBounds,HT.sIx]
   |some i=>
     simp only[sliceBounds,HT.sIx,Option.getD_none,show(1:Int)>0 by decide,if_true]
     by_cases h:i<0
     . simp only[h,if_true]<;>omega
     . simp only[h,if_false]<;>omega
theorem a8g(its:List Value)(lo hi:Option Int):slicePick its.toArray lo hi none=((its.drop (HT.sIx its.length 0 lo)).take (HT.sIx its.length its.length hi- HT.sIx its.length 0 lo)).toArray:=by
 obtain⟨h1,h2,h3⟩:=a9e lo hi its.toArray.size
 unfold slicePick
 rw[h1,h2,h3]
 simp only[sliceRange_one,pick_run,List.size_toArray]<;>rfl
def rSlL(K:PySem.W.Frag):V->Option Int->Option Int->Hp->VK->Prop:=fun x lo hi H Q=> ∃a xs,x= .ref a/\SqL K H a xs/\ ∀p,H p=none->Q (.ref p) (upd H p (.lst (cutV xs lo hi)))
theorem sl_list:SlR X (rSlL X.K):=by
 intro pins s σ H x v vl vu lo hi sl Q I rx hs pl pu h
 obtain⟨a,xs,rfl,hx,q⟩:=h
 cases rx
 obtain⟨its,r,ht,hz⟩:=I.list hx
 have hlen:=r.length
 refine⟨"list",_,slot_list_getitem.lookup,ht.isList.typeIs,?_⟩
 refine wpAny_getItem_list_slice ht.isList hs pl pu .none (by simp) ?_ (by rw[List.size_toArray]<;>omega)
 rw[a8g,<-hlen]
 refine⟨.ref s.heap.objs.size,_,I.laid (t':=s.toks) (o:= .lst (cutV xs lo hi)) (fun b ob q=>Heap.get?_push_of_some _ q) (Nat.le_refl _) ?_,rfl,q _ (I.hok.fresh (Nat.le_refl _))⟩
 exact⟨Nat.le_trans (b1o xs lo hi) hz,_,0,(r.drop (HT.sIx xs.length 0 lo)).take (HT.sIx xs.length xs.length hi- HT.sIx xs.length 0 lo),Heap.get?_push_size _ rfl⟩
noncomputable def a53:V->Bool
 | .non=>true
 | .bl _=>true
 | .int _=>true
 | .str _=>true
 |_=>false
noncomputable def eqV:V->V->Bool
 | .non,.non=>true
 | .bl a,.bl b=>a==b
 | .bl a,.int b=>(if a then 1 else 0)==b
 | .int a,.bl b=>a==(if b then 1 else 0)
 | .int a,.int b=>a==b
 | .str a,.str b=>a==b
 |_,_=>false
theorem eqAt_V{A:Around}{s:Shared}{y x:V}{u v:Value}(ry:RelV y u)(rx:RelV x v)(fy:a53 y=true)(fx:a53 x=true):SeqAt.EqAt A s u v (eqV y x):=by
 cases y with
 |non=>
   cases ry
   cases x with
   |non=>cases rx;exact SeqAt.EqAt.same _
   |bl b=>cases rx;exact SeqAt.EqAt.none_bool b
   |int b=>obtain⟨t,rfl⟩:=rx;exact SeqAt.EqAt.none_int b t
   |str b=>obtain⟨t,rfl⟩:=rx;exact SeqAt.EqAt.none_str b t
   |_=>exact absurd (show false=true from fx) Bool.false_ne_true
 |bl a=>
   cases ry
   cases x with
   |non=>cases rx;exact SeqAt.EqAt.bool_none a
   |bl b=>cases rx;exact SeqAt.EqAt.bool_bool a b
   |int b=>obtain⟨t,rfl⟩:=rx;exact SeqAt.EqAt.bool_int a b t
   |str b=>obtain⟨t,rfl⟩:=rx;exact SeqAt.EqAt.bool_str a b t
   |_=>exact absurd (show false=true from fx) Bool.false_ne_true
 |int a=>
   obtain⟨t',rfl⟩:=ry
   cases x with
   |non=>cases rx;exact SeqAt.EqAt.int_none a t'
   |bl b=>cases rx;exact SeqAt.EqAt.int_bool a t' b
   |int b=>obtain⟨t,rfl⟩:=rx;exact SeqAt.EqAt.int_int a t' b t
   |str b=>obtain⟨t,rfl⟩:=rx;exact SeqAt.EqAt.int_str a t' b t
   |_=>exact absurd (show false=true from fx) Bool.false_ne_true
 |str a=>
   obtain⟨t',rfl⟩:=ry
   cases x with
   |non=>cases rx;exact SeqAt.EqAt.str_none a t'
   |bl b=>cases rx;exact SeqAt.EqAt.str_bool a t' b
   |int b=>obtain⟨t,rfl⟩:=rx;exact SeqAt.EqAt.str_int a t' b t
   |str b=>obtain⟨t,rfl⟩:=rx;exact SeqAt.EqAt.str_str a t' b t
   |_=>exact absurd (show false=true from fx) Bool.false_ne_true
 |_=>exact absurd (show false=true from fy) Bool.false_ne_true
noncomputable def eqU(x:V)(u:Value):Bool:=match u with
 | .none=>eqV .non x
 | .bool b=>eqV (.bl b) x
 | .int i _=>eqV (.int i) x
 | .str z _=>eqV (.str z) x
 |_=>false
theorem eqU_of{x y:V}{u:Value}(r:RelV y u)(f:a53 y=true):eqU x u=eqV y x:=by
 cases y with
 |non=>cases r;rfl
 |bl b=>cases r;rfl
 |int i=>obtain⟨t,rfl⟩:=r;rfl
 |str z=>obtain⟨t,rfl⟩:=r;rfl
 |_=>exact absurd (show false=true from f) Bool.false_ne_true
theorem a68{x:V}: ∀{xs:List V}{us:List Value},Vals xs us->xs.all a53=true->us.any (eqU x)=xs.any fun y=>eqV y x
 |_,_,.nil,_=>rfl
 |y::xs,u::us,.cons r t,f=>by
   rw[List.all_cons,Bool.and_eq_true]at f
   rw[List.any_cons,List.any_cons,eqU_of r f.1,a68 t f.2]
theorem a4s{A:Around}{s:Shared}{x:V}{v:Value}(rx:RelV x v)(fx:a53 x=true): ∀{xs:List V}{us:List Value},Vals xs us->xs.all a53=true-> ∀u∈us,SeqAt.EqAt A s u v (eqU x u)
 |_,_,.nil,_=>fun u hu=>by cases hu
 |y::xs,u::us,.cons r t,f=>fun u' hu=>by
   rw[List.all_cons,Bool.and_eq_true]at f
   rcases List.mem_cons.mp hu with rfl |hu
   . rw[eqU_of r f.1];exact eqAt_V r rx f.1 fx
   . exact a4s rx fx t f.2 u' hu
noncomputable def inV(x:V)(xs:List V):Bool:=xs.any fun y=>eqV y x
def rIn(K:PySem.W.Frag)(neg:Bool):R2:=fun x y H Q=> ∃p xs,y= .ref p/\(SqL K H p xs\/SqT K H p xs)/\a53 x=true/\xs.all a53=true/\Q (.bl (if neg then !inV x xs else inV x xs)) H
theorem op_in_seq:OpR X (compareOp .In) (rIn X.K false):=by
 intro pins s σ H x y v u Q I rx ry h
 obtain⟨p,xs,rfl,hq,fx,fs,q⟩:=h
 cases ry
 rcases hq with hq |hq
 . obtain⟨its,r,pl,hz⟩:=I.list hq
   refine SeqAt.in_listAt (eqU x) pl.isList (fun w hw=>a4s rx fx r fs w (by simpa using hw)) ⟨.bl _,H,I,rfl,?_⟩
   rw[show its.toArray.any (eqU x)=its.any (eqU x)by simp,a68 r fs]
   exact q
 . obtain⟨its,r,pl,hz⟩:=I.tuple hq
   refine SeqAt.in_tupleAt (eqU x) pl (fun w hw=>a4s rx fx r fs w (by simpa using hw)) ⟨.bl _,H,I,rfl,?_⟩
   rw[show its.toArray.any (eqU x)=its.any (eqU x)by simp,a68 r fs]
   exact q
theorem op_notIn_seq:OpR X (compareOp .NotIn) (rIn X.K true):=by
 intro pins s σ H x y v u Q I rx ry h
 obtain⟨p,xs,rfl,hq,fx,fs,q⟩:=h
 cases ry
 rcases hq with hq |hq
 . obtain⟨its,r,pl,hz⟩:=I.list hq
   refine SeqAt.notIn_listAt (eqU x) pl.isList (fun w hw=>a4s rx fx r fs w (by simpa using hw)) ⟨.bl _,H,I,rfl,?_⟩
   rw[show its.toArray.any (eqU x)=its.any (eqU x)by simp,a68 r fs]
   exact q
 . obtain⟨its,r,pl,hz⟩:=I.tuple hq
   refine SeqAt.notIn_tupleAt (eqU x) pl (fun w hw=>a4s rx fx r fs w (by simpa using hw)) ⟨.bl _,H,I,rfl,?_⟩
   rw[show its.toArray.any (eqU x)=its.any (eqU x)by simp,a68 r fs]
   exact q
theorem CallR.or{f:Value}{r r':List V->Hp->VK->Prop}(h:CallR X f r)(h':CallR X f r'):CallR X f (fun xs H Q=>r xs H Q\/r' xs H Q):=by
 intro pins s σ H xs us Q I rs q
 rcases q with q |q
 . exact h pins s σ H xs us Q I rs q
 . exact h' pins s σ H xs us Q I rs q
theorem a97:CallR X (.type "list") (fun xs H Q=> ∃p ys,xs=[.ref p]/\(SqL X.K H p ys\/SqT X.K H p ys)/\ ∀l,H l=none->Q (.ref l) (upd H l (.lst ys))):=by
 intro pins s σ H xs us Q I r h
 obtain⟨p,ys,rfl,hq,q⟩:=h
 obtain⟨u,rfl,rx⟩:=b3y r
 cases rx
 have fin: ∀(its:List Value),Vals ys its->ys.length<=sizeLine-> ∀(h':Heap) (c':Nat),(∀b o',s.heap.get? b=some o'->h'.get? b=some o')->
     h'.get? s.heap.objs.size=some {cls:= .type "list",dict:=none,data:= .seq its.toArray c',slots:= #[]}->EP X pins σ Q (.ref s.heap.objs.size) {s with heap:=h'}:=fun its r' hz h' c' kp e=>
   ⟨.ref s.heap.objs.size,_,I.laid (t':=s.toks) kp (Nat.le_refl _) (show ObjOk X.prog X.w _ h' _ (.lst ys)from⟨hz,its,c',r',e⟩),rfl,q _ (I.hok.fresh (Nat.le_refl _))⟩
 rcases hq with hq |hq
 . obtain⟨its,r',pl,hz⟩:=I.list hq
   have hlen:=r'.length
   obtain⟨o,ho,hc,n,hd⟩:=pl.isList
   exact call_list_seq p (.inl rfl) ho hc hd (fun h' c' kp e=>fin its r' hz h' c' kp e) (by simp only[List.size_toArray]<;>omega)
 . obtain⟨its,r',pl,hz⟩:=I.tuple hq
   have hlen:=r'.length
   obtain⟨o,ho,hc,n,hd⟩:=pl
   exact call_list_seq p (.inr rfl) ho hc hd (fun h' c' kp e=>fin its r' hz h' c' kp e) (by simp only[List.size_toArray]<;>omega)
def tyV(K:PySem.W.Frag)(T:String)(x:V)(H:Hp):Prop:=match x with
 | .str _=>T="str"
 | .int _=>T="int"
 | .ref p=>(T="list"/\ ∃xs,SqL K H p xs)\/(T="tuple"/\ ∃o,K.lookup p=some o/\o.cls= .type "tuple"/\o.dict=none)\/
     (T="dict"/\((∃kvs,H p=some (.dK kvs))\/ ∃kvs,H p=some (.dT kvs)))\/(T="set"/\ ∃S n,H p=some (.set S n))
 |_=>False
theorem tyV_is{pins:List (Addr×Obj)}{σ:St}{H:Hp}{s:Shared}{T:String}{x:V}{v:Value}(I:Inv X pins σ H s)(r:RelV x v)(ty:tyV X.K T x H):
   s.TypeIs v T/\ ∀a,v= .ref a-> ∃ob,s.heap.get? a=some ob/\ob.dict=none:=by
 cases x with
 |str z=>
   obtain⟨t,rfl⟩:=r
   cases(show T="str" from ty)
   exact⟨typeIs_str s z t,fun _ e=>nomatch e⟩
 |int i=>
   obtain⟨t,rfl⟩:=r
   cases(show T="int" from ty)
   exact⟨typeIs_int s i t,fun _ e=>nomatch e⟩
 |ref p=>
   cases r
   rcases ty with⟨rfl,xs,hq⟩ | ⟨rfl,o,hk,hc,hd⟩ | ⟨rfl,hk⟩ | ⟨rfl,S,n,hk⟩
   . obtain⟨its,_,pl,_⟩:=I.list hq
     refine⟨pl.isList.typeIs,fun a e=> ?_⟩
     cases e
     obtain⟨o,n,e,c,hd,_⟩:=pl
     exact⟨o,e,hd⟩
   . refine⟨⟨o,I.kIn p o hk,hc⟩,fun a e=> ?_⟩
     cases e
     exact⟨o,I.kIn _ o hk,hd⟩
   . have z: ∃o,s.heap.get? p=some o/\o.ExactDict:=by
       rcases hk with⟨kvs,hk⟩ | ⟨kvs,hk⟩
       . obtain⟨_,_,_,_,o,_,_,e,ex,_⟩:=I.hok p _ hk
         exact⟨o,e,ex⟩
       . obtain⟨_,_,_,_,o,_,_,e,ex,_⟩:=I.hok p _ hk
         exact⟨o,e,ex⟩
     obtain⟨o,e,ex⟩:=z
     refine⟨⟨o,e,ex.1⟩,fun a e2=> ?_⟩
     cases e2
     exact⟨o,e,ex.2.1⟩
   . obtain⟨o,_,_,_,e,ex,_⟩:=I.hok p _ hk
     refine⟨⟨o,e,ex.1⟩,fun a e2=> ?_⟩
     cases e2
     exact⟨o,e,ex.2.1⟩
 |_=>exact False.elim ty
def tBM0(K:PySem.W.Frag)(T:String)(r:V->List V->Hp->VK->Prop)(to:TE):TE:=fun σ H Q=>to σ H fun x H1=>tyV K T x H1/\r x [] H1 Q
def tBM(K:PySem.W.Frag)(T:String)(r:V->List V->Hp->VK->Prop)(to:TE)(t:TA):TE:=fun σ H Q=>to σ H fun x H1=>tyV K T x H1/\t σ H1 fun xs H2=>r x xs H2 Q
variable {o e:Expr}{es:List Expr}{to:TE}{t:TA}{name:Str}{apos cpos:Pos}{T id:String}{r:V->List V->Hp->VK->Prop}
theorem a7v(pa:PlainAttrs T)(slot:Slot T name id)(hty:typeOf (.builtin id)=pure (.type "method_descriptor"))(hm:MtR X id r)(ho:PE X o to)
   (hbase:attributeBase o name X.env (eval o X.env)=eval o X.env:=by rfl) (hline:(apos.endLine==cpos.line)=true:=by rfl):PE X (.Call (.Attribute o name apos) [] [] cpos) (tBM0 X.K T r to):=by
 intro pins s σ H Q I h
 refine wpAny_Call_method0_late hbase hline (thn (ho pins s σ H _ I h) fun v s1 zz9=> ?_)
 obtain⟨x,H1,I1,r1,ty,q1⟩:=zz9
 obtain⟨h1,h2⟩:=tyV_is I1 r1 ty
 exact⟨T,id,pa,slot,hty,h1,h2,Calls.callWith_builtin rfl (PySem.evalArgs_none (hm pins s1 σ H1 x [] v [] Q I1 r1 .nil q1))⟩
theorem pe_bm(pa:PlainAttrs T)(slot:Slot T name id)(hty:typeOf (.builtin id)=pure (.type "method_descriptor"))(hm:MtR X id r)(ho:PE X o to)(ha:PA X (e::es) t)
   (hbase:attributeBase o name X.env (eval o X.env)=eval o X.env:=by rfl)
   (hfew:((backTo cpos (starEach (e::es) X.env)).all (fun x=> !x.1)&&(backToKw cpos (keywordEach [] X.env)).all (fun x=>x.1.isSome)
     &&decide ((e::es).length+([]:List Keyword).length+(if([]:List Keyword).isEmpty then 0 else 1)<30))=true:=by rfl)
   (hline:(apos.endLine==cpos.line)=true:=by rfl) (hs:starEach (e::es) X.env=(false,eval e X.env)::starEach es X.env:=by rfl) (hplain:(backTo cpos (starEach es X.env)).any (·.1)=false:=by rfl):
   PE X (.Call (.Attribute o name apos) (e::es) [] cpos) (tBM X.K T r to t):=by
 intro pins s σ H Q I h
 refine wpAny_Call_method_late hbase hfew hline rfl (thn (ho pins s σ H _ I h) fun v s1 zz9=> ?_)
 obtain⟨x,H1,I1,r1,ty,q1⟩:=zz9
 obtain⟨h1,h2⟩:=tyV_is I1 r1 ty
 refine⟨T,id,pa,slot,hty,h1,h2,?_⟩
 have hA:=ha cpos pins s1 σ H1 _ I1 q1
 rw[hs]at hA |-
 refine Calls.callWith_builtin (by show(false||(backTo cpos (starEach es X.env)).any (·.1))=false;rw[hplain]<;>rfl) (Calls.evalArgs_plain ?_)
 exact thn hA fun us s2 ⟨vs,H2,I2,r2,q2⟩=>hm pins s2 σ H2 x vs v us Q I2 r1 r2 q2
/- xs.append(e), list.index on a module's tuple .. are MtR facts of 06m -/
end
def MtM(X:Cx)(id:String)(r:V->List V->Hp->VK->Prop):Prop:=
 ∀(pins:List (Addr×Obj)) (s:Shared) (σ:St) (H:Hp) (x:V) (xs:List V) (v:Value) (us:List Value) (Q:VK),Inv X pins σ H s->RelV x v->Vals xs us->r x xs H Q->
   wpAny (model X.prog X.w) X.A (call (.builtin id) (v::us)) (EP X pins σ Q) X.xe s
theorem Vals.one: ∀{x:V}{us:List Value},Vals [x] us-> ∃u,us=[u]/\RelV x u
 |_,_,.cons r .nil=>⟨_,rfl,r⟩
theorem Vals.zero: ∀{us:List Value},Vals [] us->us=[]
 |_,.nil=>rfl
theorem Vals.eraseIdx: ∀{xs:List V}{us:List Value} (i:Nat),Vals xs us->Vals (xs.eraseIdx i) (us.eraseIdx i)
 |_,_,_,.nil=> .nil
 |_,_,0,.cons _ t=>t
 |_,_,i+1,.cons r t=> .cons r (Vals.eraseIdx i t)
theorem Vals.reverse{xs:List V}{us:List Value}(h:Vals xs us):Vals xs.reverse us.reverse:=by
 induction h with
 |nil=>exact .nil
 |cons r t ih=>rw[List.reverse_cons,List.reverse_cons];exact Vals.append ih (.cons r .nil)
theorem a9z{α:Type}: ∀(l:List α) (i:Nat),(l.eraseIdx i).length<=l.length
 | [],_=>Nat.le_refl _
 |_::_,0=>Nat.le_succ _
 |_::r,i+1=>Nat.succ_le_succ (a9z r i)
section
variable {X:Cx}{pins:List (Addr×Obj)}{σ:St}{H:Hp}{s:Shared}{l b:Addr}{xs ys zs:List V}
theorem Inv.lset{its its':List Value}{n:Nat}{f:Array Value->Array Value}{t':Nat}(I:Inv X pins σ H s)(hH:H l=some (.lst xs))
   (e:s.heap.get? l=some {cls:= .type "list",data:= .seq its.toArray n}) (hf:f its.toArray=its'.toArray) (hv:Vals ys its') (hz:ys.length<=sizeLine):
   Inv X pins σ (upd H l (.lst ys)) {s with heap:=s.heap.update l (Obj.mapSeq f),toks:=t'}:=by
 have q:=PySem.IsL.update e f
 rw[hf]at q
 refine I.write (x:=l) (e:=l) (by rw[hH];exact trivial) (.inl rfl) (fun b' u hb hu=>(Heap.get?_update_other s.heap (Obj.mapSeq f) (Ne.symm hb)).trans hu) ⟨_,q⟩ ?_
 exact⟨hz,its',_,hv,q⟩
theorem Inv.lnew{its:List Value}{t':Nat}(I:Inv X pins σ H s)(hv:Vals ys its)(hz:ys.length<=sizeLine):
   Inv X pins σ (upd H s.heap.objs.size (.lst ys)) {s with heap:=s.heap.push {cls:= .type "list",data:= .seq its.toArray},toks:=t'}:=
 I.laid (fun _ _ q=>Heap.get?_push_of_some _ q) (Nat.le_refl _) ⟨hz,its,0,hv,Heap.get?_push_size _ rfl⟩
theorem Inv.fresh(I:Inv X pins σ H s):H s.heap.objs.size=none:=I.hok.fresh (Nat.le_refl _)
theorem Inv.lstM(I:Inv X pins σ H s)(hH:H l=some (.lst xs)):xs.length<=sizeLine/\ ∃(its:List Value) (n:Nat),Vals xs its/\xs.length=its.length/\s.heap.get? l=some {cls:= .type "list",data:= .seq its.toArray n}:=by
 obtain⟨z,its,n,r,e⟩:=I.hok l _ hH
 exact⟨z,its,n,r,r.length,e⟩
end
section
variable {X:Cx}
def rAppend:V->List V->Hp->VK->Prop:=fun x vs H Q=> ∃l xs y,x= .ref l/\vs=[y]/\H l=some (.lst xs)/\xs.length<sizeLine/\Q .non (upd H l (.lst (xs++[y])))
theorem a1e:MtM X "list.append" rAppend:=by
 intro pins s σ H x vs v us Q I rx rv h
 obtain⟨l,xs,y,rfl,rfl,hH,hz,q⟩:=h
 cases rx
 obtain⟨u,rfl,ru⟩:=rv.one
 obtain⟨z,its,n,r,hl,e⟩:=I.lstM hH
 refine call_meets F.slot_list_append ⟨_,e,rfl⟩ F.entry_list_append (F.args_list_append_2 _ _) (PySem.list_append l its.toArray n u (by rw[List.size_toArray];omega)) ⟨e,?_⟩
 refine⟨.non,_,I.lset (its':=its++[u]) hH e (by simp) (r.append (.cons ru .nil)) ?_,rfl,q⟩
 rw[List.length_append,List.length_singleton]
 omega
def rPopAt:V->List V->Hp->VK->Prop:=fun x vs H Q=> ∃l xs i k y,x= .ref l/\vs=[.int i]/\H l=some (.lst xs)/\ -(2^63)<=i/\i<2^63/\seqIndex? i xs.length=some k/\xs[k]? =some y/\Q y (upd H l (.lst (xs.eraseIdx k)))
theorem b7y:MtM X "list.pop" rPopAt:=by
 intro pins s σ H x vs v us Q I rx rv h
 obtain⟨l,xs,i,k,y,rfl,rfl,hH,h1,h2,hk,hy,q⟩:=h
 cases rx
 obtain⟨u,rfl,ru⟩:=rv.one
 obtain⟨t,rfl⟩:=ru
 obtain⟨z,its,n,r,hl,e⟩:=I.lstM hH
 obtain⟨w,hw,rw'⟩:=r.get hy
 refine call_meets F.slot_list_pop ⟨_,e,rfl⟩ F.entry_list_pop (F.args_list_pop_2 _ _)
   (MeetsSeq.list_pop_at l its.toArray n i t k w (fitsIndex_both h1 h2) (by rw[List.size_toArray,<-hl];exact hk) (by rw[<-Array.getElem?_toList];exact hw) (by rw[List.size_toArray];omega)) ⟨e,?_⟩
 refine⟨y,_,I.lset (its':=its.eraseIdx k) hH e ?_ (r.eraseIdx k) ?_,rw',q⟩
 . show its.toArray.eraseIdxIfInBounds k=(its.eraseIdx k).toArray
   rw[List.eraseIdxIfInBounds_toArray]
 . have:=a9z xs k
   omega
def rReverse:V->List V->Hp->VK->Prop:=fun x vs H Q=> ∃l xs,x= .ref l/\vs=[]/\H l=some (.lst xs)/\Q .non (upd H l (.lst xs.reverse))
theorem b3n:MtM X "list.reverse" rReverse:=by
 intro pins s σ H x vs v us Q I rx rv h
 obtain⟨l,xs,rfl,rfl,hH,q⟩:=h
 cases rx
 have hus:=rv.zero
 subst hus
 obtain⟨z,its,n,r,hl,e⟩:=I.lstM hH
 refine call_meets F.slot_list_reverse ⟨_,e,rfl⟩ F.entry_list_reverse (F.args_list_reverse_1 _) (AutoSeq1.list_reverse_list_0 l its.toArray n (by rw[List.size_toArray];omega)) ⟨e,?_⟩
 refine⟨.non,_,I.lset (its':=its.reverse) hH e (by simp) r.reverse ?_,rfl,q⟩
 rw[List.length_reverse]
 omega
def rCat:R2:=fun x y H Q=> ∃l b xs zs,x= .ref l/\y= .ref b/\H l=some (.lst xs)/\H b=some (.lst zs)/\xs.length+zs.length<=sizeLine/\ ∀p,H p=none->Q (.ref p) (upd H p (.lst (xs++zs)))
theorem op_cat:OpR X (binaryOp .Add) rCat:=by
 intro pins s σ H x y v u Q I rx ry h
 obtain⟨l,b,xs,zs,rfl,rfl,hH,hB,hz,q⟩:=h
 cases rx
 cases ry
 obtain⟨z,its,n,r,hl,e⟩:=I.lstM hH
 obtain⟨z2,its2,n2,r2,hl2,e2⟩:=I.lstM hB
 refine PySem.P.add_list e e2 ?_ (by rw[List.size_toArray,List.size_toArray];omega)
 have ea:its.toArray++its2.toArray=(its++its2).toArray:=by simp
 rw[ea]
 exact⟨.ref _,_,I.lnew (t':=s.toks) (r.append r2) (by rw[List.length_append];omega),rfl,q _ I.fresh⟩
end
section
variable {prog:Program}{w:World}{A:Around}{E:Value->Shared->Prop}{s:Shared}
set_option maxRecDepth 100000 in
end
section
variable {X:Cx}
end
end L2
namespace Att
open PySem PySem.W PySem.Calls PyProof.Rows
theorem a6z{P:Params}{h:Heap}: ∀(ns:List Int) (vs:List Value),WellAll P h vs (ns.map WData.int)->IntsAre vs ns:=by
 intro ns
 induction ns with
 |nil=>
   intro vs w
   rw[List.map_nil]at w
   cases w
   exact .nil
 |cons n ns ih=>
   intro vs w
   rw[List.map_cons]at w
   cases w with
   |cons a b=>
     cases a
     exact .cons _ _ (ih _ b)
theorem script_of{l:OpenLaw}{n:Nat}(hn:l.most=some n){P:Params}{h:Heap}{args:List WData}{vals:List Value}
   (hpre:l.row.toRowW.claim.pre args=true) (hwl:WellAll P h vals args):
   ∃a vs ns,vals=[Value.ref a]/\args=[WData.list (ns.map WData.int)]/\h.get? a=some {cls:= .type "list",data:= .seq vs.toArray}/\IntsAre vs ns/\ns.length<=n:=by
 have hsh:WShape.hasAll [] args [.list .int]=true:=(pre_splitW hpre).1
 have hc:l.pre.holds [] {args:=args}=true:=(pre_splitW hpre).2
 obtain⟨d,r,rfl,h1,h2⟩:=hasAllW_cons hsh
 obtain rfl:=hasAllW_nil h2
 obtain⟨xs,rfl,h3⟩:=hasW_list h1
 obtain⟨ns,rfl⟩:=items_int h3
 have hlen:ns.length<=n:=by
   unfold OpenLaw.pre at hc
   have h4:(WTm.not (.lt (.lit (.int (n:Int))) (.len (.arg 0)))).holds [] {args:=[.list (ns.map .int)]}=true:=by
     have h4:=(holds_andW hc).1
     rw[hn]at h4
     exact h4
   have h5:=condW_of h4 (w_not (w_lt w_lit (w_len_list (w_arg rfl))))
   rw[List.length_map]at h5
   refine Nat.le_of_not_lt fun q=> ?_
   have q':(n:Int)< ((ns.length:Nat):Int):=by omega
   first
     | (rw[decide_eq_true q']at h5;exact absurd h5 (by decide))
     | (simp at h5;omega)
 cases hwl with
 |cons w1 w2=>
   cases w2
   cases w1 with
   |list ho hall=>exact⟨_,_,ns,rfl,rfl,ho,a6z ns _ hall,hlen⟩
theorem post_true(l:OpenLaw)(args:List WData):l.row.toRowW.claim.post args (.bool true) args=true:=
 postW_of (r:=l.row.toRowW) (X:=(true==true))
   (show WShape.has [] (.bool true) .bool=true by first |rfl |decide |simp[WShape.has,WShape.arms,WShape.armsAll])
   (show(WTm.eq .res (.lit (.bool true))).value [] {args:=args,res:=some (.bool true),after:=args}=some (.bool (true==true))from w_eq_bool (w_res rfl) w_lit) rfl
section
variable {prog:Program}{w:World}{A:Around}{E:Value->Shared->Prop}{s:Shared}{K:Frag}
end
end Att
namespace L2
open PySem PySem.Spec PyProof.Rows
theorem a9a: ∀{vs:List Value}{ns:List Int},IntsAre vs ns->Vals (ns.map V.int) vs
 |_,_,.nil=> .nil
 |_,_,.cons n t h=> .cons ⟨t,rfl⟩ (a9a h)
def Only(H:Hp):Prop:= ∀b,H b=none\/ ∃o xs,H b=some (.frz o (.lst xs))
end L2
/- THE LAST THEOREM (shape; LID, My.* are yours):
  My.Adr:a structure of the addresses that your layer names (classes,functions);My.Txt K t:a structure (Prop) of the equations over K;
  My.txt_mk:{K}{implicit addresses ..} (e1:nsIn K mainGlobals "law"=some (some (.ref f))) (e2:K.lookup f=some ⟨oc,od,.func (fnOf "law" "law" params body scope dV kV doc pm an cdv ct),sl⟩) (e3:codeIn K cdv "law"=true) .. : ∃t,My.Txt K t
set_option maxRecDepth 100000 in
(the tactic k_is has no namespace:write k_is)-/
namespace L2
open PySem PySem.Spec PyProof.Rows
noncomputable def a5k(s:Stmt)(j:Nat):Stmt:=match s with
 | .ClassDef _ _ _ body _ _ _ _ _ _ _=>body.getD j (.Pass ⟨0,0,0,0⟩)
 |_=> .Pass ⟨0,0,0,0⟩
noncomputable def a09(s:Stmt):Arguments:=match s with
 | .FunctionDef _ a _ _ _ _ _ _ _ _=>a
 |_=>{posonlyargs:=[],args:=[],vararg:=none,kwonlyargs:=[],kw_defaults:=[],kwarg:=none,defaults:=[]}
noncomputable def a02(s:Stmt):List Stmt:=match s with
 | .FunctionDef _ _ b _ _ _ _ _ _ _=>b
 |_=>[]
noncomputable def a0f(s:Stmt):Scope:=match s with
 | .FunctionDef _ _ _ _ _ _ sc _ _ _=>sc
 |_=>{kind:= .function,names:=[],isGenerator:=false,isCoroutine:=false}
noncomputable abbrev CX0:CXT:=fun _ _ _ _ _ _=>False
abbrev E0:XK:=fun _ _ _=>False
structure Fun(K:PySem.W.Frag)(x qual:Str)(st:Stmt)(f:Addr)(fd:FuncData):Prop where
 ex: ∃(oc:Value) (od:Option Addr) (kV doc pm:Value) (an:Option Addr) (cdv ct:Value) (osl:Array (Option Value)),
   fd=PySem.W.fnOf x qual (a09 st) (a02 st) (a0f st) .none kV doc pm an cdv ct/\K.lookup f=some ⟨oc,od,.func fd,osl⟩/\PySem.W.codeIn K cdv qual=true
 kp:PySem.W.keepIn K (.ref f)=true
section
variable {P:Program}{w:World}{K:PySem.W.Frag}{mg:Str->Option Value}{base:Heap}
theorem Fun.binds{x qual:Str}{st:Stmt}{f:Addr}{fd:FuncData}{ps:List Str}(F:Fun K x qual st f fd)
   (h: ∀(kV doc pm:Value) (an:Option Addr) (cdv ct:Value) (us:List Value),us.length=ps.length->bindArgs (PySem.W.fnOf x qual (a09 st) (a02 st) (a0f st) .none kV doc pm an cdv ct) ⟨us,[]⟩=pure (ps.zip us)):Binds K fd ps []:=by
 obtain⟨oc,od,kV,doc,pm,an,cdv,ct,osl,rfl,lk,hcd⟩:=F.ex
 exact .all (h kV doc pm an cdv ct)
theorem a5x{x qual:Str}{st:Stmt}{f:Addr}{oc:Value}{od an:Option Addr}{osl:Array (Option Value)}{kV doc pm cdv ct:Value}(l:K.lookup f=some ⟨oc,od,.func (PySem.W.fnOf x qual (a09 st) (a02 st) (a0f st) .none kV doc pm an cdv ct),osl⟩)
   (c:PySem.W.codeIn K cdv qual=true) (k:PySem.W.keepIn K (.ref f)=true):Fun K x qual st f (PySem.W.fnOf x qual (a09 st) (a02 st) (a0f st) .none kV doc pm an cdv ct):=⟨⟨oc,od,kV,doc,pm,an,cdv,ct,osl,rfl,l,c⟩,k⟩
end
theorem hu_of{A:Around}{k:Nat}(hr:Room k A):A.units+1<cLine:=Nat.lt_of_le_of_lt (Nat.add_le_add_left (by decide:1<=64) _) hr.units
theorem a4j{n:Nat}(h:n<=1000):n<sizeLine:=Nat.lt_of_le_of_lt h (by decide)
section
variable {X:Cx}
theorem pv(i:Nat){x:Str}{pos:Pos}(hN:X.N[i]? =some x:=by rfl)(hv:Vis X.env.scope x:=by first |exact Or.inl rfl |exact Or.inr (Or.inl rfl) |exact Or.inr (Or.inr rfl))(hd:(x==("__debug__":Str))=false:=by decide)
   (hcd:(x==("__classdict__":Str))=false:=by decide):PE X (.Name x pos) (tVar i):=pe_var hN hv hd hcd
end
theorem ite2{c A B:Prop}[Decidable c](h1:c->A)(h2: ¬ c->B):if c then A else B:=by
 by_cases h:c
 . rw[if_pos h]
   exact h1 h
 . rw[if_neg h]
   exact h2 h
def Same(H H':Hp):Prop:= ∀b o,H b=some o->H' b=some o
theorem Same.refl(H:Hp):Same H H:=fun _ _ h=>h
theorem Same.trans{H H1 H2:Hp}(a:Same H H1)(b:Same H1 H2):Same H H2:=fun c o h=>b c o (a c o h)
theorem Same.free{H H':Hp}(e:Same H H'){l:Addr}(h:H' l=Option.none):H l=Option.none:=by
 cases q:H l with
 |none=>rfl
 |some o=>
   rw[e l o q]at h
   cases h
theorem Same.seq{K:PySem.W.Frag}{H H':Hp}{a:Addr}{xs:List V}(e:Same H H')(h:SqL K H a xs):SqL K H' a xs:=by
 rcases h with(h | ⟨o,h⟩) |h
 . exact .inl (.inl (e _ _ h))
 . exact .inl (.inr ⟨o,e _ _ h⟩)
 . exact .inr h
section
variable {κ:Type}[DecidableEq κ]
noncomputable def valV(kvs:List (κ×V))(k:κ):Option V:=(kvs.find? fun kv=>decide (kv.1=k)).map (·.2)
noncomputable def putK(kvs:List (κ×V))(k:κ)(v:V):List (κ×V):=
 if(kvs.any fun kv=>decide (kv.1=k))=true then kvs.map (fun kv=>if kv.1=k then(kv.1,v)else kv)else kvs++[(k,v)]
noncomputable def dropK(kvs:List (κ×V))(k:κ):List (κ×V):=kvs.filter fun kv=>decide (kv.1≠k)
theorem a56{p:κ×V}{r:List (κ×V)}{k:κ}(e:p.1=k):valV (p::r) k=some p.2:=by simp[valV,List.find?_cons,e]
theorem a57{p:κ×V}{r:List (κ×V)}{k:κ}(e: ¬ p.1=k):valV (p::r) k=valV r k:=by simp[valV,List.find?_cons,e]
theorem a77(k:κ): ∀kvs:List (κ×V),(kvs.any fun kv=>decide (kv.1=k))=(valV kvs k).isSome
 | []=>rfl
 |p::r=>by
   rw[List.any_cons]
   by_cases e:p.1=k
   . simp only[a56 e,decide_eq_true e,Bool.true_or,Option.isSome_some]
   . rw[a57 e,decide_eq_false e,Bool.false_or];exact a77 k r
theorem a4d(kvs:List (κ×V))(k:κ)(v:V):(putK kvs k v).length<=kvs.length+1:=by
 unfold putK
 split
 . rw[List.length_map];omega
 . rw[List.length_append,List.length_cons,List.length_nil];omega
theorem RelO.isSome_eq{o:Option V}{u:Option Value}(r:RelO o u):o.isSome=u.isSome:=by
 cases o with
 |none=>cases u with
   |none=>rfl
   |some _=>exact(show False from r).elim
 |some _=>cases u with
   |none=>exact(show False from r).elim
   |some _=>rfl
theorem RelO.getD{o:Option V}{u:Option Value}{d:V}{d':Value}(r:RelO o u)(rd:RelV d d'):RelV (o.getD d) (u.getD d'):=by
 cases o with
 |none=>cases u with
   |none=>exact rd
   |some _=>exact(show False from r).elim
 |some _=>cases u with
   |none=>exact(show False from r).elim
   |some _=>exact r
theorem KV.val{kvs:List (κ×V)}{vs:List (κ×Value)}(r:KV kvs vs)(k:κ):RelO (valV kvs k) (valueAt vs k):=by
 unfold KV at r
 induction r with
 |nil=>exact True.intro
 | @cons p q ps qs h t ih=>
   obtain⟨h1,h2⟩:=h
   by_cases e:p.1=k
   . have e':q.1=k:=h1.symm.trans e
     have b:valueAt (q::qs) k=some q.2:=by simp[valueAt,List.find?_cons,e']
     rw[a56 e,b];exact h2
   . have e': ¬ q.1=k:=fun z=>e (h1.trans z)
     have b:valueAt (q::qs) k=valueAt qs k:=by simp[valueAt,List.find?_cons,e']
     rw[a57 e,b];exact ih
theorem KV.any{kvs:List (κ×V)}{vs:List (κ×Value)}(r:KV kvs vs)(k:κ):(kvs.any fun kv=>decide (kv.1=k))=vs.any fun kv=>decide (kv.1=k):=by
 unfold KV at r
 induction r with
 |nil=>rfl
 |cons h t ih=>rw[List.any_cons,List.any_cons,ih,h.1]
theorem KV.repl{kvs:List (κ×V)}{vs:List (κ×Value)}(r:KV kvs vs)(k:κ){y:V}{u:Value}(ry:RelV y u):
   KV (kvs.map fun kv=>if kv.1=k then(kv.1,y)else kv) (vs.map fun kv=>if kv.1=k then(kv.1,u)else kv):=by
 unfold KV at r |-
 induction r with
 |nil=>exact .nil
 | @cons p q ps qs h t ih=>
   rw[List.map_cons,List.map_cons]
   refine .cons ?_ ih
   obtain⟨h1,h2⟩:=h
   by_cases e:p.1=k
   . rw[if_pos e,if_pos (h1.symm.trans e)];exact⟨h1,ry⟩
   . rw[if_neg e,if_neg (fun z=>e (h1.trans z))];exact⟨h1,h2⟩
theorem KV.put{kvs:List (κ×V)}{vs:List (κ×Value)}(r:KV kvs vs)(k:κ){y:V}{u:Value}(ry:RelV y u):KV (putK kvs k y) (stored vs k u):=by
 unfold putK stored
 rw[r.any k]
 by_cases e:(vs.any fun kv=>decide (kv.1=k))=true
 . rw[if_pos e,if_pos e];exact r.repl k ry
 . rw[if_neg e,if_neg e];exact Paired.snoc r ⟨rfl,ry⟩
theorem KV.drop{kvs:List (κ×V)}{vs:List (κ×Value)}(r:KV kvs vs)(k:κ):KV (dropK kvs k) (without vs k):=by
 unfold KV at r |-
 unfold dropK without
 induction r with
 |nil=>exact .nil
 | @cons p q ps qs h t ih=>
   obtain⟨h1,h2⟩:=h
   rw[List.filter_cons,List.filter_cons]
   by_cases e:p.1=k
   . have a: ¬ decide (p.1≠k)=true:=by simp[e]
     have b: ¬ decide (q.1≠k)=true:=by simp[h1.symm.trans e]
     rw[if_neg a,if_neg b];exact ih
   . have e': ¬ q.1=k:=fun z=>e (h1.trans z)
     have a:decide (p.1≠k)=true:=by simp[e]
     have b:decide (q.1≠k)=true:=by simp[e']
     rw[if_pos a,if_pos b];exact .cons ⟨h1,h2⟩ ih
theorem KV.length{kvs:List (κ×V)}{vs:List (κ×Value)}(r:KV kvs vs):kvs.length=vs.length:=Paired.length r
theorem b8e(kvs:List (κ×V))(k:κ):(dropK kvs k).length<=kvs.length:=List.length_filter_le _ _
end
theorem a80{P:Program}{w:World}{k:Key}{u:Value}(r:RelV (kV k) u):(a0z P w).is k u=true:=by
 cases k with
 |inl i=>obtain⟨t,e⟩:=(show ∃t,u=Value.int i t from r);subst e;exact b03 P w i t
 |inr x=>obtain⟨t,e⟩:=(show ∃t,u=Value.str x t from r);subst e;exact b02 P w x t
theorem a94{P:Program}{w:World}: ∀{ks:List Key}{us:List Value},Vals (ks.map kV) us->ItemsAre (a0z P w) ks us
 | [],_,r=>by rw[List.map_nil]at r;cases r;exact .nil
 |k::ks,_,r=>by
   rw[List.map_cons]at r
   cases r with
   |cons h t=>exact .cons (a80 h) (a94 t)
abbrev KT(H:Hp):List (List Key×V)->List (List Key×Addr×Value)->Prop:=Paired fun p q=>p.1=q.1/\H q.2.1=some (.tup (p.1.map kV))/\RelV p.2 q.2.2
theorem KT.val{H:Hp}{kvs:List (List Key×V)}{xs:List (List Key×Addr×Value)}(r:KT H kvs xs)(k:List Key):RelO (valV kvs k) ((atKey xs k).map (·.2)):=by
 induction r with
 |nil=>exact True.intro
 | @cons p q ps qs h t ih=>
   obtain⟨h1,_,h2⟩:=h
   by_cases e:p.1=k
   . have e':q.1=k:=h1.symm.trans e
     have b:atKey (q::qs) k=some q.2:=by simp[atKey,List.find?_cons,e']
     rw[a56 e,b];exact h2
   . have e': ¬ q.1=k:=fun z=>e (h1.trans z)
     have b:atKey (q::qs) k=atKey qs k:=by simp[atKey,List.find?_cons,e']
     rw[a57 e,b];exact ih
theorem KT.repl{H:Hp}{kvs:List (List Key×V)}{xs:List (List Key×Addr×Value)}(r:KT H kvs xs)(k:List Key){y:V}{u:Value}(ry:RelV y u):
   KT H (kvs.map fun kv=>if kv.1=k then(kv.1,y)else kv) (xs.map (putAt k u)):=by
 induction r with
 |nil=>exact .nil
 | @cons p q ps qs h t ih=>
   rw[List.map_cons,List.map_cons]
   refine .cons ?_ ih
   obtain⟨h1,h2,h3⟩:=h
   unfold putAt
   by_cases e:p.1=k
   . rw[if_pos e,if_pos (h1.symm.trans e)];exact⟨h1,h2,ry⟩
   . rw[if_neg e,if_neg (fun z=>e (h1.trans z))];exact⟨h1,h2,h3⟩
theorem KT.put{H:Hp}{kvs:List (List Key×V)}{xs:List (List Key×Addr×Value)}(r:KT H kvs xs)(k:List Key){b:Addr}{y:V}{u:Value}(hb:H b=some (.tup (k.map kV)))(ry:RelV y u):
   KT H (putK kvs k y) (storedH xs k b u):=by
 have e:(kvs.any fun kv=>decide (kv.1=k))=(atKey xs k).isSome:=by
   rw[a77,(r.val k).isSome_eq,Option.isSome_map]
 unfold putK storedH
 rw[e]
 by_cases q:(atKey xs k).isSome=true
 . rw[if_pos q,if_pos q];exact r.repl k ry
 . rw[if_neg q,if_neg q];exact Paired.snoc r ⟨rfl,hb,ry⟩
theorem KT.keeps{H H':Hp}{kvs:List (List Key×V)}{xs:List (List Key×Addr×Value)}(r:KT H kvs xs)(ht: ∀b ys,H b=some (.tup ys)->H' b=some (.tup ys)):KT H' kvs xs:=
 Paired.mapP r fun _ _ z=>⟨z.1,ht _ _ z.2.1,z.2.2⟩
section
variable {P:Program}{w:World}{H:Hp}{h:Heap}{a:Addr}
theorem rd_of{u:HO}(ok:HOk P w H h)(e:Rd H a u):ObjOk P w H h a u:=e.ok ok
theorem a40{kvs:List (Key×V)}(ok:HOk P w H h)(e:Rd H a (.dK kvs)):kvs.length<=sizeLine/\(a==sysModules)=false/\ ∃vs,KV kvs vs/\h.DictOf (a0z P w) a vs:=
 show ObjOk P w H h a (.dK kvs)from rd_of ok e
theorem b6o{kvs:List (Key×V)}(ok:HOk P w H h)(e:H a=some (.dK kvs)):kvs.length<=sizeLine/\(a==sysModules)=false/\ ∃vs,KV kvs vs/\h.DictOf (a0z P w) a vs:=a40 ok (.inl e)
theorem a71{ks:List Key}(ok:HOk P w H h)(e:H a=some (.tup (ks.map kV))):(tupleKind (a0z P w)).is h ks a:=by
 obtain⟨_,its,r,o,h1,h2,n,h3⟩:=(show ObjOk P w H h a (.tup (ks.map kV))from ok a _ e)
 exact⟨o,its.toArray,n,h1,h2,h3,by simpa using a94 r⟩
theorem b1k{kvs:List (List Key×V)}(ok:HOk P w H h)(e:Rd H a (.dT kvs)):kvs.length<=sizeLine/\(a==sysModules)=false/\
   ∃xs,KT H kvs xs/\h.DictOfH (tupleKind (a0z P w)) a xs:=by
 obtain⟨z,y,xs,r,o,es,ep,h1,h2,h3,h4,h5⟩:=(show ObjOk P w H h a (.dT kvs)from rd_of ok e)
 refine⟨z,y,xs,r,o,es,ep,h1,h2,h3,h4,fun x hx=> ?_,h5⟩
 have all: ∀{l:List (List Key×V)}{m:List (List Key×Addr×Value)},KT H l m-> ∀x∈m,(tupleKind (a0z P w)).is h x.1 x.2.1:=by
   intro l m q
   induction q with
   |nil=>intro x hx;exact nomatch hx
   | @cons p q ps qs hq t ih=>
     intro x hx
     rcases List.mem_cons.mp hx with e |hx
     . subst e
       exact a71 ok (by rw[<-hq.1];exact hq.2.1)
     . exact ih x hx
 exact all r x hx
theorem dt_of{kvs:List (List Key×V)}(ok:HOk P w H h)(e:H a=some (.dT kvs)):kvs.length<=sizeLine/\(a==sysModules)=false/\
   ∃xs,KT H kvs xs/\h.DictOfH (tupleKind (a0z P w)) a xs:=b1k ok (.inl e)
end
def DGet(H:Hp)(a:Addr)(y:V)(r:Option V):Prop:=
 (∃kvs k,Rd H a (.dK kvs)/\y=kV k/\r=valV kvs k)\/ ∃kvs k b,Rd H a (.dT kvs)/\y= .ref b/\H b=some (.tup (k.map kV))/\r=valV kvs k
def DPut(H:Hp)(a:Addr)(y v:V)(H':Hp):Prop:=
 (∃kvs k,H a=some (.dK kvs)/\y=kV k/\kvs.length<sizeLine/\H'=upd H a (.dK (putK kvs k v)))\/
 ∃kvs k b,H a=some (.dT kvs)/\y= .ref b/\H b=some (.tup (k.map kV))/\kvs.length<sizeLine/\H'=upd H a (.dT (putK kvs k v))
theorem DGet.k{H:Hp}{a:Addr}{kvs:List (Key×V)}{k:Key}(e:H a=some (.dK kvs)):DGet H a (kV k) (valV kvs k):= .inl ⟨kvs,k,.inl e,rfl,rfl⟩
theorem DPut.k{H:Hp}{a:Addr}{kvs:List (Key×V)}{k:Key}{v:V}(e:H a=some (.dK kvs))(hl:kvs.length<sizeLine):DPut H a (kV k) v (upd H a (.dK (putK kvs k v))):= .inl ⟨kvs,k,e,rfl,hl,rfl⟩
section
variable {X:Cx}{pins:List (Addr×Obj)}{σ:St}{H:Hp}{s:Shared}{a:Addr}{y v:V}{u r:Value}{o:Option V}{A:Around}{E:Value->Shared->Prop}
theorem Inv.big(I:Inv X pins σ H s):sysModules<s.heap.objs.size:=by
 have h:mainGlobals<s.heap.objs.size:=(I.mod.glob.keeps I.bk).lt
 exact Nat.lt_trans (by decide) h
theorem b6s{Q:Value->Shared->Prop}(hu:A.units+1<cLine)(I:Inv X pins σ H s)(g:DGet H a y (some v))(ry:RelV y u)(h: ∀w' s',Inv X pins σ H s'->RelV v w'->Q w' s'):
   wpAny (model X.prog X.w) A (getItem (.ref a) u) Q E s:=by
 rcases g with⟨kvs,k,e,ey,l⟩ | ⟨kvs,k,b,e,ey,eb,l⟩
 . subst ey
   obtain⟨z,hd,vs,rel,dd⟩:=a40 I.hok e
   obtain⟨w',hw,rw'⟩:=RelO.some_of (v:=v) (o:=valueAt vs k) (by rw[l];exact rel.val k)
   exact wpAny_getItem_of (a80 ry) dd.mapOf hw (h w' _ (I.tok _) rw')
 . subst ey
   cases(show u=Value.ref b from ry)
   obtain⟨z,hd,xs,rel,dd⟩:=b1k I.hok e
   obtain⟨w',hw,rw'⟩:=RelO.some_of (v:=v) (o:=(atKey xs k).map (·.2)) (by rw[l];exact rel.val k)
   obtain⟨p,hp,hp2⟩:=Option.map_eq_some_iff.mp hw
   refine wpAny_getItem_heap (tupleKind_room_in1 hu) (a71 I.hok eb) dd hp ?_
   rw[hp2]
   exact h w' _ (I.tok _) rw'
theorem d_in{Q:Value->Shared->Prop}(hu:A.units+1<cLine)(I:Inv X pins σ H s)(g:DGet H a y o)(ry:RelV y u)(h: ∀s',Inv X pins σ H s'->Q (.bool o.isSome) s'):
   wpAny (model X.prog X.w) A (compareOp .In u (.ref a)) Q E s:=by
 rcases g with⟨kvs,k,e,ey,l⟩ | ⟨kvs,k,b,e,ey,eb,l⟩
 . subst ey
   obtain⟨z,hd,vs,rel,dd⟩:=a40 I.hok e
   refine wpAny_in_of (a80 ry) hd dd.mapOf ?_
   rw[<-(rel.val k).isSome_eq,<-l]
   exact h _ (I.tok _)
 . subst ey
   cases(show u=Value.ref b from ry)
   obtain⟨z,hd,xs,rel,dd⟩:=b1k I.hok e
   refine wpAny_in_heap (tupleKind_room_in1 hu) (a71 I.hok eb) hd dd ?_
   have q:=(rel.val k).isSome_eq
   rw[Option.isSome_map]at q
   rw[<-q,<-l]
   exact h _ (I.tok _)
theorem d_notIn{Q:Value->Shared->Prop}(hu:A.units+1<cLine)(I:Inv X pins σ H s)(g:DGet H a y o)(ry:RelV y u)(h: ∀s',Inv X pins σ H s'->Q (.bool (!o.isSome)) s'):
   wpAny (model X.prog X.w) A (compareOp .NotIn u (.ref a)) Q E s:=by
 rcases g with⟨kvs,k,e,ey,l⟩ | ⟨kvs,k,b,e,ey,eb,l⟩
 . subst ey
   obtain⟨z,hd,vs,rel,dd⟩:=a40 I.hok e
   refine wpAny_notIn_of (a80 ry) hd dd.mapOf ?_
   rw[<-(rel.val k).isSome_eq,<-l]
   exact h _ (I.tok _)
 . subst ey
   cases(show u=Value.ref b from ry)
   obtain⟨z,hd,xs,rel,dd⟩:=b1k I.hok e
   refine wpAny_notIn_heap (tupleKind_room_in1 hu) (a71 I.hok eb) hd dd ?_
   have q:=(rel.val k).isSome_eq
   rw[Option.isSome_map]at q
   rw[<-q,<-l]
   exact h _ (I.tok _)
theorem a85{h':Heap}{t':Nat}{ob:HO}(I:Inv X pins σ H s)(mu:Mut (H a))(hs:Heap.SameBut a s.heap h')(he: ∃q,h'.get? a=some q)(new:ObjOk X.prog X.w (upd H a ob) h' a ob):
   Inv X pins σ (upd H a ob) {s with heap:=h',toks:=t'}:=
 I.write (x:=a) (e:=a) mu (.inl rfl) (fun b q hb z=>(hs.2 b hb).trans z) he new
theorem b2y{P:Program}{w:World}{H':Hp}{h':Heap}{kvs:List (Key×V)}{vs:List (Key×Value)}(z:kvs.length<=sizeLine)(hd:(a==sysModules)=false)(rel:KV kvs vs)(dd:h'.DictOf (a0z P w) a vs):
   ObjOk P w H' h' a (.dK kvs):=⟨z,hd,vs,rel,dd⟩
theorem b6r{H':Hp}{Q:Unit->Shared->Prop}(hu:A.units+1<cLine)(I:Inv X pins σ H s)(g:DPut H a y v H')(ry:RelV y u)(rv:RelV v r)(h: ∀s',Inv X pins σ H' s'->Q () s'):
   wpAny (model X.prog X.w) A (setItem (.ref a) u r) Q E s:=by
 rcases g with⟨kvs,k,e,ey,l,eH⟩ | ⟨kvs,k,b,e,ey,eb,l,eH⟩
 . subst ey eH
   obtain⟨z,hd,vs,rel,dd⟩:=b6o I.hok e
   have hz:vs.length<=sizeLine:=by rw[<-rel.length];exact z
   have hl:(putK kvs k v).length<=sizeLine:=by have:=a4d kvs k v;omega
   refine wpAny_setItem_pairs (hsz:=hz) (a80 ry) dd fun h' dd' hs=>h _ ?_
   have he: ∃q,h'.get? a=some q:=let ⟨q,_,_,hq,_⟩:=dd';⟨q,hq⟩
   exact a85 I (by rw[e];exact True.intro) hs he (b2y hl hd (rel.put k rv) dd')
 . subst ey eH
   cases(show u=Value.ref b from ry)
   obtain⟨z,hd,xs,rel,dd⟩:=dt_of I.hok e
   have hz:xs.length<=sizeLine:=by rw[<-Paired.length rel];exact z
   have hl:(putK kvs k v).length<=sizeLine:=by have:=a4d kvs k v;omega
   refine wpAny_setItem_heap (hsz:=hz) (tupleKind_room_in1 hu) (a71 I.hok eb) dd fun h' dd' hs=>h _ ?_
   obtain⟨q,es,ep,hq,h2,h3,h4,_,h5⟩:=dd'
   refine a85 I (by rw[e];exact True.intro) hs ⟨q,hq⟩ ⟨hl,hd,_,(rel.put k eb rv).keeps fun c ys ec=> ?_,q,es,ep,hq,h2,h3,h4,h5⟩
   rw[a0p (a4c ec e (fun z=>nomatch z))]
   exact ec
end
section
variable {X:Cx}{pins:List (Addr×Obj)}{σ:St}{H:Hp}{s:Shared}{a:Addr}{kvs:List (Key×V)}{k:Key}{u:Value}{A:Around}{E:Value->Shared->Prop}
theorem d_pop{v:V}{more:List Value}{Q:Value->Shared->Prop}(I:Inv X pins σ H s)(e:H a=some (.dK kvs))(ry:RelV (kV k) u)(l:valV kvs k=some v)(hm:more=[]\/ ∃x,more=[x])
   (h: ∀w' s',Inv X pins σ (upd H a (.dK (dropK kvs k))) s'->RelV v w'->Q w' s'):wpAny (model X.prog X.w) A (call (.builtin "dict.pop") (.ref a::u::more)) Q E s:=by
 obtain⟨z,hd,vs,rel,dd⟩:=b6o I.hok e
 obtain⟨w',hw,rw'⟩:=RelO.some_of (v:=v) (o:=valueAt vs k) (by rw[<-l];exact rel.val k)
 have hp:(keyPart u).isSome=true:=by
   cases k with
   |inl i=>obtain⟨t,q⟩:=(show ∃t,u=Value.int i t from ry);subst q;rfl
   |inr x=>obtain⟨t,q⟩:=(show ∃t,u=Value.str x t from ry);subst q;rfl
 have ha:argsOk "dict.pop" ⟨.ref a::u::more,[]⟩:=by
   rcases hm with q | ⟨x,q⟩
   . subst q;exact PySem.F.args_dict_pop_2 _ _
   . subst q;exact PySem.F.args_dict_pop_3 _ _ _
 refine call_meetsIn PySem.F.slot_dict_pop dd.typeIs PySem.F.entry_dict_pop ha (meets_dict_pop_there (a0z X.prog X.w) a (a80 ry) more hm hp)
   ⟨vs,w',dd,by rw[<-rel.length];exact z,hw,fun h' dd' hs=>h w' _ ?_ rw'⟩
 have he: ∃q,h'.get? a=some q:=let ⟨q,_,_,hq,_⟩:=dd';⟨q,hq⟩
 exact a85 I (by rw[e];exact True.intro) hs he (b2y (Nat.le_trans (b8e kvs k) z) hd (rel.drop k) dd')
theorem d_len{Q:Value->Shared->Prop}(I:Inv X pins σ H s)(e:Rd H a (.dK kvs))(h: ∀t s',Inv X pins σ H s'->Q (.int kvs.length t) s'):wpAny (model X.prog X.w) A (call (.builtin "len") [.ref a]) Q E s:=by
 obtain⟨z,hd,vs,rel,dd⟩:=a40 I.hok e
 refine call_len_dict hd dd (by rw[<-rel.length];rw[sizeLine_eq]at z;omega) ?_
 rw[<-rel.length]
 exact h _ _ (I.tok _)
end
def NoSl(i:Expr):Prop:= ∀ov iv,subscripted i false ov iv=operate [ov,iv] (getItem ov iv)
theorem subD_of{prog:Program}{w:World}{A:Around}{E:Value->Shared->Prop}{s:Shared}{env:Env}{value slice:Expr}{pos:Pos}{T id:String}{Q:Value->Shared->Prop}
   (hl:typeLookup (.type T) "__getitem__"=pure (some (.builtin id))) (hs:NoSl slice)
   (h:wpAny (model prog w) A (eval value env) (fun o s₁=>wpAny (model prog w) A (eval slice env) (fun i s₂=>s₂.TypeIs o T/\wpAny (model prog w) A (getItem o i) Q E s₂) E s₁) E s):
   wpAny (model prog w) A (eval (.Subscript value slice pos) env) Q E s:=by
 refine Subscript_ (wpAny_mono h (fun o s₁ h₁=>wpAny_mono h₁ (fun i s₂ h₂=> ?_) fun _ _ x=>x) fun _ _ x=>x)
 obtain⟨hT,h₂⟩:=h₂
 unfold subscriptTail
 refine wpAny_bind ?_
 rw[getitemInPython_of_ne hT.not_modules]
 refine wpAny_bind (wpAny_specialOf hT hl ?_)
 have fin:wpAny (model prog w) A (subscripted slice false o i) (fun r s₃=>wpAny (model prog w) A (letTemporaryGo value o r>>=fun _=>pure r) Q E s₃) E s₂:=by
   rw[hs o i]
   exact wpAny_operating (wpAny_mono h₂ (fun r s₃ h₃=>wpAny_bind (wpAny_letTemporaryGo (wpAny_pure h₃))) fun _ _ x=>x)
 first
   |exact wpAny_pure (wpAny_bind fin)
   |exact wpAny_bind (wpAny_pure (wpAny_bind fin))
   |exact wpAny_bind fin
theorem b1m{X:Cx}{pins:List (Addr×Obj)}{σ:St}{H:Hp}{s:Shared}{a:Addr}{y:V}{o:Option V}(I:Inv X pins σ H s)(g:DGet H a y o):s.TypeIs (.ref a) "dict":=by
 rcases g with⟨kvs,k,e,_,_⟩ | ⟨kvs,k,b,e,_,_,_⟩
 . obtain⟨_,_,vs,_,dd⟩:=a40 I.hok e
   exact dd.typeIs
 . obtain⟨_,_,xs,_,dd⟩:=b1k I.hok e
   exact dd.typeIs
def tDGet(td ty:TE):TE:=fun σ H Q=>td σ H fun x H1=>ty σ H1 fun y H2=> ∃a v,x= .ref a/\DGet H2 a y (some v)/\Q v H2
def tDIn(ty td:TE):TE:=fun σ H Q=>ty σ H fun y H1=>td σ H1 fun x H2=> ∃a o,x= .ref a/\DGet H2 a y o/\Q (.bl o.isSome) H2
def tDNotIn(ty td:TE):TE:=fun σ H Q=>ty σ H fun y H1=>td σ H1 fun x H2=> ∃a o,x= .ref a/\DGet H2 a y o/\Q (.bl (!o.isSome)) H2
noncomputable def sDPut(td ty tv:TE):TS:=fun D σ H=>tv σ H fun v H1=>td σ H1 fun x H2=>ty σ H2 fun y H3=> ∃a H4,x= .ref a/\DPut H3 a y v H4/\D.nx σ H4
section
variable {X:Cx}{o i e value:Expr}{pos pos' tpos:Pos}{td ty tv:TE}
theorem pe_dget(hu:X.A.units+1<cLine)(ho:PE X o td)(hi:PE X i ty)(hs:NoSl i):PE X (.Subscript o i pos) (tDGet td ty):=by
 intro pins s σ H Q I h
 refine subD_of PySem.F.slot_dict_getitem.lookup hs (thn (ho pins s σ H _ I h) fun u s1 ⟨x,H1,I1,rx,q1⟩=>thn (hi pins s1 σ H1 _ I1 q1) fun iv s2 zz9=> ?_)
 obtain⟨y,H2,I2,ry,a,v,ex,g,q2⟩:=zz9
 subst ex
 obtain rfl:u=Value.ref a:=rx
 exact⟨b1m I2 g,b6s hu I2 g ry fun w' s3 I3 rw'=>⟨v,H2,I3,rw',q2⟩⟩
theorem pc_din(hu:X.A.units+1<cLine)(hi:PE X i ty)(ho:PE X o td):PC X .In i o (tDIn ty td):=by
 intro pins s σ H Q I h
 refine thn (hi pins s σ H _ I h) fun iv s1 ⟨y,H1,I1,ry,q1⟩=>thn (ho pins s1 σ H1 _ I1 q1) fun u s2 zz9=> ?_
 obtain⟨x,H2,I2,rx,a,ov,ex,g,q2⟩:=zz9
 subst ex
 obtain rfl:u=Value.ref a:=rx
 exact d_in hu I2 g ry fun s3 I3=>⟨.bl ov.isSome,H2,I3,rfl,q2⟩
theorem b4z(hu:X.A.units+1<cLine)(hi:PE X i ty)(ho:PE X o td):PC X .NotIn i o (tDNotIn ty td):=by
 intro pins s σ H Q I h
 refine thn (hi pins s σ H _ I h) fun iv s1 ⟨y,H1,I1,ry,q1⟩=>thn (ho pins s1 σ H1 _ I1 q1) fun u s2 zz9=> ?_
 obtain⟨x,H2,I2,rx,a,ov,ex,g,q2⟩:=zz9
 subst ex
 obtain rfl:u=Value.ref a:=rx
 exact d_notIn hu I2 g ry fun s3 I3=>⟨.bl (!ov.isSome),H2,I3,rfl,q2⟩
theorem ps_dput(hu:X.A.units+1<cLine)(ho:PE X o td)(hi:PE X i ty)(hv:PE X value tv)(hs:swapsWith value (some (.Subscript o i pos')) pos.line X.env=pure false):
   PS X (.Assign [.Subscript o i pos'] value pos) (sDPut td ty tv):=by
 intro pins s σ H D I h
 refine wpAny_Assign_Subscript (thn (hv pins s σ H _ I h) fun r s1 ⟨v,H1,I1,rv,q1⟩=>thn (ho pins s1 σ H1 _ I1 q1) fun u s2 ⟨x,H2,I2,rx,q2⟩=>thn (hi pins s2 σ H2 _ I2 q2) fun iv s3 ⟨y,H3,I3,ry,a,H4,ex,g,q3⟩=> ?_) hs
 subst ex
 obtain rfl:u=Value.ref a:=rx
 exact b6r hu I3 g ry rv fun s4 I4=>⟨σ,H4,I4,q3⟩
end
theorem b2z{P:Program}{w:World}{H:Hp}(h:Heap)(hb:sysModules<h.objs.size):ObjOk P w H (h.push {cls:= .type "dict",data:= .dict #[]}) h.objs.size (.dK []):=
 ⟨Nat.zero_le _,beq_eq_false_iff_ne.mpr (Ne.symm (Nat.ne_of_lt hb)),[],.nil,Heap.DictOf.new h⟩
def tDNewK:TE:=fun _ H Q=> ∀p,H p=none->Q (.ref p) (upd H p (.dK []))
section
variable {X:Cx}{pos:Pos}
theorem pe_dnewK:PE X (.Dict [] [] pos) tDNewK:=fun pins s σ H Q I h=>
 wpAny_Dict_empty ⟨.ref s.heap.objs.size,_,I.laid (a:=s.heap.objs.size) (o:= .dK []) (t':=s.toks) (fun _ _ q=>Heap.get?_push_of_some _ q) (Nat.le_refl _) (b2z s.heap I.big),rfl,h _ (I.hok.fresh (Nat.le_refl _))⟩
end
def b31:List (TE×TE)->St->Hp->(List (V×V)->Hp->Prop)->Prop
 | [],_,H,Q=>Q [] H
 | (tk,tv)::r,σ,H,Q=>tk σ H fun x H1=>tv σ H1 fun y H2=>b31 r σ H2 fun ps H3=>Q ((x,y)::ps) H3
abbrev VV:List (V×V)->List (Value×Value)->Prop:=Paired fun p q=>RelV p.1 q.1/\RelV p.2 q.2
def PPs(X:Cx)(pos:Pos)(keys:List (Option Expr))(values:List Expr)(trs:List (TE×TE)):Prop:=
 ∀(pins:List (Addr×Obj)) (s:Shared) (σ:St) (H:Hp) (Q:List (V×V)->Hp->Prop),Inv X pins σ H s->b31 trs σ H Q->
   wpAny (model X.prog X.w) X.A (evalPairs (pairTrees keys values X.env pos)) (fun vs s'=> ∃ps H',Inv X pins σ H' s'/\VV ps vs/\Q ps H') X.xe s
theorem pps_nil{X:Cx}{pos:Pos}:PPs X pos [] [] []:=fun pins s σ H Q I h=>pairTrees_nil_walk ⟨[],H,I,.nil,h⟩
theorem b7k{X:Cx}{pos:Pos}{k v:Expr}{ks:List (Option Expr)}{vs:List Expr}{tk tv:TE}{trs:List (TE×TE)}(hk:PE X k tk)(hv:PE X v tv)(hr:PPs X pos ks vs trs):
   PPs X pos (some k::ks) (v::vs) ((tk,tv)::trs):=fun pins s σ H Q I h=>
 pairTrees_cons_walk (thn (hk pins s σ H _ I h) fun u s1 ⟨x,H1,I1,rx,q1⟩=>thn (hv pins s1 σ H1 _ I1 q1) fun w2 s2 ⟨y,H2,I2,ry,q2⟩=>
   thn (hr pins s2 σ H2 _ I2 q2) fun ws s3 ⟨ps,H3,I3,rel,q3⟩=>⟨(x,y)::ps,H3,I3,.cons ⟨rx,ry⟩ rel,q3⟩)
noncomputable def a7y(kvs more:List (Key×V)):List (Key×V):=more.foldl (fun acc kv=>putK acc kv.1 kv.2) kvs
theorem KV.merge: ∀{more:List (Key×V)}{rs:List (Key×Value)}{kvs:List (Key×V)}{vs:List (Key×Value)},KV more rs->KV kvs vs->KV (a7y kvs more) (merged vs rs):=by
 intro more rs kvs vs r
 unfold KV at r
 induction r generalizing kvs vs with
 |nil=>intro q;exact q
 | @cons p q ps qs h t ih=>
   intro r0
   have e:KV (putK kvs p.1 p.2) (stored vs q.1 q.2):=by
     have:=r0.put p.1 h.2
     rw[<-h.1];exact this
   exact ih e
theorem a4u: ∀(more kvs:List (Key×V)),(a7y kvs more).length<=kvs.length+more.length
 | [],kvs=>by show kvs.length<=kvs.length+0;omega
 |p::r,kvs=>by
   have h1:=a4u r (putK kvs p.1 p.2)
   have h2:=a4d kvs p.1 p.2
   show(a7y (putK kvs p.1 p.2) r).length<=_
   rw[List.length_cons];omega
theorem a74{P:Program}{w:World}: ∀{kvs:List (Key×V)}{ws:List (Value×Value)},VV (kvs.map fun kv=>(kV kv.1,kv.2)) ws-> ∃rs,Carries (a0z P w) ws rs/\KV kvs rs
 | [],_,r=>by rw[List.map_nil]at r;cases r;exact⟨[],True.intro,.nil⟩
 |p::kvs,_,r=>by
   rw[List.map_cons]at r
   cases r with
   | @cons a b as bs h t=>
     obtain⟨rs,c,q⟩:=a74 (P:=P) (w:=w) t
     obtain⟨b1,b2⟩:=b
     exact⟨(p.1,b2)::rs,⟨a80 h.1,rfl,c⟩,.cons ⟨rfl,h.2⟩ q⟩
def tDisp(trs:List (TE×TE)):TE:=fun σ H Q=> ∀p,H p=none->b31 trs σ (upd H p (.dK [])) fun ps H2=>H2 p=some (.dK [])/\ ∃kvs:List (Key×V),ps=kvs.map (fun kv=>(kV kv.1,kv.2))/\kvs.length<=15/\Q (.ref p) (upd H2 p (.dK (a7y [] kvs)))
theorem pe_disp{X:Cx}{pos:Pos}{keys:List (Option Expr)}{values:List Expr}{trs:List (TE×TE)}(h:PPs X pos keys values trs)(hall:keys.all (·.isSome)=true)(hl:keys.length=values.length)(h0:keys≠[])
   (h15:keys.length<=15):PE X (.Dict keys values pos) (tDisp trs):=by
 intro pins s σ H Q I q
 have hn:=I.hok.fresh (Nat.le_refl s.heap.objs.size)
 have I1:=I.laid (a:=s.heap.objs.size) (o:= .dK []) (h':=s.heap.push {cls:= .type "dict",data:= .dict #[]}) (t':=s.toks) (fun _ _ q=>Heap.get?_push_of_some _ q) (Nat.le_refl _) (b2z s.heap I.big)
 refine wpAny_Dict_walk (knd:=a0z X.prog X.w) hall hl h0 h15 (thn (h pins _ σ _ _ I1 (q _ hn)) fun ws s2 zz9=> ?_)
 obtain⟨ps,H2,I2,rel,e,kvs,ep,lk,q2⟩:=zz9
 subst ep
 obtain⟨rs,c,rk⟩:=a74 (P:=X.prog) (w:=X.w) rel
 obtain⟨z,hd,vs0,r0,dd⟩:=b6o I2.hok e
 cases r0
 refine⟨rs,c,dd,fun h' dd' hs=>⟨.ref s.heap.objs.size,_,?_,rfl,q2⟩⟩
 have hz:(a7y [] kvs).length<=sizeLine:=by
   have h1:=a4u kvs []
   rw[List.length_nil]at h1
   rw[sizeLine_eq];omega
 have he: ∃q,h'.get? s.heap.objs.size=some q:=let ⟨q,_,_,hq,_⟩:=dd';⟨q,hq⟩
 exact a85 I2 (by rw[e];exact True.intro) hs he (b2y hz hd (rk.merge .nil) dd')
structure M1(X:Cx)(o:Expr)(m:Str)(apos:Pos)(e:Expr)(cpos:Pos):Prop where
 base:attributeBase o m X.env (eval o X.env)=eval o X.env
 few:((backTo cpos (starEach [e] X.env)).all (fun x=> !x.1)&&(backToKw cpos (keywordEach [] X.env)).all (fun x=>x.1.isSome)
   &&decide (([e]:List Expr).length+([]:List Keyword).length+(if([]:List Keyword).isEmpty then 0 else 1)<30))=true
 line:(apos.endLine==cpos.line)=true
 trees:backTo cpos (starEach [e] X.env)=[(false,eval e X.env)]
def IsD(H:Hp)(a:Addr):Prop:=(∃kvs,Rd H a (.dK kvs))\/ ∃kvs,Rd H a (.dT kvs)
theorem isD_at{X:Cx}{pins:List (Addr×Obj)}{σ:St}{H:Hp}{s:Shared}{a:Addr}(I:Inv X pins σ H s)(d:IsD H a):
   s.TypeIs (.ref a) "dict"/\(∀b,Value.ref a= .ref b-> ∃ob,s.heap.get? b=some ob/\ob.dict=none)/\(a==sysModules)=false:=by
 rcases d with⟨kvs,e⟩ | ⟨kvs,e⟩
 . obtain⟨_,hd,vs,_,dd⟩:=a40 I.hok e
   refine⟨dd.typeIs,fun b q=> ?_,hd⟩
   cases q
   obtain⟨ob,_,_,h1,h2,_⟩:=dd
   exact⟨ob,h1,h2.2.1⟩
 . obtain⟨_,hd,xs,_,dd⟩:=b1k I.hok e
   refine⟨dd.typeIs,fun b q=> ?_,hd⟩
   cases q
   obtain⟨ob,_,_,h1,h2,_⟩:=dd
   exact⟨ob,h1,h2.2.1⟩
section
variable {X:Cx}{pins:List (Addr×Obj)}{σ:St}{H:Hp}{s:Shared}{a:Addr}{y d:V}{u r:Value}{o:Option V}{A:Around}{E:Value->Shared->Prop}
theorem d_get1{Q:Value->Shared->Prop}(hu:A.units+1<cLine)(I:Inv X pins σ H s)(g:DGet H a y o)(ry:RelV y u)(h: ∀w' s',Inv X pins σ H s'->RelV (o.getD .non) w'->Q w' s'):
   wpAny (model X.prog X.w) A (call (.builtin "dict.get") [.ref a,u]) Q E s:=by
 rcases g with⟨kvs,k,e,ey,l⟩ | ⟨kvs,k,b,e,ey,eb,l⟩
 . subst ey
   obtain⟨z,hd,vs,rel,dd⟩:=a40 I.hok e
   refine call_meetsIn PySem.F.slot_dict_get dd.typeIs PySem.F.entry_dict_get (PySem.F.args_dict_get_2 _ _) (meets_dict_get (a0z X.prog X.w) a (a80 ry) hd) ⟨_,dd.mapOf,h _ _ (I.tok _) ?_⟩
   rw[l]
   exact(rel.val k).getD rfl
 . subst ey
   cases(show u=Value.ref b from ry)
   obtain⟨z,hd,xs,rel,dd⟩:=b1k I.hok e
   refine call_meetsIn PySem.F.slot_dict_get dd.typeIs PySem.F.entry_dict_get (PySem.F.args_dict_get_2 _ _) (meetsH_dict_get (tupleKind (a0z X.prog X.w)) a b hd) ⟨tupleKind_room_in1 hu,k,xs,a71 I.hok eb,dd,h _ _ (I.tok _) ?_⟩
   rw[l]
   exact(rel.val k).getD rfl
end
def tDGet1(td ty:TE):TE:=fun σ H Q=>td σ H fun x H1=> ∃a,x= .ref a/\IsD H1 a/\ty σ H1 fun y H2=> ∃o,DGet H2 a y o/\Q (o.getD .non) H2
def tDPop1(td ty:TE):TE:=fun σ H Q=>td σ H fun x H1=> ∃a,x= .ref a/\IsD H1 a/\ty σ H1 fun y H2=> ∃kvs k v,H2 a=some (.dK kvs)/\y=kV k/\valV kvs k=some v/\Q v (upd H2 a (.dK (dropK kvs k)))
section
variable {X:Cx}{o e f:Expr}{apos cpos:Pos}{td ty tx:TE}
theorem b7q(hu:X.A.units+1<cLine)(ho:PE X o td)(he:PE X e ty)(m:M1 X o "get" apos e cpos):PE X (.Call (.Attribute o "get" apos) [e] [] cpos) (tDGet1 td ty):=by
 intro pins s σ H Q I h
 refine wpAny_Call_method m.base m.few m.line PySem.F.plainAttrs_dict PySem.F.slot_dict_get PySem.F.type_dict_get (thn (ho pins s σ H _ I h) fun u s1 zz9=> ?_)
 obtain⟨x,H1,I1,rx,a,ex,d,q1⟩:=zz9
 subst ex
 obtain rfl:u=Value.ref a:=rx
 obtain⟨t1,t2,_⟩:=isD_at I1 d
 refine⟨t1,t2,?_⟩
 rw[m.trees]
 refine Calls.callWith_builtin rfl (Calls.evalArgs_plain (Calls.spliced_cons (thn (he pins s1 σ H1 _ I1 q1) fun iv s2 ⟨y,H2,I2,ry,ov,g,q2⟩=>Calls.spliced_nil ?_)))
 exact d_get1 hu I2 g ry fun w' s3 I3 rw'=>⟨_,H2,I3,rw',q2⟩
theorem b7p(ho:PE X o td)(he:PE X e ty)(m:M1 X o "pop" apos e cpos):PE X (.Call (.Attribute o "pop" apos) [e] [] cpos) (tDPop1 td ty):=by
 intro pins s σ H Q I h
 refine wpAny_Call_method m.base m.few m.line PySem.F.plainAttrs_dict PySem.F.slot_dict_pop PySem.F.type_dict_pop (thn (ho pins s σ H _ I h) fun u s1 zz9=> ?_)
 obtain⟨x,H1,I1,rx,a,ex,d,q1⟩:=zz9
 subst ex
 obtain rfl:u=Value.ref a:=rx
 obtain⟨t1,t2,_⟩:=isD_at I1 d
 refine⟨t1,t2,?_⟩
 rw[m.trees]
 refine Calls.callWith_builtin rfl (Calls.evalArgs_plain (Calls.spliced_cons (thn (he pins s1 σ H1 _ I1 q1) fun iv s2 ⟨y,H2,I2,ry,kvs,k,v,ea,ey,l,q2⟩=>Calls.spliced_nil ?_)))
 subst ey
 exact d_pop I2 ea ry l (.inl rfl) fun w' s3 I3 rw'=>⟨v,_,I3,rw',q2⟩
end
section
variable {X:Cx}{pins:List (Addr×Obj)}{σ:St}{H:Hp}{s:Shared}{a:Addr}{kvs:List (Key×V)}{A:Around}{E:Value->Shared->Prop}
end
section
variable {X:Cx}{pins:List (Addr×Obj)}{σ:St}{H:Hp}{s:Shared}{a:Addr}{y:V}{u:Value}{A:Around}{E:Value->Shared->Prop}
end
section
variable {X:Cx}
theorem b6x:CallR X (.builtin "len") (fun xs H Q=> ∃a kvs,xs=[V.ref a]/\H a=some (.dK kvs)/\Q (.int kvs.length) H):=by
 intro pins s σ H xs us Q I r h
 obtain⟨a,kvs,rfl,ha,q⟩:=h
 obtain⟨u,rfl,ru⟩:=b3y r
 cases ru
 exact d_len I (.inl ha) fun t s' I'=>⟨.int kvs.length,H,I',⟨t,rfl⟩,q⟩
end
section
variable {κ:Type}[DecidableEq κ]
end
structure Has(P:Program)(w:World)(K:PySem.W.Frag)(mg:Str->Option Value)(base:Heap)(CX:CXT)(k:Nat)(x:Str)(ps:List Str)(sp:Sp):Prop where
 ex: ∃f fd,FnOk P w K mg base CX k f fd ps sp/\mg x=some (.ref f)/\PySem.W.keepIn K (.ref f)=true/\Binds K fd ps []
section
variable {X:Cx}{CX:CXT}{k:Nat}{ps:List Str}{sp:Sp}{E:XK}{x:Str}{p pos:Pos}{e:Expr}{es:List Expr}{t:TA}
end
section
variable {X:Cx}
theorem a1p:OpR X (binaryOp .Mult) (rI IntMulOk fun i j=> .int (i *j)):=opI fun _ _ _ _ _ _ _ hc q=>mul_int q hc
structure BigDiv(X:Cx):Prop where
 seer:X.base.NoSeer
 tree:X.prog.given.tree=none
 stk:X.stack=X.env::X.outer
 gen:X.env.scope.isGenerator=false
 co:X.env.scope.isCoroutine=false
 dp:X.A.depth+100<recursionLimit
theorem BigDiv.room{pins:List (Addr×Obj)}{σ:St}{H:Hp}{s:Shared}(B:BigDiv X)(I:Inv X pins σ H s):PylongRoom (model X.prog X.w) X.A s:=
 PylongRoom.of I.nolimit B.dp (SeerAt.of (B.seer.keeps I.bk) B.tree (by rw[I.ok.frames,B.stk]) B.gen B.co I.ok.blt I.ok.glob)
theorem b2e(B:BigDiv X):OpR X (binaryOp .FloorDiv) (rI (fun _ j=>j≠0) fun i j=> .int (i.fdiv j)):=by
 intro pins s σ H x y v u Q I rx ry h
 obtain⟨i,j,rfl,rfl,hc,q⟩:=h
 obtain⟨t,rfl⟩:=rx
 obtain⟨t',rfl⟩:=ry
 exact floordiv_int hc ⟨.int (i.fdiv j),H,I.tok _,⟨_,rfl⟩,q⟩ (.inr (B.room I))
end
section
variable {X:Cx}
end
section
variable {X:Cx}{st:Stmt}{rest:List Stmt}{t u:TS}
end
theorem NoSeer.hid{h:Heap}{a:Addr}{o:Obj}{H:Hp}(hN:h.NoSeer)(ha:h.get? a=some o)(hc:o.cls= .type "list")(hA: ∀b,H b≠none->b=a)
   (nsK: ∀{b:Addr}{m:Str->Option Value},h.Ns b m->(hidT h H).Ns b m):(hidT h H).NoSeer where
 statics:=let ⟨mc,x,y⟩:=hN.statics;⟨mc,nsK x,y⟩
 mods:=let ⟨mc,x,y⟩:=hN.mods;⟨mc,nsK x,y⟩
 imp:=let ⟨mc,x,y⟩:=hN.imp;⟨mc,nsK x,y⟩
 main:=by
   obtain⟨mg,bm,ob,x,y,z,c,d⟩:=hN.main
   refine⟨mg,bm,ob,nsK x,y,b2t z ?_,c,d⟩
   cases q:H bm with
   |none=>rfl
   |some u=>
     have e:bm=a:=hA bm (by rw[q];simp)
     subst e
     rw[ha]at z
     cases z
     rw[hc]at c
     exact absurd c (by decide)
theorem b5r{P:Program}{w:World}{K:PySem.W.Frag}{mg mb:Str->Option Value}{CX:CXT}{k:Nat}{fa a:Addr}{fd:FuncData}{x:Str}{sp:Sp}{s₁:Shared}{vs:List Value}{ns:List Int}
   (KX:K.In s₁.heap) (hns:s₁.heap.Ns mainGlobals mg) (hb:s₁.heap.Ns builtinsNs mb) (hbb: ∀x:Str,x≠ "__name__"->mb x=bootBuiltins x) (hlim:s₁.heap.NoLimit) (hsee:s₁.heap.NoSeer) (hg:s₁.gens= #[])
   (ha:s₁.heap.get? a=some {cls:= .type "list",data:= .seq vs.toArray}) (hi:IntsAre vs ns) (hl:ns.length<=sizeLine) (hr:Room k callerA)
   (F: ∀base:Heap,K.In base->base.Ns mainGlobals mg->base.NoSeer->FnOk P w K mg base CX k fa fd [x] sp) (hbind: ∀(s:Shared) (u:Value),BindsTo s fd ⟨[u],[]⟩ [(x,u)])
   (hsp: ∀H:Hp,Only H->SqL K H a (ns.map V.int)->sp [.ref a] H (fun v _=>v= .bl true) fun _ _ _=>False)
   (hCX: ∀H e s',CX [] H s₁ (fun _ _ _=>False) e s'->False):
   codeAny (model P w) callerA (.call (.ref fa) ⟨[.ref a],[]⟩) (fun r s'=>r= .ok (.ret (.bool true))/\OldK s₁.heap s'.heap/\s'.os=s₁.os/\AllBare s'.gens) s₁:=by
 have rv:=a9a hi
 have lenV:=hi.length
 have core: ∀H:Hp,Only H->SqL K H a (ns.map V.int)->HOk P w H s₁.heap->(∀b,H b≠none->b=a)->(H a≠none->K.lookup a=none)->
     codeAny (model P w) callerA (.call (.ref fa) ⟨[.ref a],[]⟩) (fun r s'=>r= .ok (.ret (.bool true))/\OldK s₁.heap s'.heap/\s'.os=s₁.os/\AllBare s'.gens) s₁:=by
   intro H hO hS hok hA hK
   have base_of: ∀{b:Addr}{o:Obj},s₁.heap.get? b=some o->H b=none->(hidT s₁.heap H).get? b=some o:=fun e n=>b2t e n
   have noA: ∀{b:Addr}{o:Obj}{es:Array DictEntry}{ep:Nat},s₁.heap.get? b=some o->o.data= .dict es ep->H b=none:=fun {b o es ep} e d=>by
     cases q:H b with
     |none=>rfl
     |some u=>
       have e':b=a:=hA b (by rw[q];simp)
       subst e'
       rw[ha]at e;cases e
       have d':Data.seq vs.toArray _=Data.dict es ep:=d
       cases d'
   have nsK: ∀{b:Addr}{m:Str->Option Value},s₁.heap.Ns b m->(hidT s₁.heap H).Ns b m:=fun {b m} ⟨o,es,ep,e,d,r⟩=>⟨o,es,ep,base_of e (noA e d),d,r⟩
   have hKb:K.In (hidT s₁.heap H):=fun b o e=>base_of (KX b o e) (by
     cases q:H b with
     |none=>rfl
     |some u=>
       have e':b=a:=hA b (by rw[q];simp)
       subst e'
       rw[hK (by rw[q];simp)]at e;cases e)
   have hM:Mod K mg (hidT s₁.heap H):=⟨hKb,nsK hns,⟨mb,nsK hb,hbb⟩,let ⟨mc,h1,h2⟩:=hlim;⟨mc,nsK h1,h2⟩⟩
   have hSe:(hidT s₁.heap H).NoSeer:=NoSeer.hid hsee ha rfl hA nsK
   have e0:Env0 P w K mg (hidT s₁.heap H) callerA [] s₁ H:=⟨rfl,hM,fun b o e=>of_hidT e,Nat.le_of_eq (b6b _ _),trivial,fun b hb=>absurd (show b∈([]:List Addr)from hb) (by simp),hok,.of_eq hg⟩
   refine codeAny_mono ((F _ hKb (nsK hns) hSe).run callerA [] s₁ H ⟨[.ref a],[]⟩ [.ref a] [.ref a] _ _ hr e0 (hbind s₁ (.ref a)) (.cons rfl .nil) (hsp H hO hS)) fun r s' h=> ?_
   cases r with
   |error e=>exact(hCX H e s' h).elim
   |ok fl=>
     cases fl with
     |next=>exact False.elim h
     |brk=>exact False.elim h
     |cont=>exact False.elim h
     |ret u=>
       obtain⟨v,H',os,bare,un,hok',r',q⟩:=h
       have q':v= .bl true:=q
       subst q'
       obtain rfl:u=Value.bool true:=r'
       refine⟨rfl,OldK.of_keep fun b o e=> ?_,os,bare⟩
       cases q:H b with
       |none=>exact un.keep b o e q (by intro z;exact absurd (show b∈([]:List Addr)from z) (by simp)) (by simp)
       |some u=>
         rcases hO b with z | ⟨ob,xs,z⟩
         . rw[q]at z;cases z
         . have z2:=un.frzs b ob _ z
           obtain⟨e1,_⟩:=hok b _ z
           obtain⟨e2,_⟩:=hok' b _ z2
           rw[e]at e1;cases e1
           exact e2
 cases hk:K.lookup a with
 |some o=>
   have e:=KX a o hk
   rw[ha]at e
   cases e
   refine core (fun _=>none) (fun _=> .inl rfl) (.inr ⟨_,vs.toArray,_,hk,rfl,rfl,rfl,by rw[List.size_toArray,lenV];exact hl,by simpa using rv⟩) (fun b u z=>by have z':(none:Option HO)=some u:=z;cases z') (fun b z=>absurd rfl z) fun z=>absurd rfl z
 |none=>
   refine core (fun b=>if b=a then some (.frz {cls:= .type "list",data:= .seq vs.toArray} (.lst (ns.map V.int)))else none) (fun b=> ?_) (.inl (.inr ⟨{cls:= .type "list",data:= .seq vs.toArray},if_pos rfl⟩)) (fun b u z=> ?_) (fun b z=> ?_) fun _=>hk
   . by_cases hb:b=a
     . exact .inr ⟨_,_,if_pos hb⟩
     . exact .inl (if_neg hb)
   . by_cases hb:b=a
     . have z':=(if_pos hb).symm.trans z
       cases z'
       subst hb
       exact⟨ha,by rw[List.length_map];exact hl,vs,_,rv,ha⟩
     . have z':=(if_neg hb).symm.trans z
       cases z'
   . by_cases hb:b=a
     . exact hb
     . exact absurd (if_neg hb) z
structure Script(n:Nat)(ns:List Int):Prop where
 len:ns.length<=n
 bits: ∀i∈ns,Builtin.Int.intBits i<=2^20
theorem b1q{ns:List Int}(h:PySem.W.WData.layableAll [PySem.W.WData.list (ns.map PySem.W.WData.int)]=true): ∀i∈ns,Builtin.Int.intBits i<=2^20:=fun i hi=>by
 have h1:=(PySem.W.layW_cons h).1
 have h2:=PySem.W.layableW_item h1 (.int i) (List.mem_map.mpr ⟨i,hi,rfl⟩)
 have h3:=(PySem.W.layableW_iff.mp h2).2.2
 simpa only[PySem.W.WData.weight,Builtin.Int.intBits]using h3
section
open PySem.W PySem.Calls
theorem b0d{l:PySem.W.OpenLaw}{n:Nat}{q:Program}{a24:List Str}{XP:(Str->Option Value)->Heap->Prop}{YP:World->Heap->Prop}{d:DefRec}
   (hn:l.most=some n) (hdf:d.params.defaults=[])
   (call: ∀(w:World) (s₀ s₁:Shared) (mg mb:Str->Option Value) (fa:Addr) (o:Obj) (pm cd doc:Value) (a:Addr) (vs:List Value) (ns:List Int),
     PySem.W.Ground q a24 [] XP w s₀ mg mb s₁.heap->YP w s₁.heap->
     s₁.heap.get? fa=some o->o.data= .func (docDef d.name d.params d.body d.scope pm cd doc)->s₁.heap.CodeRec cd d.name->mg d.name=some (.ref fa)->
     s₁.heap.get? a=some {cls:= .type "list",data:= .seq vs.toArray}->IntsAre vs ns->Script n ns->s₁.gens= #[]->
     codeAny (model l.prog w) callerA (.call (.ref fa) ⟨[.ref a],[]⟩) (fun r s'=>r= .ok (.ret (.bool true))/\OldK s₁.heap s'.heap/\s'.os=s₁.os/\AllBare s'.gens) s₁):
   PySem.W.WalkO q a24 XP YP l.row.toRowW d [] (fun f vs=>PySem.call f vs):=by
 intro w s₀ s₁ mg mb G Y fa o pm cd doc dV kV ho hd hcd hD hmg hg args vals as hpre hlay hrd hwl hlo
 obtain rfl:dV= .none:=Dflts.none hD hdf
 obtain rfl:kV= .none:=Dflts.noKw hD
 obtain⟨a,vs,ns,rfl,rfl,hobj,hints,hlen⟩:=Att.script_of hn hpre hwl
 refine enter_call (codeAny_mono (call w s₀ s₁ mg mb fa o pm cd doc a vs ns G Y ho (fd_plain hd) hcd hmg hobj hints ⟨hlen,b1q hlay⟩ hg) fun r s' hq=> ?_)
 obtain⟨rfl,h2,h3,h4⟩:=hq
 exact⟨.inl ⟨.bool true,.bool true,[],rfl,fun _=>rfl,.bool true,Att.post_true l _,fun _=>⟨List.Pairwise.nil,fun _ hm=>(nomatch hm)⟩⟩,h2,h3,h4⟩
end
theorem walk_ofB{l:PySem.W.OpenLaw}{n k:Nat}{q:Program}{a24:List Str}{XP:(Str->Option Value)->Heap->Prop}{YP:World->Heap->Prop}{d:DefRec}{K:Params->PySem.W.Frag}{CX:CXT}{sp:PySem.W.Frag->Sp}{x:Str}
   (hn:l.most=some n) (hn2:n<=sizeLine) (hdf:d.params.defaults=[]) (hr:Room k callerA) (him:importsNone q=true)
   (hY: ∀(w:World) (h:Heap),YP w h->(K w.params).In h)
   (F: ∀(w:World) (mg:Str->Option Value) (fa:Addr) (h:Heap),(K w.params).In h->h.Ns mainGlobals mg->mg d.name=some (.ref fa)->
     ∃fd:FuncData,(∀(s:Shared) (u:Value),BindsTo s fd ⟨[u],[]⟩ [(x,u)])/\
       ∀base:Heap,(K w.params).In base->base.Ns mainGlobals mg->base.NoSeer->FnOk l.prog w (K w.params) mg base CX k fa fd [x] (sp (K w.params)))
   (hsp: ∀(K:PySem.W.Frag) (H:Hp) (a:Addr) (ns:List Int),Script n ns->Only H->SqL K H a (ns.map V.int)->sp K [.ref a] H (fun v _=>v= .bl true) fun _ _ _=>False)
   (hCX: ∀(H:Hp) (s:Shared) (e:Value) (s':Shared),CX [] H s (fun _ _ _=>False) e s'->False):
   PySem.W.WalkO q a24 XP YP l.row.toRowW d [] (fun f vs=>PySem.call f vs):=by
 refine b0d hn hdf fun w s₀ s₁ mg mb fa o pm cd doc a vs ns G Y ho hd hcd hmg hobj hints hsc hg=> ?_
 have KX:=hY w _ Y
 obtain⟨fd,hb,hF⟩:=F w mg fa _ KX G.T.g hmg
 exact b5r KX G.T.g G.T.b G.T.builtins G.T.nolimit (G.T.seer him) hg hobj hints (Nat.le_trans hsc.len hn2) hr hF hb (fun H hO hS=>hsp (K w.params) H a ns hsc hO hS) fun H e s'=>hCX H s₁ e s'
open PySem PySem.Spec PySem.Calls PyProof.Rows
structure Air(B:Heap)(l:List Env)(a:Addr)(h:Heap):Prop where
 stay:B.StaysIn h
 new:B.get? a=none
 frm:h.FunFrames B l
def Trc(B:Heap)(a:Addr)(cls a0:Value)(m:Option Value)(h:Heap):Prop:=match m with
 |none=> ∃oe vs,h.get? a=some oe/\oe.cls=cls/\oe.data= .fields vs/\vs[0]? =some a0/\vs[1]? =some .none
 |some fl=>h.TracedAtW B a cls a0 fl
def NoD(a:Addr)(h:Heap):Prop:= ∃oe vs,h.get? a=some oe/\oe.dict=none/\oe.data= .fields vs/\vs[2]? =some .none
theorem a7m(o:Obj)(f:Array Value->Array Value):(Obj.mapFields f o).dict=o.dict:=by
 obtain⟨c,d,dt,sl⟩:=o
 cases dt<;>rfl
section
variable {M:Model}{A:Around}{E:Value->Shared->Prop}{s:Shared}{B:Heap}{env:Env}{outer l:List Env}{L a:Addr}{cls a0:Value}{m:Option Value}
theorem entryD{base:Heap}{e:Addr}{oe:Obj}{vs:Array Value}{head:Value}{hadNext:Bool}{Q:Unit->Shared->Prop}
   (hfr:A.frames=some (env::outer)) (hl:s.heap.FunFrames base (env::outer)) (hf:env.frame=some L)
   (he:s.heap.get? e=some oe) (hkb:base.StaysIn s.heap) (hen:base.get? e=none) (hd:oe.data= .fields vs) (hsz:1<vs.size) (h0:vs[0]? =some a0) (hnd:oe.dict=none) (h2:vs[2]? =some .none)
   (h: ∀h',Heap.NotedW base (env::outer) e oe.cls a0 (rawInt L) s.heap h'->NoD e h'->Q () {s with heap:=h'}):
   wpAny M A (do let a <-frameOf env;let pl <-entryPlaceOf L hadNext;let b <-EntryCells.newEntry head a .none (rawInt L) .none pl;setField (.ref e) 1 b) Q E s:=by
 have hene:e∉(env::outer).filterMap (·.frame):=fun hm=>by
   obtain⟨_,o,ho,hnf⟩:=hl.mem hm
   rw[he]at ho;injection ho with ho;subst ho;exact hnf vs hd
 refine wpAny_bind (wpAny_frameOf_fun hfr hl hf fun h₁ hs₁=> ?_)
 refine wpAny_bind (wpAny_entryPlaceOf fun pl hpl=> ?_)
 unfold EntryCells.newEntry newFields
 refine wpAny_bind (wpAny_newObj_type ?_ (hpl.sizeOk5 _ _ _ _ _))
 have he₁:h₁.get? e=some oe:=(hs₁.2.1 e hene).trans he
 have kb₁:base.StaysIn h₁:=fun b o hbo=>(hs₁.2.1 b fun hm=>by rw[(hl.mem hm).1]at hbo;cases hbo).trans (hkb b o hbo)
 have he₂:=Heap.get?_push_of_some (h:=h₁) {cls:= .type "traceback",dict:=none,data:= .fields ([head,.ref L,.none,rawInt L,.none]++(if pl.isEmpty then List.replicate 6 Value.none else pl)).toArray} he₁
 have hTe:h₁.objs.size≠e:=Nat.ne_of_gt (Heap.lt_size he₁)
 have hd₃:=Obj.data_mapFields hd (·.setIfInBounds 1 (Value.ref h₁.objs.size))
 have he₃:=Heap.get?_update_self (Obj.mapFields (·.setIfInBounds 1 (Value.ref h₁.objs.size))) he₂ (Obj.isFreed_of_fields hd₃)
 refine wpAny_setField he₂ hd hsz (h _ ?_ ⟨_,_,he₃,(a7m _ _).trans hnd,hd₃,by rw[Array.getElem?_setIfInBounds_ne (by decide)];exact h2⟩)
 have hT₃:=(Heap.get?_update_other (h₁.push {cls:= .type "traceback",dict:=none,data:= .fields ([head,.ref L,.none,rawInt L,.none]++(if pl.isEmpty then List.replicate 6 Value.none else pl)).toArray})
   (Obj.mapFields (·.setIfInBounds 1 (Value.ref h₁.objs.size))) (Ne.symm hTe)).trans (Heap.get?_push_size h₁ rfl)
 have keep: ∀b o,b≠e->h₁.get? b=some o->
     ((h₁.push {cls:= .type "traceback",dict:=none,data:= .fields ([head,.ref L,.none,rawInt L,.none]++(if pl.isEmpty then List.replicate 6 Value.none else pl)).toArray}).update e (Obj.mapFields (·.setIfInBounds 1 (Value.ref h₁.objs.size)))).get? b=some o:=
   fun b o hbe hb=>by
     rw[Heap.get?_update_other _ _ (Ne.symm hbe)]
     exact Heap.get?_push_of_some _ hb
 have noRecord: ∀b o,s.heap.get? b=some o->(∀vs,o.data≠ .fields vs)->b≠e:=fun b o hb hnf q=>by
   rw[q,he]at hb;injection hb with hb;subst hb;exact hnf vs hd
 refine⟨fun b o hbo=>keep b o (fun q=>by rw[q,hen]at hbo;cases hbo) (kb₁ b o hbo),hl.of_keeps fun b o hb hnf=> ?_,?_,fun b o hb hnf=> ?_⟩
 . obtain⟨sl,hs⟩:=hs₁.2.2 b o hb
   exact⟨_,keep b _ (noRecord b o hb hnf) hs,rfl⟩
 . exact⟨_,_,h₁.objs.size,_,_,he₃,⟨Obj.cls_mapFields _ _,by rw[Array.getElem?_setIfInBounds_ne (by decide)];exact h0⟩,hd₃,by simp[hsz],kb₁.fresh,hTe,hT₃,rfl,by first | (simp;done) | (rcases hpl with rfl | ⟨_,_,_,_,_,_,_,rfl⟩<;>simp)⟩
 . obtain⟨sl,hs⟩:=hs₁.2.2 b o hb
   exact⟨sl,keep b _ (noRecord b o hb hnf) hs⟩
theorem b01{Q:Unit->Shared->Prop}(hfr:A.frames=some (env::outer))(hf:env.frame=some L)(air:Air B (env::outer) a s.heap)(tr:Trc B a cls a0 m s.heap)(nd:NoD a s.heap)
   (hm:m=none\/m=some .none\/m=some (rawInt L))
   (hQ: ∀h',Air B (env::outer) a h'->h'.TracedAtW B a cls a0 (rawInt L)->NoD a h'->s.heap.UpToSlots h'->Q () {s with heap:=h'}):wpAny M A (noteFrame (.ref a) env) Q E s:=by
 obtain⟨ox,vx,hox,hdx,hvx,hv2⟩:=nd
 rcases hm with rfl |rfl |rfl
 . obtain⟨oe,vs,he,rfl,hd,h0,h1⟩:=tr
   rw[hox]at he;cases he
   have e2:=hd.symm.trans hvx
   injection e2 with e2
   subst e2
   unfold noteFrame
   simp only[hf]
   refine wpAny_bind (wpAny_field hox hd h1 ?_)
   rw[if_neg (by decide)]
   refine entryD hfr air.frm hf hox air.stay air.new hd (Array.getElem?_eq_some_iff.mp h1).1 h0 hdx hv2 fun h' hN hn=> ?_
   obtain⟨k1,k2,k3,k4⟩:=hN
   exact hQ h' ⟨k1,air.new,k2⟩ k3 hn k4
 . obtain⟨oe,vs,T,oT,ts,he,⟨hcls,h0⟩,hd,h1,hnT,hTe,hT,hdT,h3⟩:=tr
   rw[hox]at he;cases he
   have e2:=hd.symm.trans hvx
   injection e2 with e2
   subst e2
   subst hcls
   unfold noteFrame
   simp only[hf]
   refine wpAny_bind (wpAny_field hox hd h1 ?_)
   rw[if_pos (show(Value.ref T !=Value.none)=true from by simp)]
   refine wpAny_bind (wpAny_field hT hdT h3 ?_)
   rw[if_neg (show ¬ ((Value.none==rawInt L)=true)from by simp[rawInt])]
   refine wpAny_bind (wpAny_setField hT hdT (Array.getElem?_eq_some_iff.mp h3).1 ?_)
   have other: ∀b,b≠T->(s.heap.update T (Obj.mapFields (·.setIfInBounds 3 Value.none))).get? b=s.heap.get? b:=fun b hb=>Heap.get?_update_other _ _ (Ne.symm hb)
   have noRecord: ∀b o,s.heap.get? b=some o->(∀vs,o.data≠ .fields vs)->b≠T:=fun b o hb hnf q=>by
     rw[q,hT]at hb;injection hb with hb;subst hb;exact hnf ts hdT
   refine entryD hfr (air.frm.of_keeps fun b o hb hnf=>⟨o,(other b (noRecord b o hb hnf)).trans hb,rfl⟩) hf ((other a (Ne.symm hTe)).trans hox)
     (fun b o hbo=>(other b fun q=>by rw[q,hnT]at hbo;cases hbo).trans (air.stay b o hbo)) air.new hd (Array.getElem?_eq_some_iff.mp h1).1 h0 hdx hv2
     fun h' ⟨x1,x2,x3,x4⟩ hn=>hQ h' ⟨x1,air.new,x2⟩ x3 hn fun b o hb hnf=>x4 b o ((other b (noRecord b o hb hnf)).trans hb) hnf
 . refine wpAny_noteFrame_againW hf tr ?_
   exact hQ s.heap air tr ⟨ox,vx,hox,hdx,hvx,hv2⟩ (.refl _)
theorem a3q{f:Option Addr}{fl:Value}{Q:Unit->Shared->Prop}(air:Air B l a s.heap)(tr:s.heap.TracedAtW B a cls a0 fl)(nd:NoD a s.heap)
   (hQ: ∀h',Air B l a h'->h'.TracedAtW B a cls a0 (f.elim Value.none fun x=>rawInt x)->NoD a h'->s.heap.UpToSlots h'->Q () {s with heap:=h'}):wpAny M A (setFlight (.ref a) f) Q E s:=by
 obtain⟨oe,vs,T,oT,ts,he,hcls,hd,h1,hnT,hTe,hT,hdT,h3⟩:=tr
 obtain⟨ox,vx,hox,hdx,hvx,hv2⟩:=nd
 have hsz3:3<ts.size:=(Array.getElem?_eq_some_iff.mp h3).1
 have other: ∀b,b≠T->(s.heap.update T (Obj.mapFields (·.setIfInBounds 3 (f.elim Value.none fun x=>rawInt x)))).get? b=s.heap.get? b:=
   fun b hb=>Heap.get?_update_other _ _ (Ne.symm hb)
 have noRecord: ∀b o,s.heap.get? b=some o->(∀vs,o.data≠ .fields vs)->b≠T:=fun b o hb hnf q=>by
   rw[q,hT]at hb;injection hb with hb;subst hb;exact hnf ts hdT
 unfold setFlight
 refine wpAny_bind (wpAny_field he hd h1 ?_)
 rw[if_pos (show(Value.ref T !=Value.none)=true from by simp)]
 refine wpAny_setField hT hdT hsz3 (hQ _ ⟨fun b o hbo=>(other b fun q=>by rw[q,hnT]at hbo;cases hbo).trans (air.stay b o hbo),air.new,
   air.frm.of_keeps fun b o hb hnf=>⟨o,(other b (noRecord b o hb hnf)).trans hb,rfl⟩⟩ ?_ ⟨ox,vx,(other a (Ne.symm hTe)).trans hox,hdx,hvx,hv2⟩ fun b o hb hnf=>⟨o.slots,(other b (noRecord b o hb hnf)).trans hb⟩)
 exact⟨oe,vs,T,_,_,(other a (Ne.symm hTe)).trans he,hcls,hd,h1,hnT,hTe,Heap.get?_update_self _ hT (Obj.isFreed_of_fields (Obj.data_mapFields hdT _)),Obj.data_mapFields hdT _,by simp[hsz3]⟩
end
def Old(X:Cx)(H:Hp)(b:Addr):Prop:=
 H b≠none\/(∃o,X.s₀.heap.get? b=some o)\/(∃x,X.env.cells.lookup x=some b)\/(∃p∈X.pn,p.1=b)\/b=X.env.locals
def Cov(X:Cx)(H:Hp)(B h:Heap):Prop:= ∀b o,h.get? b=some o->Old X H b->b∉frs X.stack->B.get? b=some o
structure Exn(X:Cx)(H:Hp)(B:Heap)(a:Addr)(cls a0:Value)(m:Option Value)(h:Heap):Prop where
 air:Air B X.stack a h
 tr:Trc B a cls a0 m h
 md:m=none\/m=some .none\/m=some (rawInt X.env.locals)
 cov:Cov X H B h
 nd:NoD a h
structure Plain(X:Cx):Prop where
 stk:X.stack=X.env::X.outer
 frm:X.env.frame=some X.env.locals
 ex:X.ex=[]
noncomputable abbrev RX:=St->Hp->Value->Addr->Prop
def XS(X:Cx)(R:RX):Value->Shared->Prop:=fun e s'=>
 ∃a σ H B cls a0 m,e= .ref a/\Inv X [] σ H s'/\Exn X H B a cls a0 m s'.heap/\R σ H cls a
theorem ObjOk.get{P:Program}{w:World}{H:Hp}{h:Heap}{a:Addr}{o:HO}(x:ObjOk P w H h a o): ∃ob,h.get? a=some ob:=by
 cases o with
 |lst xs=>obtain⟨_,_,_,_,e⟩:=x;exact⟨_,e⟩
 |tup xs=>obtain⟨_,_,_,o,e,_⟩:=x;exact⟨_,e⟩
 |dK kvs=>obtain⟨_,_,_,_,o,_,_,e,_⟩:=x;exact⟨_,e⟩
 |dT kvs=>obtain⟨_,_,_,_,o,_,_,e,_⟩:=x;exact⟨_,e⟩
 |set S n=>obtain⟨o,_,_,_,e,_⟩:=x;exact⟨_,e⟩
 |ins C dx fs=>obtain⟨_,_,_,e,_⟩:=x;exact⟨_,e⟩
 |own y=>exact x
 |xd fs=>obtain⟨_,⟨_,_,_,e,_⟩,_⟩:=x;exact⟨_,e⟩
 |rng lo hi=>obtain⟨_,_,_,e⟩:=x;exact⟨_,e⟩
 |frz ob u=>obtain⟨e,_⟩:=x;exact⟨_,e⟩
 |tbl ps=>exact⟨_,(show h.get? a=some _ from x)⟩
 |met f y=>exact⟨_,(show h.get? a=some _ from x)⟩
 |ext φ=>exact x.2.1
section
variable {X:Cx}{σ:St}{H:Hp}{s:Shared}{B h':Heap}
theorem Inv.old(P:Plain X){pins:List (Addr×Obj)}(I:Inv X pins σ H s){b:Addr}(o:Old X H b): ∃ob,s.heap.get? b=some ob:=by
 rcases o with o | ⟨ob,e⟩ | ⟨x,e⟩ | ⟨p,hp,rfl⟩ |rfl
 . cases q:H b with
   |none=>exact absurd q o
   |some u=>exact(I.hok b u q).get
 . exact I.base.there b ob e (by rw[P.ex];simp)
 . obtain⟨v,ob,e,_⟩:=I.cell x b e
   exact⟨ob,e⟩
 . exact⟨_,(I.pin p (List.mem_append_left _ hp)).1⟩
 . obtain⟨m,⟨o,_,_,e,_⟩,_⟩:=I.loc
   exact⟨o,e⟩
theorem Inv.redo(I:Inv X [] σ H s)(cov:Cov X H B s.heap)(frm:s.heap.FunFrames B X.stack)(st:B.StaysIn h')(up:s.heap.UpToSlots h'):Inv X [] σ H {s with heap:=h'}:=by
 have kp: ∀b o,s.heap.get? b=some o->Old X H b->b∉frs X.stack->h'.get? b=some o:=fun b o e q n=>st _ _ (cov b o e q n)
 have sl: ∀b o,s.heap.get? b=some o->b∈frs X.stack-> ∃sl,h'.get? b=some {o with slots:=sl}:=fun b o e n=>by
   obtain⟨_,o',e',hd⟩:=frm.mem n
   rw[e]at e';cases e'
   exact up b o e hd
 have any: ∀b o,s.heap.get? b=some o->Old X H b-> ∃sl,h'.get? b=some {o with slots:=sl}:=fun b o e q=>by
   by_cases n:b∈frs X.stack
   . exact sl b o e n
   . exact⟨o.slots,kp b o e q n⟩
 have cellK: ∀x c,X.env.cells.lookup x=some c-> ∀v,s.heap.IsCell c v->h'.IsCell c v:=fun x c e v ⟨o,ho,hd⟩=>by
   obtain⟨sl,q⟩:=any c o ho (.inr (.inr (.inl ⟨x,e⟩)))
   exact⟨_,q,hd⟩
 refine⟨I.ok,I.os,I.bare,⟨fun b o e n hb hx=> ?_,fun b o e n hb hx=> ?_,I.base.free,fun b o e hx=> ?_,I.base.tups,I.base.frzs,I.base.tbls⟩,?_,fun x c e=> ?_,I.free,I.freeC,fun p hp=> ?_,fun b u q=> ?_,I.len⟩
 . refine kp b o (I.base.keep b o e n hb hx) (.inr (.inl ⟨o,e⟩)) fun z=> ?_
   rcases List.mem_cons.mp (I.stkSub b z)with q |q
   . exact absurd q (Nat.ne_of_lt (Nat.lt_of_lt_of_le (Heap.lt_size e) I.ok.above))
   . exact hb q
 . obtain⟨s1,e1⟩:=I.base.slot b o e n hb hx
   obtain⟨s2,e2⟩:=any b _ e1 (.inr (.inl ⟨o,e⟩))
   exact⟨s2,e2⟩
 . obtain⟨o',e1⟩:=I.base.there b o e hx
   obtain⟨s2,e2⟩:=any b _ e1 (.inr (.inl ⟨o,e⟩))
   exact⟨_,e2⟩
 . obtain⟨m,hn,hl⟩:=I.loc
   refine⟨m,up.ns hn,fun i x v e1 e2 e3=> ?_⟩
   obtain⟨u,r,l⟩:=hl i x v e1 e2 e3
   refine⟨u,r,?_⟩
   rcases l with l | ⟨k,c,e,z⟩
   . exact .inl l
   . exact .inr ⟨k,c,e,cellK x c e _ z⟩
 . obtain⟨v,z⟩:=I.cell x c e
   exact⟨v,cellK x c e v z⟩
 . have hp':p∈X.pn:=by simpa using hp
   obtain⟨e,n,ne,nf,d⟩:=I.pin p hp
   refine⟨kp p.1 p.2 e (.inr (.inr (.inr (.inl ⟨p,hp',rfl⟩)))) fun z=> ?_,n,ne,nf,d⟩
   rcases List.mem_cons.mp (I.stkSub _ z)with q |q
   . exact ne q
   . exact nf q
 . have hnn: ∀c u,H c=some u->c∉frs X.stack:=fun c u e z=>by
     rw[I.stkFree c z]at e;cases e
   refine(I.hok b u q).stay (fun c v hc r=> ?_) (fun _ r=>r) fun _ _ r=>r
   rcases hc with rfl |hc
   . exact kp c v r (.inl (by rw[q];simp)) (hnn c _ q)
   . exact kp c v r (.inl (by rw[hc];simp)) (hnn c _ hc)
theorem Cov.redo(P:Plain X)(I:Inv X [] σ H s)(cov:Cov X H B s.heap)(st:B.StaysIn h'):Cov X H B h':=fun b o e q n=>by
 obtain⟨ob,e0⟩:=I.old P q
 have e1:=cov b ob e0 q n
 have e2:=st _ _ e1
 rw[e]at e2
 cases e2
 exact e1
end
section
variable {X:Cx}{R:RX}
def Thr(X:Cx)(R:RX):Prop:= ∀e s',XS X R e s'->X.xe e s'
theorem Plain.wish(P:Plain X)(E:Value->Shared->Prop):Plain (X.wish E):=⟨P.stk,P.frm,P.ex⟩
theorem XS.unwish{E:Value->Shared->Prop}{e:Value}{s':Shared}(h:XS (X.wish E) R e s'):XS X R e s':=by
 obtain⟨a,σ,H,B,cls,a0,m,rfl,I,ex,r⟩:=h
 exact⟨a,σ,H,B,cls,a0,m,rfl,I.unwish,⟨ex.air,ex.tr,ex.md,ex.cov,ex.nd⟩,r⟩
theorem b1u:Thr (X.wish (XS X R)) R:=fun e s' h=>h.unwish
theorem a9i(P:Plain X)(ok:X.A.frames=some X.stack):PassesOwn (model X.prog X.w) X.A X.env (XS X R):=by
 rintro e s' ⟨a,σ,H,B,cls,a0,m,rfl,I,ex,r⟩
 have hfr:X.A.frames=some (X.env::X.outer):=by rw[ok,P.stk]
 have air:Air B (X.env::X.outer) a s'.heap:=by have:=ex.air;rw[P.stk]at this;exact this
 unfold notedBy
 refine b01 hfr P.frm air ex.tr ex.nd ex.md fun h1 air1 tr1 nd1 up1=> ?_
 have air1':Air B X.stack a h1:=by rw[P.stk];exact air1
 have I1:Inv X [] σ H {s' with heap:=h1}:=I.redo ex.cov ex.air.frm air1.stay up1
 have cov1:Cov X H B h1:=Cov.redo P I ex.cov air1.stay
 unfold cameBackBy
 obtain⟨oe,vs,T,oT,ts,he,hcls,hd,hv1,_⟩:=id tr1
 refine wpAny_bind (wpAny_field (s:={s' with heap:=h1}) he hd hv1 ?_)
 rw[if_neg (show ¬ ((Value.ref T==Value.none)=true)from by simp)]
 rw[P.frm]
 have key:wpAny (model X.prog X.w) X.A (setFlight (.ref a) (some X.env.locals)) (fun _ s''=>XS X R (.ref a) s'') (XS X R) {s' with heap:=h1}:=
   a3q (s:={s' with heap:=h1}) (f:=some X.env.locals) air1' tr1 nd1 fun h2 air2 tr2 nd2 up2=>
     ⟨a,σ,H,B,cls,a0,some (rawInt X.env.locals),rfl,I1.redo cov1 air1'.frm air2.stay up2,⟨air2,tr2,.inr (.inr rfl),Cov.redo P I1 cov1 air2.stay,nd2⟩,r⟩
 first
   |exact wpAny_bind (wpAny_pure key)
   |exact key
end
noncomputable def CXE(P:Program)(w:World):CXT:=fun outer H s E e s'=> ∃a H' B cls a0,e= .ref a/\s'.os=s.os/\AllBare s'.gens/\Un (frs outer) [] H H' s.heap s'.heap/\HOk P w H' s'.heap/\
 Air B outer a s'.heap/\s'.heap.TracedAtW B a cls a0 .none/\NoD a s'.heap/\(∀b o,s'.heap.get? b=some o->(H' b≠none\/ ∃o0,s.heap.get? b=some o0)->b∉frs outer->B.get? b=some o)/\E cls none H'
section
variable {X:Cx}{R:RX}{pins:List (Addr×Obj)}{σ:St}{H:Hp}{s s':Shared}{e:Value}{E:XK}
theorem XS.of_call(P:Plain X)(I:Inv X pins σ H s)(h:CXE X.prog X.w X.stack H s E e s')(hE: ∀cls H' a,E cls none H'->R σ H' cls a):XS X R e s':=by
 obtain⟨a,H',B,cls,a0,rfl,os,bare,un,hok,air,tr,nd,cov,q⟩:=h
 have I2:Inv X pins σ H' s':=I.call' os un hok bare fun b z=>absurd z (by simp)
 refine⟨a,σ,H',B,cls,a0,some .none,rfl,I2.pins_of (fun p hp=>absurd hp (by simp)),⟨air,tr,.inr (.inl rfl),fun b o e0 q0 n=>cov b o e0 ?_ n,nd⟩,hE _ _ _ q⟩
 rcases q0 with q0 |q0
 . exact .inl q0
 . right
   rcases q0 with⟨ob,e⟩ | ⟨x,e⟩ | ⟨p,hp,rfl⟩ |rfl
   . exact I.base.there b ob e (by rw[P.ex];simp)
   . obtain⟨v,ob,e,_⟩:=I.cell x b e
     exact⟨ob,e⟩
   . exact⟨_,(I.pin p (List.mem_append_left _ hp)).1⟩
   . obtain⟨m,⟨o,_,_,e,_⟩,_⟩:=I.loc
     exact⟨o,e⟩
theorem Thr.call(T:Thr X R)(P:Plain X)(I:Inv X pins σ H s)(h:CXE X.prog X.w X.stack H s (fun cls _ H'=> ∀a,R σ H' cls a) e s'):X.xe e s':=
 T e s' (XS.of_call P I h fun cls H' a q=>q a)
end
theorem plain_cx{CX:CXT}{P:Program}{w:World}{K:PySem.W.Frag}{mg:Str->Option Value}{base:Heap}{N:List Str}{qual:Str}{scope:Scope}{f:Addr}{cd:Value}{A:Around}{outer:List Env}{s:Shared}{H:Hp}{E:XK}:
   Plain (cxOf CX P w K mg base N qual scope f cd A outer s H E):=⟨rfl,rfl,rfl⟩
theorem b2n{P:Program}{w:World}{K:PySem.W.Frag}{mg:Str->Option Value}{base:Heap}{N:List Str}{qual:Str}{scope:Scope}{f:Addr}{cd:Value}{A:Around}{outer:List Env}{s:Shared}{H:Hp}{E:XK}:
   Thr (cxOf (CXE P w) P w K mg base N qual scope f cd A outer s H E) (fun _ H' cls _=>E cls none H'):=by
 rintro e s' ⟨a,σ,H',B,cls,a0,m,rfl,I,ex,r⟩
 have hfr:(A.deeper (envOfC qual scope s.heap.objs.size f cd)).frames=some (envOfC qual scope s.heap.objs.size f cd::outer):=I.ok.frames
 show wpAny (model P w) (A.deeper (envOfC qual scope s.heap.objs.size f cd)) (leaving (envOfC qual scope s.heap.objs.size f cd) (.ref a)) (fun _ s''=>CXE P w outer H s E (.ref a) s'') (fun e' s''=>CXE P w outer H s E e' s'') s'
 unfold leaving
 refine wpAny_bind (b01 (L:=s.heap.objs.size) hfr rfl ex.air ex.tr ex.nd ex.md fun h1 air1 tr1 nd1 up1=> ?_)
 have I1:Inv (cxOf (CXE P w) P w K mg base N qual scope f cd A outer s H E) [] σ H' {s' with heap:=h1}:=I.redo ex.cov ex.air.frm air1.stay up1
 have cov1:=Cov.redo plain_cx I ex.cov air1.stay
 refine a3q (s:={s' with heap:=h1}) (f:=none) air1 tr1 nd1 fun h2 air2 tr2 nd2 up2=> ?_
 have I2:Inv (cxOf (CXE P w) P w K mg base N qual scope f cd A outer s H E) [] σ H' {s' with heap:=h2}:=I1.redo cov1 air1.frm air2.stay up2
 have cov2:=Cov.redo plain_cx I1 cov1 air2.stay
 refine⟨a,H',B,cls,a0,rfl,I2.os,I2.bare,I2.base,I2.hok,⟨air2.stay,air2.new,?_⟩,tr2,nd2,fun b o e0 q0 n=> ?_,r⟩
 . obtain⟨_,_,k⟩:=air2.frm
   exact k
 . refine cov2 b o e0 ?_ fun z=> ?_
   . rcases q0 with q0 |q0
     . exact .inl q0
     . exact .inr (.inl q0)
   . rcases List.mem_cons.mp (I2.stkSub b z)with q |q
     . subst q
       rcases q0 with q0 | ⟨o0,q0⟩
       . exact q0 I2.free
       . exact absurd (Nat.lt_of_lt_of_le (Heap.lt_size q0) I2.ok.above) (Nat.lt_irrefl _)
     . exact n q
noncomputable abbrev Cx.by(X:Cx)(R:RX):Cx:=X.wish (XS X R)
theorem PSs.unthr{X:Cx}{R:RX}{st:List Stmt}{t:TS}(T:Thr X R)(h:PSs (X.by R) st t):PSs X st t:=fun pins s σ H D I hw=>
 wpAny_mono (h pins s σ H D (I.wish _) hw) (fun _ _ q=>q.unwish) fun e s' q=>T e s' q
abbrev rE(E:XK):RX:=fun _ H' cls _=>E cls none H'
theorem Fun.okX{P:Program}{w:World}{K:PySem.W.Frag}{mg:Str->Option Value}{base:Heap}{x qual:Str}{st:Stmt}{f:Addr}{fd:FuncData}{N ps:List Str}{k:Nat}{sp:Sp}(F:Fun K x qual st f fd)(S:FnScope N ps (a0f st))(len: ∀vs H Q E,sp vs H Q E->vs.length=ps.length)
   (hbody: ∀(cdv:Value) (A:Around) (outer:List Env) (s:Shared) (H:Hp) (vs:List V) (Q:VK) (E:XK),Room k (A.deeper (envOfC qual (a0f st) s.heap.objs.size f cdv))->sp vs H Q E->
     ∃t,PSs ((cxOf (CXE P w) P w K mg base N qual (a0f st) f cdv A outer s H E).by (rE E)) (a02 st) t/\t {nx:=fun _ H'=>Q .non H',rt:=Q} (start N vs) H):FnOk P w K mg base (CXE P w) (k+1) f fd ps sp:=by
 obtain⟨oc,od,kV,doc,pm,an,cdv,ct,osl,rfl,lk,hcd⟩:=F.ex
 refine fn_of lk hcd S len fun A outer s H vs Q E hr hsp=> ?_
 obtain⟨t,h,q⟩:=hbody cdv A outer s H vs Q E hr hsp
 exact⟨t,h.unthr b2n,q⟩
section
variable {X:Cx}{k:Nat}{f C:Addr}{fd:FuncData}{ps:List Str}{sp:Sp}{R:RX}{x m:Str}{p pos apos:Pos}{e o:Expr}{es:List Expr}{ta:TE}{t:TA}
theorem b0o{pins:List (Addr×Obj)}{σ:St}{H:Hp}{s:Shared}{Q:VK}{us:List Value}{vs:List V}(F:FnOk X.prog X.w X.K X.mg X.base (CXE X.prog X.w) k f fd ps sp)(hr:Room k X.A)(hb:Binds X.K fd ps [])(T:Thr X R)(Pl:Plain X)
   (I:Inv X pins σ H s) (r:Vals vs us) (h:sp vs H Q (fun cls _ H'=> ∀a,R σ H' cls a)):wpAny (model X.prog X.w) X.A (call (.ref f) us) (EP X pins σ Q) X.xe s:=by
 have hl:us.length=ps.length:=by rw[<-r.length];exact F.len _ _ _ _ h
 have hb':=hb s us I.kIn (by rw[List.append_nil];exact hl)
 rw[List.append_nil]at hb'
 refine wpAny_call (codeAny_mono (F.run X.A X.stack s H ⟨us,[]⟩ us vs Q _ hr I.env0 hb' r h) fun r s' hq=> ?_)
 cases r with
 |error e=>exact T.call Pl I hq
 |ok fl=>
   cases fl with
   |ret u=>exact I.after hq
   |next=>exact False.elim hq
   |brk=>exact False.elim hq
   |cont=>exact False.elim hq
def tCallX(sp:Sp)(R:RX)(t:TA):TE:=fun σ H Q=>t σ H fun vs H1=>sp vs H1 Q (fun cls _ H'=> ∀a,R σ H' cls a)
def tMethX(C:Addr)(m:Str)(sp:Sp)(R:RX)(ta:TE)(t:TA):TE:=fun σ H Q=>ta σ H fun x H1=> ∃a dx fs,x= .ref a/\H1 a=some (.ins C dx fs)/\fs.lookup m=none/\
 t σ H1 fun vs H2=>sp (x::vs) H2 Q (fun cls _ H'=> ∀a,R σ H' cls a)
theorem b7r(h:Has X.prog X.w X.K X.mg X.base (CXE X.prog X.w) k x ps sp)(hr:Room k X.A)(hg:Gl X x)(T:Thr X R)(Pl:Plain X)(ha:PA X (e::es) t)
   (hdb:(x==("__debug__":Str))=false:=by decide) (he:starEach (e::es) X.env=(false,eval e X.env)::starEach es X.env:=by rfl) (hpl:(backTo pos (starEach es X.env)).any (·.1)=false:=by rfl):
   PE X (.Call (.Name x p) (e::es) [] pos) (tCallX sp R t):=by
 intro pins s σ H Q I hw
 obtain⟨f,fd,F,hm,hk,hb⟩:=h.ex
 refine wpAny_Call_Name_kw (a5j I hg hm ?_ hdb)
 refine PySem.W.callWith_K (h₀:=X.base) I.ok.mod.kin hk (thn (ha pos pins s σ H _ I hw) fun us s1 ⟨vs,H1,I1,r,q⟩=>⟨I1.kIn,?_⟩) he hpl
 exact b0o F hr hb T Pl I1 r q
structure HasM(P:Program)(w:World)(K:PySem.W.Frag)(mg:Str->Option Value)(base:Heap)(CX:CXT)(k:Nat)(C:Addr)(m:Str)(ps:List Str)(sp:Sp):Prop where
 cl:Cls K C
 ex: ∃f fd,FnOk P w K mg base CX k f fd ps sp/\Meth K C m f/\Binds K fd ps []
theorem b7n{pl:Sem Bool}(h:HasM X.prog X.w X.K X.mg X.base (CXE X.prog X.w) k C m ps sp)(hr:Room k X.A)(T:Thr X R)(Pl:Plain X)(ho:PE X o ta)(ha:PA X (e::es) t)
   (hst:starEach (e::es) X.env=(false,eval e X.env)::starEach es X.env:=by rfl) (hpl:(backTo pos (starEach es X.env)).any (·.1)=false:=by rfl)
   (ht:eval (.Call (.Attribute o m apos) (e::es) [] pos) X.env=(do
     let ov <-eval o X.env
     standAt apos.atName
     let (f,first) <-holding [ov] (getMethod ov m pl)
     callWith pos f first (backTo pos (starEach (e::es) X.env)) (backToKw pos (keywordEach [] X.env))):=by rfl):
   PE X (.Call (.Attribute o m apos) (e::es) [] pos) (tMethX C m sp R ta t):=by
 intro pins s σ H Q I hw
 obtain⟨f,fd,F,hm,hb⟩:=h.ex
 refine PySem.W.methodCall_KW (pl:=pl) (thn (ho pins s σ H _ I hw) fun u s1 ⟨x,H1,I1,rx,a,dx,fs,ex,ea,l,q⟩=> ?_) ht
 subst ex
 obtain rfl:u=Value.ref a:=rx
 refine a72 I1 ea h.cl hm l ?_
 refine PySem.W.callWith_K (first:=[.ref a]) (h₀:=X.base) I.ok.mod.kin hm.kp (thn (ha pos pins s1 σ H1 _ I1 q) fun us s2 ⟨vs,H2,I2,r,q2⟩=>⟨I2.kIn,?_⟩) hst hpl
 exact b0o (us:= .ref a::us) (vs:= .ref a::vs) F hr hb T Pl I2 (.cons rfl r) q2
end
abbrev bmV:List Value:=[.type "ValueError",.type "Exception",.type "BaseException",.type "object"]
structure ExCls(K:PySem.W.Frag)(mg:Str->Option Value)(x:Str)(C:Addr):Prop where
 bound:mg x=some (.ref C)
 exc:PySem.W.excIn K C bmV "ValueError.__new__"=true
theorem ExCls.obj{K:PySem.W.Frag}{mg:Str->Option Value}{x:Str}{C:Addr}(O:ExCls K mg x C){h:Heap}(X:K.In h):
   ∃bm N nm q bs hdct sn sub ab col dd k0 k1 k2 k3 k5 mN,h.get? C=some (excClassObj nm q C N bs bm hdct sn sub ab col dd k0 k1 k2 k3 k5 "ValueError.__new__")/\h.Ns N mN/\mN "__init__"=none/\OwnTail h bmV bm:=by
 have q:=O.exc
 unfold PySem.W.excIn at q
 split at q
 . rename_i dd cd sl ho
   split at q
   . rename_i C' bm k0 k1 k2 k3 n k5 hm hs
     simp only[Bool.and_eq_true,beq_iff_eq,Bool.not_eq_true']at q
     obtain⟨⟨⟨⟨⟨rfl,rfl⟩,hdel⟩,ht⟩,hok⟩,hni⟩:=q
     obtain⟨nm,bs,mro,ns,qn,hd,sn,sub,ab,col,del⟩:=cd
     dsimp only at hm hdel hok hni
     subst hm hdel
     have hsl:sl= #[k0,k1,k2,k3,some (.builtin "ValueError.__new__"),k5]:=by
       obtain⟨l⟩:=sl
       simp only at hs
       rw[hs]
     subst hsl
     exact⟨bm,ns,nm,qn,bs,hd,sn,sub,ab,col,dd,k0,k1,k2,k3,k5,_,X _ _ ho,.of_isNs (PySem.W.isNs_of_in X hok),PySem.W.nsMap_none_of_in X hok hni,PySem.W.tail_of_in X ht⟩
   . cases q
 . cases q
section
variable {X:Cx}{R:RX}{x:Str}{C:Addr}{np cpos pos:Pos}{e:Expr}{es:List Expr}{t:TA}
theorem XS.made(Pl:Plain X){pins:List (Addr×Obj)}{σ:St}{H:Hp}{s:Shared}{h':Heap}{a:Addr}{us:List Value}(I:Inv X pins σ H s)(hx:Heap.MadeExcOf s.heap h' a (.ref C) us)(r:R σ H (.ref C) a):XS X R (.ref a) {s with heap:=h'}:=by
 obtain⟨tt,he,htn,htt⟩:=hx.there
 have I1:Inv X [] σ H {s with heap:=h'}:=(I.kept (t':=s.toks) hx.keeps).pins_of fun p hp=>absurd hp (by simp)
 refine⟨a,σ,H,PySem.W.hideAll s.heap (frs X.stack),.ref C,.ref tt,none,rfl,I1,⟨⟨fun b o q=>hx.keeps _ _ (PySem.W.of_hideAll _ q),?_,?_⟩,⟨_,_,he,rfl,rfl,rfl,rfl⟩,.inl rfl,fun b o q old n=> ?_,⟨_,_,he,rfl,rfl,rfl⟩⟩,r⟩
 . cases q:(PySem.W.hideAll s.heap (frs X.stack)).get? a with
   |none=>rfl
   |some o=>
     have:=PySem.W.of_hideAll _ q
     rw[hx.new]at this;cases this
 . refine Heap.FunFrames.of_keeps (fun b o q _=>⟨o,hx.keeps b o q,rfl⟩) (PySem.W.funFrames_hide I.stack fun env he a ha=> ?_)
   exact List.mem_filterMap.mpr ⟨env,he,ha⟩
 . obtain⟨ob,e0⟩:=I.old Pl old
   have e1:=hx.keeps _ _ e0
   rw[q]at e1;cases e1
   exact PySem.W.hideAll_get _ e0 n
noncomputable def tRaise(R:RX)(C:Addr)(t:TA):TS:=fun _ σ H=>t σ H fun vs H1=>vs.length<=sizeLine/\ ∀a,R σ H1 (.ref C) a
theorem b7j(T:Thr X R)(Pl:Plain X)(O:ExCls X.K X.mg x C)(hc:X.calm=true)(hg:Gl X x)(ha:PA X (e::es) t)
   (hd:(x==("__debug__":Str))=false:=by decide) (he:starEach (e::es) X.env=(false,eval e X.env)::starEach es X.env:=by rfl) (hpl:(backTo cpos (starEach es X.env)).any (·.1)=false:=by rfl):
   PS X (.Raise (some (.Call (.Name x np) (e::es) [] cpos)) none pos) (tRaise R C t):=by
 intro pins s σ H D I hw
 obtain⟨tl,N,nm,q,bs,hdct,sn,sub,ab,col,dd,k0,k1,k2,k3,k5,mN,hC,hN,hni,Tl⟩:=O.obj I.ok.mod.kin
 refine wpAny_Raise_call_subT (C:=C) (nm:=nm) (q:=q) (N:=N) (bs:=bs) (bm:=tl) (hdct:=hdct) (sn:=sn) (sub:=sub) (ab:=ab) (col:=col) (dd:=dd) (k0:=k0) (k1:=k1) (k2:=k2) (k3:=k3) (k5:=k5)
   PySem.F.excBase_ValueError (mN:=mN) (Tl.hasType PySem.F.excBase_ValueError.hasBase) (I.ok.hd hc) (by rw[he];show(false||(backTo cpos (starEach es X.env)).any (·.1))=false;rw[hpl];rfl) hni (a5j I hg O.bound ⟨rfl,?_⟩ hd)
 rw[he]
 have h2:=ha cpos pins s σ H _ I hw
 rw[he]at h2
 refine Calls.evalArgs_plain (wpAny_mono h2 (fun us s2 ⟨vs,H2,I2,r2,z2,q2⟩=>⟨rfl,by rw[<-r2.length];exact z2,I2.bk _ _ hC,hN.keeps I2.bk,Tl.keeps I2.bk,fun h' a hx=> ?_⟩) fun _ _ y=>y)
 exact T _ _ (XS.made Pl I2 hx (q2 a))
end
noncomputable abbrev Cx.pin(X:Cx)(pn:List (Addr×Obj)):Cx:={X with pn:=pn}
section
variable {X:Cx}{pins:List (Addr×Obj)}{σ:St}{H:Hp}{s:Shared}
theorem Cx.Ok.pin(ok:X.Ok)(pn:List (Addr×Obj)):(X.pin pn).Ok:=
 ⟨ok.mod,ok.kind,ok.glob,ok.blt,ok.above,ok.inj,ok.has,ok.cab,ok.hd,ok.frames,ok.stk,ok.exf,ok.bs,ok.bsz,ok.noex,ok.exfs,ok.funs,ok.frf⟩
theorem Cx.Ok.unpin{pn:List (Addr×Obj)}(ok:(X.pin pn).Ok):X.Ok:=
 ⟨ok.mod,ok.kind,ok.glob,ok.blt,ok.above,ok.inj,ok.has,ok.cab,ok.hd,ok.frames,ok.stk,ok.exf,ok.bs,ok.bsz,ok.noex,ok.exfs,ok.funs,ok.frf⟩
theorem Inv.topin(I:Inv X pins σ H s):Inv (X.pin (X.pn++pins)) [] σ H s:=
 ⟨I.ok.pin _,I.os,I.bare,I.base,I.loc,I.cell,I.free,I.freeC,fun p hp=>I.pin p (by simpa using hp),I.hok,I.len⟩
theorem Inv.ofpin(I:Inv (X.pin (X.pn++pins)) [] σ H s):Inv X pins σ H s:=
 ⟨I.ok.unpin,I.os,I.bare,I.base,I.loc,I.cell,I.free,I.freeC,fun p hp=>I.pin p (by simpa using hp),I.hok,I.len⟩
theorem SP.ofpin{D:Ends}{f:Flow}{s':Shared}(h:SP (X.pin (X.pn++pins)) [] D f s'):SP X pins D f s':=by
 cases f with
 |next=>obtain⟨σ',H',I,q⟩:=h;exact⟨σ',H',I.ofpin,q⟩
 |brk=>obtain⟨σ',H',I,q⟩:=h;exact⟨σ',H',I.ofpin,q⟩
 |cont=>obtain⟨σ',H',I,q⟩:=h;exact⟨σ',H',I.ofpin,q⟩
 |ret u=>obtain⟨v,σ',H',I,r,q⟩:=h;exact⟨v,σ',H',I.ofpin,r,q⟩
theorem Plain.pin(P:Plain X)(pn:List (Addr×Obj)):Plain (X.pin pn):=⟨P.stk,P.frm,P.ex⟩
end
noncomputable abbrev TH:=Ends->Value->Addr->St->Hp->Prop
def PH(X:Cx)(hs:List ExceptHandler)(t:TH):Prop:=
 ∀(s:Shared) (σ:St) (H:Hp) (D:Ends) (B:Heap) (a:Addr) (cls a0:Value),Inv X [] σ H s->Exn X H B a cls a0 (some .none) s.heap->t D cls a σ H->
   wpAny (model X.prog X.w) X.A (handleBy (.ref a) X.env hs) (SP X [] D) X.xe s
noncomputable def tTry(tb:RX->TS)(th:TH)(to:TS):TS:=fun D σ H=>tb (fun σ' H' cls a=>th D cls a σ' H') {D with nx:=to D} σ H
theorem ps_try{X:Cx}{body orelse:List Stmt}{h₀:ExceptHandler}{hs:List ExceptHandler}{pos:Pos}{tb:RX->TS}{th:TH}{to:TS}(Pl:Plain X)
   (hb: ∀pn R,PSs ((X.pin pn).by R) body (tb R)) (hh: ∀pn,PH (X.pin pn) (h₀::hs) th) (ho:PSs X orelse to):PS X (.Try body (h₀::hs) orelse [] pos) (tTry tb th to):=by
 intro pins s σ H D I hw
 refine wpAny_Try_except (wpAny_mono (hb (X.pn++pins) _ [] s σ H _ (I.topin.wish _) hw) (fun f s1 q=> ?_) (fun e s1 hx=> ?_))
 . have q':SP X pins {D with nx:=to D} f s1:=SP.ofpin (SP.unwish q)
   cases f with
   |next=>
     obtain⟨σ',H',I1,q1⟩:=q'
     exact ho pins s1 σ' H' D I1 q1
   |brk=>exact q'
   |cont=>exact q'
   |ret u=>exact q'
 . obtain⟨a,σ1,H1,B,cls,a0,m,rfl,I1,ex,r⟩:=hx
   have hfr:X.A.frames=some (X.env::X.outer):=by rw[I.ok.frames,Pl.stk]
   have air:Air B (X.env::X.outer) a s1.heap:=by have:=ex.air;rw[show(X.pin (X.pn++pins)).stack=X.env::X.outer from Pl.stk]at this;exact this
   refine b01 hfr Pl.frm air ex.tr ex.nd ex.md fun h1 air1 tr1 nd1 up1=> ?_
   have I2:Inv (X.pin (X.pn++pins)) [] σ1 H1 {s1 with heap:=h1}:=I1.redo ex.cov ex.air.frm air1.stay up1
   have cov2:=Cov.redo (Pl.pin _) I1 ex.cov air1.stay
   have air1':Air B (X.pin (X.pn++pins)).stack a h1:=by rw[show(X.pin (X.pn++pins)).stack=X.env::X.outer from Pl.stk];exact air1
   refine a3q (s:={s1 with heap:=h1}) (f:=none) air1' tr1 nd1 fun h2 air2 tr2 nd2 up2=> ?_
   have I3:Inv (X.pin (X.pn++pins)) [] σ1 H1 {s1 with heap:=h2}:=I2.redo cov2 air1'.frm air2.stay up2
   have cov3:=Cov.redo (Pl.pin _) I2 cov2 air2.stay
   exact wpAny_mono (hh (X.pn++pins) {s1 with heap:=h2} σ1 H1 D B a cls a0 I3 ⟨air2,tr2,.inr (.inl rfl),cov3,nd2⟩ r) (fun f s4 q=>q.ofpin) fun _ _ q=>q
section
variable {X:Cx}{R:RX}
theorem ph_nil(T:Thr X R)(Pl:Plain X):PH X [] (fun _ cls a σ H=>R σ H cls a):=by
 intro s σ H D B a cls a0 I ex r
 obtain⟨oe,vs,Tb,oT,ts,he,hcls,hd,hv1,_⟩:=id ex.tr
 refine wpAny_handleBy_nil ?_
 unfold PySem.passOn
 refine wpAny_bind (wpAny_field he hd hv1 ?_)
 rw[if_neg (show ¬ ((Value.ref Tb==Value.none)=true)from by simp)]
 rw[Pl.frm]
 have key:wpAny (model X.prog X.w) X.A (do setFlight (.ref a) (some X.env.locals);throw (.ref a)) (SP X [] D) X.xe s:=
   wpAny_bind (a3q (f:=some X.env.locals) ex.air ex.tr ex.nd fun h2 air2 tr2 nd2 up2=>wpAny_throw (T _ _ ⟨a,σ,H,B,cls,a0,some (rawInt X.env.locals),rfl,I.redo ex.cov ex.air.frm air2.stay up2,⟨air2,tr2,.inr (.inr rfl),Cov.redo Pl I ex.cov air2.stay,nd2⟩,r⟩))
 first
   |exact wpAny_bind (wpAny_pure key)
   |exact key
def excφ(a:Addr)(cls:Value):Heap->Prop:=fun h=> ∃o vs,h.get? a=some o/\o.cls=cls/\o.dict=none/\o.data= .fields vs/\vs[2]? =some .none
end
noncomputable abbrev Cx.hand(X:Cx)(a:Addr):Cx:={X with A:=X.A.mark (some (.ref a)),calm:=false,xe:=fun _ _=>False}
section
variable {X:Cx}{pins:List (Addr×Obj)}{σ:St}{H:Hp}{s:Shared}
theorem Cx.Ok.hand(ok:X.Ok)(a:Addr):(X.hand a).Ok:=
 ⟨ok.mod,ok.kind,ok.glob,ok.blt,ok.above,ok.inj,ok.has,ok.cab,fun z=>absurd z (by simp),ok.frames,ok.stk,ok.exf,ok.bs,ok.bsz,ok.noex,ok.exfs,ok.funs,ok.frf⟩
theorem Inv.hand(I:Inv X pins σ H s)(a:Addr):Inv (X.hand a) pins σ H s:=
 ⟨I.ok.hand a,I.os,I.bare,I.base,I.loc,I.cell,I.free,I.freeC,I.pin,I.hok,I.len⟩
theorem Inv.unhand{a:Addr}(ok:X.Ok)(I:Inv (X.hand a) pins σ H s):Inv X pins σ H s:=
 ⟨ok,I.os,I.bare,I.base,I.loc,I.cell,I.free,I.freeC,I.pin,I.hok,I.len⟩
theorem SP.unhand{a:Addr}{D:Ends}{f:Flow}{s':Shared}(ok:X.Ok)(h:SP (X.hand a) pins D f s'):SP X pins D f s':=by
 cases f with
 |next=>obtain⟨σ',H',I,q⟩:=h;exact⟨σ',H',I.unhand ok,q⟩
 |brk=>obtain⟨σ',H',I,q⟩:=h;exact⟨σ',H',I.unhand ok,q⟩
 |cont=>obtain⟨σ',H',I,q⟩:=h;exact⟨σ',H',I.unhand ok,q⟩
 |ret u=>obtain⟨v,σ',H',I,r,q⟩:=h;exact⟨v,σ',H',I.unhand ok,r,q⟩
end
section
variable {X:Cx}{x n:Str}{C:Addr}{np hp:Pos}{b₀:Stmt}{suite:List Stmt}{rest:List ExceptHandler}{ts:Addr->TS}{tr:TH}
theorem b1j{s:Shared}{σ:St}{H:Hp}{B:Heap}{a:Addr}{cls a0 c:Value}{b:Bool}{A:Around}{E:Value->Shared->Prop}{Q:Bool->Shared->Prop}(I:Inv X [] σ H s)(ex:Exn X H B a cls a0 (some .none) s.heap)
   (hx:PySem.W.exmOne X.K cls c=some b) (q:Q b s):wpAny (model X.prog X.w) A (excMatches (.ref a) c) Q E s:=by
 obtain⟨oe,vs,Tb,oT,tt,he,hcls,hd,hv1,_⟩:=id ex.tr
 obtain⟨rfl,_⟩:=hcls
 exact(PySem.W.exm_one I.kIn ((PySem.W.Looks.ld he).andThen .now) hx).here q
theorem ph_cons(Pl:Plain X)(hm:X.mg x=some (.ref C))(hg:Gl X x)(hs: ∀a,PSs (X.hand a) (b₀::suite) (ts a))(hr:PH X rest tr)(hd:(x==("__debug__":Str))=false:=by decide):
   PH X (.ExceptHandler (some (.Name x np)) none (b₀::suite) hp::rest)
     (fun D cls a σ H=> ∃b,PySem.W.exmOne X.K cls (.ref C)=some b/\if b=true then ts a D σ H else tr D cls a σ H):=by
 intro s σ H D B a cls a0 I ex hw
 obtain⟨b,hx,hw⟩:=hw
 refine wpAny_handleBy_cons (codeAny_handlers_test ?_) (by intro q;cases q)
 refine a5j (X:=X.hand a) (I.hand a) hg hm (b1j I ex hx ?_) hd
 cases b with
 |false=>exact hr s σ H D B a cls a0 I ex hw
 |true=>
   refine codeAny_handlers_suite ?_
   refine a3q (f:=none) ex.air ex.tr ex.nd fun h2 air2 tr2 nd2 up2=> ?_
   have I2:=I.redo ex.cov ex.air.frm air2.stay up2
   exact wpAny_mono (hs a [] _ σ H D (I2.hand a) hw) (fun f s' q=>q.unhand I.ok) fun _ _ z=>z.elim
end
structure CompOk(X:Cx)(scope:Scope)(cl:List (Str×Addr))(Nc:List Str)(js:List (Option Nat)):Prop where
 clos:closureFor scope X.env=pure cl
 sub: ∀n c,cl.lookup n=some c->X.env.cells.lookup n=some c
 cell: ∀y∈scope.names,y.2≠ .cell
 kind:scope.kind= .function
 names: ∀x∈scope.names,x.2= .local->scope.names.lookup x.1=some .local
 has : ∀ x, ((relabel scope X.env).names.lookup x = some .cell \/ (relabel scope X.env).names.lookup x = some .free) -> ∃ c, cl.lookup x = some c
 len:js.length=Nc.length
 free : ∀ (k j : Nat), js[k]? = some (some j) -> ∃ x c, Nc[k]? = some x /\ X.N[j]? = some x /\ X.env.scope.names.lookup x = some .cell /\ cl.lookup x = some c /\ (relabel scope X.env).names.lookup x = some .cell
noncomputable abbrev a0s(X:Cx)(pins:List (Addr×Obj))(Nc:List Str)(scope:Scope)(cl:List (Str×Addr))(C:Addr)(fp:List Addr)(s:Shared)(H:Hp):Cx:=
 {X with N:=Nc,s₀:=s,H₀:=H,env:=compEnvC scope cl C X.env,outer:=X.stack,stack:=X.stack,ex:=fp,fn:=fun _=>false,pn:=X.pn++pins,xe:=fun _ _=>False}
noncomputable def sigC(js:List (Option Nat))(σ:St):St:=js.map fun o=>o.bind fun j=>(σ[j]?).join
section
variable {X:Cx}{pins:List (Addr×Obj)}{σ:St}{H:Hp}{s:Shared}{Nc:List Str}{scope:Scope}{cl:List (Str×Addr)}{js:List (Option Nat)}{fp:List Addr}
theorem a73(O:CompOk X scope cl Nc js)(I:Inv X pins σ H s)(hfp: ∀b∈fp,FpOk X pins H b/\b<s.heap.objs.size){h₁:Heap}{t:Nat}(hns:h₁.Ns s.heap.objs.size (fun _=>none))
   (hk: ∀b o,s.heap.get? b=some o->h₁.get? b=some o):
   Inv (a0s X pins Nc scope cl s.heap.objs.size fp s H) [] (sigC js σ) H {s with heap:=h₁,toks:=t}:=by
 have cb: ∀x c,cl.lookup x=some c->c<s.heap.objs.size:=fun x c e=>by
   obtain⟨v,o,e,_⟩:=I.cell x c (O.sub x c e)
   exact Heap.lt_size e
 refine⟨⟨I.ok.mod,O.kind,I.ok.glob,I.ok.blt,Nat.le_refl _,fun x y c e1 e2=>I.ok.inj x y c (O.sub _ _ e1) (O.sub _ _ e2),O.has,fun _ _ z=>absurd z (by simp),I.ok.hd,I.ok.frames,.inl rfl,fun b hb=> ?_,
   I.bs,Nat.le_trans I.ok.bsz I.sz,fun b o e hb=> ?_,fun b hb z=> ?_,I.stack,I.stkFree⟩,rfl,I.bare,Un.kept hk,⟨_,hns,fun k x v e1 e2 e3=> ?_⟩,fun x c e=> ?_,I.hok.fresh (Nat.le_refl _),fun x c e=>I.freeC x c (O.sub x c e),fun p hp=> ?_,I.hok.kept hk,?_⟩
 . exact⟨Nat.ne_of_lt (hfp b hb).2,fun x c e=>(hfp b hb).1.2.2.2.2.1 x c (O.sub x c e)⟩
 . -- a thing of the base is no iterator of ours
   obtain⟨⟨_,_,_,h4,_⟩,_⟩:=hfp b hb
   rcases h4 with z |z
   . exact I.ok.noex b o e z
   . exact absurd (Nat.lt_of_lt_of_le (Heap.lt_size (I.ok.bs b o e).1) z) (Nat.lt_irrefl _)
 . rcases List.mem_cons.mp (I.stkSub b z)with q |q
   . exact(hfp b hb).1.2.1 q
   . exact(hfp b hb).1.2.2.1 q
 . unfold sigC at e2
   rw[List.getElem?_map]at e2
   cases ej:js[k]? with
   |none=>rw[ej]at e2;cases e2
   |some oj=>
     rw[ej]at e2
     cases oj with
     |none=>cases e2
     |some j=>
       have e2:(σ[j]?).join=some v:=Option.some.inj e2
       obtain⟨x',c,f1,f2,f3,f4,f5⟩:=O.free k j ej
       rw[show Nc[k]? =some x from e1]at f1
       cases f1
       have e2':σ[j]? =some (some v):=by
         cases q:σ[j]? with
         |none=>rw[q]at e2;cases e2
         |some q'=>rw[q]at e2;cases q' with
           |none=>cases e2
           |some z=>cases e2;rfl
       obtain⟨m,hn,hl⟩:=I.loc
       obtain⟨u,r,l⟩:=hl j x v f2 e2' (.inr (.inl f3))
       refine⟨u,r,.inr ⟨.inl f5,c,f4,?_⟩⟩
       rcases l with⟨k1,_⟩ | ⟨_,c',g1,g2⟩
       . have:X.env.scope.names.lookup x=some .local:=k1
         rw[f3]at this;cases this
       . rw[O.sub x c f4]at g1
         cases g1
         obtain⟨o,ho,hd⟩:=g2
         exact⟨o,hk _ _ ho,hd⟩
 . obtain⟨v,o,ho,hd⟩:=I.cell x c (O.sub x c e)
   exact⟨v,o,hk _ _ ho,hd⟩
 . have hp:p∈X.pn++pins:=by simpa using hp
   obtain⟨e,n,n1,n2,d⟩:=I.pin p hp
   refine⟨hk _ _ e,n,Nat.ne_of_lt (Heap.lt_size e),fun z=> ?_,d⟩
   rcases List.mem_cons.mp (I.stkSub _ z)with q |q
   . exact n1 q
   . exact n2 q
 . show(js.map _).length=Nc.length
   rw[List.length_map,O.len]
theorem b21{C:Addr}{σ':St}{H':Hp}{s':Shared}{qs:List (Addr×Obj)}(I:Inv X pins σ H s)(hfp: ∀b∈fp,FpOk X pins H b)(J:Inv (a0s X pins Nc scope cl C fp s H) qs σ' H' s'):Inv X pins σ H' s':=
 I.call' (ch:=fp) J.os J.base J.hok J.bare fun b hb=>by
   obtain⟨_,h2,_,h4,h5,h6⟩:=hfp b hb
   exact⟨h4,h2,h5,h6⟩
end
noncomputable def a3p(env:Env)(ifs:List Expr):Sem Bool:=forIn ifs true fun c r=>if r=true then do let ok <-isTrue c env (eval c env);pure (ForInStep.yield ok)else pure (ForInStep.yield r)
theorem ifs_nil{M:Model}{A:Around}{E:Value->Shared->Prop}{s:Shared}{env:Env}{Q:Bool->Shared->Prop}(h:Q true s):wpAny M A (a3p env []) Q E s:=wpAny_pure h
theorem ifs_one{M:Model}{A:Around}{E:Value->Shared->Prop}{s:Shared}{env:Env}{c:Expr}{Q:Bool->Shared->Prop}(h:wpAny M A (isTrue c env (eval c env)) Q E s):wpAny M A (a3p env [c]) Q E s:=by
 unfold a3p
 simp only[List.forIn_cons,List.forIn_nil,if_true]
 refine wpAny_bind (wpAny_bind (wpAny_mono h (fun b s' q=>wpAny_pure ?_) fun _ _ x=>x))
 exact wpAny_pure q
theorem b1p{prog:Program}{w:World}{A:Around}{R:Result->Shared->Prop}{s:Shared}{elt target iter:Expr}{ifs:List Expr}{scope:Scope}{pos:Pos}{it acc:Value}{env:Env}(I:Nat->Shared->Prop)
   (turn: ∀n s,I n s->wpAny (model prog w) A (pyNext it) (fun r s₁=>match r with
     |none=>R (.ok .next) s₁
     |some v=>wpAny (model prog w) A (letOwnedTupleGo target it v) (fun _ s₂=>wpAny (model prog w) A (assign target env v) (fun _ s₃=>wpAny (model prog w) A (a3p env ifs) (fun b s₄=>
         if b=true then wpAny (model prog w) A (eval elt env) (fun x s₅=>wpAny (model prog w) A (call (.builtin "list.append") [acc,x]) (fun _ s₆=> ∃m,m<n/\I m s₆) (fun _ _=>False) s₅) (fun _ _=>False) s₄
         else ∃m,m<n/\I m s₄) (fun _ _=>False) s₃) (fun _ _=>False) s₂) (fun _ _=>False) s₁) (fun _ _=>False) s)
   (n:Nat) (h:I n s):
   codeAny (model prog w) A (.compLoop (.ListComp elt [⟨target,iter,ifs,0⟩] scope pos) 0 it acc env) R s:=by
 refine codeAny_loop rfl I (fun n s hI=> ?_) n h
 show wpAny _ _ ((compTurn (.ListComp elt [⟨target,iter,ifs,0⟩] scope pos) 0 it acc env).onRaise (fun x=>do noteFrame x env;theTreesLotGoes x)) _ _ s
 refine wpAny_noted ?_
 have no: ∀{E:Value->Shared->Prop} (e:Value) (s':Shared),False->E e s':=fun _ _ f=>f.elim
 rw[compTurn_list]
 refine wpAny_bind (wpAny_standAt (wpAny_bind (wpAny_mono (turn n s hI) (fun r s₁ h₁=> ?_) no)))
 cases r with
 |none=>exact wpAny_pure h₁
 |some v=>
   refine wpAny_bind (wpAny_mono h₁ (fun _ s₂ h₂=>wpAny_bind (wpAny_mono h₂ (fun _ s₃ h₃=> ?_) no)) no)
   show wpAny (model prog w) A (a3p env ifs>>=_) _ _ s₃
   refine wpAny_bind (wpAny_mono h₃ (fun b s₄ h₄=> ?_) no)
   cases b with
   |true=>
     rw[if_pos rfl]at h₄
     exact wpAny_bind (wpAny_bind (wpAny_mono h₄ (fun x s₅ h5=>wpAny_bind (wpAny_mono h5 (fun _ s₆ h6=>wpAny_pure (wpAny_pure ⟨rfl,h6⟩)) no)) no))
   |false=>
     rw[if_neg Bool.false_ne_true]at h₄
     exact wpAny_bind (wpAny_pure (wpAny_pure ⟨rfl,h₄⟩))
def PIfs(X:Cx)(ifs:List Expr)(t:TT):Prop:=
 ∀(pins:List (Addr×Obj)) (s:Shared) (σ:St) (H:Hp) (Q:Bool->Hp->Prop),Inv X pins σ H s->t σ H Q->wpAny (model X.prog X.w) X.A (a3p X.env ifs) (TP X pins σ Q) X.xe s
theorem pif_nil{X:Cx}:PIfs X [] (fun _ H Q=>Q true H):=fun _ _ _ H _ I h=>ifs_nil ⟨H,I,h⟩
theorem pif_one{X:Cx}{c:Expr}{t:TT}(h:PT X c t):PIfs X [c] t:=fun pins s σ H Q I hw=>ifs_one (h pins s σ H Q I hw)
def tCompW(J:It)(l:Addr)(g:TG)(ti:TT)(te:TE)(Qk:Hp->Prop)(W:Nat->Nat->List V->St->Hp->Prop):Prop:=
 ∀i m ys σ H,W i m ys σ H->H l=some (.lst ys)/\((J.stop i H/\Qk H)\/(J.go i H/\ys.length<sizeLine/\ ∀x H',J.yld i H x H'->g x σ H' fun σ2 H2=>ti σ2 H2 fun b H3=>
   if b=true then te σ2 H3 fun y H4=>H4 l=some (.lst ys)/\ ∃m',m'<m/\W (i+1) m' (ys++[y]) σ2 (upd H4 l (.lst (ys++[y])))else ∃m',m'<m/\W (i+1) m' ys σ2 H3))
def tComp(js:List (Option Nat))(wi:TI)(g:TG)(ti:TT)(te:TE):TE:=fun σ H Q=>wi σ H fun J H1=> ∀l,H1 l=none-> ∃W:Nat->Nat->List V->St->Hp->Prop,(∃m,W 0 m [] (sigC js σ) (upd H1 l (.lst [])))/\tCompW J l g ti te (Q (.ref l)) W
section
variable {X:Cx}{Nc:List Str}{scope:Scope}{cl:List (Str×Addr)}{js:List (Option Nat)}{tg iter elt:Expr}{ifs:List Expr}{g:TG}{ti:TT}{te:TE}{wi:TI}{pos:Pos}
theorem b20{pins:List (Addr×Obj)}{H₀:Hp}{s₀ s:Shared}{C l it:Addr}{fp:List Addr}{J:It}{tn:Nat->Heap->Prop}{Qk:Hp->Prop}{W:Nat->Nat->List V->St->Hp->Prop}{RR:Result->Shared->Prop}{σc:St}{H:Hp}(hc:X.calm=true)
   (hg: ∀pins C fp s H,PG (a0s X pins Nc scope cl C fp s H) tg g) (hti: ∀pins C fp s H,PIfs (a0s X pins Nc scope cl C fp s H) ifs ti) (he: ∀pins C fp s H,PE (a0s X pins Nc scope cl C fp s H) elt te)
   (T:Turn X.prog X.w X.K tg J fp it tn) (w:tCompW J l g ti te Qk W) {m0:Nat} (w0:W 0 m0 [] σc H)
   (I:Inv (a0s X pins Nc scope cl C fp s₀ H₀) [] σc H s) (st:tn 0 s.heap) (hfp: ∀b∈fp,FpOk (a0s X pins Nc scope cl C fp s₀ H₀) [] H b)
   (hRR: ∀qs σ' H' s',Inv (a0s X pins Nc scope cl C fp s₀ H₀) qs σ' H' s'->(∀b∈fp,H' b=none)->Qk H'->RR (.ok .next) s'):
   codeAny (model X.prog X.w) X.A (.compLoop (.ListComp elt [⟨tg,iter,ifs,0⟩] scope pos) 0 (.ref it) (.ref l) (compEnvC scope cl C X.env)) RR s:=by
 have stat: ∀{H':Hp},(∀b∈fp,H' b=none)-> ∀b∈fp,FpOk (a0s X pins Nc scope cl C fp s₀ H₀) [] H' b:=fun hn b hb=>⟨hn b hb,(hfp b hb).2⟩
 refine b1p (fun n s'=> ∃i ys σ' H',Inv (a0s X pins Nc scope cl C fp s₀ H₀) [] σ' H' s'/\tn i s'.heap/\(∀b∈fp,H' b=none)/\W i n ys σ' H') ?_ m0 ⟨0,[],σc,H,I,st,fun b hb=>(hfp b hb).1,w0⟩
 rintro n s3 ⟨i,ys,σ3,H3,I3,st3,fr3,w3⟩
 obtain⟨hl,w4⟩:=w i n ys σ3 H3 w3
 rcases w4 with⟨stop,qn⟩ | ⟨go,hz,step⟩
 . refine thn (T.done (a0s X pins Nc scope cl C fp s₀ H₀) rfl rfl rfl hc i [] s3 σ3 H3 _ I3 (stat fr3) st3 stop) fun r s4 zz9=> ?_
   obtain⟨hr,I4⟩:=zz9
   subst hr
   exact hRR [] σ3 H3 s4 I4 fr3 qn
 . refine thn (T.item (a0s X pins Nc scope cl C fp s₀ H₀) rfl rfl rfl hc i [] s3 σ3 H3 _ I3 (stat fr3) st3 go) fun r s4 zz9=> ?_
   obtain⟨u,hr,h4⟩:=zz9
   subst hr
   refine thn h4 fun _ s5 zz9=> ?_
   obtain⟨x,H5,I5,r5,y5,st5,fr5⟩:=zz9
   have I5':=I5.pinned (stat fr5) (T.obj _ _ st5)
   refine thn (hg pins C fp s₀ H₀ _ s5 σ3 H5 x u _ I5' r5 (step x H5 y5)) fun _ s6 zz9=> ?_
   obtain⟨σ6,H6,I6,q6⟩:=zz9
   refine thn (hti pins C fp s₀ H₀ _ s6 σ6 H6 _ I6 q6) fun b s7 zz9=> ?_
   obtain⟨H7,I7,q7⟩:=zz9
   have again: ∀{σ7:St}{H8:Hp}{s8:Shared}{ys':List V},Inv (a0s X pins Nc scope cl C fp s₀ H₀) ([]++a9h fp s5.heap) σ7 H8 s8->(∃m',m'<n/\W (i+1) m' ys' σ7 H8)->
       ∃m,m<n/\ ∃i ys σ' H',Inv (a0s X pins Nc scope cl C fp s₀ H₀) [] σ' H' s8/\tn i s8.heap/\(∀b∈fp,H' b=none)/\W i m ys σ' H':=fun {σ7 H8 s8 ys'} I8 w8=>by
     obtain⟨m',hm,w8⟩:=w8
     refine⟨m',hm,i+1,ys',σ7,H8,I8.unpinned,T.keep _ _ _ st5 fun b hb o e=>(I8.pin (b,o) (List.mem_append_right _ (List.mem_append_right _ (a3y hb e)))).1,fun b hb=> ?_,w8⟩
     obtain⟨o,e,d⟩:=T.obj _ _ st5 b hb
     exact(I8.pin (b,o) (List.mem_append_right _ (List.mem_append_right _ (a3y hb e)))).2.1
   cases b with
   |true=>
     rw[if_pos rfl]at q7 |-
     refine thn (he pins C fp s₀ H₀ _ s7 σ6 H7 _ I7 q7) fun y s8 zz9=> ?_
     obtain⟨vy,H8,I8,r8,hl8,q8⟩:=zz9
     refine thn (a1e (X:=a0s X pins Nc scope cl C fp s₀ H₀) _ s8 σ6 H8 (.ref l) [vy] (.ref l) [y] (fun _ H9=>H9=upd H8 l (.lst (ys++[vy]))) I8 rfl (.cons r8 .nil) ⟨l,ys,vy,rfl,rfl,hl8,hz,rfl⟩) fun _ s9 zz9=> ?_
     obtain⟨_,H9,I9,_,e9⟩:=zz9
     subst e9
     exact again I9 q8
   |false=>
     rw[if_neg Bool.false_ne_true]at q7 |-
     exact again I7 q7
theorem pe_comp(O:CompOk X scope cl Nc js)(hc:X.calm=true)(hi:PI X tg iter wi)(hg: ∀pins C fp s H,PG (a0s X pins Nc scope cl C fp s H) tg g)(hti: ∀pins C fp s H,PIfs (a0s X pins Nc scope cl C fp s H) ifs ti)
   (he: ∀pins C fp s H,PE (a0s X pins Nc scope cl C fp s H) elt te) (hs: ∀x,foldedSetIterable iter X.env x=pure x:=by intro _;rfl):
   PE X (.ListComp elt [⟨tg,iter,ifs,0⟩] scope pos) (tComp js wi g ti te):=by
 intro pins s σ H Q I hw
 rw[eval_ListComp]
 refine wpAny_comprehension_free (use:=none) rfl hs O.clos O.kind O.names (thn (hi pins s σ H _ I hw) fun v s1 h1=>thn h1 fun itv s2 h2=> ?_)
 obtain⟨it,fp,tn,J,H2,e,I2,T,st2,f2,r2⟩:=h2
 subst e
 refine wpAny_newObj_type ?_
 have hl0:H2 s2.heap.objs.size=none:=I2.hok.fresh (Nat.le_refl _)
 obtain⟨W,⟨m0,w0⟩,w⟩:=r2 s2.heap.objs.size hl0
 have k3: ∀b o,s2.heap.get? b=some o->(s2.heap.push {cls:= .type "list",data:= .seq ([]:List Value).toArray}).get? b=some o:=fun b o e=>Heap.get?_push_of_some _ e
 have I3:Inv X pins σ (upd H2 s2.heap.objs.size (.lst [])) {s2 with heap:=s2.heap.push {cls:= .type "list",data:= .seq ([]:List Value).toArray}}:=
   I2.laid (t':=s2.toks) k3 (Nat.le_refl _) ⟨Nat.zero_le _,[],0,.nil,Heap.get?_push_size _ rfl⟩
 have fpl: ∀b∈fp,b<s2.heap.objs.size:=fun b hb=>by
   obtain⟨o,e,_⟩:=T.obj _ _ st2 b hb
   exact Heap.lt_size e
 have f3: ∀b∈fp,FpOk X pins (upd H2 s2.heap.objs.size (.lst [])) b:=fun b hb=>⟨by rw[a0p (Nat.ne_of_lt (fpl b hb))];exact(f2 b hb).1,(f2 b hb).2⟩
 have sz3:(s2.heap.push {cls:= .type "list",data:= .seq ([]:List Value).toArray}).objs.size=s2.heap.objs.size+1:=Heap.size_push _ _
 refine wpAny_newFunctionEnv O.cell (by intro y hy;simp at hy) (fun h₁ hns₁ hsb₁=> ?_) O.kind
 have k4: ∀b o,(s2.heap.push {cls:= .type "list",data:= .seq ([]:List Value).toArray}).get? b=some o->h₁.get? b=some o:=fun b o e=>
   (hsb₁.2 b (Nat.ne_of_lt (Heap.lt_size e))).trans (Heap.get?_push_of_some _ e)
 have Ic:=a73 (Nc:=Nc) (js:=js) (fp:=fp) (t:=s2.toks) O I3 (fun b hb=>⟨f3 b hb,by show b< (s2.heap.push _).objs.size;rw[sz3];exact Nat.lt_succ_of_lt (fpl b hb)⟩) (h₁:=h₁) hns₁ k4
 have st4:tn 0 h₁:=T.keep _ _ _ st2 fun b hb o e=>k4 b o (k3 b o e)
 have fC:FpOk X pins (upd H2 s2.heap.objs.size (.lst [])) (s2.heap.push {cls:= .type "list",data:= .seq ([]:List Value).toArray}).objs.size:=I3.fpOk (Nat.le_refl _) (I3.hok.fresh (Nat.le_refl _))
 have loop: ∀s4:Shared,s4={s2 with heap:=h₁,toks:=s2.toks}->codeAny (model X.prog X.w) X.A (.compLoop (.ListComp elt [⟨tg,iter,ifs,0⟩] scope pos) 0 (.ref it) (.ref s2.heap.objs.size) (compEnvC scope cl (s2.heap.push {cls:= .type "list",data:= .seq ([]:List Value).toArray}).objs.size X.env))
     (compPost (model X.prog X.w) X.A X.xe none (EP X pins σ Q) (.ref s2.heap.objs.size) (s2.heap.push {cls:= .type "list",data:= .seq ([]:List Value).toArray}).objs.size) s4:=by
   rintro s4 rfl
   refine b20 (s₀:={s2 with heap:=s2.heap.push {cls:= .type "list",data:= .seq ([]:List Value).toArray}}) hc hg hti he T w w0 Ic st4 (fun b hb=> ?_) fun qs σ' H' s' J' fr' q'=> ?_
   . obtain⟨g1,g2,g3,g4,g5,g6⟩:=f3 b hb
     refine⟨g1,Nat.ne_of_lt (by show b< (s2.heap.push _).objs.size;rw[sz3];exact Nat.lt_succ_of_lt (fpl b hb)),fun z=> ?_,.inl hb,fun x c e=>g5 x c (O.sub x c e),fun p hp=>g6 p (by simpa using hp)⟩
     rcases List.mem_cons.mp (I3.stkSub b z)with q |q
     . exact g2 q
     . exact g3 q
   . obtain⟨mC,hnC,_⟩:=J'.loc
     have I5:Inv X pins σ H' s':=b21 I3 f3 J'
     refine⟨mC,hnC,fun h' sb=>⟨.ref s2.heap.objs.size,H',?_,rfl,q'⟩⟩
     exact I5.turned (t':=s'.toks) (fun b o hb e=>(sb.2 b hb).trans e) J'.free fC.2.1 fC.2.2.2.1 fC.2.2.2.2.1 fC.2.2.2.2.2
 exact codeAny_compStart_list (loop _ rfl) (T.self X.A 0 _ _ _ st4 (loop _ rfl))
theorem b4t{i:Nat}{y:Str}{py spos:Pos}(hN:X.N.Nodup)(hiN:X.N[i]? =some y)(hyl:X.env.scope.names.lookup y=some .local)(O:CompOk X scope cl Nc js)(hc:X.calm=true)(hi:PI X tg iter wi)(hg: ∀pins C fp s H,PG (a0s X pins Nc scope cl C fp s H) tg g)(hti: ∀pins C fp s H,PIfs (a0s X pins Nc scope cl C fp s H) ifs ti)
   (he: ∀pins C fp s H,PE (a0s X pins Nc scope cl C fp s H) elt te) (hsw:swapsWith (.ListComp elt [⟨tg,iter,ifs,0⟩] scope pos) (some (.Name y py)) spos.line X.env=pure true) (hs: ∀x,foldedSetIterable iter X.env x=pure x:=by intro _;rfl):
   PS X (.Assign [.Name y py] (.ListComp elt [⟨tg,iter,ifs,0⟩] scope pos) spos) (tAsg (tComp js wi g ti te) (gName i)):=by
 intro pins s σ H D I hw
 rw[exec_Assign_Name_used _ _ _ _ hsw]
 refine wpAny_bind (wpAny_standAt (wpAny_bind ?_))
 show wpAny _ X.A (do let _ <-comprehension (.ListComp elt [⟨tg,iter,ifs,0⟩] scope pos) scope X.env _ (newList []) false (eval iter X.env) (some (assign (.Name y py) X.env))) _ _ s
 refine wpAny_bind (wpAny_mono (wpAny_comprehension_free (use:=some (assign (.Name y py) X.env)) (Q:=fun _ s'=>SP X pins D .next s') rfl hs O.clos O.kind O.names ?_) (fun _ s' hq=>wpAny_pure (wpAny_pure hq)) fun _ _ e=>e)
 refine(thn (hi pins s σ H _ I hw) fun v s1 h1=>thn h1 fun itv s2 h2=> ?_)
 obtain⟨it,fp,tn,J,H2,e,I2,T,st2,f2,r2⟩:=h2
 subst e
 refine wpAny_newObj_type ?_
 have hl0:H2 s2.heap.objs.size=none:=I2.hok.fresh (Nat.le_refl _)
 obtain⟨W,⟨m0,w0⟩,w⟩:=r2 s2.heap.objs.size hl0
 have k3: ∀b o,s2.heap.get? b=some o->(s2.heap.push {cls:= .type "list",data:= .seq ([]:List Value).toArray}).get? b=some o:=fun b o e=>Heap.get?_push_of_some _ e
 have I3:Inv X pins σ (upd H2 s2.heap.objs.size (.lst [])) {s2 with heap:=s2.heap.push {cls:= .type "list",data:= .seq ([]:List Value).toArray}}:=
   I2.laid (t':=s2.toks) k3 (Nat.le_refl _) ⟨Nat.zero_le _,[],0,.nil,Heap.get?_push_size _ rfl⟩
 have fpl: ∀b∈fp,b<s2.heap.objs.size:=fun b hb=>by
   obtain⟨o,e,_⟩:=T.obj _ _ st2 b hb
   exact Heap.lt_size e
 have f3: ∀b∈fp,FpOk X pins (upd H2 s2.heap.objs.size (.lst [])) b:=fun b hb=>⟨by rw[a0p (Nat.ne_of_lt (fpl b hb))];exact(f2 b hb).1,(f2 b hb).2⟩
 have sz3:(s2.heap.push {cls:= .type "list",data:= .seq ([]:List Value).toArray}).objs.size=s2.heap.objs.size+1:=Heap.size_push _ _
 refine wpAny_newFunctionEnv O.cell (by intro y hy;simp at hy) (fun h₁ hns₁ hsb₁=> ?_) O.kind
 have k4: ∀b o,(s2.heap.push {cls:= .type "list",data:= .seq ([]:List Value).toArray}).get? b=some o->h₁.get? b=some o:=fun b o e=>
   (hsb₁.2 b (Nat.ne_of_lt (Heap.lt_size e))).trans (Heap.get?_push_of_some _ e)
 have Ic:=a73 (Nc:=Nc) (js:=js) (fp:=fp) (t:=s2.toks) O I3 (fun b hb=>⟨f3 b hb,by show b< (s2.heap.push _).objs.size;rw[sz3];exact Nat.lt_succ_of_lt (fpl b hb)⟩) (h₁:=h₁) hns₁ k4
 have st4:tn 0 h₁:=T.keep _ _ _ st2 fun b hb o e=>k4 b o (k3 b o e)
 have fC:FpOk X pins (upd H2 s2.heap.objs.size (.lst [])) (s2.heap.push {cls:= .type "list",data:= .seq ([]:List Value).toArray}).objs.size:=I3.fpOk (Nat.le_refl _) (I3.hok.fresh (Nat.le_refl _))
 have loop: ∀s4:Shared,s4={s2 with heap:=h₁,toks:=s2.toks}->codeAny (model X.prog X.w) X.A (.compLoop (.ListComp elt [⟨tg,iter,ifs,0⟩] scope pos) 0 (.ref it) (.ref s2.heap.objs.size) (compEnvC scope cl (s2.heap.push {cls:= .type "list",data:= .seq ([]:List Value).toArray}).objs.size X.env))
     (compPost (model X.prog X.w) X.A X.xe (some (assign (.Name y py) X.env)) (fun _ s'=>SP X pins D .next s') (.ref s2.heap.objs.size) (s2.heap.push {cls:= .type "list",data:= .seq ([]:List Value).toArray}).objs.size) s4:=by
   rintro s4 rfl
   refine b20 (s₀:={s2 with heap:=s2.heap.push {cls:= .type "list",data:= .seq ([]:List Value).toArray}}) hc hg hti he T w w0 Ic st4 (fun b hb=> ?_) fun qs σ' H' s' J' fr' q'=> ?_
   . obtain⟨g1,g2,g3,g4,g5,g6⟩:=f3 b hb
     refine⟨g1,Nat.ne_of_lt (by show b< (s2.heap.push _).objs.size;rw[sz3];exact Nat.lt_succ_of_lt (fpl b hb)),fun z=> ?_,.inl hb,fun x c e=>g5 x c (O.sub x c e),fun p hp=>g6 p (by simpa using hp)⟩
     rcases List.mem_cons.mp (I3.stkSub b z)with q |q
     . exact g2 q
     . exact g3 q
   . obtain⟨mC,hnC,_⟩:=J'.loc
     have I5:Inv X pins σ H' s':=b21 I3 f3 J'
     have neC:(s2.heap.push {cls:= .type "list",data:= .seq ([]:List Value).toArray}).objs.size≠X.env.locals:=fC.2.1
     show wpAny _ X.A (assign (.Name y py) X.env (.ref s2.heap.objs.size)) _ _ s'
     refine wpAny_assign_Name (a9c I5 hN hiN (.inl hyl) (v:= .ref s2.heap.objs.size) rfl (fun s6 I6 ⟨a6,sb6,ha6⟩=> ?_) (.inr hyl))
     have nea:a6≠(s2.heap.push {cls:= .type "list",data:= .seq ([]:List Value).toArray}).objs.size:=by
       rcases ha6 with z |z
       . rw[z];exact fun z=>neC z.symm
       . exact fC.2.2.2.2.1 y a6 z
     refine⟨mC,hnC.sameBut sb6 nea.symm,fun h' sb=>⟨_,H',?_,q'⟩⟩
     exact I6.turned (t':=s6.toks) (fun b o hb e=>(sb.2 b hb).trans e) J'.free fC.2.1 fC.2.2.2.1 fC.2.2.2.2.1 fC.2.2.2.2.2
 exact codeAny_compStart_list (loop _ rfl) (T.self X.A 0 _ _ _ st4 (loop _ rfl))
end
mutual
inductive Rep(K:PySem.W.Frag)(H:Hp):V->PyData->Prop where
 |non:Rep K H .non .none
 |bl (b:Bool):Rep K H (.bl b) (.bool b)
 |int (i:Int):Rep K H (.int i) (.int i)
 |str (x:Str):Rep K H (.str x) (.str x)
 |lst {a:Addr}{xs:List V}{ds:List PyData} (e:SqL K H a xs) (r:Reps K H xs ds):Rep K H (.ref a) (.list ds)
 |tup {a:Addr}{xs:List V}{ds:List PyData} (e:SqT K H a xs) (r:Reps K H xs ds):Rep K H (.ref a) (.tuple ds)
inductive Reps(K:PySem.W.Frag)(H:Hp):List V->List PyData->Prop where
 |nil:Reps K H [] []
 |cons {x:V}{d:PyData}{xs:List V}{ds:List PyData} (h:Rep K H x d) (t:Reps K H xs ds):Reps K H (x::xs) (d::ds)
end
section
variable {X:Cx}{pins:List (Addr×Obj)}{σ:St}{H:Hp}{s:Shared}
mutual
theorem Rep.reads(I:Inv X pins σ H s): ∀{x:V}{d:PyData}{v:Value},Rep X.K H x d->RelV x v-> ∃as,Reads s.heap v d as
 |_,_,_,.non,r=>by cases(show _=Value.none from r);exact⟨_,.none⟩
 |_,_,_,.bl b,r=>by cases(show _=Value.bool b from r);exact⟨_,.bool b⟩
 |_,_,_,.int i,r=>by obtain⟨t,rfl⟩:=r;exact⟨_,.int i t⟩
 |_,_,_,.str x,r=>by obtain⟨t,rfl⟩:=r;exact⟨_,.str x t⟩
 |_,_,_,@Rep.lst _ _ a xs ds e rs,r=>by
   cases(show _=Value.ref a from r)
   obtain⟨its,rv,pl,_⟩:=I.list e
   obtain⟨as,q⟩:=Reps.reads I rs rv
   obtain⟨o,ho,hc,n,hd⟩:=pl.isList
   exact⟨_,.list ho hc hd (by simpa using q)⟩
 |_,_,_,@Rep.tup _ _ a xs ds e rs,r=>by
   cases(show _=Value.ref a from r)
   obtain⟨its,rv,⟨o,ho,hc,n,hd⟩,_⟩:=I.tuple e
   obtain⟨as,q⟩:=Reps.reads I rs rv
   exact⟨_,.tuple ho hc hd (by simpa using q)⟩
theorem Reps.reads(I:Inv X pins σ H s): ∀{xs:List V}{ds:List PyData}{us:List Value},Reps X.K H xs ds->Vals xs us-> ∃as,ReadsAll s.heap us ds as
 |_,_,_,.nil,r=>by cases r;exact⟨_,.nil⟩
 |_,_,_,.cons h t,r=>by
   cases r with
   |cons r1 r2=>
     obtain⟨as,q1⟩:=Rep.reads I h r1
     obtain⟨bs,q2⟩:=Reps.reads I t r2
     exact⟨_,.cons q1 q2⟩
end
end
def rEqD(K:PySem.W.Frag)(neg:Bool):R2:=fun x y H Q=> ∃dx dy,Rep K H x dx/\Rep K H y dy/\SeqAt.shaped dx=true/\SeqAt.shaped dy=true/\Q (.bl (if neg then !PyData.eqv dx dy else PyData.eqv dx dy)) H
section
variable {X:Cx}
theorem op_eqD(hu:X.A.units+64<cLine):OpR X (compareOp .Eq) (rEqD X.K false):=by
 intro pins s σ H x y v u Q I rx ry h
 obtain⟨dx,dy,h1,h2,s1,s2,q⟩:=h
 obtain⟨as,r1⟩:=h1.reads I rx
 obtain⟨bs,r2⟩:=h2.reads I ry
 exact SeqAt.compareEq_shaped r1 r2 s1 s2 hu ⟨.bl _,H,I,rfl,q⟩
theorem op_neD(hu:X.A.units+64<cLine):OpR X (compareOp .NotEq) (rEqD X.K true):=by
 intro pins s σ H x y v u Q I rx ry h
 obtain⟨dx,dy,h1,h2,s1,s2,q⟩:=h
 obtain⟨as,r1⟩:=h1.reads I rx
 obtain⟨bs,r2⟩:=h2.reads I ry
 exact SeqAt.compareNe_shaped r1 r2 s1 s2 hu ⟨.bl _,H,I,rfl,q⟩
end
mutual
theorem b2w: ∀d:PyData,d.canLay0=true->PyData.eqv d d=true
 | .none,_=>by simp[PyData.eqv]
 | .bool b,_=>by simp[PyData.eqv]
 | .int i,_=>by simp[PyData.eqv]
 | .str x,_=>by simp[PyData.eqv]
 | .list xs,h=>by rw[PyData.eqv];exact a4f xs (by simpa only[PyData.canLay0]using h)
 | .tuple xs,h=>by rw[PyData.eqv];exact a4f xs (by simpa only[PyData.canLay0]using h)
 | .dict _,h=>by simp[PyData.canLay0]at h
theorem a4f: ∀ds:List PyData,PyData.canLayAll0 ds=true->PyData.eqvAll ds ds=true
 | [],_=>by simp[PyData.eqvAll]
 |d::ds,h=>by
   have h:d.canLay0=true/\PyData.canLayAll0 ds=true:=by simpa only[PyData.canLayAll0,Bool.and_eq_true]using h
   rw[PyData.eqvAll,b2w d h.1,a4f ds h.2]
   rfl
end
noncomputable def Itw(n:Nat)(f:Nat->V):It:=⟨fun i _=>i<n,fun i H x H'=>H'=H/\x=f i,fun i _=>i=n⟩
theorem a7p{P:Program}{w:World}{K:PySem.W.Frag}{tg:Expr}{it:Addr}{n:Nat}{f:Nat->V}{Pv:Nat->Value->Prop}{tn:Nat->Heap->Prop}
   (W: ∀A:Around,A.handled=none->Walks P w A it [it] [it] n Pv tn) (hv: ∀i v,i<n->Pv i v->RelV (f i) v)
   (ho: ∀i h,tn i h-> ∃o nm vs,h.get? it=some o/\o.cls= .type nm/\o.data= .fields vs/\["enumerate","zip","dict_itemiterator","dict_reverseitemiterator","odict_iterator","itertools.zip_longest","itertools.pairwise"].contains nm=false)
   (self: ∀(A:Around) (i:Nat) (s:Shared) (Q:Value->Shared->Prop) (E:Value->Shared->Prop),tn i s.heap->Q (.ref it) s->wpAny (model P w) A (pyIter (.ref it)) Q E s):
   Turn P w K tg (Itw n f) [it] it tn where
 mem:=by simp
 obj:=fun i h st b hb=>by
   have e:b=it:=by simpa using hb
   subst e
   obtain⟨o,nm,vs,e,_,d,_⟩:=ho i h st
   exact⟨o,e,fun v z=>by rw[d]at z;cases z⟩
 keep:=fun i h h' st k=>(W {depth:=0,handled:=none} rfl).frame i h h' st k
 item:=by
   intro X hP hw hK hc i pins s σ H E I hf st hg
   subst hP hw hK
   obtain⟨f0,f1,f2,f3,f4,f5⟩:=hf it (by simp)
   refine(W X.A (I.ok.hd hc)).item i s _ _ hg st fun v h' tk hpv st' kk=> ?_
   have I1:Inv X pins σ H {s with heap:=h',toks:=tk}:=I.turned (fun b o hb e=>kk b o (by simpa using hb) e) f0 f1 f3 f4 f5
   obtain⟨o,nm,vs,e,c,d,nn⟩:=ho _ _ st'
   exact⟨v,rfl,b8b (s:={s with heap:=h',toks:=tk}) e c d nn ⟨f i,H,I1,hv i v hg hpv,⟨rfl,rfl⟩,st',fun b hb=>(hf b hb).1⟩⟩
 done:=by
   intro X hP hw hK hc i pins s σ H E I hf st hg
   subst hP hw hK
   obtain⟨f0,f1,f2,f3,f4,f5⟩:=hf it (by simp)
   have hg:i=n:=hg
   subst hg
   exact(W X.A (I.ok.hd hc)).done s _ _ st fun h' tk kk=>⟨rfl,I.turned (fun b o hb e=>kk b o (by simpa using hb) e) f0 f1 f3 f4 f5⟩
 self:=self
section
variable {X:Cx}{tg:Expr}
noncomputable def signV(x:Str)(i:Nat):V:= .str ⟨#[x.cps.getD i 0]⟩
def iStr(tl:TE):TI:=fun σ H R=>tl σ H fun v H1=> ∃x,v= .str x/\R (Itw x.cps.size (signV x)) H1
theorem b16{x:Str}{i:Nat}{v:Value}(hi:i<x.cps.size)(h:SignAt x i v):RelV (signV x i) v:=by
 obtain⟨c,u,e,rfl⟩:=h
 refine⟨u,?_⟩
 have e2:x.cps.getD i 0=c:=by simp[e]
 rw[e2]
theorem pi_str{l:Expr}{tl:TE}(hl:PE X l tl):PI X tg l (iStr tl):=by
 intro pins s σ H R I h
 refine thn (hl pins s σ H _ I h) fun v s1 zz9=> ?_
 obtain⟨y,H1,I1,r1,x,e1,q1⟩:=zz9
 subst e1
 obtain⟨t,rfl⟩:=r1
 cases ha:x.cps.all (· <128)
 . refine wpAny_pyIter_wide ha ?_
   exact⟨s1.heap.objs.size,[s1.heap.objs.size],_,_,H1,rfl,I1.kept (t':=s1.toks) fun b o e=>Heap.get?_push_of_some _ e,a7p (fun A hA=>Walks.strWide hA _ x t) (fun i v hi hp=>b16 hi hp)
     (fun i h ⟨o,e,c,d⟩=>⟨o,_,_,e,c,d,by decide⟩) (fun _ _ _ _ _ st q=>wpAny_pyIter_striter_wide st q),⟨_,Heap.get?_push_size _ rfl,rfl,rfl⟩,
     fun b hb=>by
       have e:b=s1.heap.objs.size:=by simpa using hb
       subst e
       exact I1.fpOk (Nat.le_refl _) (I1.hok.fresh (Nat.le_refl _)),q1⟩
 . refine wpAny_pyIter_ascii ha ?_
   exact⟨s1.heap.objs.size,[s1.heap.objs.size],_,_,H1,rfl,I1.kept (t':=s1.toks) fun b o e=>Heap.get?_push_of_some _ e,a7p (fun A hA=>Walks.strAscii hA _ x t) (fun i v hi hp=>b16 hi hp)
     (fun i h ⟨o,e,c,d⟩=>⟨o,_,_,e,c,d,by decide⟩) (fun _ _ _ _ _ st q=>wpAny_pyIter_striter_ascii st q),⟨_,Heap.get?_push_size _ rfl,rfl,rfl⟩,
     fun b hb=>by
       have e:b=s1.heap.objs.size:=by simpa using hb
       subst e
       exact I1.fpOk (Nat.le_refl _) (I1.hok.fresh (Nat.le_refl _)),q1⟩
def rSlS:V->Option Int->Option Int->Hp->VK->Prop:=fun x lo hi H Q=> ∃z,x= .str z/\z.length<=sizeLine/\Q (.str (Txt.slice z lo hi)) H
theorem sl_str:SlR X rSlS:=by
 intro pins s σ H x v vl vu lo hi sl Q I rx hs pl pu h
 obtain⟨z,rfl,hz,q⟩:=h
 obtain⟨t,rfl⟩:=rx
 have fin: ∀t' k,EP X pins σ Q (.str (Txt.slice z lo hi) t') {s with toks:=k}:=fun t' k=>⟨.str _,H,I.tok _,⟨t',rfl⟩,q⟩
 have hle:(Txt.slice z lo hi).length<=sizeLine:=Nat.le_trans (Txt.slice_le z _ _) hz
 refine⟨"str",_,F.slot_str_getitem.lookup,typeIs_str _ _ _,?_⟩
 cases pl with
 |none=>
   cases pu with
   |none=>exact wpAny_getItem_str_slice (l:=none) (u:=none) (st:=none) hs rfl (post_val_or_str ⟨hle,fun t' k=>fin t' k⟩)
   |int j uj=>exact wpAny_getItem_str_slice (l:=none) (u:=some (j,uj)) (st:=none) hs rfl (post_val_or_str ⟨hle,fun t' k=>fin t' k⟩)
 |int i ui=>
   cases pu with
   |none=>exact wpAny_getItem_str_slice (l:=some (i,ui)) (u:=none) (st:=none) hs rfl (post_val_or_str ⟨hle,fun t' k=>fin t' k⟩)
   |int j uj=>exact wpAny_getItem_str_slice (l:=some (i,ui)) (u:=some (j,uj)) (st:=none) hs rfl (post_val_or_str ⟨hle,fun t' k=>fin t' k⟩)
def gLst(K:PySem.W.Frag)(n:Nat)(t:TGs):TG:=fun v σ H Q=> ∃a xs,v= .ref a/\SqL K H a xs/\xs.length=n/\t xs σ H Q
theorem pg_lst{es:List Expr}{k:Nat}{t:TGs}{n:Nat}{pos:Pos}(hc:X.calm=true)(h:PGs X es t)
   (hn:(assignEach es X.env).length=n:=by rfl) (hst:(assignEach es X.env).findIdx? (·.1)=none:=by rfl):PG X (.Tuple es k pos) (gLst X.K n t):=by
 intro pins s σ H v u Q I r hw
 obtain⟨a,xs,e1,hq,hl,hw⟩:=hw
 subst e1
 cases r
 obtain⟨its,rv,pl,hz⟩:=I.list hq
 rw[assign_Tuple]
 refine wpAny_bind (wpAny_standAt ?_)
 unfold unpack
 have hsz:(assignEach es X.env).length=its.toArray.size:=by simp[hn,<-hl,rv.length]
 rw[hsz,hst]
 refine wpAny_bind (wpAny_holding (PySem.W.kun_itemsOf (I.ok.hd hc) pl.isList fun h' hx=> ?_))
 have I1:Inv X pins σ H {s with heap:=h'}:=I.kept (t':=s.toks) fun b o e=>hx b o (Nat.ne_of_lt (Heap.lt_size e)) e
 exact h pins _ σ H xs _ Q I1 (by simpa using rv) hw
end
open PySem PySem.W PySem.Spec PySem.Calls PyProof.Rows
structure ExLook(K:Frag)(D:Addr):Prop where
 cl:(clsIn K D).isSome=true
 ga:findIn K (.ref D) "__getattribute__"=some (some (.builtin "BaseException.__getattribute__"))
 gn:findIn K (.ref D) "__getattr__"=some none
 ha:findIn K (.ref D) "__class__"=some (some (.builtin "object.__class__"))
 hn:specialIn K (.builtin "object.__class__") "__get__"=some (some (.builtin "getset_descriptor.__get__"))
 tk:takesIn K (.builtin "object.__class__")=some true
 hm:mroIn K D (.type "object")=some true
 hb:mroIn K D (.type "BaseException")=some true
section
variable {prog:Program}{w:World}{A:Around}{E:Value->Shared->Prop}{s:Shared}{K:Frag}{x D:Addr}{ox:Obj}
end
noncomputable def clsV:V->Option Value
 | .ref a=>some (.ref a)
 | .ty n=>some (.type n)
 |_=>none
theorem b8h{y:V}{cv u:Value}(e:clsV y=some cv)(r:RelV y u):u=cv:=by
 cases y<;>first | (cases e;done) | (cases e;exact r)
theorem a98{X:Cx}:CallR X (.builtin "isinstance") (fun xs H Q=> ∃x y t cv b,xs=[x,y]/\TyOf X.K H x t/\clsV y=some cv/\kitOne X.K t cv=some b/\Q (.bl b) H):=by
 intro pins s σ H xs us Q I r h
 obtain⟨x,y,t,cv,b,rfl,ty,hy,e,q⟩:=h
 obtain⟨u,u',rfl,rx,ru⟩:=vals2 r
 cases b8h hy ru
 exact b55 I rx ty e fun tk=>⟨.bl b,H,I.tok tk,rfl,q⟩
section
variable {X:Cx}{tg l:Expr}{body:List Stmt}{tl:TE}{g:TG}{tb:TS}{pos:Pos}{a:Addr}
end
structure RoomH(k:Nat)(A:Around):Prop where
 dp:A.depth+3 *k+5<recursionLimit
 un:A.units+16 *k+200<cLine
theorem Room.hand{k:Nat}{A:Around}(r:Room k A)(a:Addr):RoomH k (A.mark (some (.ref a))):=⟨r.dp,r.un⟩
theorem RoomH.deeper{k:Nat}{A:Around}(r:RoomH (k+1) A)(env:Env):RoomH k (A.deeper env):=
 ⟨by have:=r.dp;show A.depth+1+3 *k+5<_;omega,by have:=r.un;show A.units+3+16 *k+200<_;omega⟩
structure FnOkH(P:Program)(w:World)(K:PySem.W.Frag)(mg:Str->Option Value)(base:Heap)(k:Nat)(f:Addr)(fd:FuncData)(ps:List Str)(sp:Addr->Sp):Prop where
 len: ∀a vs H Q E,sp a vs H Q E->vs.length=ps.length
 run: ∀(A:Around) (a:Addr) (outer:List Env) (s:Shared) (H:Hp) (args:Args) (us:List Value) (vs:List V) (Q:VK) (E:XK),RoomH k A->A.handled=some (.ref a)->Env0 P w K mg base A outer s H->BindsTo s fd args (ps.zip us)->Vals vs us->sp a vs H Q E->
   codeAny (model P w) A (.call (.ref f) args) (CR CX0 outer P w H s Q E) s
structure HasH(P:Program)(w:World)(K:PySem.W.Frag)(mg:Str->Option Value)(base:Heap)(k:Nat)(x:Str)(ps:List Str)(sp:Addr->Sp):Prop where
 ex: ∃f fd,FnOkH P w K mg base k f fd ps sp/\mg x=some (.ref f)/\PySem.W.keepIn K (.ref f)=true/\Binds K fd ps []
section
variable {X:Cx}{k:Nat}{ps:List Str}{sp:Addr->Sp}{x:Str}{p pos:Pos}{e:Expr}{es:List Expr}{t:TA}{a:Addr}
end
section
variable {X:Cx}{pins:List (Addr×Obj)}{σ:St}{H:Hp}{s:Shared}
theorem Inv.adopt{b:Addr}{o:HO}(I:Inv X pins σ H s)(f:FpOk X pins H b)(hs:X.s₀.heap.objs.size<=b)(ok:ObjOk X.prog X.w (upd H b o) s.heap b o):Inv X pins σ (upd H b o) s:=by
 obtain⟨hn,hL,hfs,_,hc,hp⟩:=f
 have ne: ∀c u,H c=some u->c≠b:=fun c u q z=>by subst z;rw[hn]at q;cases q
 refine⟨I.ok,I.os,I.bare,⟨I.base.keep,I.base.slot,fun c oc e n hx=> ?_,I.base.there,fun c xs e=> ?_,fun c oc u e=> ?_,fun c ps e=> ?_⟩,I.loc,I.cell,?_,fun x c e=> ?_,fun p hp'=> ?_,fun c u q=> ?_,I.len⟩
 . rw[a0p (show c≠b from fun z=>absurd (Nat.lt_of_lt_of_le (Heap.lt_size e) (by rw[z];exact hs)) (Nat.lt_irrefl _))]
   exact I.base.free c oc e n hx
 . have e':=I.base.tups c xs e
   rw[a0p (ne c _ e')];exact e'
 . have e':=I.base.frzs c oc u e
   rw[a0p (ne c _ e')];exact e'
 . obtain⟨m1,e'⟩:=I.base.tbls c ps e
   exact⟨m1,by rw[a0p (ne c _ e')];exact e'⟩
 . rw[a0p (Ne.symm hL)];exact I.free
 . rw[a0p (hc x c e)];exact I.freeC x c e
 . obtain⟨e,n,n1,n2,d⟩:=I.pin p hp'
   exact⟨e,by rw[a0p (hp p hp')];exact n,n1,n2,d⟩
 . by_cases hb:c=b
   . subst hb
     rw[a0u]at q
     cases q
     exact ok
   . rw[a0p hb]at q
     exact(I.hok c u q).stay (fun _ _ _ r=>r) (fun c' r=>by rw[a0p (ne c' _ r)];exact r) fun c' xs r=>by rw[a0p (ne c' _ r)];exact r
def viewφ(T:String)(p a:Addr):Heap->Prop:=fun h=>h.get? p=some {cls:= .type T,data:= .fields #[.ref a]}
def b4n(T:String):V->List V->Hp->VK->Prop:=fun x vs H Q=> ∃a kvs,x= .ref a/\vs=[]/\Rd H a (.dK kvs)/\ ∀p,H p=none->Q (.ref p) (upd H p (.ext (viewφ T p a)))
theorem b0f{T:String}{a:Addr}{Q:VK}(I:Inv X pins σ H s)(h: ∀p,H p=none->Q (.ref p) (upd H p (.ext (viewφ T p a)))):
   EP X pins σ Q (.ref s.heap.objs.size) {s with heap:=s.heap.push {cls:= .type T,data:= .fields #[.ref a]}}:=by
 refine⟨.ref s.heap.objs.size,_,I.laid (t':=s.toks) (fun b ob q=>Heap.get?_push_of_some _ q) (Nat.le_refl _) ?_,rfl,h _ (I.hok.fresh (Nat.le_refl _))⟩
 exact⟨Heap.get?_push_size _ rfl,⟨_,Heap.get?_push_size _ rfl⟩,fun h1 h2 e k=>k _ e⟩
theorem a9t:MtR X "dict.values" (b4n "dict_values"):=by
 intro pins s σ H x vs v us Q I rx rv h
 obtain⟨a,kvs,rfl,rfl,hd,q⟩:=h
 cases rx;cases rv
 obtain⟨_,lo,ws,_,hD⟩:=a40 I.hok hd
 exact call_meetsIn PySem.F.slot_dict_values hD.typeIs PySem.F.entry_dict_values (PySem.F.args_dict_values_1 _) (meets_dict_values (a0z X.prog X.w) a lo) ⟨⟨ws,hD⟩,b0f I q⟩
theorem b2i:MtR X "dict.items" (b4n "dict_items"):=by
 intro pins s σ H x vs v us Q I rx rv h
 obtain⟨a,kvs,rfl,rfl,hd,q⟩:=h
 cases rx;cases rv
 obtain⟨_,lo,ws,_,hD⟩:=a40 I.hok hd
 exact call_meetsIn PySem.F.slot_dict_items hD.typeIs PySem.F.entry_dict_items (PySem.F.args_dict_items_1 _) (meets_dict_items (a0z X.prog X.w) a lo) ⟨⟨ws,hD⟩,b0f I q⟩
theorem mt_keys:MtR X "dict.keys" (b4n "dict_keys"):=by
 intro pins s σ H x vs v us Q I rx rv h
 obtain⟨a,kvs,rfl,rfl,hd,q⟩:=h
 cases rx;cases rv
 obtain⟨_,lo,ws,_,hD⟩:=a40 I.hok hd
 exact call_meetsIn PySem.F.slot_dict_keys hD.typeIs PySem.F.entry_dict_keys (PySem.F.args_dict_keys_1 _) (PySem.W.kdl_meets_keys (a0z X.prog X.w) a lo) ⟨⟨ws,hD⟩,b0f I q⟩
theorem b66{kvs:List (Key×V)}{ws:List (Key×Value)}(r:KV kvs ws):Vals (kvs.map (·.2)) (ws.map (·.2)):=by
 induction r with
 |nil=>exact .nil
 |cons h _ ih=>exact .cons h.2 ih
theorem KV.at{kvs:List (Key×V)}{ws:List (Key×Value)}(r:KV kvs ws){j:Nat}{k:Key}{u:Value}(h:ws[j]? =some (k,u)): ∃v,kvs[j]? =some (k,v)/\RelV v u:=by
 induction r generalizing j with
 |nil=>simp at h
 |cons h1 _ ih=>
   cases j with
   |zero=>
     simp only[List.getElem?_cons_zero,Option.some.injEq]at h
     rename_i p q _ _ _
     subst h
     refine⟨p.2,?_,h1.2⟩
     simp only[List.getElem?_cons_zero,Option.some.injEq]
     exact Prod.ext h1.1 rfl
   |succ j=>exact ih (by simpa using h)
theorem a55(hc:X.calm=true):CallR X (.type "list") (fun xs H Q=> ∃p a kvs,xs=[.ref p]/\H p=some (.ext (viewφ "dict_values" p a))/\Rd H a (.dK kvs)/\ ∀l,H l=none->Q (.ref l) (upd H l (.lst (kvs.map (·.2))))):=by
 intro pins s σ H xs us Q I r h
 obtain⟨p,a,kvs,rfl,hp,hd,q⟩:=h
 obtain⟨u,rfl,ru⟩:=r.one
 cases ru
 obtain⟨hz,lo,ws,rel,hD⟩:=a40 I.hok hd
 obtain⟨ep,hat⟩:=hD.dictAt
 have hv:s.heap.get? p=some {cls:= .type "dict_values",data:= .fields #[.ref a]}:=(I.hok p _ hp).1
 refine PySem.W.kdl_call (PySem.W.kdl_values (knd:=a0z X.prog X.w) (kvs:=ws) (ep:=ep)) (I.ok.hd hc) ⟨⟨_,hv,rfl,rfl⟩,hat⟩ (by rw[<-rel.length];exact hz) fun h' tk acc c hk hl hi=> ?_
 have e:acc.toList=ws.map (·.2):=PySem.W.kdl_vals_eq acc.toList (by rw[Array.length_toList];exact hi.1) fun j v e=>hi.2 j v (by rw[<-Array.getElem?_toList];exact e)
 refine⟨.ref s.heap.objs.size,_,I.laid (t':=tk) (o:= .lst (kvs.map (·.2))) hk (Nat.le_refl _) ⟨by rw[List.length_map];exact hz,ws.map (·.2),c,b66 rel,?_⟩,rfl,q _ (I.hok.fresh (Nat.le_refl _))⟩
 rw[hl,<-e]
theorem b76{kvs:List (Key×V)}{ws:List (Key×Value)}(rel:KV kvs ws): ∀{us:List Value},us.length=ws.length->(∀(j:Nat) (v:Value),us[j]? =some v-> ∃k x,ws[j]? =some (k,x)/\b08 k v=true)->Vals (kvs.map fun kv=>kV kv.1) us:=by
 induction rel with
 |nil=>intro us hl _;cases us with
   |nil=>exact .nil
   |cons _ _=>simp at hl
 |cons h _ ih=>
   intro us hl hv
   cases us with
   |nil=>simp at hl
   |cons u us=>
     obtain⟨k,x,e,hk⟩:=hv 0 u rfl
     simp only[List.getElem?_cons_zero,Option.some.injEq]at e
     subst e
     refine .cons ?_ (ih (by simpa using hl) fun j v e=> ?_)
     . show RelV (kV _) u
       rw[h.1]
       rcases a07 hk with⟨i,t,rfl,rfl⟩ | ⟨x,t,rfl,rfl⟩
       . exact⟨t,rfl⟩
       . exact⟨t,rfl⟩
     . obtain⟨k',x',e',hk'⟩:=hv (j+1) v (by simpa using e)
       exact⟨k',x',by simpa using e',hk'⟩
theorem a7n(hc:X.calm=true):CallR X (.type "list") (fun xs H Q=> ∃p a kvs,xs=[.ref p]/\H p=some (.ext (viewφ "dict_keys" p a))/\Rd H a (.dK kvs)/\ ∀l,H l=none->Q (.ref l) (upd H l (.lst (kvs.map fun kv=>kV kv.1)))):=by
 intro pins s σ H xs us Q I r h
 obtain⟨p,a,kvs,rfl,hp,hd,q⟩:=h
 obtain⟨u,rfl,ru⟩:=r.one
 cases ru
 obtain⟨hz,lo,ws,rel,hD⟩:=a40 I.hok hd
 obtain⟨ep,hat⟩:=hD.dictAt
 have hv:s.heap.get? p=some {cls:= .type "dict_keys",data:= .fields #[.ref a]}:=(I.hok p _ hp).1
 refine PySem.W.kdl_call (PySem.W.kdl_keys (knd:=a0z X.prog X.w) (kvs:=ws) (ep:=ep)) (I.ok.hd hc) ⟨⟨_,hv,rfl,rfl⟩,hat⟩ (by rw[<-rel.length];exact hz) fun h' tk acc c hk hl hi=> ?_
 have rv:=b76 rel (us:=acc.toList) (by rw[Array.length_toList];exact hi.1) fun j v e=>hi.2 j v (by rw[<-Array.getElem?_toList];exact e)
 refine⟨.ref s.heap.objs.size,_,I.laid (t':=tk) (o:= .lst (kvs.map fun kv=>kV kv.1)) hk (Nat.le_refl _) ⟨by rw[List.length_map];exact hz,acc.toList,c,rv,?_⟩,rfl,q _ (I.hok.fresh (Nat.le_refl _))⟩
 rw[hl]
def Prs(H:Hp):List Addr->List (Key×V)->Prop:=Paired fun a kv=>H a=some (.tup [kV kv.1,kv.2])
theorem b2a{kvs:List (Key×V)}{ws:List (Key×Value)}{lo:Addr}(rel:KV kvs ws)(hs:X.s₀.heap.objs.size<=lo):
   ∀{as:List Addr}{j:Nat}{H:Hp},Inv X pins σ H s->(∀a∈as,lo<a/\FpOk X pins H a)->as.Pairwise (· < ·)->as.length+j=ws.length->
     (∀(i:Nat) (a:Addr),as[i]? =some a-> ∃key k x,ws[j+i]? =some (k,x)/\(a0z X.prog X.w).is k key=true/\s.heap.get? a=some {cls:= .type "tuple",data:= .seq #[key,x]})->
     ∃H',Inv X pins σ H' s/\(∀b,(∀a∈as,b≠a)->H' b=H b)/\Prs H' as (kvs.drop j)
 | [],j,H,I,_,_,hl,_=>⟨H,I,fun _ _=>rfl,by
     rw[List.drop_of_length_le (by rw[rel.length];simp at hl;omega)]
     exact .nil⟩
 |a::as,j,H,I,hf,hp,hl,hv=>by
   obtain⟨key,k,x,e1,hk,e2⟩:=hv 0 a rfl
   obtain⟨v,e3,rv⟩:=rel.at e1
   have rk:RelV (kV k) key:=by
     rcases a07 hk with⟨i,t,rfl,rfl⟩ | ⟨x,t,rfl,rfl⟩
     . exact⟨t,rfl⟩
     . exact⟨t,rfl⟩
   obtain⟨hlo,fa⟩:=hf a List.mem_cons_self
   have hpa:=List.pairwise_cons.mp hp
   have I1:Inv X pins σ (upd H a (.tup [kV k,v])) s:=I.adopt fa (Nat.le_trans hs (Nat.le_of_lt hlo)) ⟨by show 2<=sizeLine;decide,[key,x],.cons rk (.cons rv .nil),_,e2,rfl,_,rfl⟩
   have hne: ∀b∈as,b≠a:=fun b hb z=>absurd (hpa.1 b hb) (by rw[z];exact Nat.lt_irrefl _)
   obtain⟨H',I',k1,k2⟩:=b2a rel hs (as:=as) (j:=j+1) I1 (fun b hb=>⟨(hf b (List.mem_cons_of_mem _ hb)).1,by
     have f:=(hf b (List.mem_cons_of_mem _ hb)).2
     exact⟨by rw[a0p (hne b hb)];exact f.1,f.2⟩⟩) hpa.2 (by simp at hl |-;omega) (fun i b hb=>by
     obtain⟨key',k',x',g1,g2,g3⟩:=hv (i+1) b (by simpa using hb)
     exact⟨key',k',x',by rw[<-g1];congr 1;omega,g2,g3⟩)
   refine⟨H',I',fun b hb=> ?_,?_⟩
   . rw[k1 b fun c hc=>hb c (List.mem_cons_of_mem _ hc),a0p (hb a List.mem_cons_self)]
   . have e3':kvs[j]? =some (k,v):=by simpa using e3
     have hlt:j<kvs.length:=(List.getElem?_eq_some_iff.mp e3').1
     have hd:kvs.drop j=(k,v)::kvs.drop (j+1):=by
       rw[List.drop_eq_getElem_cons hlt]
       congr 1
       exact(List.getElem?_eq_some_iff.mp e3').2
     rw[hd]
     refine .cons ?_ k2
     rw[k1 a fun b hb z=>hne b hb z.symm,a0u]
theorem a66(hc:X.calm=true):CallR X (.type "list") (fun xs H Q=> ∃p a kvs,xs=[.ref p]/\H p=some (.ext (viewφ "dict_items" p a))/\Rd H a (.dK kvs)/\
   ∀l as H1,H l=none->(∀a∈as,H a=none/\a≠l)->(∀b,(∀a∈as,b≠a)->H1 b=upd H l (.lst (as.map V.ref)) b)->Prs H1 as kvs->Q (.ref l) H1):=by
 intro pins s σ H xs us Q I r h
 obtain⟨p,a,kvs,rfl,hp,hd,q⟩:=h
 obtain⟨u,rfl,ru⟩:=r.one
 cases ru
 obtain⟨hz,lo,ws,rel,hD⟩:=a40 I.hok hd
 obtain⟨ep,hat⟩:=hD.dictAt
 have hv:s.heap.get? p=some {cls:= .type "dict_items",data:= .fields #[.ref a]}:=(I.hok p _ hp).1
 refine PySem.W.kdx_call (knd:=a0z X.prog X.w) (kvs:=ws) (ep:=ep) (I.ok.hd hc) ⟨_,hv,rfl,rfl⟩ hat (by rw[<-rel.length];exact hz) fun h' tk acc c as hk hl hlen hG hacc=> ?_
 have hl0:=I.hok.fresh (Nat.le_refl s.heap.objs.size)
 have vr:Vals (as.map V.ref) (as.map Value.ref):=by
   clear hlen hG hacc
   induction as with
   |nil=>exact .nil
   |cons _ _ ih=>exact .cons rfl ih
 have I1:Inv X pins σ (upd H s.heap.objs.size (.lst (as.map V.ref))) {s with heap:=h',toks:=tk}:=I.laid hk (Nat.le_refl _) ⟨by rw[List.length_map,hlen,<-rel.length];exact hz,as.map Value.ref,c,vr,by rw[hl,<-hacc]⟩
 have fa: ∀b∈as,s.heap.objs.size<b/\FpOk X pins (upd H s.heap.objs.size (.lst (as.map V.ref))) b:=fun b hb=>by
   have hlt:=hG.above b hb
   refine⟨hlt,I.fpOk (Nat.le_of_lt hlt) ?_⟩
   rw[a0p (Nat.ne_of_gt hlt)]
   exact I.hok.fresh (Nat.le_of_lt hlt)
 obtain⟨H',I',k1,k2⟩:=b2a (j:=0) rel I.sz I1 fa hG.rise (by omega) (fun i b hb=>by
   obtain⟨key,k,x,g1,g2,g3⟩:=hG.pairs i b hb
   exact⟨key,k,x,by simpa using g1,g2,g3⟩)
 exact⟨.ref s.heap.objs.size,H',I',rfl,q _ as H' hl0 (fun b hb=>⟨I.hok.fresh (Nat.le_of_lt (fa b hb).1),Nat.ne_of_gt (fa b hb).1⟩) k1 (by simpa using k2)⟩
end
inductive D where
 |non |bl (b:Bool) |int (i:Int) |str (x:Str) |lst (ds:List D) |tup (ds:List D) |scr (ds:List D) |ctp (ds:List D) |obj (p:Addr)
mutual
inductive RD(K:PySem.W.Frag)(F:Hp):V->D->Prop where
 |non:RD K F .non .non
 |bl (b:Bool):RD K F (.bl b) (.bl b)
 |int (i:Int):RD K F (.int i) (.int i)
 |str (x:Str):RD K F (.str x) (.str x)
 |lst {a:Addr}{xs:List V}{ds:List D} (e:F a=some (.lst xs)) (r:RDs K F xs ds):RD K F (.ref a) (.lst ds)
 |scr {a:Addr}{xs:List V}{ds:List D} (e:SqL K F a xs) (r:RDs K F xs ds):RD K F (.ref a) (.scr ds)
 |tup {a:Addr}{xs:List V}{ds:List D} (e:F a=some (.tup xs)) (r:RDs K F xs ds):RD K F (.ref a) (.tup ds)
 |ctp {a:Addr}{xs:List V}{ds:List D} (e:SqT K F a xs) (r:RDs K F xs ds):RD K F (.ref a) (.ctp ds)
 |obj (p:Addr):RD K F (.ref p) (.obj p)
inductive RDs(K:PySem.W.Frag)(F:Hp):List V->List D->Prop where
 |nil:RDs K F [] []
 |cons {x:V}{d:D}{xs:List V}{ds:List D} (h:RD K F x d) (t:RDs K F xs ds):RDs K F (x::xs) (d::ds)
end
theorem Same.seqT{K:PySem.W.Frag}{H H':Hp}{a:Addr}{xs:List V}(e:Same H H')(h:SqT K H a xs):SqT K H' a xs:=by
 rcases h with(h | ⟨o,h⟩) |h
 . exact .inl (.inl (e _ _ h))
 . exact .inl (.inr ⟨o,e _ _ h⟩)
 . exact .inr h
mutual
theorem RD.up{K:PySem.W.Frag}{F F':Hp}(e:Same F F'): ∀{x:V}{d:D},RD K F x d->RD K F' x d
 |_,_,.non=> .non
 |_,_,.bl b=> .bl b
 |_,_,.int i=> .int i
 |_,_,.str x=> .str x
 |_,_,.lst q rs=> .lst (e _ _ q) (RDs.up e rs)
 |_,_,.scr q rs=> .scr (e.seq q) (RDs.up e rs)
 |_,_,.tup q rs=> .tup (e _ _ q) (RDs.up e rs)
 |_,_,.ctp q rs=> .ctp (e.seqT q) (RDs.up e rs)
 |_,_,.obj p=> .obj p
theorem RDs.up{K:PySem.W.Frag}{F F':Hp}(e:Same F F'): ∀{xs:List V}{ds:List D},RDs K F xs ds->RDs K F' xs ds
 |_,_,.nil=> .nil
 |_,_,.cons h t=> .cons (RD.up e h) (RDs.up e t)
end
section
variable {K:PySem.W.Frag}{F:Hp}
theorem RDs.length: ∀{xs:List V}{ds:List D},RDs K F xs ds->xs.length=ds.length
 |_,_,.nil=>rfl
 |_,_,.cons _ t=>by simp[RDs.length t]
theorem RDs.get: ∀{xs:List V}{ds:List D}{i:Nat}{d:D},RDs K F xs ds->ds[i]? =some d-> ∃x,xs[i]? =some x/\RD K F x d
 |_,_,_,_,.nil,e=>by simp at e
 |_,_,0,_,.cons h _,e=>by simp at e;subst e;exact⟨_,rfl,h⟩
 |_,_,i+1,d,.cons _ t,e=>by
   obtain⟨x,h1,h2⟩:=RDs.get (i:=i) (d:=d) t (by simpa using e)
   exact⟨x,by simpa using h1,h2⟩
theorem RDs.append: ∀{xs ys:List V}{ds es:List D},RDs K F xs ds->RDs K F ys es->RDs K F (xs++ys) (ds++es)
 |_,_,_,_,.nil,s=>s
 |_,_,_,_,.cons h t,s=> .cons h (RDs.append t s)
theorem RDs.set{x:V}{d:D}(r:RD K F x d): ∀{xs:List V}{ds:List D} (i:Nat),RDs K F xs ds->RDs K F (xs.set i x) (ds.set i d)
 |_,_,_,.nil=> .nil
 |_,_,0,.cons _ t=> .cons r t
 |_,_,i+1,.cons q t=> .cons q (RDs.set r i t)
theorem RDs.take: ∀{xs:List V}{ds:List D} (n:Nat),RDs K F xs ds->RDs K F (xs.take n) (ds.take n)
 |_,_,0,_=> .nil
 |_,_,_+1,.nil=> .nil
 |_,_,n+1,.cons r t=> .cons r (RDs.take n t)
theorem RDs.drop: ∀{xs:List V}{ds:List D} (n:Nat),RDs K F xs ds->RDs K F (xs.drop n) (ds.drop n)
 |_,_,0,r=>r
 |_,_,_+1,.nil=> .nil
 |_,_,n+1,.cons _ t=>RDs.drop n t
theorem RDs.reverse: ∀{xs:List V}{ds:List D},RDs K F xs ds->RDs K F xs.reverse ds.reverse
 |_,_,.nil=> .nil
 |_,_,.cons r t=>by
   rw[List.reverse_cons,List.reverse_cons]
   exact(RDs.reverse t).append (.cons r .nil)
theorem RDs.one'{xs:List V}{d:D}(r:RDs K F xs [d]): ∃x,xs=[x]/\RD K F x d:=by
 cases r with |cons h t=>cases t;exact⟨_,rfl,h⟩
theorem RDs.nil'{xs:List V}(r:RDs K F xs []):xs=[]:=by cases r;rfl
theorem RDs.two'{xs:List V}{d e:D}(r:RDs K F xs [d,e]): ∃x y,xs=[x,y]/\RD K F x d/\RD K F y e:=by
 cases r with |cons h t=>obtain⟨y,rfl,hy⟩:=t.one';exact⟨_,_,rfl,h,hy⟩
end
inductive MO where
 |lst (ds:List D) |dic (kvs:List (Key×D)) |ins (C:Addr) (fs:List (Str×D)) |exc (cls:Value) |raw (u:HO)
noncomputable abbrev Mem:=Addr->Option MO
noncomputable def put(M:Mem)(p:Addr)(o:MO):Mem:=fun b=>if b=p then some o else M b
noncomputable def del(M:Mem)(p:Addr):Mem:=fun b=>if b=p then none else M b
theorem a0e{M:Mem}{p:Addr}{o:MO}:put M p o p=some o:=by unfold put;rw[if_pos rfl]
theorem a0g{M:Mem}{p q:Addr}{o:MO}(h:q≠p):put M p o q=M q:=by unfold put;rw[if_neg h]
theorem a1o{M:Mem}{p:Addr}{o u:MO}:put (put M p o) p u=put M p u:=by funext b;unfold put;split<;>rfl
theorem a6f{M:Mem}{p:Addr}:del M p p=none:=by unfold del;rw[if_pos rfl]
theorem a63{M:Mem}{p q:Addr}(h:q≠p):del M p q=M q:=by unfold del;rw[if_neg h]
theorem a2l{M:Mem}{p:Addr}{o:MO}(h:M p=none):del (put M p o) p=M:=by
 funext b;unfold del put
 by_cases hb:b=p
 . rw[if_pos hb,hb,h]
 . rw[if_neg hb,if_neg hb]
theorem a3w{M:Mem}{p q:Addr}{o u:MO}(h:p≠q):put (put M p o) q u=put (put M q u) p o:=by
 funext b;unfold put
 by_cases h1:b=p
 . subst h1;rw[if_neg h,if_pos rfl,if_pos rfl]
 . by_cases h2:b=q
   . rw[if_pos h2,if_neg h1,if_pos h2]
   . rw[if_neg h2,if_neg h1,if_neg h1,if_neg h2]
def Sub(M M':Mem):Prop:= ∀p o,M p=some o->M' p=some o
theorem Sub.refl(M:Mem):Sub M M:=fun _ _ h=>h
theorem Sub.put{M:Mem}{p:Addr}{o:MO}(h:M p=none):Sub M (put M p o):=fun q u e=>by
 rw[a0g (by rintro rfl;rw[h]at e;cases e)];exact e
theorem Sub.trans{M M1 M2:Mem}(a:Sub M M1)(b:Sub M1 M2):Sub M M2:=fun p o h=>b p o (a p o h)
def PF{κ:Type}(K:PySem.W.Frag)(F:Hp):List (κ×V)->List (κ×D)->Prop:=Paired fun p q=>p.1=q.1/\RD K F p.2 q.2
theorem PF.up{κ:Type}{K:PySem.W.Frag}{F F':Hp}(e:Same F F'){a:List (κ×V)}{b:List (κ×D)}(h:PF K F a b):PF K F' a b:=Paired.mapP h fun _ _ q=>⟨q.1,q.2.up e⟩
def RO(K:PySem.W.Frag)(F:Hp)(a:Addr):MO->HO->Prop
 | .lst ds,.lst vs=>RDs K F vs ds
 | .dic kvs,.dK ws=>PF K F ws kvs
 | .ins C fs,.ins C' _ ws=>C'=C/\PF K F ws fs
 | .exc c,.ext φ=>φ=excφ a c
 | .raw u,u'=>u'=u
 |_,_=>False
theorem RO.up{K:PySem.W.Frag}{F F':Hp}(e:Same F F'){a:Addr}: ∀{o:MO}{u:HO},RO K F a o u->RO K F' a o u:=by
 intro o u h
 cases o<;>cases u<;>first
   |exact(False.elim h)
   |exact RDs.up e h
   |exact PF.up e h
   |exact⟨h.1,PF.up e h.2⟩
   |exact h
section
variable {K:PySem.W.Frag}{F:Hp}{a:Addr}{u:HO}
theorem RO.isL{ds:List D}(h:RO K F a (.lst ds) u): ∃vs,u= .lst vs/\RDs K F vs ds:=by
 cases u<;>first |exact(False.elim h) |exact⟨_,rfl,h⟩
theorem RO.isD{kvs:List (Key×D)}(h:RO K F a (.dic kvs) u): ∃ws,u= .dK ws/\PF K F ws kvs:=by
 cases u<;>first |exact(False.elim h) |exact⟨_,rfl,h⟩
theorem RO.isI{C:Addr}{fs:List (Str×D)}(h:RO K F a (.ins C fs) u): ∃dx ws,u= .ins C dx ws/\PF K F ws fs:=by
 cases u<;>first |exact(False.elim h) | (obtain⟨rfl,h⟩:=h;exact⟨_,_,rfl,h⟩)
end
structure AM(K:PySem.W.Frag)(F:Hp)(M:Mem)(H:Hp):Prop where
 sub:Same F H
 dj: ∀p o,M p=some o->F p=none
 mem: ∀p o,M p=some o-> ∃u,H p=some u/\RO K F p o u
theorem a1i{F:Hp}{p:Addr}{u:HO}(h:F p=none):Same F (upd F p u):=fun b o e=>by
 rw[a0p (by rintro rfl;rw[h]at e;cases e)];exact e
section
variable {K:PySem.W.Frag}{F:Hp}{M:Mem}{H:Hp}{p:Addr}{o:MO}{u:HO}
theorem AM.fF(m:AM K F M H)(h:H p=none):F p=none:=m.sub.free h
theorem AM.fM(m:AM K F M H)(h:H p=none):M p=none:=by
 cases q:M p with
 |none=>rfl
 |some o=>obtain⟨u,e,_⟩:=m.mem p o q;rw[h]at e;cases e
theorem AM.new(m:AM K F M H)(h:H p=none)(r:RO K F p o u):AM K F (put M p o) (upd H p u):=by
 refine⟨fun b x e=> ?_,fun b x e=> ?_,fun b x e=> ?_⟩
 . exact a1i h b x (m.sub b x e)
 . by_cases hb:b=p
   . subst hb;exact m.fF h
   . rw[a0g hb]at e;exact m.dj b x e
 . by_cases hb:b=p
   . subst hb;rw[a0e]at e;cases e;exact⟨u,a0u,r⟩
   . rw[a0g hb]at e
     obtain⟨y,e1,r1⟩:=m.mem b x e
     exact⟨y,by rw[a0p hb];exact e1,r1⟩
theorem AM.frz(m:AM K F M H)(h:H p=none):AM K (upd F p u) M (upd H p u):=by
 have hs:=a1i (u:=u) (m.fF h)
 refine⟨fun b x e=> ?_,fun b x e=> ?_,fun b x e=> ?_⟩
 . by_cases hb:b=p
   . subst hb;rw[a0u]at e |-;exact e
   . rw[a0p hb]at e |-;exact m.sub b x e
 . have hb:b≠p:=by rintro rfl;rw[m.fM h]at e;cases e
   rw[a0p hb];exact m.dj b x e
 . have hb:b≠p:=by rintro rfl;rw[m.fM h]at e;cases e
   obtain⟨y,e1,r1⟩:=m.mem b x e
   exact⟨y,by rw[a0p hb];exact e1,r1.up hs⟩
theorem AM.more(m:AM K F M H)(h:H p=none):AM K F M (upd H p u):=by
 refine⟨fun b x e=>a1i h b x (m.sub b x e),m.dj,fun b x e=> ?_⟩
 have hb:b≠p:=by rintro rfl;rw[m.fM h]at e;cases e
 obtain⟨y,e1,r1⟩:=m.mem b x e
 exact⟨y,by rw[a0p hb];exact e1,r1⟩
theorem AM.set{o':MO}(m:AM K F M H)(h:M p=some o)(r:RO K F p o' u):AM K F (put M p o') (upd H p u):=by
 refine⟨fun b x e=> ?_,fun b x e=> ?_,fun b x e=> ?_⟩
 . have hb:b≠p:=by rintro rfl;rw[m.dj _ _ h]at e;cases e
   rw[a0p hb];exact m.sub b x e
 . by_cases hb:b=p
   . subst hb;exact m.dj _ _ h
   . rw[a0g hb]at e;exact m.dj b x e
 . by_cases hb:b=p
   . subst hb;rw[a0e]at e;cases e;exact⟨u,a0u,r⟩
   . rw[a0g hb]at e
     obtain⟨y,e1,r1⟩:=m.mem b x e
     exact⟨y,by rw[a0p hb];exact e1,r1⟩
theorem AM.freeze{ds:List D}(m:AM K F M H)(h:M p=some (.lst ds)): ∃F',Same F F'/\AM K F' (del M p) H/\RD K F' (.ref p) (.lst ds):=by
 obtain⟨y,e,r⟩:=m.mem p _ h
 obtain⟨vs,rfl,r⟩:=r.isL
 have hs:=a1i (u:= .lst vs) (m.dj _ _ h)
 refine⟨upd F p (.lst vs),hs,⟨fun b x q=> ?_,fun b x q=> ?_,fun b x q=> ?_⟩,.lst a0u (r.up hs)⟩
 . by_cases hb:b=p
   . subst hb;rw[a0u]at q;cases q;exact e
   . rw[a0p hb]at q;exact m.sub b x q
 . have hb:b≠p:=by rintro rfl;rw[a6f]at q;cases q
   rw[a63 hb]at q
   rw[a0p hb];exact m.dj b x q
 . have hb:b≠p:=by rintro rfl;rw[a6f]at q;cases q
   rw[a63 hb]at q
   obtain⟨y,e1,r1⟩:=m.mem b x q
   exact⟨y,e1,r1.up hs⟩
theorem AM.less{M':Mem}(m:AM K F M H)(h:Sub M' M):AM K F M' H:=⟨m.sub,fun p o e=>m.dj p o (h p o e),fun p o e=>m.mem p o (h p o e)⟩
end
noncomputable abbrev G:=List (Option D)
structure AG(K:PySem.W.Frag)(F:Hp)(Γ:G)(σ:St):Prop where
 len:Γ.length=σ.length
 at': ∀(i:Nat) (d:D),Γ[i]? =some (some d)-> ∃v,σ[i]? =some (some v)/\RD K F v d
theorem AG.up{K:PySem.W.Frag}{F F':Hp}{Γ:G}{σ:St}(a:AG K F Γ σ)(e:Same F F'):AG K F' Γ σ:=⟨a.len,fun i d h=>let ⟨v,h1,h2⟩:=a.at' i d h;⟨v,h1,h2.up e⟩⟩
theorem AG.set{K:PySem.W.Frag}{F:Hp}{Γ:G}{σ:St}{v:V}{d:D}(a:AG K F Γ σ)(r:RD K F v d)(i:Nat):AG K F (Γ.set i (some d)) (σ.set i (some v)):=by
 refine⟨by simp[a.len],fun j e h=> ?_⟩
 by_cases hj:i=j
 . subst hj
   rw[List.getElem?_set]at h
   simp only[if_true]at h
   split at h
   . rename_i hl
     cases h
     refine⟨v,?_,r⟩
     rw[List.getElem?_set,if_pos rfl,if_pos (by rw[<-a.len];exact hl)]
   . cases h
 . rw[List.getElem?_set_ne hj]at h |-
   exact a.at' j e h
noncomputable abbrev AK:=D->Mem->Prop
noncomputable abbrev AE:=G->Mem->AK->Prop
noncomputable abbrev AT:=G->Mem->(Bool->Mem->Prop)->Prop
noncomputable abbrev AA:=G->Mem->(List D->Mem->Prop)->Prop
structure AEnds where
 nx:G->Mem->Prop
 rt:AK
 bk:G->Mem->Prop:=fun _ _=>False
 ct:G->Mem->Prop:=fun _ _=>False
noncomputable abbrev AS:=AEnds->G->Mem->Prop
def selfE(X:Cx)(e:Expr):TE:=fun σ H Q=> ∀pins s,Inv X pins σ H s->wpAny (model X.prog X.w) X.A (eval e X.env) (EP X pins σ Q) X.xe s
noncomputable def selfT(X:Cx)(e:Expr):TT:=fun σ H Q=> ∀pins s,Inv X pins σ H s->wpAny (model X.prog X.w) X.A (isTrue e X.env (eval e X.env)) (TP X pins σ Q) X.xe s
noncomputable def selfW(X:Cx)(e:Expr):TT:=fun σ H Q=> ∀whole pins s,Inv X pins σ H s->wpAny (model X.prog X.w) X.A (isTrue e X.env whole) (TP X pins σ Q) X.xe s
def selfA(X:Cx)(es:List Expr):TA:=fun σ H Q=> ∀pos pins s,Inv X pins σ H s->wpAny (model X.prog X.w) X.A (spliced (backTo pos (starEach es X.env))) (AP X pins σ Q) X.xe s
noncomputable def selfS(X:Cx)(st:Stmt):TS:=fun D σ H=> ∀pins s,Inv X pins σ H s->wpAny (model X.prog X.w) X.A (exec st X.env) (SP X pins D) X.xe s
noncomputable def selfSs(X:Cx)(st:List Stmt):TS:=fun D σ H=> ∀pins s,Inv X pins σ H s->wpAny (model X.prog X.w) X.A (execs st X.env) (SP X pins D) X.xe s
def selfG(X:Cx)(tg:Expr):TG:=fun v σ H Q=> ∀pins s u,Inv X pins σ H s->RelV v u->wpAny (model X.prog X.w) X.A (assign tg X.env u) (fun _ s'=> ∃σ' H',Inv X pins σ' H' s'/\Q σ' H') X.xe s
def selfGs(X:Cx)(ts:List Expr):TGs:=fun vs σ H Q=> ∀pins s us,Inv X pins σ H s->Vals vs us->wpAny (model X.prog X.w) X.A (assignInOrder ((assignEach ts X.env).map (·.2)) us) (fun _ s'=> ∃σ' H',Inv X pins σ' H' s'/\Q σ' H') X.xe s
section
variable {X:Cx}{e:Expr}{es:List Expr}{st:Stmt}{sts:List Stmt}{σ:St}{H:Hp}
theorem a0n:PE X e (selfE X e):=fun pins s _ _ _ I h=>h pins s I
theorem a3n:PT X e (selfT X e):=fun pins s _ _ _ I h=>h pins s I
theorem b4p:PW X e (selfW X e):=fun w pins s _ _ _ I h=>h w pins s I
theorem a1v:PA X es (selfA X es):=fun pos pins s _ _ _ I h=>h pos pins s I
theorem b4s:PS X st (selfS X st):=fun pins s _ _ _ I h=>h pins s I
theorem a2h:PSs X sts (selfSs X sts):=fun pins s _ _ _ I h=>h pins s I
theorem a8o:PG X e (selfG X e):=fun pins s _ _ _ u _ I r h=>h pins s u I r
theorem a8n:PGs X es (selfGs X es):=fun pins s _ _ _ us _ I r h=>h pins s us I r
theorem PE.to{t:TE}{Q:VK}(h:PE X e t)(hw:t σ H Q):selfE X e σ H Q:=fun pins s I=>h pins s σ H Q I hw
theorem PT.to{t:TT}{Q:Bool->Hp->Prop}(h:PT X e t)(hw:t σ H Q):selfT X e σ H Q:=fun pins s I=>h pins s σ H Q I hw
theorem PW.to{t:TT}{Q:Bool->Hp->Prop}(h:PW X e t)(hw:t σ H Q):selfW X e σ H Q:=fun w pins s I=>h w pins s σ H Q I hw
theorem PA.to{t:TA}{Q:List V->Hp->Prop}(h:PA X es t)(hw:t σ H Q):selfA X es σ H Q:=fun pos pins s I=>h pos pins s σ H Q I hw
theorem PS.to{t:TS}{D:Ends}(h:PS X st t)(hw:t D σ H):selfS X st D σ H:=fun pins s I=>h pins s σ H D I hw
theorem PSs.to{t:TS}{D:Ends}(h:PSs X sts t)(hw:t D σ H):selfSs X sts D σ H:=fun pins s I=>h pins s σ H D I hw
theorem PG.to{t:TG}{v:V}{Q:St->Hp->Prop}(h:PG X e t)(hw:t v σ H Q):selfG X e v σ H Q:=fun pins s u I r=>h pins s σ H v u Q I r hw
theorem PGs.to{t:TGs}{vs:List V}{Q:St->Hp->Prop}(h:PGs X es t)(hw:t vs σ H Q):selfGs X es vs σ H Q:=fun pins s us I r=>h pins s σ H vs us Q I r hw
theorem selfE.mono{Q Q':VK}(h:selfE X e σ H Q)(k: ∀v H',Q v H'->Q' v H'):selfE X e σ H Q':=fun pins s I=>thn (h pins s I) fun _ _ ⟨v,H',J,r,q⟩=>⟨v,H',J,r,k v H' q⟩
theorem selfT.mono{Q Q':Bool->Hp->Prop}(h:selfT X e σ H Q)(k: ∀v H',Q v H'->Q' v H'):selfT X e σ H Q':=fun pins s I=>thn (h pins s I) fun b _ ⟨H',J,q⟩=>⟨H',J,k b H' q⟩
theorem selfW.mono{Q Q':Bool->Hp->Prop}(h:selfW X e σ H Q)(k: ∀v H',Q v H'->Q' v H'):selfW X e σ H Q':=fun w pins s I=>thn (h w pins s I) fun b _ ⟨H',J,q⟩=>⟨H',J,k b H' q⟩
theorem selfA.mono{Q Q':List V->Hp->Prop}(h:selfA X es σ H Q)(k: ∀v H',Q v H'->Q' v H'):selfA X es σ H Q':=fun pos pins s I=>thn (h pos pins s I) fun _ _ ⟨v,H',J,r,q⟩=>⟨v,H',J,r,k v H' q⟩
theorem selfG.mono{v:V}{Q Q':St->Hp->Prop}(h:selfG X e v σ H Q)(k: ∀σ' H',Q σ' H'->Q' σ' H'):selfG X e v σ H Q':=fun pins s u I r=>thn (h pins s u I r) fun _ _ ⟨σ',H',J,q⟩=>⟨σ',H',J,k σ' H' q⟩
theorem selfGs.mono{vs:List V}{Q Q':St->Hp->Prop}(h:selfGs X es vs σ H Q)(k: ∀σ' H',Q σ' H'->Q' σ' H'):selfGs X es vs σ H Q':=fun pins s u I r=>thn (h pins s u I r) fun _ _ ⟨σ',H',J,q⟩=>⟨σ',H',J,k σ' H' q⟩
structure EndsTo(D D':Ends):Prop where
 nx: ∀σ H,D.nx σ H->D'.nx σ H
 rt: ∀v H,D.rt v H->D'.rt v H
 bk: ∀σ H,D.bk σ H->D'.bk σ H
 ct: ∀σ H,D.ct σ H->D'.ct σ H
theorem SP.to{pins:List (Addr×Obj)}{D D':Ends}(k:EndsTo D D'){f:Flow}{s:Shared}(h:SP X pins D f s):SP X pins D' f s:=by
 cases f with
 |next=>obtain⟨σ',H',I,q⟩:=h;exact⟨σ',H',I,k.nx _ _ q⟩
 |brk=>obtain⟨σ',H',I,q⟩:=h;exact⟨σ',H',I,k.bk _ _ q⟩
 |cont=>obtain⟨σ',H',I,q⟩:=h;exact⟨σ',H',I,k.ct _ _ q⟩
 |ret u=>obtain⟨v,σ',H',I,r,q⟩:=h;exact⟨v,σ',H',I,r,k.rt _ _ q⟩
theorem selfS.mono{D D':Ends}(h:selfS X st D σ H)(k:EndsTo D D'):selfS X st D' σ H:=fun pins s I=>thn (h pins s I) fun _ _ q=>q.to k
theorem selfSs.mono{D D':Ends}(h:selfSs X sts D σ H)(k:EndsTo D D'):selfSs X sts D' σ H:=fun pins s I=>thn (h pins s I) fun _ _ q=>q.to k
end
def PQ(K:PySem.W.Frag)(F:Hp)(Q:AK):VK:=fun v H'=> ∃d F' M',Same F F'/\AM K F' M' H'/\RD K F' v d/\Q d M'
def PQb(K:PySem.W.Frag)(F:Hp)(Q:Bool->Mem->Prop):Bool->Hp->Prop:=fun b H'=> ∃F' M',Same F F'/\AM K F' M' H'/\Q b M'
def PQs(K:PySem.W.Frag)(F:Hp)(Q:List D->Mem->Prop):List V->Hp->Prop:=fun vs H'=> ∃ds F' M',Same F F'/\AM K F' M' H'/\RDs K F' vs ds/\Q ds M'
def PQg(K:PySem.W.Frag)(F:Hp)(Q:G->Mem->Prop):St->Hp->Prop:=fun σ' H'=> ∃F' Γ' M',Same F F'/\AG K F' Γ' σ'/\AM K F' M' H'/\Q Γ' M'
noncomputable def PQD(K:PySem.W.Frag)(F:Hp)(E:AEnds):Ends:=⟨PQg K F E.nx,PQ K F E.rt,PQg K F E.bk,PQg K F E.ct⟩
section
variable {K:PySem.W.Frag}{F F1:Hp}
theorem PQ.dn{Q:AK}(e:Same F F1){v:V}{H:Hp}(h:PQ K F1 Q v H):PQ K F Q v H:=let ⟨d,F',M',a,b,c,q⟩:=h;⟨d,F',M',e.trans a,b,c,q⟩
theorem PQb.dn{Q:Bool->Mem->Prop}(e:Same F F1){v:Bool}{H:Hp}(h:PQb K F1 Q v H):PQb K F Q v H:=let ⟨F',M',a,b,q⟩:=h;⟨F',M',e.trans a,b,q⟩
theorem PQg.dn{Q:G->Mem->Prop}(e:Same F F1){v:St}{H:Hp}(h:PQg K F1 Q v H):PQg K F Q v H:=let ⟨d,F',M',a,b,c,q⟩:=h;⟨d,F',M',e.trans a,b,c,q⟩
theorem PQD.dn{E:AEnds}(e:Same F F1):EndsTo (PQD K F1 E) (PQD K F E):=⟨fun _ _ h=>PQg.dn e h,fun _ _ h=>PQ.dn e h,fun _ _ h=>PQg.dn e h,fun _ _ h=>PQg.dn e h⟩
end
structure PEA(X:Cx)(F0:Hp)(e:Expr)(t:AE):Prop where
 run: ∀F Γ M σ H Q,Same F0 F->AG X.K F Γ σ->AM X.K F M H->t Γ M Q->selfE X e σ H (PQ X.K F Q)
structure PTA(X:Cx)(F0:Hp)(e:Expr)(t:AT):Prop where
 run: ∀F Γ M σ H Q,Same F0 F->AG X.K F Γ σ->AM X.K F M H->t Γ M Q->selfT X e σ H (PQb X.K F Q)
structure PWA(X:Cx)(F0:Hp)(e:Expr)(t:AT):Prop where
 run: ∀F Γ M σ H Q,Same F0 F->AG X.K F Γ σ->AM X.K F M H->t Γ M Q->selfW X e σ H (PQb X.K F Q)
structure PAA(X:Cx)(F0:Hp)(es:List Expr)(t:AA):Prop where
 run: ∀F Γ M σ H Q,Same F0 F->AG X.K F Γ σ->AM X.K F M H->t Γ M Q->selfA X es σ H (PQs X.K F Q)
structure PSA(X:Cx)(F0:Hp)(st:Stmt)(t:AS):Prop where
 run: ∀F Γ M σ H E,Same F0 F->AG X.K F Γ σ->AM X.K F M H->t E Γ M->selfS X st (PQD X.K F E) σ H
structure PSsA(X:Cx)(F0:Hp)(sts:List Stmt)(t:AS):Prop where
 run: ∀F Γ M σ H E,Same F0 F->AG X.K F Γ σ->AM X.K F M H->t E Γ M->selfSs X sts (PQD X.K F E) σ H
noncomputable abbrev AGt:=D->G->Mem->(G->Mem->Prop)->Prop
noncomputable abbrev AGts:=List D->G->Mem->(G->Mem->Prop)->Prop
structure PGA(X:Cx)(F0:Hp)(tg:Expr)(t:AGt):Prop where
 run: ∀F Γ M σ H v d Q,Same F0 F->AG X.K F Γ σ->AM X.K F M H->RD X.K F v d->t d Γ M Q->selfG X tg v σ H (PQg X.K F Q)
structure PGsA(X:Cx)(F0:Hp)(ts:List Expr)(t:AGts):Prop where
 run: ∀F Γ M σ H vs ds Q,Same F0 F->AG X.K F Γ σ->AM X.K F M H->RDs X.K F vs ds->t ds Γ M Q->selfGs X ts vs σ H (PQg X.K F Q)
def aV(i:Nat):AE:=fun Γ M Q=>match Γ[i]? with |some (some d)=>Q d M |_=>False
def aC(d:D):AE:=fun _ M Q=>Q d M
theorem PQ.here{K:PySem.W.Frag}{F:Hp}{M:Mem}{H:Hp}{Q:AK}{v:V}{d:D}(m:AM K F M H)(r:RD K F v d)(q:Q d M):PQ K F Q v H:=⟨d,F,M,.refl F,m,r,q⟩
theorem PQb.here{K:PySem.W.Frag}{F:Hp}{M:Mem}{H:Hp}{Q:Bool->Mem->Prop}{v:Bool}(m:AM K F M H)(q:Q v M):PQb K F Q v H:=⟨F,M,.refl F,m,q⟩
theorem PQg.here{K:PySem.W.Frag}{F:Hp}{M:Mem}{H:Hp}{Q:G->Mem->Prop}{Γ:G}{σ:St}(m:AM K F M H)(g:AG K F Γ σ)(q:Q Γ M):PQg K F Q σ H:=⟨F,Γ,M,.refl F,g,m,q⟩
section
variable {X:Cx}{F0:Hp}{a b e:Expr}{es:List Expr}{pos:Pos}{ta tb te:AE}{i:Nat}{x:Str}
theorem paV(h:PE X e (tVar i)):PEA X F0 e (aV i):=by
 refine⟨?_⟩
 intro F Γ M σ H Q f0 g m hw
 unfold aV at hw
 split at hw
 . rename_i d hd
   obtain⟨v,e1,r⟩:=g.at' i d hd
   exact h.to ⟨v,e1,.here m r hw⟩
 . exact hw.elim
theorem paC{v:V}{d:D}(h:PE X e (tC v))(r: ∀F,RD X.K F v d):PEA X F0 e (aC d):=⟨fun F Γ M σ H Q _ _ m hw=>h.to (PQ.here m (r F) hw)⟩
theorem paI{n:Int}{j}:PEA X F0 (.Constant (.int n) j pos) (aC (.int n)):=paC pe_int fun _=> .int _
theorem paB{n:Bool}{j}:PEA X F0 (.Constant (.bool n) j pos) (aC (.bl n)):=paC pe_bl fun _=> .bl _
theorem paN{j}:PEA X F0 (.Constant .none j pos) (aC .non):=paC pe_non fun _=> .non
theorem paS{n:Str}{j}:PEA X F0 (.Constant (.str n) j pos) (aC (.str n)):=paC pe_str fun _=> .str _
theorem two(ha:PEA X F0 a ta)(hb:PEA X F0 b tb){F:Hp}{Γ:G}{M:Mem}{σ:St}{H:Hp}{R:D->D->Mem->Prop}(f0:Same F0 F)(g:AG X.K F Γ σ)(m:AM X.K F M H)(h:ta Γ M fun x M1=>tb Γ M1 fun y M2=>R x y M2)
   {Q:V->V->Hp->Prop} (k: ∀F2 M2 H2 v u x y,Same F F2->AM X.K F2 M2 H2->RD X.K F2 v x->RD X.K F2 u y->R x y M2->Q v u H2):selfE X a σ H fun v H1=>selfE X b σ H1 fun u H2=>Q v u H2:=by
 refine(ha.run F Γ M σ H _ f0 g m h).mono fun v H1 zz9=> ?_
 obtain⟨x,F1,M1,s1,m1,r1,q1⟩:=zz9
 refine(hb.run F1 Γ M1 σ H1 _ (f0.trans s1) (g.up s1) m1 q1).mono fun u H2 zz9=> ?_
 obtain⟨y,F2,M2,s2,m2,r2,q2⟩:=zz9
 exact k F2 M2 H2 v u x y (s1.trans s2) m2 (r1.up s2) r2 q2
noncomputable abbrev A2:=D->D->Mem->AK->Prop
def aOp(r:A2)(ta tb:AE):AE:=fun Γ M Q=>ta Γ M fun x M1=>tb Γ M1 fun y M2=>r x y M2 Q
def LO(K:PySem.W.Frag)(r:R2)(a:A2):Prop:= ∀(F:Hp) (M:Mem) (H:Hp) (x y:V) (dx dy:D) (Q:AK) (R:VK),AM K F M H->RD K F x dx->RD K F y dy->a dx dy M Q->(∀v H',PQ K F Q v H'->R v H')->r x y H R
theorem paOp{op:Operator}{r:R2}{o:A2}(ho:OpR X (binaryOp op) r)(l:LO X.K r o)(ha:PEA X F0 a ta)(hb:PEA X F0 b tb):PEA X F0 (.BinOp a op b pos) (aOp o ta tb):=by
 refine⟨?_⟩
 intro F Γ M σ H Q f0 g m h
 exact(pe_op ho a0n a0n).to (two ha hb f0 g m h fun F2 M2 H2 v u x y s m2 r1 r2 q=>l F2 M2 H2 v u x y Q _ m2 r1 r2 q fun _ _ z=>z.dn s)
theorem a2n{op:CmpOp}{r:R2}{o:A2}(ho:OpR X (compareOp op) r)(l:LO X.K r o)(ha:PEA X F0 a ta)(hb:PEA X F0 b tb)(hm:behindInMarks op b=false):PEA X F0 (.Compare a [op] [b] pos) (aOp o ta tb):=by
 refine⟨?_⟩
 intro F Γ M σ H Q f0 g m h
 exact(pe_cmpR ho a0n a0n hm).to (two ha hb f0 g m h fun F2 M2 H2 v u x y s m2 r1 r2 q=>l F2 M2 H2 v u x y Q _ m2 r1 r2 q fun _ _ z=>z.dn s)
def aT(t:AE):AT:=fun Γ M Q=>t Γ M fun d M'=>match d with | .bl b=>Q b M' |_=>False
theorem PQ.bool{K:PySem.W.Frag}{F:Hp}{Q:Bool->Mem->Prop}{v:V}{H:Hp}(h:PQ K F (fun d M'=>match d with | .bl b=>Q b M' |_=>False) v H): ∃k,v= .bl k/\PQb K F Q k H:=by
 obtain⟨d,F',M',s,m,r,q⟩:=h
 cases r<;>first
   |exact⟨_,rfl,F',M',s,m,q⟩
   |exact q.elim
theorem a0r{op:CmpOp}{r:R2}{o:A2}(ho:OpR X (compareOp op) r)(l:LO X.K r o)(ha:PEA X F0 a ta)(hb:PEA X F0 b tb)(hm:behindInMarks op b=false):PTA X F0 (.Compare a [op] [b] pos) (aT (aOp o ta tb)):=by
 refine⟨?_⟩
 intro F Γ M σ H Q f0 g m h
 refine(pt_cmpR ho a0n a0n hm).to (two ha hb f0 g m h fun F2 M2 H2 v u x y s m2 r1 r2 q=>l F2 M2 H2 v u x y _ _ m2 r1 r2 q fun _ _ z=> ?_)
 exact PQ.bool (z.dn s)
theorem ptV(h:PEA X F0 e te)(he: ∀whole,isTrue e X.env whole=(do let v <-whole;standAt e.pos;holding [v] (truthy v)):=by intro _;rfl):PTA X F0 e (aT te):=by
 refine⟨?_⟩
 intro F Γ M σ H Q f0 g m hw
 refine(pt_val a0n he).to ((h.run F Γ M σ H _ f0 g m hw).mono fun v H1 z=>PQ.bool z)
def aAnd(t u:AT):AT:=fun Γ M Q=>t Γ M fun c M1=>if c=true then u Γ M1 Q else Q false M1
def aOr(t u:AT):AT:=fun Γ M Q=>t Γ M fun c M1=>if c=true then Q true M1 else u Γ M1 Q
def aNot(t:AT):AT:=fun Γ M Q=>t Γ M fun c M1=>Q (!c) M1
variable {tA tB:AT}{rest:List Expr}
theorem a9g(ha:PTA X F0 a tA):PTA X F0 (.UnaryOp .Not a pos) (aNot tA):=by
 refine⟨?_⟩
 intro F Γ M σ H Q f0 g m h
 exact(pt_not a3n).to ((ha.run F Γ M σ H _ f0 g m h).mono fun c H1 z=>z)
theorem a31(ha:PTA X F0 a tA):PWA X F0 (.BoolOp .And [a] pos) tA:=⟨fun F Γ M σ H Q f0 g m h=>(pw_and1 a3n).to (ha.run F Γ M σ H Q f0 g m h)⟩
theorem a6o(ha:PTA X F0 a tA):PWA X F0 (.BoolOp .Or [a] pos) tA:=⟨fun F Γ M σ H Q f0 g m h=>(pw_or1 a3n).to (ha.run F Γ M σ H Q f0 g m h)⟩
theorem a7c(ha:PTA X F0 a tA)(hb:PWA X F0 (.BoolOp .And (b::rest) pos) tB):PWA X F0 (.BoolOp .And (a::b::rest) pos) (aAnd tA tB):=by
 refine⟨?_⟩
 intro F Γ M σ H Q f0 g m h
 refine(pw_and a3n b4p).to ((ha.run F Γ M σ H _ f0 g m h).mono fun c H1 zz9=> ?_)
 obtain⟨F1,M1,s1,m1,q1⟩:=zz9
 cases c with
 |true=>
   rw[if_pos rfl]at q1 |-
   exact(hb.run F1 Γ M1 σ H1 Q (f0.trans s1) (g.up s1) m1 q1).mono fun _ _ z=>z.dn s1
 |false=>
   rw[if_neg Bool.false_ne_true]at q1 |-
   exact⟨F1,M1,s1,m1,q1⟩
theorem pwOr(ha:PTA X F0 a tA)(hb:PWA X F0 (.BoolOp .Or (b::rest) pos) tB):PWA X F0 (.BoolOp .Or (a::b::rest) pos) (aOr tA tB):=by
 refine⟨?_⟩
 intro F Γ M σ H Q f0 g m h
 refine(pw_or a3n b4p).to ((ha.run F Γ M σ H _ f0 g m h).mono fun c H1 zz9=> ?_)
 obtain⟨F1,M1,s1,m1,q1⟩:=zz9
 cases c with
 |true=>
   rw[if_pos rfl]at q1 |-
   exact⟨F1,M1,s1,m1,q1⟩
 |false=>
   rw[if_neg Bool.false_ne_true]at q1 |-
   exact(hb.run F1 Γ M1 σ H1 Q (f0.trans s1) (g.up s1) m1 q1).mono fun _ _ z=>z.dn s1
theorem PWA.pt{t:AT}(h:PWA X F0 e t):PTA X F0 e t:=⟨fun F Γ M σ H Q f0 g m hw pins s I=>h.run F Γ M σ H Q f0 g m hw _ pins s I⟩
def aAndV(ta tb:AE):AE:=fun Γ M Q=>aT ta Γ M fun c M1=>if c=true then tb Γ M1 Q else Q (.bl false) M1
def aOrV(ta tb:AE):AE:=fun Γ M Q=>aT ta Γ M fun c M1=>if c=true then Q (.bl true) M1 else tb Γ M1 Q
def aNotV(ta:AE):AE:=fun Γ M Q=>aT ta Γ M fun c M1=>Q (.bl (!c)) M1
theorem b0p{op}(h:PEA X F0 a ta):PEA X F0 (.BoolOp op [a] pos) ta:=⟨fun F Γ M σ H Q f0 g m hw=>(pe_one a0n).to (h.run F Γ M σ H Q f0 g m hw)⟩
theorem b42(ha:PEA X F0 a ta)(hb:PEA X F0 (.BoolOp .And (b::rest) pos) tb):PEA X F0 (.BoolOp .And (a::b::rest) pos) (aAndV ta tb):=by
 refine⟨?_⟩
 intro F Γ M σ H Q f0 g m h
 refine(pe_and a0n a0n).to ((ha.run F Γ M σ H _ f0 g m h).mono fun v H1 z=> ?_)
 obtain⟨c,rfl,F1,M1,s1,m1,q1⟩:=PQ.bool z
 refine⟨c,rfl,?_⟩
 cases c with
 |true=>
   rw[if_pos rfl]at q1 |-
   exact(hb.run F1 Γ M1 σ H1 Q (f0.trans s1) (g.up s1) m1 q1).mono fun _ _ z=>z.dn s1
 |false=>
   rw[if_neg Bool.false_ne_true]at q1 |-
   exact⟨_,F1,M1,s1,m1,.bl _,q1⟩
theorem paOr(ha:PEA X F0 a ta)(hb:PEA X F0 (.BoolOp .Or (b::rest) pos) tb):PEA X F0 (.BoolOp .Or (a::b::rest) pos) (aOrV ta tb):=by
 refine⟨?_⟩
 intro F Γ M σ H Q f0 g m h
 refine(pe_or a0n a0n).to ((ha.run F Γ M σ H _ f0 g m h).mono fun v H1 z=> ?_)
 obtain⟨c,rfl,F1,M1,s1,m1,q1⟩:=PQ.bool z
 refine⟨c,rfl,?_⟩
 cases c with
 |true=>
   rw[if_pos rfl]at q1 |-
   exact⟨_,F1,M1,s1,m1,.bl _,q1⟩
 |false=>
   rw[if_neg Bool.false_ne_true]at q1 |-
   exact(hb.run F1 Γ M1 σ H1 Q (f0.trans s1) (g.up s1) m1 q1).mono fun _ _ z=>z.dn s1
def aUn(r:D->Mem->AK->Prop)(ta:AE):AE:=fun Γ M Q=>ta Γ M fun x M1=>r x M1 Q
def LU(K:PySem.W.Frag)(r:V->Hp->VK->Prop)(a:D->Mem->AK->Prop):Prop:= ∀(F:Hp) (M:Mem) (H:Hp) (x:V) (dx:D) (Q:AK) (R:VK),AM K F M H->RD K F x dx->a dx M Q->(∀v H',PQ K F Q v H'->R v H')->r x H R
theorem paUn{op:UnaryOp}{r:V->Hp->VK->Prop}{o:D->Mem->AK->Prop}(ho:UnR X (unaryOp op) r)(l:LU X.K r o)(ha:PEA X F0 a ta):PEA X F0 (.UnaryOp op a pos) (aUn o ta):=by
 refine⟨?_⟩
 intro F Γ M σ H Q f0 g m h
 exact(pe_un ho a0n).to ((ha.run F Γ M σ H _ f0 g m h).mono fun v H1 ⟨x,F1,M1,s1,m1,r1,q1⟩=>l F1 M1 H1 v x Q _ m1 r1 q1 fun _ _ z=>z.dn s1)
theorem paIx{r:R2}{o:A2}(ho:IxR X r)(l:LO X.K r o)(ha:PEA X F0 a ta)(hb:PEA X F0 b tb)(hs:b62 b):PEA X F0 (.Subscript a b pos) (aOp o ta tb):=by
 refine⟨?_⟩
 intro F Γ M σ H Q f0 g m h
 exact(pe_ix ho a0n a0n hs).to (two ha hb f0 g m h fun F2 M2 H2 v u x y s m2 r1 r2 q=>l F2 M2 H2 v u x y Q _ m2 r1 r2 q fun _ _ z=>z.dn s)
def aNil:AA:=fun _ M Q=>Q [] M
def b0e(ta:AE)(tr:AA):AA:=fun Γ M Q=>ta Γ M fun x M1=>tr Γ M1 fun xs M2=>Q (x::xs) M2
variable {tt:AA}
theorem a0i:PAA X F0 [] aNil:=⟨fun F Γ M σ H Q _ _ m h=>pa_nil.to ⟨[],F,M,.refl F,m,.nil,h⟩⟩
theorem a0a(ha:PEA X F0 e te)(hr:PAA X F0 es tt)(hs:starEach (e::es) X.env=(false,eval e X.env)::starEach es X.env:=by rfl):PAA X F0 (e::es) (b0e te tt):=by
 refine⟨?_⟩
 intro F Γ M σ H Q f0 g m h
 refine(a5f a0n a1v hs).to ((ha.run F Γ M σ H _ f0 g m h).mono fun v H1 zz9=> ?_)
 obtain⟨x,F1,M1,s1,m1,r1,q1⟩:=zz9
 exact(hr.run F1 Γ M1 σ H1 _ (f0.trans s1) (g.up s1) m1 q1).mono fun vs H2 ⟨xs,F2,M2,s2,m2,r2,q2⟩=>⟨x::xs,F2,M2,s1.trans s2,m2,.cons (r1.up s2) r2,q2⟩
def aTup(t:AA):AE:=fun Γ M Q=>t Γ M fun ds M1=>ds.length<=1000/\Q (.tup ds) M1
def aLst(t:AA):AE:=fun Γ M Q=>t Γ M fun ds M1=>ds.length<=1000/\Q (.lst ds) M1
def aLstM(t:AA):AE:=fun Γ M Q=>t Γ M fun ds M1=>ds.length<=1000/\ ∀p,M1 p=none->Q (.obj p) (put M1 p (.lst ds))
theorem a92{n:Nat}(h:n<=1000):n<=sizeLine:=Nat.le_of_lt (a4j h)
theorem a1w{x1}(h:PAA X F0 es tt):PEA X F0 (.Tuple es x1 pos) (aTup tt):=by
 refine⟨?_⟩
 intro F Γ M σ H Q f0 g m hw
 refine(pe_tup a1v).to ((h.run F Γ M σ H _ f0 g m hw).mono fun vs H1 zz9=> ?_)
 obtain⟨ds,F1,M1,s1,m1,r1,hl,q1⟩:=zz9
 refine⟨by rw[r1.length];exact a92 hl,fun p hp=>⟨.tup ds,upd F1 p (.tup vs),M1,s1.trans (a1i (m1.fF hp)),m1.frz hp,.tup a0u (r1.up (a1i (m1.fF hp))),q1⟩⟩
theorem a4b(h:PAA X F0 es tt):PEA X F0 (.List es pos) (aLst tt):=by
 refine⟨?_⟩
 intro F Γ M σ H Q f0 g m hw
 refine(pe_lst a1v).to ((h.run F Γ M σ H _ f0 g m hw).mono fun vs H1 zz9=> ?_)
 obtain⟨ds,F1,M1,s1,m1,r1,hl,q1⟩:=zz9
 refine⟨by rw[r1.length];exact a92 hl,fun p hp=>⟨.lst ds,upd F1 p (.lst vs),M1,s1.trans (a1i (m1.fF hp)),m1.frz hp,.lst a0u (r1.up (a1i (m1.fF hp))),q1⟩⟩
theorem a4q(h:PAA X F0 es tt):PEA X F0 (.List es pos) (aLstM tt):=by
 refine⟨?_⟩
 intro F Γ M σ H Q f0 g m hw
 refine(pe_lst a1v).to ((h.run F Γ M σ H _ f0 g m hw).mono fun vs H1 zz9=> ?_)
 obtain⟨ds,F1,M1,s1,m1,r1,hl,q1⟩:=zz9
 exact⟨by rw[r1.length];exact a92 hl,fun p hp=>⟨.obj p,F1,_,s1,m1.new (o:= .lst ds) hp r1,.obj p,q1 p (m1.fM hp)⟩⟩
def aFz(t:AE):AE:=fun Γ M Q=>t Γ M fun d M'=>match d with | .obj p=>(match M' p with |some (.lst ds)=>Q (.lst ds) (del M' p) |_=>False) |_=>False
theorem paFz(h:PEA X F0 e te):PEA X F0 e (aFz te):=by
 refine⟨?_⟩
 intro F Γ M σ H Q f0 g m hw
 refine(h.run F Γ M σ H _ f0 g m hw).mono fun v H1 zz9=> ?_
 obtain⟨d,F1,M1,s1,m1,r1,q1⟩:=zz9
 cases r1 with
 |obj p=>
   try dsimp only at q1
   split at q1
   . rename_i ds hd
     obtain⟨F2,s2,m2,r2⟩:=m1.freeze hd
     exact⟨_,F2,_,s1.trans s2,m2,r2,q1⟩
   . exact q1.elim
 |_=>exact q1.elim
noncomputable abbrev A1s:=List D->Mem->AK->Prop
def b61(r:A1s)(t:AA):AE:=fun Γ M Q=>t Γ M fun ds M1=>r ds M1 Q
def LC(K:PySem.W.Frag)(r:List V->Hp->VK->Prop)(a:A1s):Prop:= ∀(F:Hp) (M:Mem) (H:Hp) (xs:List V) (ds:List D) (Q:AK) (R:VK),AM K F M H->RDs K F xs ds->a ds M Q->(∀v H',PQ K F Q v H'->R v H')->r xs H R
variable {p:Pos}{id T:String}{r:List V->Hp->VK->Prop}{o:A1s}
theorem a0w(hc:CallR X (.builtin id) r)(l:LC X.K r o)(hg:Gl X x)(hm:X.mg x=none)(hv:bootBuiltins x=some (.builtin id))(ha:PAA X F0 (e::es) tt)(hn:x≠ "__name__":=by decide)(hdb:(x==("__debug__":Str))=false:=by decide)
   (he:starEach (e::es) X.env=(false,eval e X.env)::starEach es X.env:=by rfl) (hpl:(backTo pos (starEach es X.env)).any (·.1)=false:=by rfl):PEA X F0 (.Call (.Name x p) (e::es) [] pos) (b61 o tt):=by
 refine⟨?_⟩
 intro F Γ M σ H Q f0 g m hw
 exact(a8p hc hg hm hv a1v hn hdb he hpl).to ((ha.run F Γ M σ H _ f0 g m hw).mono fun vs H1 ⟨ds,F1,M1,s1,m1,r1,q1⟩=>l F1 M1 H1 vs ds Q _ m1 r1 q1 fun _ _ z=>z.dn s1)
theorem a8r(hc:CallR X (.type T) r)(l:LC X.K r o)(hg:Gl X x)(hm:X.mg x=none)(hv:bootBuiltins x=some (.type T))(ha:PAA X F0 (e::es) tt)(hn:x≠ "__name__":=by decide)(hdb:(x==("__debug__":Str))=false:=by decide)
   (he:starEach (e::es) X.env=(false,eval e X.env)::starEach es X.env:=by rfl) (hpl:(backTo pos (starEach es X.env)).any (·.1)=false:=by rfl):PEA X F0 (.Call (.Name x p) (e::es) [] pos) (b61 o tt):=by
 refine⟨?_⟩
 intro F Γ M σ H Q f0 g m hw
 exact(a4o hc hg hm hv a1v hn hdb he hpl).to ((ha.run F Γ M σ H _ f0 g m hw).mono fun vs H1 ⟨ds,F1,M1,s1,m1,r1,q1⟩=>l F1 M1 H1 vs ds Q _ m1 r1 q1 fun _ _ z=>z.dn s1)
noncomputable abbrev A1m:=D->List D->Mem->AK->Prop
def LM(K:PySem.W.Frag)(r:V->List V->Hp->VK->Prop)(a:A1m):Prop:= ∀(F:Hp) (M:Mem) (H:Hp) (x:V) (d:D) (xs:List V) (ds:List D) (Q:AK) (R:VK),AM K F M H->RD K F x d->RDs K F xs ds->a d ds M Q->(∀v H',PQ K F Q v H'->R v H')->r x xs H R
noncomputable def a3e(M:Mem):D->String
 | .lst _=>"list" | .scr _=>"list" | .str _=>"str" | .tup _=>"tuple"
 | .obj p=>(match M p with |some (.lst _)=>"list" |some (.dic _)=>"dict" |_=>"")
 |_=>""
def aBM0(T:String)(r:A1m)(to:AE):AE:=fun Γ M Q=>to Γ M fun x M1=>a3e M1 x=T/\r x [] M1 Q
def aBM(T:String)(r:A1m)(to:AE)(t:AA):AE:=fun Γ M Q=>to Γ M fun x M1=>a3e M1 x=T/\t Γ M1 fun xs M2=>r x xs M2 Q
end
def both{α β:Type}(a:Option α)(b:Option β)(R:α->β->Prop):Prop:=match a,b with |some x,some y=>R x y |_,_=>False
def opt{α:Type}(a:Option α)(R:α->Prop):Prop:=match a with |some x=>R x |none=>False
theorem a2m{α β:Type}{x:α}{y:β}{R:α->β->Prop}:both (some x) (some y) R=R x y:=rfl
theorem a1j{α:Type}{x:α}{R:α->Prop}:opt (some x) R=R x:=rfl
theorem a5r{α β:Type}{a:Option α}{b:Option β}{R:α->β->Prop}(h:both a b R): ∃x y,a=some x/\b=some y/\R x y:=by
 unfold both at h
 split at h
 . exact⟨_,_,rfl,rfl,h⟩
 . exact h.elim
theorem a1z{α:Type}{a:Option α}{R:α->Prop}(h:opt a R): ∃x,a=some x/\R x:=by
 unfold opt at h
 split at h
 . exact⟨_,rfl,h⟩
 . exact h.elim
noncomputable def dl(M:Mem):D->Option (List D)
 | .lst ds=>some ds
 | .obj p=>(match M p with |some (.lst ds)=>some ds |_=>none)
 |_=>none
noncomputable def dr(M:Mem):D->Option (List D)
 | .lst ds=>some ds
 | .scr ds=>some ds
 | .obj p=>(match M p with |some (.lst ds)=>some ds |_=>none)
 |_=>none
noncomputable def dq(M:Mem):D->Option (List D)
 | .lst ds=>some ds
 | .scr ds=>some ds
 | .tup ds=>some ds
 | .ctp ds=>some ds
 | .obj p=>(match M p with |some (.lst ds)=>some ds |_=>none)
 |_=>none
noncomputable def dd(M:Mem):D->Option (List (Key×D))
 | .obj p=>(match M p with |some (.dic kvs)=>some kvs |_=>none)
 |_=>none
section
variable {K:PySem.W.Frag}{F:Hp}{M:Mem}{H:Hp}{x:V}{d:D}{ds:List D}
theorem a96(m:AM K F M H)(r:RD K F x d)(h:dl M d=some ds): ∃p vs,x= .ref p/\H p=some (.lst vs)/\RDs K F vs ds:=by
 cases r<;>first
   | (unfold dl at h;cases h;done)
   |skip
 . rename_i a xs es e r
   cases h
   exact⟨a,xs,rfl,m.sub _ _ e,r⟩
 . rename_i p
   unfold dl at h
   dsimp only at h
   split at h
   . rename_i ds' hd
     cases h
     obtain⟨u,e,r⟩:=m.mem _ _ hd
     obtain⟨vs,rfl,r⟩:=r.isL
     exact⟨p,vs,rfl,e,r⟩
   . cases h
theorem a62(m:AM K F M H)(r:RD K F x d)(h:dr M d=some ds): ∃p vs,x= .ref p/\SqL K H p vs/\RDs K F vs ds:=by
 cases r<;>first
   | (unfold dr at h;cases h;done)
   |skip
 . rename_i a xs es e r
   cases h
   exact⟨a,xs,rfl,.of (m.sub _ _ e),r⟩
 . rename_i a xs es e r
   cases h
   exact⟨a,xs,rfl,m.sub.seq e,r⟩
 . rename_i p
   unfold dr at h
   dsimp only at h
   split at h
   . rename_i ds' hd
     cases h
     obtain⟨u,e,r⟩:=m.mem _ _ hd
     obtain⟨vs,rfl,r⟩:=r.isL
     exact⟨p,vs,rfl,.of e,r⟩
   . cases h
theorem b2x(m:AM K F M H)(r:RD K F x d)(h:dq M d=some ds): ∃p vs,x= .ref p/\(SqL K H p vs\/SqT K H p vs)/\RDs K F vs ds:=by
 cases r<;>first
   | (unfold dq at h;cases h;done)
   |skip
 . rename_i a xs es e r
   cases h
   exact⟨a,xs,rfl,.inl (.of (m.sub _ _ e)),r⟩
 . rename_i a xs es e r
   cases h
   exact⟨a,xs,rfl,.inl (m.sub.seq e),r⟩
 . rename_i a xs es e r
   cases h
   exact⟨a,xs,rfl,.inr (.of (m.sub _ _ e)),r⟩
 . rename_i a xs es e r
   cases h
   exact⟨a,xs,rfl,.inr (m.sub.seqT e),r⟩
 . rename_i p
   unfold dq at h
   dsimp only at h
   split at h
   . rename_i ds' hd
     cases h
     obtain⟨u,e,r⟩:=m.mem _ _ hd
     obtain⟨vs,rfl,r⟩:=r.isL
     exact⟨p,vs,rfl,.inl (.of e),r⟩
   . cases h
theorem a34{kvs:List (Key×D)}(m:AM K F M H)(r:RD K F x d)(h:dd M d=some kvs): ∃p ws,x= .ref p/\d= .obj p/\M p=some (.dic kvs)/\H p=some (.dK ws)/\PF K F ws kvs:=by
 cases r<;>first
   | (unfold dd at h;cases h;done)
   |skip
 rename_i p
 unfold dd at h
 dsimp only at h
 split at h
 . rename_i ds' hd
   cases h
   obtain⟨u,e,r⟩:=m.mem _ _ hd
   obtain⟨vs,rfl,r⟩:=r.isD
   exact⟨p,vs,rfl,rfl,hd,e,r⟩
 . cases h
end
noncomputable def addF:D->D->Option D
 | .int i,.int j=>some (.int (i+j))
 | .str s,.str t=>some (.str (s++t))
 |_,_=>none
def addC:D->D->Prop
 | .str s,.str t=>s.length+t.length<=sizeLine
 |_,_=>True
def oAdd:A2:=fun x y M Q=>addC x y/\opt (addF x y) fun d=>Q d M
def rAdds:R2:=fun x y H Q=>rI0 (fun i j=> .int (i+j)) x y H Q\/(∃i j,x= .str i/\y= .str j/\i.length+j.length<=sizeLine/\Q (.str (i++j)) H)
def oCatM:A2:=fun x y M Q=>both (dl M x) (dl M y) fun xs ys=>xs.length+ys.length<=1000/\ ∀p,M p=none->Q (.obj p) (put M p (.lst (xs++ys)))
def oCat:A2:=fun x y M Q=>both (dl M x) (dl M y) fun xs ys=>xs.length+ys.length<=1000/\Q (.lst (xs++ys)) M
def oI(g:Int->Int->D):A2:=fun x y M Q=>match x,y with | .int i,.int j=>Q (g i j) M |_,_=>False
def oIc(C:Int->Int->Prop)(g:Int->Int->D):A2:=fun x y M Q=>match x,y with | .int i,.int j=>C i j/\Q (g i j) M |_,_=>False
section
variable {X:Cx}{K:PySem.W.Frag}
theorem a08:OpR X (binaryOp .Add) rAdds:=op_add.or b3i
theorem lAdd:LO K rAdds oAdd:=by
 intro F M H x y dx dy Q R m rx ry h k
 obtain⟨hc,h⟩:=h
 cases rx<;>cases ry<;>first
   |exact h.elim
   |exact .inl ⟨_,_,rfl,rfl,k _ _ (.here m (.int _) h)⟩
   |exact .inr ⟨_,_,rfl,rfl,hc,k _ _ (.here m (.str _) h)⟩
theorem lCatM:LO K rCat oCatM:=by
 intro F M H x y dx dy Q R m rx ry h k
 obtain⟨xs,ys,h1,h2,hl,q⟩:=a5r h
 obtain⟨p,vs,rfl,e1,r1⟩:=a96 m rx h1
 obtain⟨p',ws,rfl,e2,r2⟩:=a96 m ry h2
 refine⟨p,p',vs,ws,rfl,rfl,e1,e2,by rw[r1.length,r2.length];exact a92 hl,fun l hn=>k _ _ ⟨.obj l,F,_,.refl F,m.new (o:= .lst (xs++ys)) hn (r1.append r2),.obj l,q l (m.fM hn)⟩⟩
theorem lCat:LO K rCat oCat:=by
 intro F M H x y dx dy Q R m rx ry h k
 obtain⟨xs,ys,h1,h2,hl,q⟩:=a5r h
 obtain⟨p,vs,rfl,e1,r1⟩:=a96 m rx h1
 obtain⟨p',ws,rfl,e2,r2⟩:=a96 m ry h2
 refine⟨p,p',vs,ws,rfl,rfl,e1,e2,by rw[r1.length,r2.length];exact a92 hl,fun l hn=>k _ _ ⟨.lst (xs++ys),_,M,a1i (m.fF hn),m.frz hn,.lst a0u ((r1.append r2).up (a1i (m.fF hn))),q⟩⟩
theorem lI{g:Int->Int->V}{g':Int->Int->D}(e: ∀i j F,RD K F (g i j) (g' i j)):LO K (rI0 g) (oI g'):=by
 intro F M H x y dx dy Q R m rx ry h k
 cases rx<;>cases ry<;>first
   |exact h.elim
   |exact⟨_,_,rfl,rfl,k _ _ (.here m (e _ _ F) h)⟩
theorem lIc{C:Int->Int->Prop}{g:Int->Int->V}{g':Int->Int->D}(e: ∀i j F,RD K F (g i j) (g' i j)):LO K (rI C g) (oIc C g'):=by
 intro F M H x y dx dy Q R m rx ry h k
 cases rx<;>cases ry<;>first
   |exact h.elim
   |exact⟨_,_,rfl,rfl,h.1,k _ _ (.here m (e _ _ F) h.2)⟩
abbrev oSub:A2:=oI fun i j=> .int (i- j)
abbrev oMul:A2:=oIc IntMulOk fun i j=> .int (i *j)
abbrev oMod:A2:=oIc (fun _ j=>0<j) fun i j=> .int (i % j)
abbrev oPow:A2:=oIc CPow fun i j=> .int (i^j.toNat)
abbrev oLt:A2:=oI fun i j=> .bl (decide (i<j))
abbrev oGt:A2:=oI fun i j=> .bl (decide (j<i))
abbrev oGe:A2:=oI fun i j=> .bl (decide (j<=i))
abbrev oDivB:A2:=oIc (fun _ j=>j≠0) fun i j=> .int (i.fdiv j)
abbrev oDiv:A2:=oIc CDiv fun i j=> .int (i/j)
theorem lSub:LO K (rI0 fun i j=> .int (i- j)) oSub:=lI fun _ _ _=> .int _
theorem lMul:LO K (rI IntMulOk fun i j=> .int (i *j)) oMul:=lIc fun _ _ _=> .int _
theorem lMod:LO K (rI (fun _ j=>0<j) fun i j=> .int (i % j)) oMod:=lIc fun _ _ _=> .int _
theorem lPow:LO K (rI CPow fun i j=> .int (i^j.toNat)) oPow:=lIc fun _ _ _=> .int _
theorem lLt:LO K (rI0 fun i j=> .bl (decide (i<j))) oLt:=lI fun _ _ _=> .bl _
theorem lGt:LO K (rI0 fun i j=> .bl (decide (j<i))) oGt:=lI fun _ _ _=> .bl _
theorem lGe:LO K (rI0 fun i j=> .bl (decide (j<=i))) oGe:=lI fun _ _ _=> .bl _
theorem lDivB:LO K (rI (fun _ j=>j≠0) fun i j=> .int (i.fdiv j)) oDivB:=lIc fun _ _ _=> .int _
theorem lDiv:LO K (rI CDiv fun i j=> .int (i/j)) oDiv:=lIc fun _ _ _=> .int _
def oNeg:D->Mem->AK->Prop:=fun x M Q=>match x with | .int i=>Q (.int (-i)) M |_=>False
theorem lNeg:LU K (rU fun i=> .int (-i)) oNeg:=by
 intro F M H x dx Q R m rx h k
 cases rx<;>first
   |exact h.elim
   |exact⟨_,rfl,k _ _ (.here m (.int _) h)⟩
mutual
noncomputable def D.py:D->PyData
 | .non=> .none | .bl b=> .bool b | .int i=> .int i | .str x=> .str x
 | .lst ds=> .list (D.pys ds) | .scr ds=> .list (D.pys ds) | .tup ds=> .tuple (D.pys ds) | .ctp ds=> .tuple (D.pys ds) | .obj _=> .none
noncomputable def D.pys:List D->List PyData
 | []=>[]
 |d::ds=>D.py d::D.pys ds
end
mutual
/-- no thing of the store in it -/
noncomputable def D.flat:D->Bool
 | .lst ds=>D.flats ds | .scr ds=>D.flats ds | .tup ds=>D.flats ds | .ctp ds=>D.flats ds | .obj _=>false
 |_=>true
noncomputable def D.flats:List D->Bool
 | []=>true
 |d::ds=>D.flat d&&D.flats ds
end
mutual
theorem RD.rep{F H:Hp}(s:Same F H): ∀{x:V}{d:D},RD K F x d->d.flat=true->Rep K H x d.py
 |_,_,.non,_=>by simp only[D.py];exact .non
 |_,_,.bl b,_=>by simp only[D.py];exact .bl b
 |_,_,.int i,_=>by simp only[D.py];exact .int i
 |_,_,.str x,_=>by simp only[D.py];exact .str x
 |_,_,.lst q rs,h=>by simp only[D.py];exact .lst (.of (s _ _ q)) (RDs.rep s rs (by simpa only[D.flat]using h))
 |_,_,.scr q rs,h=>by simp only[D.py];exact .lst (s.seq q) (RDs.rep s rs (by simpa only[D.flat]using h))
 |_,_,.tup q rs,h=>by simp only[D.py];exact .tup (.of (s _ _ q)) (RDs.rep s rs (by simpa only[D.flat]using h))
 |_,_,.ctp q rs,h=>by simp only[D.py];exact .tup (s.seqT q) (RDs.rep s rs (by simpa only[D.flat]using h))
 |_,_,.obj p,h=>by simp[D.flat]at h
theorem RDs.rep{F H:Hp}(s:Same F H): ∀{xs:List V}{ds:List D},RDs K F xs ds->D.flats ds=true->Reps K H xs (D.pys ds)
 |_,_,.nil,_=>by simp only[D.pys];exact .nil
 |_,_,.cons h t,e=>by
   simp only[D.flats,Bool.and_eq_true]at e
   simp only[D.pys]
   exact .cons (RD.rep s h e.1) (RDs.rep s t e.2)
end
noncomputable def drf(M:Mem):D->D
 | .obj p=>(match M p with |some (.lst ds)=> .lst ds |_=> .obj p)
 |d=>d
theorem a84{F:Hp}{M:Mem}{H:Hp}{x:V}{d:D}(m:AM K F M H)(r:RD K F x d)(h:(drf M d).flat=true):Rep K H x (drf M d).py:=by
 cases d with
 |obj p=>
   unfold drf at h |-
   dsimp only at h |-
   cases r
   split at h
   . rename_i ds hd
     obtain⟨u,e,r⟩:=m.mem _ _ hd
     obtain⟨vs,rfl,r⟩:=r.isL
     simp only[D.py]
     exact .lst (.of e) (r.rep m.sub (by simpa only[D.flat]using h))
   . simp[D.flat]at h
 |_=>exact r.rep m.sub h
noncomputable def a4k:D->D->Bool
 | .non,.non=>true | .non,.int _=>true | .int _,.non=>true | .non,.bl _=>true | .bl _,.non=>true | .non,.str _=>true | .str _,.non=>true
 | .int _,.int _=>true | .bl _,.bl _=>true | .str _,.str _=>true
 | .int _,.str _=>true | .str _,.int _=>true | .bl _,.str _=>true | .str _,.bl _=>true
 |_,_=>false
noncomputable def eqS:D->D->Bool
 | .non,.non=>true
 | .int a,.int b=>decide (a=b)
 | .bl a,.bl b=>decide (a=b)
 | .str a,.str b=>decide (a=b)
 |_,_=>false
noncomputable def eqD(x y:D):Bool:=PyData.eqv x.py y.py
noncomputable def shD(d:D):Bool:=d.flat&&SeqAt.shaped d.py
noncomputable def eqB(M:Mem)(x y:D):Bool:=if a4k x y=true then eqS x y else eqD (drf M x) (drf M y)
def eqC(M:Mem)(x y:D):Prop:=a4k x y=true\/(shD (drf M x)=true/\shD (drf M y)=true)
def oEq(neg:Bool):A2:=fun x y M Q=>eqC M x y/\Q (.bl (if neg then !eqB M x y else eqB M x y)) M
def rEqs(K:PySem.W.Frag):R2:=fun x y H Q=>rEq x y H Q\/rEqD K false x y H Q
def rNes(K:PySem.W.Frag):R2:=fun x y H Q=>rNe x y H Q\/rEqD K true x y H Q
theorem a03(hu:X.A.units+64<cLine):OpR X (compareOp .Eq) (rEqs X.K):=op_eq.or (op_eqD hu)
theorem a2j(hu:X.A.units+64<cLine):OpR X (compareOp .NotEq) (rNes X.K):=op_ne.or (op_neD hu)
theorem b4f{F:Hp}{x y:V}{dx dy:D}(rx:RD K F x dx)(ry:RD K F y dy)(h:a4k dx dy=true):scal x y=true/\decide (x=y)=eqS dx dy:=by
 cases rx<;>cases ry<;>first
   | (simp[a4k]at h;done)
   |exact⟨rfl,by simp[eqS]⟩
theorem lEq:LO K (rEqs K) (oEq false):=by
 intro F M H x y dx dy Q R m rx ry h k
 obtain⟨hc,h⟩:=h
 by_cases hs:a4k dx dy=true
 . obtain⟨h1,h2⟩:=b4f rx ry hs
   refine .inl ⟨h1,k _ _ (.here m (.bl _) ?_)⟩
   rw[h2]
   simpa[eqB,hs]using h
 . rcases hc with hc | ⟨h1,h2⟩
   . exact absurd hc hs
   unfold shD at h1 h2
   simp only[Bool.and_eq_true]at h1 h2
   exact .inr ⟨_,_,a84 m rx h1.1,a84 m ry h2.1,h1.2,h2.2,k _ _ (.here m (.bl _) (by simpa[eqB,hs,eqD]using h))⟩
theorem lNe:LO K (rNes K) (oEq true):=by
 intro F M H x y dx dy Q R m rx ry h k
 obtain⟨hc,h⟩:=h
 by_cases hs:a4k dx dy=true
 . obtain⟨h1,h2⟩:=b4f rx ry hs
   refine .inl ⟨h1,k _ _ (.here m (.bl _) ?_)⟩
   rw[h2]
   simpa[eqB,hs]using h
 . rcases hc with hc | ⟨h1,h2⟩
   . exact absurd hc hs
   unfold shD at h1 h2
   simp only[Bool.and_eq_true]at h1 h2
   exact .inr ⟨_,_,a84 m rx h1.1,a84 m ry h2.1,h1.2,h2.2,k _ _ (.here m (.bl _) (by simpa[eqB,hs,eqD]using h))⟩
noncomputable def b56:D->Bool | .non=>true |_=>false
def oIsN(neg:Bool):A2:=fun x y M Q=>match y with | .non=>Q (.bl (if neg then !b56 x else b56 x)) M |_=>False
theorem non_of{F:Hp}{x:V}{d:D}(r:RD K F x d):decide (x= .non)=b56 d:=by cases r<;>simp[b56]
theorem lIs:LO K (fun x y H Q=>y= .non/\Q (.bl (decide (x= .non))) H) (oIsN false):=by
 intro F M H x y dx dy Q R m rx ry h k
 cases ry<;>first
   |exact h.elim
   |exact⟨rfl,k _ _ (.here m (.bl _) (by rw[non_of rx];simpa[oIsN]using h))⟩
theorem a4w:LO K (fun x y H Q=>y= .non/\Q (.bl (!decide (x= .non))) H) (oIsN true):=by
 intro F M H x y dx dy Q R m rx ry h k
 cases ry<;>first
   |exact h.elim
   |exact⟨rfl,k _ _ (.here m (.bl _) (by rw[non_of rx];simpa[oIsN]using h))⟩
noncomputable def flD:D->Bool | .non=>true | .bl _=>true | .int _=>true | .str _=>true |_=>false
noncomputable def eqF:D->D->Bool
 | .non,.non=>true
 | .bl a,.bl b=>a==b
 | .bl a,.int b=>(if a then 1 else 0)==b
 | .int a,.bl b=>a==(if b then 1 else 0)
 | .int a,.int b=>a==b
 | .str a,.str b=>a==b
 |_,_=>false
noncomputable def inD(x:D)(ds:List D):Bool:=ds.any fun y=>eqF y x
theorem b6h{F:Hp}{x:V}{d:D}(r:RD K F x d):a53 x=flD d:=by cases r<;>rfl
theorem b2u{F:Hp}: ∀{xs:List V}{ds:List D},RDs K F xs ds->xs.all a53=ds.all flD
 |_,_,.nil=>rfl
 |_,_,.cons h t=>by simp only[List.all_cons,b6h h,b2u t]
theorem eqF_of{F:Hp}{x y:V}{d e:D}(r:RD K F x d)(q:RD K F y e)(h:flD d=true)(h':flD e=true):eqV x y=eqF d e:=by
 cases r<;>cases q<;>first |rfl | (simp[flD]at h;done) | (simp[flD]at h';done)
theorem inD_of{F:Hp}{x:V}{d:D}(r:RD K F x d)(h:flD d=true): ∀{xs:List V}{ds:List D},RDs K F xs ds->ds.all flD=true->inV x xs=inD d ds
 |_,_,.nil,_=>rfl
 |_,_,.cons q t,e=>by
   simp only[List.all_cons,Bool.and_eq_true]at e
   have ih:=inD_of r h t e.2
   unfold inV inD at ih |-
   rw[List.any_cons,List.any_cons,eqF_of q r e.1 h,ih]
noncomputable def hasS(j i:Str):Bool:= !(Builtin.Str.occurrences j i 0 j.length 1).isEmpty
noncomputable def inB(M:Mem):D->D->Option Bool
 | .str i,.str j=>some (hasS j i)
 |x,y=>(dq M y).bind fun ds=>if(flD x&&ds.all flD)=true then some (inD x ds)else none
def oIn(neg:Bool):A2:=fun x y M Q=>opt (inB M x y) fun b=>Q (.bl (if neg then !b else b)) M
def rIns(K:PySem.W.Frag):R2:=fun x y H Q=>rIn K false x y H Q\/(∃i j,x= .str i/\y= .str j/\Q (.bl (hasS j i)) H)
def b4o(K:PySem.W.Frag):R2:=fun x y H Q=>rIn K true x y H Q\/(∃i j,x= .str i/\y= .str j/\Q (.bl (!hasS j i)) H)
theorem b43:OpR X (compareOp .In) (rIns X.K):=op_in_seq.or b44
theorem a6q:OpR X (compareOp .NotIn) (b4o X.K):=op_notIn_seq.or a9k
theorem lInG{neg:Bool}{r:R2}(hs: ∀i j H R,R (.bl (if neg then !hasS j i else hasS j i)) H->r (.str i) (.str j) H R)(hq: ∀x p vs H R,(SqL K H p vs\/SqT K H p vs)->a53 x=true->vs.all a53=true->R (.bl (if neg then !inV x vs else inV x vs)) H->r x (.ref p) H R):LO K r (oIn neg):=by
 intro F M H x y dx dy Q R m rx ry h k
 obtain⟨b,hb,h⟩:=a1z h
 unfold inB at hb
 split at hb
 . cases rx;cases ry;cases hb
   exact hs _ _ _ _ (k _ _ (.here m (.bl _) h))
 . cases hd:dq M dy with
   |none=>rw[hd]at hb;cases hb
   |some ds=>
     rw[hd]at hb
     simp only[Option.bind_some]at hb
     split at hb
     . rename_i hf
       cases hb
       simp only[Bool.and_eq_true]at hf
       obtain⟨p,vs,rfl,e,r'⟩:=b2x m ry hd
       refine hq _ _ _ _ _ e (by rw[b6h rx];exact hf.1) (by rw[b2u r'];exact hf.2) ?_
       rw[inD_of rx hf.1 r' hf.2]
       exact k _ _ (.here m (.bl _) h)
     . cases hb
theorem lIn:LO K (rIns K) (oIn false):=lInG (fun i j H R h=> .inr ⟨i,j,rfl,rfl,by simpa using h⟩) fun x p vs H R e h1 h2 h=> .inl ⟨p,vs,rfl,e,h1,h2,by simpa using h⟩
theorem b5s:LO K (b4o K) (oIn true):=lInG (fun i j H R h=> .inr ⟨i,j,rfl,rfl,by simpa using h⟩) fun x p vs H R e h1 h2 h=> .inl ⟨p,vs,rfl,e,h1,h2,by simpa using h⟩
theorem RDs.atI{F:Hp}{xs:List V}{ds:List D}{i:Int}{d:D}(r:RDs K F xs ds)(h:L2.atI ds i=some d): ∃x,L2.atI xs i=some x/\RD K F x d:=by
 unfold L2.atI at h |-
 rw[r.length]
 cases q:ixN ds.length i with
 |none=>rw[q]at h;cases h
 |some j=>
   rw[q]at h
   exact r.get h
noncomputable def ixF(M:Mem):D->D->Option D
 | .str z,.int i=>(atI z.cps.toList i).map fun c=> .str ⟨#[c]⟩
 |x,.int i=>(dq M x).bind fun ds=>atI ds i
 |_,_=>none
def ixC:D->D->Prop
 | .str z,.int _=>z.length<=sizeLine
 |_,_=>True
def oIx:A2:=fun x y M Q=>ixC x y/\opt (ixF M x y) fun d=>Q d M
theorem lIx:LO K (rIx K) oIx:=by
 intro F M H x y dx dy Q R m rx ry h k
 obtain⟨hc,h⟩:=h
 obtain⟨d,hd,hz⟩:=a1z h
 unfold ixF at hd
 split at hd
 . rename_i z i
   cases rx;cases ry
   cases ha:atI z.cps.toList i with
   |none=>rw[ha]at hd;cases hd
   |some c=>
     rw[ha]at hd
     cases hd
     exact .inr (.inr ⟨_,_,c,rfl,rfl,hc,ha,k _ _ (.here m (.str _) hz)⟩)
 . rename_i i _
   cases hq:dq M dx with
   |none=>rw[hq]at hd;cases hd
   |some ds=>
     rw[hq]at hd
     have hd:atI ds i=some d:=hd
     obtain⟨p,vs,rfl,e,r⟩:=b2x m rx hq
     obtain⟨v,hv,rv⟩:=r.atI hd
     cases ry
     rcases e with e |e
     . exact .inl ⟨p,vs,_,v,rfl,rfl,e,hv,k _ _ (.here m rv hz)⟩
     . exact .inr (.inl ⟨p,vs,_,v,rfl,rfl,e,hv,k _ _ (.here m rv hz)⟩)
 . cases hd
end
noncomputable abbrev AO:=G->Mem->(Option Int->Mem->Prop)->Prop
noncomputable def selfO(X:Cx)(e:Option Expr):TO:=fun σ H Q=> ∀pins s,Inv X pins σ H s->wpAny (model X.prog X.w) X.A (evalPart e X.env) (fun u s'=> ∃o H',Inv X pins σ H' s'/\IsPart u o/\Q o H') X.xe s
theorem b4u{X:Cx}{e:Option Expr}:PO X e (selfO X e):=fun pins s _ _ _ I h=>h pins s I
theorem PO.to{X:Cx}{e:Option Expr}{σ:St}{H:Hp}{t:TO}{Q:Option Int->Hp->Prop}(h:PO X e t)(hw:t σ H Q):selfO X e σ H Q:=fun pins s I=>h pins s σ H Q I hw
theorem selfO.mono{X:Cx}{e:Option Expr}{σ:St}{H:Hp}{Q Q':Option Int->Hp->Prop}(h:selfO X e σ H Q)(k: ∀v H',Q v H'->Q' v H'):selfO X e σ H Q':=fun pins s I=>thn (h pins s I) fun _ _ ⟨o,H',J,r,q⟩=>⟨o,H',J,r,k o H' q⟩
def PQo(K:PySem.W.Frag)(F:Hp)(Q:Option Int->Mem->Prop):Option Int->Hp->Prop:=fun o H'=> ∃F' M',Same F F'/\AM K F' M' H'/\Q o M'
structure POA(X:Cx)(F0:Hp)(e:Option Expr)(t:AO):Prop where
 run: ∀F Γ M σ H Q,Same F0 F->AG X.K F Γ σ->AM X.K F M H->t Γ M Q->selfO X e σ H (PQo X.K F Q)
noncomputable def aNoPart:AO:=fun _ M Q=>Q none M
noncomputable def aPart(t:AE):AO:=fun Γ M Q=>t Γ M fun d M1=>match d with | .int i=>Q (some i) M1 |_=>False
def aSl(r:D->Option Int->Option Int->Mem->AK->Prop)(te:AE)(tl th:AO):AE:=fun Γ M Q=>te Γ M fun x M1=>tl Γ M1 fun l M2=>th Γ M2 fun u M3=>r x l u M3 Q
def LS(K:PySem.W.Frag)(r:V->Option Int->Option Int->Hp->VK->Prop)(a:D->Option Int->Option Int->Mem->AK->Prop):Prop:=
 ∀(F:Hp) (M:Mem) (H:Hp) (x:V) (d:D) (lo hi:Option Int) (Q:AK) (R:VK),AM K F M H->RD K F x d->a d lo hi M Q->(∀v H',PQ K F Q v H'->R v H')->r x lo hi H R
noncomputable def cut(ds:List D)(lo hi:Option Int):List D:=(ds.drop (HT.sIx ds.length 0 lo)).take (HT.sIx ds.length ds.length hi- HT.sIx ds.length 0 lo)
noncomputable def slF(M:Mem)(lo hi:Option Int):D->Option D
 | .str z=>some (.str (Txt.slice z lo hi))
 |x=>(dr M x).map fun ds=> .lst (cut ds lo hi)
def slC:D->Prop
 | .str z=>z.length<=sizeLine
 |_=>True
def oSl:D->Option Int->Option Int->Mem->AK->Prop:=fun x lo hi M Q=>slC x/\opt (slF M lo hi x) fun d=>Q d M
def oSlM:D->Option Int->Option Int->Mem->AK->Prop:=fun x lo hi M Q=>(match dr M x with |some ds=> ∀p,M p=none->Q (.obj p) (put M p (.lst (cut ds lo hi))) |none=>False)
def rSls(K:PySem.W.Frag):V->Option Int->Option Int->Hp->VK->Prop:=fun x lo hi H Q=>rSlS x lo hi H Q\/rSlL K x lo hi H Q
section
variable {X:Cx}{F0:Hp}{e:Expr}{pos p2:Pos}{te:AE}{lo hi:Option Expr}{tl th:AO}{K:PySem.W.Frag}
theorem poN:POA X F0 none aNoPart:=⟨fun F Γ M σ H Q _ _ m h=>po_none.to ⟨F,M,.refl F,m,h⟩⟩
theorem poS(h:PEA X F0 e te):POA X F0 (some e) (aPart te):=by
 refine⟨?_⟩
 intro F Γ M σ H Q f0 g m hw
 refine(po_some a0n).to ((h.run F Γ M σ H _ f0 g m hw).mono fun v H1 zz9=> ?_)
 obtain⟨d,F1,M1,s1,m1,r1,q1⟩:=zz9
 cases r1<;>first
   |exact q1.elim
   |exact⟨_,rfl,F1,M1,s1,m1,q1⟩
theorem paSl{r:V->Option Int->Option Int->Hp->VK->Prop}{o:D->Option Int->Option Int->Mem->AK->Prop}(hr:SlR X r)(l:LS X.K r o)(he:PEA X F0 e te)(hl:POA X F0 lo tl)(hh:POA X F0 hi th):
   PEA X F0 (.Subscript e (.Slice lo hi none p2) pos) (aSl o te tl th):=by
 refine⟨?_⟩
 intro F Γ M σ H Q f0 g m hw
 refine(b7m hr a0n b4u b4u).to ((he.run F Γ M σ H _ f0 g m hw).mono fun v H1 zz9=> ?_)
 obtain⟨d,F1,M1,s1,m1,r1,q1⟩:=zz9
 refine(hl.run F1 Γ M1 σ H1 _ (f0.trans s1) (g.up s1) m1 q1).mono fun l1 H2 zz9=> ?_
 obtain⟨F2,M2,s2,m2,q2⟩:=zz9
 refine(hh.run F2 Γ M2 σ H2 _ (f0.trans (s1.trans s2)) (g.up (s1.trans s2)) m2 q2).mono fun u1 H3 zz9=> ?_
 obtain⟨F3,M3,s3,m3,q3⟩:=zz9
 exact l F3 M3 H3 v d l1 u1 Q _ m3 (r1.up (s2.trans s3)) q3 fun _ _ z=>z.dn (s1.trans (s2.trans s3))
theorem cut_rep{F:Hp}{vs:List V}{ds:List D}(r:RDs K F vs ds)(lo hi:Option Int):RDs K F (cutV vs lo hi) (cut ds lo hi):=by
 unfold cutV cut
 rw[r.length]
 exact(r.drop _).take _
theorem b15:SlR X (rSls X.K):=sl_str.or sl_list
theorem lSl:LS K (rSls K) oSl:=by
 intro F M H x d lo hi Q R m rx h k
 obtain⟨hc,h⟩:=h
 obtain⟨d',hd,hz⟩:=a1z h
 unfold slF at hd
 split at hd
 . cases rx;cases hd
   exact .inl ⟨_,rfl,hc,k _ _ (.here m (.str _) hz)⟩
 . cases hq:dr M d with
   |none=>rw[hq]at hd;cases hd
   |some ds=>
     rw[hq]at hd
     cases hd
     obtain⟨p,vs,rfl,e,r⟩:=a62 m rx hq
     exact .inr ⟨p,vs,rfl,e,fun l hn=>k _ _ ⟨_,_,M,a1i (m.fF hn),m.frz hn,.lst a0u ((cut_rep r lo hi).up (a1i (m.fF hn))),hz⟩⟩
end
section
variable {X:Cx}{K:PySem.W.Frag}
noncomputable def lenF(M:Mem):D->Option Nat
 | .str z=>some z.length
 |d=>(match dd M d with |some kvs=>some kvs.length |none=>(dq M d).map List.length)
def lenC:D->Prop
 | .str z=>z.length<=sizeLine
 |_=>True
noncomputable def oLen:A1s:=fun ds M Q=>match ds with
 | [d]=>lenC d/\opt (lenF M d) fun n=>Q (.int n) M
 |_=>False
def rLens(K:PySem.W.Frag):List V->Hp->VK->Prop:=fun xs H Q=>(∃x n,xs=[x]/\LenV K x H n/\Q (.int n) H)\/(∃a kvs,xs=[V.ref a]/\H a=some (.dK kvs)/\Q (.int kvs.length) H)
theorem a0q:CallR X (.builtin "len") (rLens X.K):=call_len.or b6x
theorem PF.length{κ:Type}{F:Hp}{a:List (κ×V)}{b:List (κ×D)}(h:PF K F a b):a.length=b.length:=Paired.length h
theorem lLen:LC K (rLens K) oLen:=by
 intro F M H xs ds Q R m r h k
 unfold oLen at h
 split at h
 . rename_i d
   obtain⟨x,rfl,rx⟩:=r.one'
   obtain⟨hc,h⟩:=h
   obtain⟨n,hn,hz⟩:=a1z h
   unfold lenF at hn
   split at hn
   . cases rx;cases hn
     exact .inl ⟨_,_,rfl,⟨hc,rfl⟩,k _ _ (.here m (.int _) hz)⟩
   . split at hn
     . rename_i kvs hd
       cases hn
       obtain⟨p,ws,rfl,rfl,_,e,pf⟩:=a34 m rx hd
       exact .inr ⟨p,ws,rfl,e,k _ _ (.here m (.int _) (by rw[pf.length];exact hz))⟩
     . cases hq:dq M d with
       |none=>rw[hq]at hn;cases hn
       |some ds=>
         rw[hq]at hn
         cases hn
         obtain⟨p,vs,rfl,e,r⟩:=b2x m rx hq
         refine .inl ⟨_,vs.length,rfl,?_,k _ _ (.here m (.int _) (by rw[r.length];exact hz))⟩
         rcases e with e |e
         . exact .inl ⟨vs,e,rfl⟩
         . exact .inr ⟨vs,e,rfl⟩
 . exact h.elim
noncomputable def oAbs:A1s:=fun ds M Q=>match ds with | [.int i]=>Q (.int (if i<0 then -i else i)) M |_=>False
theorem lAbs:LC K (fun xs H Q=> ∃i,xs=[.int i]/\Q (.int (if i<0 then -i else i)) H) oAbs:=by
 intro F M H xs ds Q R m r h k
 unfold oAbs at h
 split at h
 . obtain⟨x,rfl,rx⟩:=r.one'
   cases rx
   exact⟨_,rfl,k _ _ (.here m (.int _) h)⟩
 . exact h.elim
noncomputable def oMax:A1s:=fun ds M Q=>match ds with | [.int i,.int j]=>Q (.int (if j>i then j else i)) M |_=>False
theorem lMax:LC K (fun xs H Q=> ∃i j,xs=[.int i,.int j]/\Q (.int (if j>i then j else i)) H) oMax:=by
 intro F M H xs ds Q R m r h k
 unfold oMax at h
 split at h
 . obtain⟨x,y,rfl,rx,ry⟩:=r.two'
   cases rx;cases ry
   exact⟨_,_,rfl,k _ _ (.here m (.int _) h)⟩
 . exact h.elim
noncomputable def oList:A1s:=fun ds M Q=>match ds with | [d]=>(match dq M d with |some xs=>Q (.lst xs) M |none=>False) |_=>False
theorem lList:LC K (fun xs H Q=> ∃p ys,xs=[.ref p]/\(SqL K H p ys\/SqT K H p ys)/\ ∀l,H l=none->Q (.ref l) (upd H l (.lst ys))) oList:=by
 intro F M H xs ds Q R m r h k
 unfold oList at h
 split at h
 . obtain⟨x,rfl,rx⟩:=r.one'
   split at h
   . rename_i ds hd
     obtain⟨p,vs,rfl,e,r⟩:=b2x m rx hd
     exact⟨p,vs,rfl,e,fun l hn=>k _ _ ⟨_,_,M,a1i (m.fF hn),m.frz hn,.lst a0u (r.up (a1i (m.fF hn))),h⟩⟩
   . exact h.elim
 . exact h.elim
end
section
variable {X:Cx}{F0:Hp}{e o:Expr}{es:List Expr}{apos cpos:Pos}{to:AE}{tt:AA}{K:PySem.W.Frag}{T id:String}{name:Str}{r:V->List V->Hp->VK->Prop}{q:A1m}
theorem b2q{F:Hp}{M:Mem}{H:Hp}{x:V}{d:D}(m:AM K F M H)(rx:RD K F x d)(h:a3e M d=T)(hT:T="list"\/T="dict"\/T="str"):tyV K T x H:=by
 cases rx<;>(unfold a3e at h;dsimp only at h)<;>first
   | (subst h;exact absurd hT (by decide))
   | (subst h;rfl)
   |skip
 . rename_i a xs ds e r
   subst h;exact .inl ⟨rfl,xs,.of (m.sub _ _ e)⟩
 . rename_i a xs ds e r
   subst h;exact .inl ⟨rfl,xs,m.sub.seq e⟩
 . rename_i p
   split at h
   . rename_i ds hd
     subst h
     obtain⟨u,e,r⟩:=m.mem _ _ hd
     obtain⟨vs,rfl,r⟩:=r.isL
     exact .inl ⟨rfl,vs,.of e⟩
   . rename_i ds hd
     subst h
     obtain⟨u,e,r⟩:=m.mem _ _ hd
     obtain⟨vs,rfl,r⟩:=r.isD
     exact .inr (.inr (.inl ⟨rfl,.inl ⟨vs,e⟩⟩))
   . subst h;exact absurd hT (by decide)
theorem paBM0(pa:PlainAttrs T)(slot:Slot T name id)(hty:typeOf (.builtin id)=pure (.type "method_descriptor"))(hm:MtR X id r)(l:LM X.K r q)(ho:PEA X F0 o to)(hT:T="list"\/T="dict"\/T="str":=by decide)
   (hbase:attributeBase o name X.env (eval o X.env)=eval o X.env:=by rfl) (hline:(apos.endLine==cpos.line)=true:=by rfl):PEA X F0 (.Call (.Attribute o name apos) [] [] cpos) (aBM0 T q to):=by
 refine⟨?_⟩
 intro F Γ M σ H Q f0 g m hw
 refine(a7v pa slot hty hm a0n hbase hline).to ((ho.run F Γ M σ H _ f0 g m hw).mono fun v H1 zz9=> ?_)
 obtain⟨d,F1,M1,s1,m1,r1,hk,q1⟩:=zz9
 exact⟨b2q m1 r1 hk hT,l F1 M1 H1 v d [] [] Q _ m1 r1 .nil q1 fun _ _ z=>z.dn s1⟩
theorem paBM(pa:PlainAttrs T)(slot:Slot T name id)(hty:typeOf (.builtin id)=pure (.type "method_descriptor"))(hm:MtR X id r)(l:LM X.K r q)(ho:PEA X F0 o to)(ha:PAA X F0 (e::es) tt)(hT:T="list"\/T="dict"\/T="str":=by decide)
   (hbase:attributeBase o name X.env (eval o X.env)=eval o X.env:=by rfl)
   (hfew:((backTo cpos (starEach (e::es) X.env)).all (fun x=> !x.1)&&(backToKw cpos (keywordEach [] X.env)).all (fun x=>x.1.isSome)
     &&decide ((e::es).length+([]:List Keyword).length+(if([]:List Keyword).isEmpty then 0 else 1)<30))=true:=by rfl)
   (hline:(apos.endLine==cpos.line)=true:=by rfl) (hs:starEach (e::es) X.env=(false,eval e X.env)::starEach es X.env:=by rfl) (hplain:(backTo cpos (starEach es X.env)).any (·.1)=false:=by rfl):
   PEA X F0 (.Call (.Attribute o name apos) (e::es) [] cpos) (aBM T q to tt):=by
 refine⟨?_⟩
 intro F Γ M σ H Q f0 g m hw
 refine(pe_bm pa slot hty hm a0n a1v hbase hfew hline hs hplain).to ((ho.run F Γ M σ H _ f0 g m hw).mono fun v H1 ⟨d,F1,M1,s1,m1,r1,hk,q1⟩=>⟨b2q m1 r1 hk hT,?_⟩)
 refine(ha.run F1 Γ M1 σ H1 _ (f0.trans s1) (g.up s1) m1 q1).mono fun vs H2 zz9=> ?_
 obtain⟨ds,F2,M2,s2,m2,r2,q2⟩:=zz9
 exact l F2 M2 H2 v d vs ds Q _ m2 (r1.up s2) r2 q2 fun _ _ z=>z.dn (s1.trans s2)
theorem a8v{F:Hp}{M:Mem}{H:Hp}{p:Addr}{ds:List D}(m:AM K F M H)(h:M p=some (.lst ds)): ∃vs,H p=some (.lst vs)/\RDs K F vs ds:=by
 obtain⟨u,e,r⟩:=m.mem _ _ h
 obtain⟨vs,rfl,r⟩:=r.isL
 exact⟨vs,e,r⟩
def oAppend:A1m:=fun x vs M Q=>match x,vs with
 | .obj p,[y]=>(match M p with |some (.lst ds)=>ds.length<1000/\Q .non (put M p (.lst (ds++[y]))) |_=>False)
 |_,_=>False
theorem a1x:LM K rAppend oAppend:=by
 intro F M H x d xs ds Q R m rx r h k
 unfold oAppend at h
 split at h
 . cases rx
   rename_i p y
   split at h
   . rename_i es hd
     obtain⟨vs,e,rr⟩:=a8v m hd
     obtain⟨w,rfl,rw'⟩:=r.one'
     exact⟨p,vs,w,rfl,rfl,e,by rw[rr.length];exact a4j (Nat.le_of_lt h.1),k _ _ (.here (m.set hd (u:= .lst (vs++[w])) (o':= .lst (es++[y])) (rr.append (.cons rw' .nil))) .non h.2)⟩
   . exact h.elim
 . exact h.elim
def oClear:A1m:=fun x vs M Q=>match x,vs with
 | .obj p,[]=>(match M p with |some (.lst _)=>Q .non (put M p (.lst [])) |_=>False)
 |_,_=>False
def oReverse:A1m:=fun x vs M Q=>match x,vs with
 | .obj p,[]=>(match M p with |some (.lst ds)=>Q .non (put M p (.lst ds.reverse)) |_=>False)
 |_,_=>False
theorem b73:LM K rReverse oReverse:=by
 intro F M H x d xs ds Q R m rx r h k
 unfold oReverse at h
 split at h
 . cases rx
   rename_i p
   split at h
   . rename_i es hd
     obtain⟨vs,e,rr⟩:=a8v m hd
     cases r.nil'
     exact⟨p,vs,rfl,rfl,e,k _ _ (.here (m.set hd (u:= .lst vs.reverse) (o':= .lst es.reverse) rr.reverse) .non h)⟩
   . exact h.elim
 . exact h.elim
def oPop0:A1m:=fun x vs M Q=>match x,vs with
 | .obj p,[.int 0]=>(match M p with |some (.lst (d::ds))=>Q d (put M p (.lst ds)) |_=>False)
 |_,_=>False
theorem lPop0:LM K rPopAt oPop0:=by
 intro F M H x d xs ds Q R m rx r h k
 unfold oPop0 at h
 split at h
 . cases rx
   rename_i p
   split at h
   . rename_i d1 es hd
     obtain⟨vs,e,rr⟩:=a8v m hd
     obtain⟨w,rfl,rw'⟩:=r.one'
     cases rw'
     cases rr with
     |cons r1 r2=>
       rename_i v1 vs1
       refine⟨p,v1::vs1,0,0,v1,rfl,rfl,e,by decide,by decide,?_,rfl,?_⟩
       . unfold seqIndex?;simp
       . exact k _ _ (.here (m.set hd (u:= .lst vs1) (o':= .lst es) r2) r1 h)
   . exact h.elim
 . exact h.elim
end
noncomputable abbrev AX:=G->Mem->Value->Prop
def b5l(K:PySem.W.Frag)(F0:Hp)(R:AX):RX:=fun σ H cls _=> ∃F Γ M,Same F0 F/\AG K F Γ σ/\AM K F M H/\R Γ M cls
theorem XS.imp{X:Cx}{R R':RX}(h: ∀σ H cls a,R σ H cls a->R' σ H cls a){e:Value}{s':Shared}(x:XS X R e s'):XS X R' e s':=by
 obtain⟨a,σ,H,B,cls,a0,m,e1,I,ex,r⟩:=x
 exact⟨a,σ,H,B,cls,a0,m,e1,I,ex,h _ _ _ _ r⟩
theorem Thr.imp{X:Cx}{R R':RX}(T:Thr X R')(h: ∀σ H cls a,R σ H cls a->R' σ H cls a):Thr X R:=fun e s' x=>T e s' (x.imp h)
structure Cat(X:Cx)(F0:Hp)(R:AX):Prop where
 thr:Thr X (b5l X.K F0 R)
 pl:Plain X
 calm:X.calm=true
 pass:X.A.frames=some X.stack->PassesOwn (model X.prog X.w) X.A X.env X.xe
 un:X.A.units+64<cLine
theorem un64{X:Cx}{F0:Hp}{R:AX}(c:Cat X F0 R):X.A.units+64<cLine:=c.un
theorem un1{X:Cx}{F0:Hp}{R:AX}(c:Cat X F0 R):X.A.units+1<cLine:=Nat.lt_of_le_of_lt (Nat.add_le_add_left (by decide:1<=64) _) c.un
noncomputable abbrev SpA:=List D->Mem->AK->(Value->Mem->Prop)->Prop
noncomputable def a0m(K:PySem.W.Frag)(sa:SpA):Sp:=fun vs H Q E=> ∃F ds M Qa Ea,AM K F M H/\RDs K F vs ds/\sa ds M Qa Ea/\(∀v H',PQ K F Qa v H'->Q v H')/\ ∀cls H',(∃F' M',Same F F'/\AM K F' M' H'/\Ea cls M')->E cls none H'
def Rt(Q:AK):AK:=fun d M=>(∃M',Sub M' M/\Q d M')\/ ∃p ds M',d= .obj p/\M p=some (.lst ds)/\Sub M' (del M p)/\Q (.lst ds) M'
theorem Rt.now{Q:AK}{d:D}{M:Mem}(h:Q d M):Rt Q d M:= .inl ⟨M,.refl M,h⟩
theorem Rt.sub{Q:AK}{d:D}{M M':Mem}(s:Sub M' M)(h:Q d M'):Rt Q d M:= .inl ⟨M',s,h⟩
theorem Sub.del{M:Mem}{p:Addr}{o:MO}(h:M p=none):Sub M (del (L2.put M p o) p):=by rw[a2l h];exact .refl M
theorem Rt.fz{Q:AK}{p:Addr}{M:Mem}{ds:List D}(hp:M p=none)(h:Q (.lst ds) M):Rt Q (.obj p) (put M p (.lst ds)):= .inr ⟨p,ds,M,rfl,a0e,.del hp,h⟩
theorem PQ.rt{K:PySem.W.Frag}{F:Hp}{Q:AK}{v:V}{H:Hp}(h:PQ K F (Rt Q) v H):PQ K F Q v H:=by
 obtain⟨d,F',M',s,m,r,q⟩:=h
 rcases q with⟨M2,hs,q⟩ | ⟨p,ds,M2,rfl,hp,hs,q⟩
 . exact⟨d,F',M2,s,m.less hs,r,q⟩
 . obtain⟨F2,s2,m2,r2⟩:=m.freeze hp
   cases r
   exact⟨_,F2,M2,s.trans s2,m2.less hs,r2,q⟩
section
variable {X:Cx}{F0:Hp}{R:AX}{k:Nat}{x:Str}{ps:List Str}{sa:SpA}{p pos apos:Pos}{e o:Expr}{es:List Expr}{tt:AA}{to:AE}{C:Addr}{m:Str}
def aFun(sa:SpA)(R:AX)(t:AA):AE:=fun Γ M Q=>t Γ M fun ds M1=>sa ds M1 Q fun cls M'=>R Γ M' cls
theorem a01(h:Has X.prog X.w X.K X.mg X.base (CXE X.prog X.w) k x ps (a0m X.K sa))(hr:Room k X.A)(hg:Gl X x)(c:Cat X F0 R)(ha:PAA X F0 (e::es) tt)
   (hdb:(x==("__debug__":Str))=false:=by decide) (he:starEach (e::es) X.env=(false,eval e X.env)::starEach es X.env:=by rfl) (hpl:(backTo pos (starEach es X.env)).any (·.1)=false:=by rfl):
   PEA X F0 (.Call (.Name x p) (e::es) [] pos) (aFun sa R tt):=by
 refine⟨?_⟩
 intro F Γ M σ H Q f0 g mm hw
 refine(b7r h hr hg c.thr c.pl a1v hdb he hpl).to ((ha.run F Γ M σ H _ f0 g mm hw).mono fun vs H1 zz9=> ?_)
 obtain⟨ds,F1,M1,s1,m1,r1,q1⟩:=zz9
 exact⟨F1,ds,M1,_,_,m1,r1,q1,fun v H' z=>z.dn s1,fun cls H' ⟨F',M',s',m',q'⟩ a=>⟨F',Γ,M',f0.trans (s1.trans s'),g.up (s1.trans s'),m',q'⟩⟩
def b1c(o:Option MO)(C:Addr)(R:List (Str×D)->Prop):Prop:=match o with |some (.ins C' fs)=>C'=C/\R fs |_=>False
theorem a25{C:Addr}{fs:List (Str×D)}{R:List (Str×D)->Prop}:b1c (some (.ins C fs)) C R=R fs:=by
 unfold b1c;simp
theorem b2s{o:Option MO}{C:Addr}{R:List (Str×D)->Prop}(h:b1c o C R): ∃fs,o=some (.ins C fs)/\R fs:=by
 unfold b1c at h
 split at h
 . obtain⟨rfl,h⟩:=h;exact⟨_,rfl,h⟩
 . exact h.elim
def b6z(C:Addr)(m:Str)(sa:SpA)(R:AX)(to:AE)(t:AA):AE:=fun Γ M Q=>to Γ M fun x M1=>match x with
 | .obj p=>b1c (M1 p) C fun fs=>fs.lookup m=none/\t Γ M1 fun ds M2=>sa (.obj p::ds) M2 Q fun cls M'=>R Γ M' cls
 |_=>False
theorem PF.lookup{K:PySem.W.Frag}{F:Hp}{f:Str}: ∀{a:List (Str×V)}{b:List (Str×D)},PF K F a b->(b.lookup f=none->a.lookup f=none)/\ ∀d,b.lookup f=some d-> ∃v,a.lookup f=some v/\RD K F v d
 |_,_,.nil=>⟨fun _=>rfl,fun d h=>by cases h⟩
 | (n,v)::a,(n',d)::b,.cons ⟨h1,h2⟩ t=>by
   dsimp only at h1 h2
   subst h1
   simp only[List.lookup_cons]
   split
   . refine⟨fun h=> ?_,fun d' h=> ?_⟩
     . cases h
     . cases h;exact⟨_,rfl,h2⟩
   . exact PF.lookup t
theorem b4x{pl:Sem Bool}{sp:Sp}{R:RX}{ta:TE}(h:HasM X.prog X.w X.K X.mg X.base (CXE X.prog X.w) k C m ps sp)(hr:Room k X.A)(T:Thr X R)(Pl:Plain X)(ho:PE X o ta)
   (ht:eval (.Call (.Attribute o m apos) [] [] pos) X.env=(do
     let ov <-eval o X.env
     standAt apos.atName
     let (f,first) <-holding [ov] (getMethod ov m pl)
     callWith pos f first (backTo pos (starEach [] X.env)) (backToKw pos (keywordEach [] X.env))):=by rfl):
   PE X (.Call (.Attribute o m apos) [] [] pos) (tMethX C m sp R ta tNil):=by
 intro pins s σ H Q I hw
 obtain⟨f,fd,F,hm,hb⟩:=h.ex
 refine PySem.W.methodCall_KW (pl:=pl) (thn (ho pins s σ H _ I hw) fun u s1 ⟨x,H1,I1,rx,a,dx,fs,ex,ea,l,q⟩=> ?_) ht
 subst ex
 obtain rfl:u=Value.ref a:=rx
 refine a72 I1 ea h.cl hm l ?_
 exact PySem.W.callWith_K0 (first:=[.ref a]) I1.kIn hm.kp (b0o (us:=[.ref a]) (vs:=[.ref a]) F hr hb T Pl I1 (.cons rfl .nil) q)
theorem a9j{pl:Sem Bool}(h:HasM X.prog X.w X.K X.mg X.base (CXE X.prog X.w) k C m ps (a0m X.K sa))(hr:Room k X.A)(c:Cat X F0 R)(ho:PEA X F0 o to)(ha:PAA X F0 (e::es) tt)
   (hst:starEach (e::es) X.env=(false,eval e X.env)::starEach es X.env:=by rfl) (hpl:(backTo pos (starEach es X.env)).any (·.1)=false:=by rfl)
   (ht:eval (.Call (.Attribute o m apos) (e::es) [] pos) X.env=(do
     let ov <-eval o X.env
     standAt apos.atName
     let (f,first) <-holding [ov] (getMethod ov m pl)
     callWith pos f first (backTo pos (starEach (e::es) X.env)) (backToKw pos (keywordEach [] X.env))):=by rfl):
   PEA X F0 (.Call (.Attribute o m apos) (e::es) [] pos) (b6z C m sa R to tt):=by
 refine⟨?_⟩
 intro F Γ M σ H Q f0 g mm hw
 refine(b7n h hr c.thr c.pl a0n a1v hst hpl ht).to ((ho.run F Γ M σ H _ f0 g mm hw).mono fun v H1 zz9=> ?_)
 obtain⟨d,F1,M1,s1,m1,r1,q1⟩:=zz9
 obtain⟨pp,rfl,rfl⟩: ∃pp,v= .ref pp/\d= .obj pp:=by cases r1<;>first |exact q1.elim |exact⟨_,rfl,rfl⟩
 obtain⟨fs,hp,hl,q1⟩:=b2s q1
 obtain⟨u,e1,ro⟩:=m1.mem _ _ hp
 obtain⟨dx,ws,rfl,pf⟩:=ro.isI
 refine⟨pp,dx,ws,rfl,e1,pf.lookup.1 hl,?_⟩
 refine(ha.run F1 Γ M1 σ H1 _ (f0.trans s1) (g.up s1) m1 q1).mono fun vs H2 zz9=> ?_
 obtain⟨ds,F2,M2,s2,m2,r2,q2⟩:=zz9
 exact⟨F2,.obj pp::ds,M2,_,_,m2,.cons (.obj pp) r2,q2,fun v H' z=>z.dn (s1.trans s2),fun cls H' ⟨F',M',s',m',q'⟩ a=>⟨F',Γ,M',f0.trans (s1.trans (s2.trans s')),g.up (s1.trans (s2.trans s')),m',q'⟩⟩
theorem a2f{pl:Sem Bool}(h:HasM X.prog X.w X.K X.mg X.base (CXE X.prog X.w) k C m ps (a0m X.K sa))(hr:Room k X.A)(c:Cat X F0 R)(ho:PEA X F0 o to)
   (ht:eval (.Call (.Attribute o m apos) [] [] pos) X.env=(do
     let ov <-eval o X.env
     standAt apos.atName
     let (f,first) <-holding [ov] (getMethod ov m pl)
     callWith pos f first (backTo pos (starEach [] X.env)) (backToKw pos (keywordEach [] X.env))):=by rfl):
   PEA X F0 (.Call (.Attribute o m apos) [] [] pos) (b6z C m sa R to aNil):=by
 refine⟨?_⟩
 intro F Γ M σ H Q f0 g mm hw
 refine(b4x h hr c.thr c.pl a0n ht).to ((ho.run F Γ M σ H _ f0 g mm hw).mono fun v H1 zz9=> ?_)
 obtain⟨d,F1,M1,s1,m1,r1,q1⟩:=zz9
 obtain⟨pp,rfl,rfl⟩: ∃pp,v= .ref pp/\d= .obj pp:=by cases r1<;>first |exact q1.elim |exact⟨_,rfl,rfl⟩
 obtain⟨fs,hp,hl,q1⟩:=b2s q1
 obtain⟨u,e1,ro⟩:=m1.mem _ _ hp
 obtain⟨dx,ws,rfl,pf⟩:=ro.isI
 refine⟨pp,dx,ws,rfl,e1,pf.lookup.1 hl,?_⟩
 exact⟨F1,[.obj pp],M1,_,_,m1,.cons (.obj pp) .nil,q1,fun v H' z=>z.dn s1,fun cls H' ⟨F',M',s',m',q'⟩ a=>⟨F',Γ,M',f0.trans (s1.trans s'),g.up (s1.trans s'),m',q'⟩⟩
structure Pln(K:PySem.W.Frag)(C:Addr)(f:Str):Prop where
 cl:Cls K C
 no:NoAttr K C f
def aFldC(C:Addr)(f:Str)(to:AE):AE:=fun Γ M Q=>to Γ M fun x M1=>match x with
 | .obj p=>b1c (M1 p) C fun fs=>opt (fs.lookup f) fun d=>Q d M1
 |_=>False
theorem a51{f:Str}(P:Pln X.K C f)(ho:PEA X F0 e to)(hb:attributeBase e f X.env (eval e X.env)=eval e X.env):PEA X F0 (.Attribute e f pos) (aFldC C f to):=by
 refine⟨?_⟩
 intro F Γ M σ H Q f0 g mm hw
 refine(pe_fld a0n hb).to ((ho.run F Γ M σ H _ f0 g mm hw).mono fun v H1 zz9=> ?_)
 obtain⟨d,F1,M1,s1,m1,r1,q1⟩:=zz9
 obtain⟨pp,rfl,rfl⟩: ∃pp,v= .ref pp/\d= .obj pp:=by cases r1<;>first |exact q1.elim |exact⟨_,rfl,rfl⟩
 obtain⟨fs,hp,q1⟩:=b2s q1
 obtain⟨d,hl,q⟩:=a1z q1
 obtain⟨u,e1,ro⟩:=m1.mem _ _ hp
 obtain⟨dx,ws,rfl,pf⟩:=ro.isI
 obtain⟨v,lv,rv⟩:=pf.lookup.2 d hl
 exact⟨pp,C,dx,ws,v,rfl,e1,P.cl,P.no,lv,d,F1,M1,s1,m1,rv,q⟩
noncomputable def putD(f:Str)(v:D):List (Str×D)->List (Str×D)
 | []=>[(f,v)]
 | (g,x)::r=>if g=f then(g,v)::r else(g,x)::putD f v r
end
section
variable {X:Cx}{F0:Hp}{R:AX}{e o c:Expr}{es:List Expr}{pos pos':Pos}{te t_o:AE}{tt:AA}{t u:AS}{st:Stmt}{rest a b:List Stmt}{tc:AT}
def aNext:AS:=fun E Γ M=>E.nx Γ M
def aSeq(t u:AS):AS:=fun E Γ M=>t {E with nx:=u E} Γ M
theorem a0t:PSsA X F0 [] aNext:=⟨fun F Γ M σ H E _ g m h=>pss_nil.to (PQg.here m g h)⟩
theorem a0b(h1:PSA X F0 st t)(h2:PSsA X F0 rest u):PSsA X F0 (st::rest) (aSeq t u):=by
 refine⟨?_⟩
 intro F Γ M σ H E f0 g m h
 refine(b7h b4s a2h).to ((h1.run F Γ M σ H _ f0 g m h).mono ⟨fun σ1 H1 ⟨F1,Γ1,M1,s1,g1,m1,q1⟩=> ?_,fun _ _ z=>z,fun _ _ z=>z,fun _ _ z=>z⟩)
 exact(h2.run F1 Γ1 M1 σ1 H1 E (f0.trans s1) g1 m1 q1).mono (PQD.dn s1)
theorem a0j(h1:PSA X F0 st t):PSsA X F0 [st] t:=⟨fun F Γ M σ H E f0 g m h=>(pss_one b4s).to (h1.run F Γ M σ H E f0 g m h)⟩
def b1s(te:AE):AS:=fun E Γ M=>te Γ M fun _ M1=>E.nx Γ M1
theorem a2i(he:PEA X F0 e te)(hs:swapsWith e none pos.line X.env=pure false:=by rfl):PSA X F0 (.Expr e pos) (b1s te):=by
 refine⟨?_⟩
 intro F Γ M σ H E f0 g m h
 exact(ps_expr a0n hs).to ((he.run F Γ M σ H _ f0 g m h).mono fun v H1 ⟨d,F1,M1,s1,m1,_,q1⟩=>⟨F1,Γ,M1,s1,g.up s1,m1,q1⟩)
def aRet(te:AE):AS:=fun E Γ M=>te Γ M E.rt
theorem sRet(he:PEA X F0 e te):PSA X F0 (.Return (some e) pos) (aRet te):=⟨fun F Γ M σ H E f0 g m h=>(ps_ret a0n).to (he.run F Γ M σ H _ f0 g m h)⟩
def aRetN:AS:=fun E _ M=>E.rt .non M
def aIf(c:AT)(t u:AS):AS:=fun E Γ M=>c Γ M fun b M1=>if b=true then t E Γ M1 else u E Γ M1
theorem sIf(hc:PTA X F0 c tc)(ha:PSsA X F0 a t)(hb:PSsA X F0 b u):PSA X F0 (.If c a b pos) (aIf tc t u):=by
 refine⟨?_⟩
 intro F Γ M σ H E f0 g m h
 refine(ps_if a3n a2h a2h).to ((hc.run F Γ M σ H _ f0 g m h).mono fun k H1 zz9=> ?_)
 obtain⟨F1,M1,s1,m1,q1⟩:=zz9
 cases k with
 |true=>
   rw[if_pos rfl]at q1 |-
   exact(ha.run F1 Γ M1 σ H1 E (f0.trans s1) (g.up s1) m1 q1).mono (PQD.dn s1)
 |false=>
   rw[if_neg Bool.false_ne_true]at q1 |-
   exact(hb.run F1 Γ M1 σ H1 E (f0.trans s1) (g.up s1) m1 q1).mono (PQD.dn s1)
def gaN(i:Nat):AGt:=fun d Γ M Q=>Q (Γ.set i (some d)) M
theorem a0v{i:Nat}{x:Str}(hN:X.N.Nodup)(hi:X.N[i]? =some x)(hx:Loc X.env.scope x)(hf:X.fn x=true\/X.env.scope.names.lookup x=some .local:=by first |exact .inl rfl |exact .inr rfl |assumption):PGA X F0 (.Name x pos) (gaN i):=
 ⟨fun F Γ M σ H v d Q _ g m r h=>(pg_name hN hi hx hf).to (PQg.here m (g.set r i) h)⟩
def gaNil:AGts:=fun ds Γ M Q=>ds=[]/\Q Γ M
def a32(t:AGt)(u:AGts):AGts:=fun ds Γ M Q=>match ds with |d::r=>t d Γ M fun Γ' M'=>u r Γ' M' Q | []=>False
theorem a3i:PGsA X F0 [] gaNil:=by
 refine⟨?_⟩
 intro F Γ M σ H vs ds Q _ g m r h
 obtain⟨rfl,h⟩:=h
 cases r
 exact pgs_nil.to ⟨rfl,PQg.here m g h⟩
theorem a00{gt:AGt}{gu:AGts}(h1:PGA X F0 e gt)(h2:PGsA X F0 es gu)(hs:(assignEach (e::es) X.env).map (·.2)=assign e X.env::(assignEach es X.env).map (·.2):=by rfl):PGsA X F0 (e::es) (a32 gt gu):=by
 refine⟨?_⟩
 intro F Γ M σ H vs ds Q f0 g m r h
 cases r with
 |nil=>exact h.elim
 |cons r1 r2=>
   refine(b7l a8o a8n hs).to ⟨_,_,rfl,?_⟩
   refine(h1.run F Γ M σ H _ _ _ f0 g m r1 h).mono fun σ1 H1 zz9=> ?_
   obtain⟨F1,Γ1,M1,s1,g1,m1,q1⟩:=zz9
   exact(h2.run F1 Γ1 M1 σ1 H1 _ _ Q (f0.trans s1) g1 m1 (r2.up s1) q1).mono fun _ _ z=>z.dn s1
def a52(n:Nat)(t:AGts):AGt:=fun d Γ M Q=>match d with | .tup ds=>ds.length=n/\t ds Γ M Q |_=>False
theorem a69{k:Nat}{gu:AGts}{n:Nat}(hc:X.calm=true)(h:PGsA X F0 es gu)
   (hn:(assignEach es X.env).length=n:=by rfl) (hst:(assignEach es X.env).findIdx? (·.1)=none:=by rfl):PGA X F0 (.Tuple es k pos) (a52 n gu):=by
 refine⟨?_⟩
 intro F Γ M σ H v d Q f0 g m r hw
 cases r<;>first |exact hw.elim |skip
 rename_i a xs ds e r
 exact(pg_tup hc a8n hn hst).to ⟨a,xs,rfl,.of (m.sub _ _ e),by rw[r.length];exact hw.1,h.run F Γ M σ H xs ds Q f0 g m r hw.2⟩
def gaLst(n:Nat)(t:AGts):AGt:=fun d Γ M Q=>match dr M d with |some ds=>ds.length=n/\t ds Γ M Q |none=>False
theorem tgLst{k:Nat}{gu:AGts}{n:Nat}(hc:X.calm=true)(h:PGsA X F0 es gu)
   (hn:(assignEach es X.env).length=n:=by rfl) (hst:(assignEach es X.env).findIdx? (·.1)=none:=by rfl):PGA X F0 (.Tuple es k pos) (gaLst n gu):=by
 refine⟨?_⟩
 intro F Γ M σ H v d Q f0 g m r hw
 unfold gaLst at hw
 split at hw
 . rename_i ds hd
   obtain⟨p,vs,rfl,e,rr⟩:=a62 m r hd
   exact(pg_lst hc a8n hn hst).to ⟨p,vs,rfl,e,by rw[rr.length];exact hw.1,h.run F Γ M σ H vs ds Q f0 g m rr hw.2⟩
 . exact hw.elim
def gaSub(to ti:AE):AGt:=fun d Γ M Q=>to Γ M fun x M1=>ti Γ M1 fun y M2=>match x,y with
 | .obj p,.int k=>(match M2 p with |some (.lst ds)=>(match ixN ds.length k with |some j=>Q Γ (put M2 p (.lst (ds.set j d))) |none=>False) |_=>False)
 |_,_=>False
theorem tgSub{i:Expr}{ti:AE}(ho:PEA X F0 o t_o)(hi:PEA X F0 i ti)
   (ha: ∀v,assign (.Subscript o i pos) X.env v=(do
     let ov <-holding [v] (eval o X.env)
     let iv <-holding [v,ov] (eval i X.env)
     standAt pos
     holding [v,ov,iv] (setItem ov iv v)
     release [v,ov,iv] []):=by intro _;rfl):PGA X F0 (.Subscript o i pos) (gaSub t_o ti):=by
 refine⟨?_⟩
 intro F Γ M σ H v d Q f0 g m r hw
 refine(pg_sub a0n a0n b68 ha).to (two ho hi f0 g m hw fun F2 M2 H2 v1 u1 x y s m2 r1 r2 q=> ?_)
 cases r1<;>first |exact q.elim |skip
 cases r2<;>first |exact q.elim |skip
 rename_i p k
 dsimp only at q
 split at q
 . rename_i ds hd
   split at q
   . rename_i j hj
     obtain⟨vs,e,rr⟩:=a8v m2 hd
     exact⟨p,vs,k,j,rfl,rfl,e,by rw[rr.length];exact hj,F2,Γ,_,s,g.up s,m2.set hd (u:= .lst (vs.set j v)) (o':= .lst (ds.set j d)) (RDs.set (r.up s) j rr),q⟩
   . exact q.elim
 . exact q.elim
def aAsg(te:AE)(gt:AGt):AS:=fun E Γ M=>te Γ M fun d M1=>gt d Γ M1 E.nx
theorem sAsg{tg:Expr}{gt:AGt}(he:PEA X F0 e te)(hg:PGA X F0 tg gt)(hs:swapsWithSole [tg] e pos.line X.env=pure false:=by rfl)(hw:swappedStores [tg] e X.env=pure none:=by rfl)
   (h1:(assignEach [tg] X.env).map (·.2)=[assign tg X.env]:=by rfl):PSA X F0 (.Assign [tg] e pos) (aAsg te gt):=by
 refine⟨?_⟩
 intro F Γ M σ H E f0 g m h
 refine(ps_asg a0n a8o hs hw h1).to ((he.run F Γ M σ H _ f0 g m h).mono fun v H1 zz9=> ?_)
 obtain⟨d,F1,M1,s1,m1,r1,q1⟩:=zz9
 exact(hg.run F1 Γ M1 σ H1 v d _ (f0.trans s1) (g.up s1) m1 r1 q1).mono fun _ _ z=>PQg.dn s1 z
def aSet(i:Nat)(te:AE):AS:=fun E Γ M=>te Γ M fun d M1=>E.nx (Γ.set i (some d)) M1
theorem sSet{i:Nat}{x:Str}(hN:X.N.Nodup)(hi:X.N[i]? =some x)(hx:Loc X.env.scope x)(he:PEA X F0 e te)(hs:swapsWith e (some (.Name x pos')) pos.line X.env=pure false:=by rfl)(hf:X.fn x=true\/X.env.scope.names.lookup x=some .local:=by first |exact .inl rfl |exact .inr rfl |assumption):
   PSA X F0 (.Assign [.Name x pos'] e pos) (aSet i te):=by
 refine⟨?_⟩
 intro F Γ M σ H E f0 g m h
 exact(ps_set hN hi hx a0n hs hf).to ((he.run F Γ M σ H _ f0 g m h).mono fun v H1 ⟨d,F1,M1,s1,m1,r1,q1⟩=>⟨F1,_,M1,s1,(g.up s1).set r1 i,m1,q1⟩)
def aPar(i j:Nat)(t:AA):AS:=fun E Γ M=>t Γ M fun ds M1=>match ds with | [v,w]=>E.nx ((Γ.set i (some v)).set j (some w)) M1 |_=>False
def aSetF(C:Addr)(f:Str)(to te:AE):AS:=fun E Γ M=>te Γ M fun y M1=>to Γ M1 fun x M2=>match x with
 | .obj p=>b1c (M2 p) C fun fs=>fs.length<1000/\E.nx Γ (put M2 p (.ins C (putD f y fs)))
 |_=>False
theorem PF.put{K:PySem.W.Frag}{F:Hp}{f:Str}{v:V}{d:D}(r:RD K F v d): ∀{a:List (Str×V)}{b:List (Str×D)},PF K F a b->PF K F (putF f v a) (putD f d b)
 |_,_,.nil=> .cons ⟨rfl,r⟩ .nil
 | (n,_)::_,(n',_)::_,.cons ⟨h1,h2⟩ t=>by
   dsimp only at h1 h2
   subst h1
   unfold putF putD
   split
   . exact .cons ⟨rfl,r⟩ t
   . exact .cons ⟨rfl,h2⟩ (PF.put r t)
theorem b7b{C:Addr}{f:Str}(P:Pln X.K C f)(ho:PEA X F0 o t_o)(he:PEA X F0 e te)(hs:swapsWith e (some (.Attribute o f pos')) pos.line X.env=pure false):PSA X F0 (.Assign [.Attribute o f pos'] e pos) (aSetF C f t_o te):=by
 refine⟨?_⟩
 intro F Γ M σ H E f0 g m h
 refine(ps_fld a0n a0n hs).to (two he ho f0 g m h fun F2 M2 H2 v u x y s m2 r1 r2 q=> ?_)
 cases r2<;>first |exact q.elim |skip
 rename_i p
 obtain⟨fs,hp,hl,q⟩:=b2s q
 obtain⟨w,e1,ro⟩:=m2.mem _ _ hp
 obtain⟨dx,ws,rfl,pf⟩:=ro.isI
 exact⟨p,C,dx,ws,rfl,e1,P.cl,P.no,by rw[pf.length];exact hl,F2,Γ,_,s,g.up s,m2.set hp (u:= .ins C dx (putF f v ws)) (o':= .ins C (putD f x fs)) ⟨rfl,pf.put r1⟩,q⟩
def aRaise(R:AX)(C:Addr)(t:AA):AS:=fun _ Γ M=>t Γ M fun ds M1=>ds.length<=1000/\R Γ M1 (.ref C)
theorem a3g{x:Str}{C:Addr}{np cpos:Pos}(k:Cat X F0 R)(O:ExCls X.K X.mg x C)(hg:Gl X x)(ha:PAA X F0 (e::es) tt)
   (hd:(x==("__debug__":Str))=false:=by decide) (he:starEach (e::es) X.env=(false,eval e X.env)::starEach es X.env:=by rfl) (hpl:(backTo cpos (starEach es X.env)).any (·.1)=false:=by rfl):
   PSA X F0 (.Raise (some (.Call (.Name x np) (e::es) [] cpos)) none pos) (aRaise R C tt):=by
 refine⟨?_⟩
 intro F Γ M σ H E f0 g m h
 refine(b7j k.thr k.pl O k.calm hg a1v hd he hpl).to ((ha.run F Γ M σ H _ f0 g m h).mono fun vs H1 zz9=> ?_)
 obtain⟨ds,F1,M1,s1,m1,r1,hl,q1⟩:=zz9
 exact⟨by rw[r1.length];exact a92 hl,fun a=>⟨F1,Γ,M1,f0.trans s1,g.up s1,m1,q1⟩⟩
def aWhile(c:AT)(tb:AS):AS:=fun E Γ M=> ∃W:Nat->G->Mem->Prop,(∃m,W m Γ M)/\ ∀m Γ M,W m Γ M->
 c Γ M fun b M1=>if b=true then tb {E with nx:=fun Γ' M'=> ∃m',m'<m/\W m' Γ' M',ct:=fun Γ' M'=> ∃m',m'<m/\W m' Γ' M',bk:=E.nx} Γ M1 else E.nx Γ M1
theorem b17{tb:AS}{body:List Stmt}(k:Cat X F0 R)(hc:PTA X F0 c tc)(hb:PSsA X F0 body tb):PSA X F0 (.While c body [] pos) (aWhile tc tb):=by
 refine⟨?_⟩
 intro F Γ M σ H E f0 g m h
 obtain⟨W,⟨m0,w0⟩,turn⟩:=h
 intro pins s I
 refine(b7i (k.pass I.ok.frames) a3n a2h).to ⟨fun n σ' H'=> ∃F' Γ' M',Same F F'/\AG X.K F' Γ' σ'/\AM X.K F' M' H'/\W n Γ' M',⟨m0,F,Γ,M,.refl F,g,m,w0⟩,?_⟩ pins s I
 rintro n σ1 H1 ⟨F1,Γ1,M1,s1,g1,m1,w1⟩
 refine(hc.run F1 Γ1 M1 σ1 H1 _ (f0.trans s1) g1 m1 (turn n Γ1 M1 w1)).mono fun b H2 zz9=> ?_
 obtain⟨F2,M2,s2,m2,q2⟩:=zz9
 cases b with
 |true=>
   rw[if_pos rfl]at q2 |-
   refine⟨PQg X.K F (fun Γ' M'=> ∃m',m'<n/\W m' Γ' M'),fun σ' H' ⟨F',Γ',M',s',g',m',n'⟩=> ?_,?_⟩
   . obtain⟨k',hm,w'⟩:=n'
     exact⟨k',hm,F',Γ',M',s',g',m',w'⟩
   . exact(hb.run F2 Γ1 M2 σ1 H2 _ (f0.trans (s1.trans s2)) (g1.up s2) m2 q2).mono ⟨fun _ _ z=>PQg.dn (s1.trans s2) z,fun _ _ z=>PQ.dn (s1.trans s2) z,fun _ _ z=>PQg.dn (s1.trans s2) z,fun _ _ z=>PQg.dn (s1.trans s2) z⟩
 |false=>
   rw[if_neg Bool.false_ne_true]at q2 |-
   exact⟨F2,Γ1,M2,s1.trans s2,g1.up s2,m2,q2⟩
structure Src where
 n:Nat
 item:Nat->D
 held:Mem->Prop
noncomputable abbrev AI:=G->Mem->(Src->Mem->Prop)->Prop
def b69(X:Cx)(tg iter:Expr):TI:=fun σ H Rr=> ∀pins s,Inv X pins σ H s->wpAny (model X.prog X.w) X.A (eval iter X.env) (fun v s1=>wpAny (model X.prog X.w) X.A (pyIter v) (PIE X pins σ tg Rr) X.xe s1) X.xe s
theorem a8m{tg iter:Expr}:PI X tg iter (b69 X tg iter):=fun pins s _ _ _ I h=>h pins s I
theorem PI.to{tg iter:Expr}{σ:St}{H:Hp}{wi:TI}{Rr:It->Hp->Prop}(h:PI X tg iter wi)(hw:wi σ H Rr):b69 X tg iter σ H Rr:=fun pins s I=>h pins s σ H Rr I hw
structure ItS(K:PySem.W.Frag)(F:Hp)(J:It)(S:Src):Prop where
 go: ∀i F' M H,Same F F'->AM K F' M H->S.held M->i<S.n->J.go i H
 yld: ∀i F' M H x H',Same F F'->AM K F' M H->S.held M->i<S.n->J.yld i H x H'-> ∃F2,Same F' F2/\AM K F2 M H'/\RD K F2 x (S.item i)
 stop: ∀F' M H,Same F F'->AM K F' M H->S.held M->J.stop S.n H
structure PIA(X:Cx)(F0:Hp)(tg iter:Expr)(t:AI):Prop where
 run: ∀F Γ M σ H Q,Same F0 F->AG X.K F Γ σ->AM X.K F M H->t Γ M Q->b69 X tg iter σ H fun J H1=> ∃S F1 M1,Same F F1/\AM X.K F1 M1 H1/\ItS X.K F1 J S/\Q S M1
def LoopP(S:Src)(gt:AGt)(tb:AS):AS:=fun E Γ M=> ∃W:Nat->G->Mem->Prop,W 0 Γ M/\ ∀i Γ M,W i Γ M->S.held M/\if i<S.n then gt (S.item i) Γ M fun Γ2 M2=>tb {E with nx:=W (i+1),ct:=W (i+1),bk:=E.nx} Γ2 M2 else E.nx Γ M
theorem LoopP.by{S:Src}{gt:AGt}{tb:AS}{E:AEnds}{Γ:G}{M:Mem}(W:Nat->G->Mem->Prop)(h0:W 0 Γ M)(hl: ∀i Γ M,W i Γ M->S.held M)
   (step: ∀i Γ M,i<S.n->W i Γ M->gt (S.item i) Γ M fun Γ2 M2=>tb {E with nx:=fun Γ' M'=>i+1<=S.n/\W (i+1) Γ' M',ct:=fun Γ' M'=>i+1<=S.n/\W (i+1) Γ' M',bk:=E.nx} Γ2 M2) (done: ∀Γ M,W S.n Γ M->E.nx Γ M):LoopP S gt tb E Γ M:=by
 refine⟨fun i Γ M=>i<=S.n/\W i Γ M,⟨Nat.zero_le _,h0⟩,fun i Γ M ⟨hi,w⟩=>⟨hl i Γ M w,?_⟩⟩
 by_cases h:i<S.n
 . rw[if_pos h];exact step i Γ M h w
 . rw[if_neg h]
   have e:i=S.n:=by omega
   subst e
   exact done Γ M w
def aFor(wi:AI)(gt:AGt)(tb:AS):AS:=fun E Γ M=>wi Γ M fun S M1=>LoopP S gt tb E Γ M1
theorem sFor{tg iter:Expr}{body:List Stmt}{wi:AI}{gt:AGt}{tb:AS}(k:Cat X F0 R)(hi:PIA X F0 tg iter wi)(hg:PGA X F0 tg gt)(hb:PSsA X F0 body tb)
   (hs: ∀x,foldedSetIterable iter X.env x=pure x:=by intro _;rfl):PSA X F0 (.For tg iter body [] pos) (aFor wi gt tb):=by
 refine⟨?_⟩
 intro F Γ M σ H E f0 g m h
 intro pins0 s0 I0
 refine(ps_for (k.pass I0.ok.frames) k.calm a8m a8o a2h hs).to ?_ pins0 s0 I0
 intro pins s I
 refine thn (hi.run F Γ M σ H _ f0 g m h pins s I) fun v s1 h1=>thn h1 fun itv s2 zz9=> ?_
 obtain⟨it,fp,tn,J,H2,e1,I2,T,st,fo,S,F1,M1,s1,m1,iS,W,w0,turn⟩:=zz9
 refine⟨it,fp,tn,J,H2,e1,I2,T,st,fo,fun i n σ' H'=>n=S.n- i/\i<=S.n/\ ∃F' Γ' M',Same F1 F'/\AG X.K F' Γ' σ'/\AM X.K F' M' H'/\W i Γ' M',⟨S.n,rfl,Nat.zero_le _,F1,Γ,M1,.refl _,g.up s1,m1,w0⟩,?_⟩
 rintro i n σ3 H3 ⟨rfl,hle,F3,Γ3,M3,s3,g3,m3,w3⟩
 obtain⟨hh,w3⟩:=turn i Γ3 M3 w3
 by_cases hlt:i<S.n
 . rw[if_pos hlt]at w3
   refine .inr ⟨iS.go i F3 M3 H3 s3 m3 hh hlt,PQg X.K F1 (W (i+1)),fun σ' H' ⟨F',Γ',M',s',g',m',w'⟩=>⟨S.n- (i+1),by omega,rfl,hlt,F',Γ',M',s',g',m',w'⟩,fun x H' y=> ?_⟩
   obtain⟨F4,s4,m4,r4⟩:=iS.yld i F3 M3 H3 x H' s3 m3 hh hlt y
   refine(hg.run F4 Γ3 M3 σ3 H' x _ _ (f0.trans (s1.trans (s3.trans s4))) (g3.up s4) m4 r4 w3).mono fun σ5 H5 zz9=> ?_
   obtain⟨F5,Γ5,M5,s5,g5,m5,q5⟩:=zz9
   have sx:=s3.trans (s4.trans s5)
   refine(hb.run F5 Γ5 M5 σ5 H5 _ (f0.trans (s1.trans sx)) g5 m5 q5).mono ⟨fun _ _ z=>PQg.dn sx z,fun _ _ z=>PQ.dn (s1.trans sx) z,fun _ _ z=>PQg.dn (s1.trans sx) z,fun _ _ z=>PQg.dn sx z⟩
 . rw[if_neg hlt]at w3
   have hin:i=S.n:=by omega
   have w3:E.nx Γ3 M3:=w3
   exact .inl ⟨by rw[hin];exact iS.stop F3 M3 H3 s3 m3 hh,F3,Γ3,M3,s1.trans s3,g3,m3,w3⟩
def iaL(tl:AE):AI:=fun Γ M Q=>tl Γ M fun d M1=>match dr M1 d with
 |some ds=>Q ⟨ds.length,fun i=>ds.getD i .non,fun M=>dr M d=some ds⟩ M1
 |none=>False
theorem a3h{tg l:Expr}{tl:AE}(hl:PEA X F0 l tl):PIA X F0 tg l (iaL tl):=by
 refine⟨?_⟩
 intro F Γ M σ H Q f0 g m h
 refine(pi_list a0n).to ((hl.run F Γ M σ H _ f0 g m h).mono fun v H1 zz9=> ?_)
 obtain⟨d,F1,M1,s1,m1,r1,q1⟩:=zz9
 try dsimp only at q1
 split at q1
 . rename_i ds hd
   obtain⟨p,vs,rfl,e,rr⟩:=a62 m1 r1 hd
   refine⟨p,rfl,⟨vs,e⟩,_,F1,M1,s1,m1,⟨fun i F' M' H' s' m' hh hi=> ?_,fun i F' M' H' x H'' s' m' hh hi y=> ?_,fun F' M' H' s' m' hh=> ?_⟩,q1⟩
   . obtain⟨p',ws,e1,e2,r2⟩:=a62 m' (r1.up s') hh
     cases e1
     obtain⟨w,e3,_⟩:=r2.get (i:=i) (d:=ds[i]) (by simp[hi])
     exact⟨ws,w,e2,e3⟩
   . obtain⟨p',ws,e1,e2,r2⟩:=a62 m' (r1.up s') hh
     cases e1
     obtain⟨rfl,y⟩:=y
     obtain⟨w,e3,r3⟩:=r2.get (i:=i) (d:=ds[i]) (by simp[hi])
     have hx:=y ws e2
     rw[e3]at hx
     have hx:=Option.some.inj hx
     subst hx
     refine⟨F',.refl _,m',?_⟩
     have e4:ds.getD i .non=ds[i]:=by simp[List.getD,List.getElem?_eq_getElem hi]
     show RD X.K F' _ (ds.getD i .non)
     rw[e4];exact r3
   . obtain⟨p',ws,e1,e2,r2⟩:=a62 m' (r1.up s') hh
     cases e1
     exact⟨ws,e2,by rw[r2.length];exact Nat.le_refl _⟩
 . exact q1.elim
def iaR1(tt:AA):AI:=fun Γ M Q=>tt Γ M fun ds M1=>match ds with
 | [.int j]=> -(2^62)<=j/\j<2^62/\Q ⟨j.toNat,fun i=> .int i,fun _=>True⟩ M1
 |_=>False
theorem b54{K:PySem.W.Frag}{F:Hp}{lo:Int}{n:Nat}:ItS K F (Itr lo n) ⟨n,fun i=> .int (lo+i),fun _=>True⟩:=
 ⟨fun i _ _ _ _ _ _ h=>h,fun i F' M H x H' _ m _ _ ⟨e1,e2⟩=>by subst e1 e2;exact⟨F',.refl _,m,.int _⟩,fun _ _ _ _ _ _=>Nat.le_refl _⟩
theorem a5l{tg a:Expr}{p:Pos}(hg:Gl X "range")(hm:X.mg "range"=none)(ha:PAA X F0 [a] tt)(hs:starEach [a] X.env=[(false,eval a X.env)]:=by rfl):PIA X F0 tg (.Call (.Name "range" p) [a] [] pos) (iaR1 tt):=by
 refine⟨?_⟩
 intro F Γ M σ H Q f0 g m h
 refine(b4w hg hm a1v hs).to ((ha.run F Γ M σ H _ f0 g m h).mono fun vs H1 zz9=> ?_)
 obtain⟨ds,F1,M1,s1,m1,r1,q1⟩:=zz9
 try dsimp only at q1
 split at q1
 . rename_i j
   obtain⟨x,rfl,rx⟩:=r1.one'
   obtain rfl:x= .int j:=by cases rx;rfl
   refine⟨j,rfl,q1.1,q1.2.1,⟨j.toNat,fun i=> .int i,fun _=>True⟩,F1,M1,s1,m1,?_,q1.2.2⟩
   have:=b54 (K:=X.K) (F:=F1) (lo:=0) (n:=j.toNat)
   simpa using this
 . exact q1.elim
def iaR2(tt:AA):AI:=fun Γ M Q=>tt Γ M fun ds M1=>match ds with
 | [.int i,.int j]=>(-(2^62)<=i/\i<2^62/\ -(2^62)<=j/\j<2^62)/\Q ⟨(j- i).toNat,fun k=> .int (i+k),fun _=>True⟩ M1
 |_=>False
theorem iRange2{tg a b:Expr}{p:Pos}(hg:Gl X "range")(hm:X.mg "range"=none)(ha:PAA X F0 [a,b] tt)(hs:starEach [a,b] X.env=[(false,eval a X.env),(false,eval b X.env)]:=by rfl)(hs2:starEach [b] X.env=[(false,eval b X.env)]:=by rfl):PIA X F0 tg (.Call (.Name "range" p) [a,b] [] pos) (iaR2 tt):=by
 refine⟨?_⟩
 intro F Γ M σ H Q f0 g m h
 refine(b4v hg hm a1v hs hs2).to ((ha.run F Γ M σ H _ f0 g m h).mono fun vs H1 zz9=> ?_)
 obtain⟨ds,F1,M1,s1,m1,r1,q1⟩:=zz9
 try dsimp only at q1
 split at q1
 . rename_i i j
   obtain⟨x,y,rfl,rx,ry⟩:=r1.two'
   obtain rfl:x= .int i:=by cases rx;rfl
   obtain rfl:y= .int j:=by cases ry;rfl
   exact⟨i,j,rfl,q1.1,⟨(j- i).toNat,fun k=> .int (i+k),fun _=>True⟩,F1,M1,s1,m1,b54,q1.2⟩
 . exact q1.elim
def iaS(tl:AE):AI:=fun Γ M Q=>tl Γ M fun d M1=>match d with
 | .str x=>Q ⟨x.cps.size,fun i=> .str ⟨#[x.cps.getD i 0]⟩,fun _=>True⟩ M1
 |_=>False
theorem iStr'{tg l:Expr}{tl:AE}(hl:PEA X F0 l tl):PIA X F0 tg l (iaS tl):=by
 refine⟨?_⟩
 intro F Γ M σ H Q f0 g m h
 refine(pi_str a0n).to ((hl.run F Γ M σ H _ f0 g m h).mono fun v H1 zz9=> ?_)
 obtain⟨d,F1,M1,s1,m1,r1,q1⟩:=zz9
 obtain⟨x,rfl,rfl⟩: ∃x,v= .str x/\d= .str x:=by cases r1<;>first |exact q1.elim |exact⟨_,rfl,rfl⟩
 exact⟨x,rfl,⟨x.cps.size,fun i=> .str ⟨#[x.cps.getD i 0]⟩,fun _=>True⟩,F1,M1,s1,m1,⟨fun i _ _ _ _ _ _ h=>h,fun i F' M H x H' _ m _ _ ⟨e1,e2⟩=>by subst e1 e2;exact⟨F',.refl _,m,.str _⟩,fun _ _ _ _ _ _=>rfl⟩,q1⟩
end
noncomputable def a7r(N:List Str)(ds:List D):G:=ds.map some++List.replicate (N.length- ds.length) none
theorem b1x{K:PySem.W.Frag}{F:Hp}: ∀{vs:List V}{ds:List D}{n i:Nat}{d:D},RDs K F vs ds->(ds.map some++List.replicate n none:G)[i]? =some (some d)-> ∃v,(vs.map some++List.replicate n none:St)[i]? =some (some v)/\RD K F v d
 |_,_,n,i,d,.nil,h=>by
   simp only[List.map_nil,List.nil_append,List.getElem?_replicate]at h
   split at h<;>cases h
 |_,_,n,0,d,.cons r _,h=>by simp at h;subst h;exact⟨_,by simp,r⟩
 |_,_,n,i+1,d,.cons _ t,h=>by
   obtain⟨v,e,r⟩:=b1x (i:=i) t (by simpa using h)
   exact⟨v,by simpa using e,r⟩
theorem b1w{K:PySem.W.Frag}{F:Hp}{N:List Str}{vs:List V}{ds:List D}(r:RDs K F vs ds):AG K F (a7r N ds) (start N vs):=by
 refine⟨by simp[a7r,start,r.length],fun i d h=> ?_⟩
 unfold start
 rw[r.length]
 exact b1x r h
theorem Cat.of{P:Program}{w:World}{K:PySem.W.Frag}{mg:Str->Option Value}{base:Heap}{N:List Str}{qual:Str}{scope:Scope}{f:Addr}{cd:Value}{A:Around}{outer:List Env}{s:Shared}{H:Hp}{E:XK}{F:Hp}{Ea:Value->Mem->Prop}
   (hE: ∀cls H',(∃F' M',Same F F'/\AM K F' M' H'/\Ea cls M')->E cls none H') (hu:(A.deeper (envOfC qual scope s.heap.objs.size f cd)).units+64<cLine):Cat ((cxOf (CXE P w) P w K mg base N qual scope f cd A outer s H E).by (rE E)) F (fun _ M cls=>Ea cls M):=
 ⟨Thr.imp b1u fun _ H' cls _ ⟨F',_,M',s',_,m',q⟩=>hE cls H' ⟨F',M',s',m',q⟩,plain_cx.wish _,rfl,fun fr=>a9i plain_cx fr,hu⟩
theorem Fun.okA{P:Program}{w:World}{K:PySem.W.Frag}{mg:Str->Option Value}{base:Heap}{x qual:Str}{st:Stmt}{f:Addr}{fd:FuncData}{N ps:List Str}{k:Nat}{sa:SpA}(Fn:Fun K x qual st f fd)(S:FnScope N ps (a0f st))(len: ∀ds M Q E,sa ds M Q E->ds.length=ps.length)
   (hbody: ∀(cdv:Value) (A:Around) (outer:List Env) (s:Shared) (H:Hp) (E:XK) (F0:Hp) (ds:List D) (M:Mem) (Q:AK) (Ea:Value->Mem->Prop),Room k (A.deeper (envOfC qual (a0f st) s.heap.objs.size f cdv))->
     Cat ((cxOf (CXE P w) P w K mg base N qual (a0f st) f cdv A outer s H E).by (rE E)) F0 (fun _ M cls=>Ea cls M)->sa ds M Q Ea->
     ∃t,PSsA ((cxOf (CXE P w) P w K mg base N qual (a0f st) f cdv A outer s H E).by (rE E)) F0 (a02 st) t/\t {nx:=fun _ M'=>Rt Q .non M',rt:=Rt Q} (a7r N ds) M):FnOk P w K mg base (CXE P w) (k+1) f fd ps (a0m K sa):=by
 refine Fn.okX S (fun vs H Q E ⟨F,ds,M,Qa,Ea,m,r,h,_⟩=>by rw[r.length];exact len _ _ _ _ h) ?_
 intro cdv A outer s H vs Q E hr ⟨F,ds,M,Qa,Ea,m,r,h,hQ,hE⟩
 obtain⟨t,ht,q⟩:=hbody cdv A outer s H E F ds M Qa Ea hr (Cat.of hE hr.units) h
 refine⟨_,a2h,?_⟩
 refine(ht.run F _ M _ H _ (.refl F) (b1w r) m q).mono ⟨fun σ' H' ⟨F',Γ',M',s',g',m',q'⟩=> ?_,fun v H' z=> ?_,fun _ _ ⟨_,_,_,_,_,_,q'⟩=>q'.elim,fun _ _ ⟨_,_,_,_,_,_,q'⟩=>q'.elim⟩
 . exact hQ _ _ (PQ.rt ⟨.non,F',M',s',m',.non,q'⟩)
 . exact hQ _ _ (PQ.rt z)
theorem passE{X:Cx}:b63 (CXE X.prog X.w) X E0:=fun _ _ _ _ _ _ _ ⟨_,_,_,_,_,_,_,_,_,_,_,_,_,_,q⟩=>q.elim
section
variable {X:Cx}{F0:Hp}{R:AX}{k:Nat}{x:Str}{sa:SpA}{p pos:Pos}{C:Addr}
structure HasC(P:Program)(w:World)(K:PySem.W.Frag)(mg:Str->Option Value)(base:Heap)(k:Nat)(x:Str)(C:Addr)(sa:SpA):Prop where
 bound:mg x=some (.ref C)
 ex: ∃f fd,FnOk P w K mg base (CXE P w) k f fd ["self"] (a0m K sa)/\Mk K C f/\Binds K fd ["self"] []
def aMake(C:Addr)(sa:SpA):AE:=fun _ M Q=> ∀p,M p=none->sa [.obj p] (put M p (.ins C [])) (fun d M'=>d= .non/\Q (.obj p) M') fun _ _=>False
theorem paMake(h:HasC X.prog X.w X.K X.mg X.base k x C sa)(hr:Room (k+1) X.A)(hg:Gl X x)(hdb:(x==("__debug__":Str))=false:=by decide):PEA X F0 (.Call (.Name x p) [] [] pos) (aMake C sa):=by
 refine⟨?_⟩
 intro F Γ M σ H Q f0 g m hw
 obtain⟨f,fd,Fn,mk,hb⟩:=h.ex
 refine(b7o mk Fn hr hg h.bound hb .nil passE hdb).to ?_
 intro q dx hq hdx hne
 have hs:=hw q (m.fM hq)
 have hq2:upd H dx (.own q) q=none:=by rw[a0p (Ne.symm hne)];exact hq
 refine⟨F,[.obj q],put M q (.ins C []),_,_,(m.more (u:= .own q) hdx).new (o:= .ins C []) hq2 ⟨rfl,.nil⟩,.cons (.obj q) .nil,hs,fun v H' ⟨d,F',M',s',m',r',hd,q'⟩=> ?_,fun _ _ ⟨_,_,_,_,z⟩=>z.elim⟩
 subst hd
 cases r'
 exact⟨rfl,.obj q,F',M',s',m',.obj q,q'⟩
end
noncomputable def keyD:D->Option Key
 | .int i=>some (.inl i)
 | .str x=>some (.inr x)
 |_=>none
noncomputable def getK(kvs:List (Key×D))(k:Key):Option D:=(kvs.find? fun kv=>decide (kv.1=k)).map (·.2)
noncomputable def a50(kvs:List (Key×D))(k:Key)(v:D):List (Key×D):=if(getK kvs k).isSome then kvs.map fun kv=>if kv.1=k then(kv.1,v)else kv else kvs++[(k,v)]
noncomputable def a5y(kvs:List (Key×D))(k:Key):List (Key×D):=kvs.filter fun kv=>decide (kv.1≠k)
section
variable {K:PySem.W.Frag}{F:Hp}
theorem a5v{x:V}{d:D}{k:Key}(r:RD K F x d)(h:keyD d=some k):x=kV k:=by
 cases r<;>first | (cases h;done) | (cases h;rfl)
theorem PF.get(k:Key): ∀{a:List (Key×V)}{b:List (Key×D)},PF K F a b->(getK b k=none->valV a k=none)/\ ∀d,getK b k=some d-> ∃v,valV a k=some v/\RD K F v d
 |_,_,.nil=>⟨fun _=>rfl,fun d h=>by cases h⟩
 | (n,v)::a,(n',d)::b,.cons ⟨h1,h2⟩ t=>by
   dsimp only at h1 h2
   subst h1
   obtain⟨i1,i2⟩:=PF.get k t
   by_cases hn:n=k
   . rw[a56 (p:=(n,v)) hn]
     have:getK ((n,d)::b) k=some d:=by simp[getK,List.find?_cons,hn]
     rw[this]
     refine⟨fun h=> ?_,fun d' h=> ?_⟩
     . cases h
     . cases h;exact⟨v,rfl,h2⟩
   . rw[a57 (p:=(n,v)) hn]
     have:getK ((n,d)::b) k=getK b k:=by simp[getK,List.find?_cons,hn]
     rw[this]
     exact⟨i1,i2⟩
theorem PF.append{κ:Type}: ∀{a a':List (κ×V)}{b b':List (κ×D)},PF K F a b->PF K F a' b'->PF K F (a++a') (b++b')
 |_,_,_,_,.nil,s=>s
 |_,_,_,_,.cons h t,s=> .cons h (PF.append t s)
theorem PF.mapK{k:Key}{v:V}{d:D}(r:RD K F v d): ∀{a:List (Key×V)}{b:List (Key×D)},PF K F a b->PF K F (a.map fun kv=>if kv.1=k then(kv.1,v)else kv) (b.map fun kv=>if kv.1=k then(kv.1,d)else kv)
 |_,_,.nil=> .nil
 | (n,_)::_,(n',_)::_,.cons ⟨h1,h2⟩ t=>by
   dsimp only at h1 h2
   subst h1
   simp only[List.map_cons]
   refine .cons ?_ (PF.mapK r t)
   split
   . exact⟨rfl,r⟩
   . exact⟨rfl,h2⟩
theorem PF.putK{k:Key}{v:V}{d:D}(r:RD K F v d){a:List (Key×V)}{b:List (Key×D)}(h:PF K F a b):PF K F (L2.putK a k v) (a50 b k d):=by
 unfold L2.putK a50
 rw[a77]
 cases q:getK b k with
 |none=>
   rw[(h.get k).1 q]
   simp only[Option.isSome_none,Bool.false_eq_true,if_false]
   exact h.append (.cons ⟨rfl,r⟩ .nil)
 |some d'=>
   obtain⟨v',e,_⟩:=(h.get k).2 d' q
   rw[e]
   simp only[Option.isSome_some,if_true]
   exact PF.mapK r h
theorem PF.dropK{k:Key}: ∀{a:List (Key×V)}{b:List (Key×D)},PF K F a b->PF K F (L2.dropK a k) (a5y b k)
 |_,_,.nil=> .nil
 | (n,_)::_,(n',_)::_,.cons ⟨h1,h2⟩ t=>by
   dsimp only at h1 h2
   subst h1
   unfold L2.dropK a5y
   simp only[List.filter_cons]
   split
   . exact .cons ⟨rfl,h2⟩ (PF.dropK t)
   . exact PF.dropK t
end
section
variable {X:Cx}{F0:Hp}{e o i:Expr}{pos pos':Pos}{td ti tv:AE}
def aDGet(td ti:AE):AE:=fun Γ M Q=>td Γ M fun x M1=>ti Γ M1 fun y M2=>both (dd M2 x) (keyD y) fun kvs k=>opt (getK kvs k) fun d=>Q d M2
theorem a5t(hu:X.A.units+1<cLine)(ho:PEA X F0 o td)(hi:PEA X F0 i ti)(hs:NoSl i):PEA X F0 (.Subscript o i pos) (aDGet td ti):=by
 refine⟨?_⟩
 intro F Γ M σ H Q f0 g m hw
 refine(pe_dget hu a0n a0n hs).to (two ho hi f0 g m hw fun F2 M2 H2 v u x y s m2 r1 r2 q0=> ?_)
 obtain⟨kvs,k,h1,h2,q0⟩:=a5r q0
 obtain⟨d,h3,q⟩:=a1z q0
 obtain⟨p,ws,rfl,rfl,_,e1,pf⟩:=a34 m2 r1 h1
 obtain⟨w,e2,rw'⟩:=(pf.get k).2 d h3
 refine⟨p,w,rfl,?_,d,F2,M2,s,m2,rw',q⟩
 rw[a5v r2 h2,<-e2]
 exact DGet.k e1
def oDIn(neg:Bool):A2:=fun y x M Q=>both (dd M x) (keyD y) fun kvs k=>Q (.bl (if neg then !(getK kvs k).isSome else(getK kvs k).isSome)) M
theorem PF.some{K:PySem.W.Frag}{F:Hp}{a:List (Key×V)}{b:List (Key×D)}(h:PF K F a b)(k:Key):(valV a k).isSome=(getK b k).isSome:=by
 cases q:getK b k with
 |none=>rw[(h.get k).1 q];rfl
 |some d=>obtain⟨v,e,_⟩:=(h.get k).2 d q;rw[e];rfl
structure PCA(X:Cx)(F0:Hp)(op:CmpOp)(a b:Expr)(t:AE):Prop where
 run: ∀F Γ M σ H Q,Same F0 F->AG X.K F Γ σ->AM X.K F M H->t Γ M Q-> ∃tc:TE,PC X op a b tc/\ ∀Rv:VK,(∀v H',PQ X.K F Q v H'->Rv v H')->tc σ H Rv
theorem pcDIn(hu:X.A.units+1<cLine)(hi:PEA X F0 i ti)(ho:PEA X F0 o td):PCA X F0 .In i o (aOp (oDIn false) ti td):=by
 refine⟨?_⟩
 intro F Γ M σ H Q f0 g m hw
 refine⟨_,pc_din hu a0n a0n,fun Rv kk=>two hi ho f0 g m hw fun F2 M2 H2 v u y x s m2 r1 r2 q0=> ?_⟩
 obtain⟨kvs,k,h1,h2,q⟩:=a5r q0
 obtain⟨p,ws,rfl,rfl,_,e1,pf⟩:=a34 m2 r2 h1
 refine⟨p,_,rfl,by rw[a5v r1 h2];exact DGet.k e1,kk _ _ ⟨_,F2,M2,s,m2,.bl _,?_⟩⟩
 rw[pf.some k];simpa using q
theorem a4p(hu:X.A.units+1<cLine)(hi:PEA X F0 i ti)(ho:PEA X F0 o td):PCA X F0 .NotIn i o (aOp (oDIn true) ti td):=by
 refine⟨?_⟩
 intro F Γ M σ H Q f0 g m hw
 refine⟨_,b4z hu a0n a0n,fun Rv kk=>two hi ho f0 g m hw fun F2 M2 H2 v u y x s m2 r1 r2 q0=> ?_⟩
 obtain⟨kvs,k,h1,h2,q⟩:=a5r q0
 obtain⟨p,ws,rfl,rfl,_,e1,pf⟩:=a34 m2 r2 h1
 refine⟨p,_,rfl,by rw[a5v r1 h2];exact DGet.k e1,kk _ _ ⟨_,F2,M2,s,m2,.bl _,?_⟩⟩
 rw[pf.some k];simpa using q
theorem ptPC{op:CmpOp}{a b:Expr}{t:AE}(h:PCA X F0 op a b t)(h1:behindInMarks op b=false:=by first |exact nobehind _ (by decide) (by decide) |rfl):PTA X F0 (.Compare a [op] [b] pos) (aT t):=by
 refine⟨?_⟩
 intro F Γ M σ H Q f0 g m hw
 obtain⟨tc,pc,k⟩:=h.run F Γ M σ H _ f0 g m hw
 refine(pt_cmp pc h1).to (k _ fun v H' z=> ?_)
 exact PQ.bool z
def aDPut(td ti tv:AE):AS:=fun E Γ M=>tv Γ M fun v M1=>td Γ M1 fun x M2=>ti Γ M2 fun y M3=>match x with
 | .obj p=>both (dd M3 (.obj p)) (keyD y) fun kvs k=>kvs.length<1000/\E.nx Γ (put M3 p (.dic (a50 kvs k v)))
 |_=>False
theorem dd_obj{M:Mem}{p:Addr}{kvs:List (Key×D)}(h:dd M (.obj p)=some kvs):M p=some (.dic kvs):=by
 unfold dd at h
 dsimp only at h
 split at h
 . rename_i h';cases h;exact h'
 . cases h
theorem b0n(hu:X.A.units+1<cLine)(ho:PEA X F0 o td)(hi:PEA X F0 i ti)(hv:PEA X F0 e tv)(hs:swapsWith e (some (.Subscript o i pos')) pos.line X.env=pure false):PSA X F0 (.Assign [.Subscript o i pos'] e pos) (aDPut td ti tv):=by
 refine⟨?_⟩
 intro F Γ M σ H E f0 g m hw
 refine(ps_dput hu a0n a0n a0n hs).to ?_
 refine(hv.run F Γ M σ H _ f0 g m hw).mono fun v H1 zz9=> ?_
 obtain⟨dv,F1,M1,s1,m1,r1,q1⟩:=zz9
 refine two ho hi (f0.trans s1) (g.up s1) m1 q1 fun F2 M2 H2 u w x y s m2 r2 r3 q=> ?_
 cases r2<;>first |exact q.elim |skip
 rename_i p
 obtain⟨kvs,k,hp,hk,hl,q⟩:=a5r q
 have hp:=dd_obj hp
 obtain⟨u',e1,ro⟩:=m2.mem _ _ hp
 obtain⟨ws,rfl,pf⟩:=ro.isD
 refine⟨p,_,rfl,?_,F2,Γ,put M2 p (.dic (a50 kvs k dv)),s1.trans s,g.up (s1.trans s),m2.set hp (u:= .dK (putK ws k v)) (o':= .dic (a50 kvs k dv)) (pf.putK (r1.up s)),q⟩
 rw[a5v r3 hk]
 exact DPut.k e1 (by rw[pf.length];exact a4j (Nat.le_of_lt hl))
def aDNew:AE:=fun _ M Q=> ∀p,M p=none->Q (.obj p) (put M p (.dic []))
theorem b2c:PEA X F0 (.Dict [] [] pos) aDNew:=by
 refine⟨?_⟩
 intro F Γ M σ H Q f0 g m hw
 exact pe_dnewK.to fun p hp=>⟨.obj p,F,_,.refl F,m.new (o:= .dic []) hp .nil,.obj p,hw p (m.fM hp)⟩
variable {apos cpos:Pos}
def aDPop(td ti:AE):AE:=fun Γ M Q=>td Γ M fun x M1=>(dd M1 x).isSome=true/\ti Γ M1 fun y M2=>match x with
 | .obj p=>both (dd M2 (.obj p)) (keyD y) fun kvs k=>opt (getK kvs k) fun d=>Q d (put M2 p (.dic (a5y kvs k)))
 |_=>False
theorem paDPop(ho:PEA X F0 o td)(he:PEA X F0 e ti)(mm:M1 X o "pop" apos e cpos):PEA X F0 (.Call (.Attribute o "pop" apos) [e] [] cpos) (aDPop td ti):=by
 refine⟨?_⟩
 intro F Γ M σ H Q f0 g m hw
 refine(b7p a0n a0n mm).to ((ho.run F Γ M σ H _ f0 g m hw).mono fun v H1 zz9=> ?_)
 obtain⟨x,F1,M1,s1,m1,r1,hd,q1⟩:=zz9
 cases hdd:dd M1 x with
 |none=>rw[hdd]at hd;cases hd
 |some kvs0=>
   obtain⟨p,ws,rfl,rfl,hp,e1,pf⟩:=a34 m1 r1 hdd
   refine⟨p,rfl,.inl ⟨ws,.inl e1⟩,(he.run F1 Γ M1 σ H1 _ (f0.trans s1) (g.up s1) m1 q1).mono fun u H2 zz9=> ?_⟩
   obtain⟨y,F2,M2,s2,m2,r2,q2⟩:=zz9
   obtain⟨kvs,k,hp2,hk,q2⟩:=a5r q2
   obtain⟨d,hg,q⟩:=a1z q2
   have hp2:=dd_obj hp2
   obtain⟨u',e2,ro⟩:=m2.mem _ _ hp2
   obtain⟨ws2,rfl,pf2⟩:=ro.isD
   obtain⟨w,e3,rw'⟩:=(pf2.get k).2 d hg
   exact⟨ws2,k,w,e2,a5v r2 hk,e3,d,F2,_,s1.trans s2,m2.set hp2 (u:= .dK (dropK ws2 k)) (o':= .dic (a5y kvs k)) pf2.dropK,rw',q⟩
def aDGet1(td ti:AE):AE:=fun Γ M Q=>td Γ M fun x M1=>(dd M1 x).isSome=true/\ti Γ M1 fun y M2=>both (dd M2 x) (keyD y) fun kvs k=>Q ((getK kvs k).getD .non) M2
theorem paDGet1(hu:X.A.units+1<cLine)(ho:PEA X F0 o td)(he:PEA X F0 e ti)(mm:M1 X o "get" apos e cpos):PEA X F0 (.Call (.Attribute o "get" apos) [e] [] cpos) (aDGet1 td ti):=by
 refine⟨?_⟩
 intro F Γ M σ H Q f0 g m hw
 refine(b7q hu a0n a0n mm).to ((ho.run F Γ M σ H _ f0 g m hw).mono fun v H1 zz9=> ?_)
 obtain⟨x,F1,M1,s1,m1,r1,hd,q1⟩:=zz9
 cases hdd:dd M1 x with
 |none=>rw[hdd]at hd;cases hd
 |some kvs0=>
   obtain⟨p,ws,rfl,rfl,hp,e1,pf⟩:=a34 m1 r1 hdd
   refine⟨p,rfl,.inl ⟨ws,.inl e1⟩,(he.run F1 Γ M1 σ H1 _ (f0.trans s1) (g.up s1) m1 q1).mono fun u H2 zz9=> ?_⟩
   obtain⟨y,F2,M2,s2,m2,r2,q0⟩:=zz9
   obtain⟨kvs,k,h1,h2,q⟩:=a5r q0
   obtain⟨p',ws2,e0,_,hp2,e2,pf2⟩:=a34 m2 (r1.up s2) h1
   cases e0
   refine⟨valV ws2 k,by rw[a5v r2 h2];exact DGet.k e2,?_⟩
   cases hk:getK kvs k with
   |none=>
     rw[(pf2.get k).1 hk]
     rw[hk]at q
     exact⟨_,F2,M2,s1.trans s2,m2,.non,q⟩
   |some d=>
     obtain⟨w,e3,rw'⟩:=(pf2.get k).2 d hk
     rw[e3]
     rw[hk]at q
     exact⟨_,F2,M2,s1.trans s2,m2,rw',q⟩
end
noncomputable def jsOf(n:Nat)(fs:List Nat):List (Option Nat):=List.replicate n none++fs.map some
noncomputable def frG(fs:List Nat)(Γ:G):G:=fs.map fun j=>(Γ[j]?).join
noncomputable def outs(f:Nat->Option D)(n:Nat):List D:=(List.range n).filterMap f
theorem a4r(f:Nat->Option D)(n:Nat):outs f (n+1)=outs f n++(f n).toList:=by
 unfold outs
 rw[List.range_succ,List.filterMap_append]
 cases h:f n<;>simp[h]
theorem outs_le(f:Nat->Option D)(n:Nat):(outs f n).length<=n:=by
 unfold outs
 exact Nat.le_trans (List.length_filterMap_le _ _) (by simp)
def a3t(n:Nat)(fs:List Nat)(wi:AI)(gt:AGt)(ti:AT)(te:AE):AE:=fun Γ M Q=>wi Γ M fun S M1=> ∃out:Nat->Option D,S.n<=1000/\
 (∀M',Sub M1 M'->S.held M'/\ ∀i,i<S.n-> ∀own:G,own.length=n->gt (S.item i) (own++frG fs Γ) M' fun Γ2 M2=>M2=M'/\(∃own',own'.length=n/\Γ2=own'++frG fs Γ)/\
   ti Γ2 M' fun b M3=>M3=M'/\if b=true then te Γ2 M' fun y M4=>M4=M'/\out i=some y else out i=none)/\
 ∀p,M1 p=none->Q (.obj p) (put M1 p (.lst (outs out S.n)))
def aYes:AT:=fun _ M Q=>Q true M
section
variable {X:Cx}{F0:Hp}{Nc:List Str}{scope:Scope}{cl:List (Str×Addr)}{n:Nat}{fs:List Nat}{tg iter elt:Expr}{ifs:List Expr}{gt:AGt}{ti:AT}{te:AE}{wi:AI}{pos:Pos}
structure PIfsA(X:Cx)(F0:Hp)(ifs:List Expr)(t:AT):Prop where
 run: ∀F Γ M σ H Q,Same F0 F->AG X.K F Γ σ->AM X.K F M H->t Γ M Q-> ∀pins s,Inv X pins σ H s->wpAny (model X.prog X.w) X.A (a3p X.env ifs) (TP X pins σ (PQb X.K F Q)) X.xe s
theorem b6j:PIfsA X F0 [] aYes:=⟨fun F Γ M σ H Q _ _ m h pins s I=>pif_nil pins s σ H _ I (PQb.here m h)⟩
theorem fiOne{c:Expr}{t:AT}(h:PTA X F0 c t):PIfsA X F0 [c] t:=⟨fun F Γ M σ H Q f0 g m hw pins s I=>pif_one a3n pins s σ H _ I (h.run F Γ M σ H Q f0 g m hw)⟩
theorem frG_ok{K:PySem.W.Frag}{F:Hp}{Γ:G}{σ:St}(g:AG K F Γ σ)(n:Nat)(fs:List Nat):AG K F (List.replicate n none++frG fs Γ) (sigC (jsOf n fs) σ):=by
 have e:sigC (jsOf n fs) σ=List.replicate n none++fs.map fun j=>(σ[j]?).join:=by
   unfold sigC jsOf
   rw[List.map_append,List.map_replicate,List.map_map]
   rfl
 rw[e]
 refine⟨by simp[frG],fun i d h=> ?_⟩
 by_cases hi:i<n
 . rw[List.getElem?_append_left (by simpa using hi),List.getElem?_replicate,if_pos hi]at h
   cases h
 . rw[List.getElem?_append_right (by simp;omega)]at h |-
   simp only[List.length_replicate,frG,List.getElem?_map]at h |-
   cases q:fs[i- n]? with
   |none=>rw[q]at h;cases h
   |some j=>
     rw[q]at h
     simp only[Option.map_some,Option.some.injEq]at h |-
     have h2:Γ[j]? =some (some d):=by
       cases q2:Γ[j]? with
       |none=>rw[q2]at h;cases h
       |some z=>rw[q2]at h;cases z<;>cases h;rfl
     obtain⟨v,e1,r⟩:=g.at' j d h2
     exact⟨v,by rw[e1];rfl,r⟩
theorem a64{σ:St}{H:Hp}{F:Hp}{Γ:G}{M:Mem}{Q:AK}{Rv:VK}(f0:Same F0 F)(g:AG X.K F Γ σ)(m:AM X.K F M H)(hi:PIA X F0 tg iter wi)
   (hg: ∀pins C fp s H,PGA (a0s X pins Nc scope cl C fp s H) F0 tg gt) (hti: ∀pins C fp s H,PIfsA (a0s X pins Nc scope cl C fp s H) F0 ifs ti) (he: ∀pins C fp s H,PEA (a0s X pins Nc scope cl C fp s H) F0 elt te)
   (hw:a3t n fs wi gt ti te Γ M Q) (hR: ∀v H',PQ X.K F Q v H'->Rv v H'):
   tComp (jsOf n fs) (b69 X tg iter) (fun v σ H Q=> ∀pins C fp s H0,selfG (a0s X pins Nc scope cl C fp s H0) tg v σ H Q)
     (fun σ H Q=> ∀pins C fp s H0 pins' s',Inv (a0s X pins Nc scope cl C fp s H0) pins' σ H s'->wpAny (model X.prog X.w) X.A (a3p (a0s X pins Nc scope cl C fp s H0).env ifs) (TP (a0s X pins Nc scope cl C fp s H0) pins' σ Q) (fun _ _=>False) s')
     (fun σ H Q=> ∀pins C fp s H0,selfE (a0s X pins Nc scope cl C fp s H0) elt σ H Q) σ H Rv:=by
 intro pins s I
 refine thn (hi.run F Γ M σ H _ f0 g m hw pins s I) fun v s1 h1=>thn h1 fun itv s2 zz9=> ?_
 obtain⟨it,fp,tn,J,H2,e1,I2,T,st,fo,S,F1,M1,s1,m1,iS,out,hn,turn,q⟩:=zz9
 refine⟨it,fp,tn,J,H2,e1,I2,T,st,fo,fun l hl=> ?_⟩
 have hMl:=m1.fM hl
 refine⟨fun i k ys σ' H'=>k=S.n- i/\i<=S.n/\ ∃F' own,Same F1 F'/\own.length=n/\AG X.K F' (own++frG fs Γ) σ'/\AM X.K F' (put M1 l (.raw (.lst ys))) H'/\RDs X.K F' ys (outs out i),⟨S.n,rfl,Nat.zero_le _,F1,List.replicate n none,.refl _,by simp,frG_ok (g.up s1) n fs,m1.new (o:= .raw (.lst [])) hl rfl,.nil⟩,?_⟩
 rintro i k ys σ3 H3 ⟨rfl,hle,F3,own,s3,ho,g3,m3,hys⟩
 have hs3:Sub M1 (put M1 l (.raw (.lst ys))):= .put hMl
 obtain⟨hh,turn⟩:=turn _ hs3
 have at_l: ∀{F5:Hp}{H5:Hp},AM X.K F5 (put M1 l (.raw (.lst ys))) H5->H5 l=some (.lst ys):=fun m5=>by
   obtain⟨u,e,r⟩:=m5.mem l _ a0e
   rw[e];exact congrArg some r
 refine⟨at_l m3,?_⟩
 by_cases hlt:i<S.n
 . refine .inr ⟨iS.go i F3 _ H3 s3 m3 hh hlt,by rw[hys.length];exact a4j (Nat.le_trans (outs_le out i) (by omega)),fun x H' y pins C fp s H0=> ?_⟩
   obtain⟨F4,s4,m4,r4⟩:=iS.yld i F3 _ H3 x H' s3 m3 hh hlt y
   have ft:=f0.trans (s1.trans (s3.trans s4))
   refine((hg pins C fp s H0).run F4 _ _ σ3 H' x _ _ ft (g3.up s4) m4 r4 (turn i hlt own ho)).mono fun σ5 H5 zz9=> ?_
   obtain⟨F5,Γ5,M5,s5,g5,m5,e5,⟨own5,ho5,eΓ5⟩,q5⟩:=zz9
   subst e5 eΓ5
   intro pinsb Cb fpb sb H0b pins' s' I'
   refine thn ((hti pinsb Cb fpb sb H0b).run F5 _ _ σ5 H5 _ (ft.trans s5) g5 m5 q5 pins' s' I') fun b s6 ⟨H6,I6,F6,M6,s6',m6,e6,q6⟩=>⟨H6,I6,?_⟩
   subst e6
   have sx:=s4.trans (s5.trans s6')
   cases b with
   |true=>
     rw[if_pos rfl]at q6 |-
     intro pinsc Cc fpc sc H0c
     refine((he pinsc Cc fpc sc H0c).run F6 _ _ σ5 H6 _ (ft.trans (s5.trans s6')) (g5.up s6') m6 q6).mono fun vy H7 zz9=> ?_
     obtain⟨y7,F7,M7,s7,m7,r7,e7,q7⟩:=zz9
     subst e7
     refine⟨at_l m7,S.n- (i+1),by omega,rfl,hlt,F7,own5,s3.trans (sx.trans s7),ho5,g5.up (s6'.trans s7),?_,?_⟩
     . have:=m7.set (p:=l) (o':= .raw (.lst (ys++[vy]))) (u:= .lst (ys++[vy])) a0e rfl
       rw[a1o]at this
       exact this
     . rw[a4r,q7]
       exact(hys.up (sx.trans s7)).append (.cons r7 .nil)
   |false=>
     rw[if_neg Bool.false_ne_true]at q6 |-
     refine⟨S.n- (i+1),by omega,rfl,hlt,F6,own5,s3.trans sx,ho5,g5.up s6',m6,?_⟩
     rw[a4r,q6]
     simpa using hys.up sx
 . have hin:i=S.n:=by omega
   subst hin
   have m4:AM X.K F3 (put M1 l (.lst (outs out S.n))) H3:=by
     have:=m3.set (p:=l) (o':= .lst (outs out S.n)) (u:= .lst ys) a0e hys
     rw[a1o]at this
     have e:upd H3 l (.lst ys)=H3:=by
       funext b
       by_cases hb:b=l
       . subst hb;rw[a0u,at_l m3]
       . rw[a0p hb]
     rw[e]at this
     exact this
   exact .inl ⟨iS.stop F3 _ H3 s3 m3 hh,hR _ _ ⟨.obj l,F3,_,s1.trans s3,m4,.obj l,q l hMl⟩⟩
theorem b0q(O:CompOk X scope cl Nc (jsOf n fs))(hc:X.calm=true)(hi:PIA X F0 tg iter wi)(hg: ∀pins C fp s H,PGA (a0s X pins Nc scope cl C fp s H) F0 tg gt)(hti: ∀pins C fp s H,PIfsA (a0s X pins Nc scope cl C fp s H) F0 ifs ti)
   (he: ∀pins C fp s H,PEA (a0s X pins Nc scope cl C fp s H) F0 elt te) (hs: ∀x,foldedSetIterable iter X.env x=pure x:=by intro _;rfl):
   PEA X F0 (.ListComp elt [⟨tg,iter,ifs,0⟩] scope pos) (a3t n fs wi gt ti te):=by
 refine⟨?_⟩
 intro F Γ M σ H Q f0 g m hw
 refine(pe_comp O hc a8m (g:=fun v σ H Q=> ∀pins C fp s H0,selfG (a0s X pins Nc scope cl C fp s H0) tg v σ H Q)
   (ti:=fun σ H Q=> ∀pins C fp s H0 pins' s',Inv (a0s X pins Nc scope cl C fp s H0) pins' σ H s'->wpAny (model X.prog X.w) X.A (a3p (a0s X pins Nc scope cl C fp s H0).env ifs) (TP (a0s X pins Nc scope cl C fp s H0) pins' σ Q) (fun _ _=>False) s')
   (te:=fun σ H Q=> ∀pins C fp s H0,selfE (a0s X pins Nc scope cl C fp s H0) elt σ H Q)
   (fun pins C fp s H=>fun pins' s' _ _ _ u _ I r h=>h pins C fp s H pins' s' u I r) (fun pins C fp s H=>fun pins' s' _ _ _ I h=>h pins C fp s H pins' s' I) (fun pins C fp s H=>fun pins' s' _ _ _ I h=>h pins C fp s H pins' s' I) hs).to ?_
 exact a64 f0 g m hi hg hti he hw fun _ _ z=>z
theorem sCompM{i:Nat}{y:Str}{py spos:Pos}(hN:X.N.Nodup)(hiN:X.N[i]? =some y)(hyl:X.env.scope.names.lookup y=some .local)(O:CompOk X scope cl Nc (jsOf n fs))(hc:X.calm=true)(hi:PIA X F0 tg iter wi)(hg: ∀pins C fp s H,PGA (a0s X pins Nc scope cl C fp s H) F0 tg gt)
   (hti: ∀pins C fp s H,PIfsA (a0s X pins Nc scope cl C fp s H) F0 ifs ti) (he: ∀pins C fp s H,PEA (a0s X pins Nc scope cl C fp s H) F0 elt te)
   (hsw:swapsWith (.ListComp elt [⟨tg,iter,ifs,0⟩] scope pos) (some (.Name y py)) spos.line X.env=pure true) (hs: ∀x,foldedSetIterable iter X.env x=pure x:=by intro _;rfl):
   PSA X F0 (.Assign [.Name y py] (.ListComp elt [⟨tg,iter,ifs,0⟩] scope pos) spos) (aSet i (a3t n fs wi gt ti te)):=by
 refine⟨?_⟩
 intro F Γ M σ H E f0 g m hw
 refine(b4t hN hiN hyl O hc a8m (g:=fun v σ H Q=> ∀pins C fp s H0,selfG (a0s X pins Nc scope cl C fp s H0) tg v σ H Q)
   (ti:=fun σ H Q=> ∀pins C fp s H0 pins' s',Inv (a0s X pins Nc scope cl C fp s H0) pins' σ H s'->wpAny (model X.prog X.w) X.A (a3p (a0s X pins Nc scope cl C fp s H0).env ifs) (TP (a0s X pins Nc scope cl C fp s H0) pins' σ Q) (fun _ _=>False) s')
   (te:=fun σ H Q=> ∀pins C fp s H0,selfE (a0s X pins Nc scope cl C fp s H0) elt σ H Q)
   (fun pins C fp s H=>fun pins' s' _ _ _ u _ I r h=>h pins C fp s H pins' s' u I r) (fun pins C fp s H=>fun pins' s' _ _ _ I h=>h pins C fp s H pins' s' I) (fun pins C fp s H=>fun pins' s' _ _ _ I h=>h pins C fp s H pins' s' I) hsw hs).to ?_
 refine a64 f0 g m hi hg hti he hw fun v H1 zz9=> ?_
 obtain⟨d,F1,M1,s1,m1,r1,q1⟩:=zz9
 exact⟨F1,_,M1,s1,(g.up s1).set r1 i,m1,q1⟩
theorem b4i{i:Nat}{y:Str}{py spos:Pos}(hN:X.N.Nodup)(hiN:X.N[i]? =some y)(hyl:X.env.scope.names.lookup y=some .local)(O:CompOk X scope cl Nc (jsOf n fs))(hc:X.calm=true)(hi:PIA X F0 tg iter wi)(hg: ∀pins C fp s H,PGA (a0s X pins Nc scope cl C fp s H) F0 tg gt)
   (hti: ∀pins C fp s H,PIfsA (a0s X pins Nc scope cl C fp s H) F0 ifs ti) (he: ∀pins C fp s H,PEA (a0s X pins Nc scope cl C fp s H) F0 elt te)
   (hsw:swapsWith (.ListComp elt [⟨tg,iter,ifs,0⟩] scope pos) (some (.Name y py)) spos.line X.env=pure true) (hs: ∀x,foldedSetIterable iter X.env x=pure x:=by intro _;rfl):
   PSA X F0 (.Assign [.Name y py] (.ListComp elt [⟨tg,iter,ifs,0⟩] scope pos) spos) (aSet i (aFz (a3t n fs wi gt ti te))):=by
 refine⟨?_⟩
 intro F Γ M σ H E f0 g m hw
 refine(b4t hN hiN hyl O hc a8m (g:=fun v σ H Q=> ∀pins C fp s H0,selfG (a0s X pins Nc scope cl C fp s H0) tg v σ H Q)
   (ti:=fun σ H Q=> ∀pins C fp s H0 pins' s',Inv (a0s X pins Nc scope cl C fp s H0) pins' σ H s'->wpAny (model X.prog X.w) X.A (a3p (a0s X pins Nc scope cl C fp s H0).env ifs) (TP (a0s X pins Nc scope cl C fp s H0) pins' σ Q) (fun _ _=>False) s')
   (te:=fun σ H Q=> ∀pins C fp s H0,selfE (a0s X pins Nc scope cl C fp s H0) elt σ H Q)
   (fun pins C fp s H=>fun pins' s' _ _ _ u _ I r h=>h pins C fp s H pins' s' u I r) (fun pins C fp s H=>fun pins' s' _ _ _ I h=>h pins C fp s H pins' s' I) (fun pins C fp s H=>fun pins' s' _ _ _ I h=>h pins C fp s H pins' s' I) hsw hs).to ?_
 refine a64 f0 g m hi hg hti he (Q:=fun d M'=>match d with | .obj p=>(match M' p with |some (.lst ds)=>E.nx (Γ.set i (some (.lst ds))) (del M' p) |_=>False) |_=>False) hw fun v H1 zz9=> ?_
 obtain⟨d,F1,M1,s1,m1,r1,q1⟩:=zz9
 cases r1 with
 |obj p=>
   try dsimp only at q1
   split at q1
   . rename_i ds hd
     obtain⟨F2,s2,m2,r2⟩:=m1.freeze hd
     exact⟨F2,_,_,s1.trans s2,(g.up (s1.trans s2)).set r2 i,m2,q1⟩
   . exact q1.elim
 |_=>exact q1.elim
noncomputable def oAll:A1s:=fun ds M Q=>match ds with
 | [d]=>(match dr M d with |some xs=> ∃bs:List Bool,xs=bs.map D.bl/\Q (.bl (bs.all id)) M |none=>False)
 |_=>False
theorem b24{K:PySem.W.Frag}{F:Hp}: ∀{vs:List V}{bs:List Bool}{us:List Value},RDs K F vs (bs.map D.bl)->Vals vs us->us=bs.map Value.bool
 |_,[],_,r,v=>by cases r;cases v;rfl
 |_,b::bs,_,r,v=>by
   cases r with
   |cons r1 r2=>
     cases r1
     cases v with
     |cons v1 v2=>
       cases(show _=Value.bool b from v1)
       rw[b24 r2 v2];rfl
theorem paAll{tt:AA}{e:Expr}{p:Pos}(hg:Gl X "all")(hm:X.mg "all"=none)(hc:X.calm=true)(ha:PAA X F0 [e] tt)
   (he:starEach [e] X.env=(false,eval e X.env)::starEach [] X.env:=by rfl):PEA X F0 (.Call (.Name "all" p) [e] [] pos) (b61 oAll tt):=by
 refine⟨?_⟩
 intro F Γ M σ H Q f0 g m hw
 have base:CallR X (.builtin "all") (fun vs H Rv=> ∃F1 M1 ds,AM X.K F1 M1 H/\RDs X.K F1 vs ds/\oAll ds M1 (fun d M'=> ∀v,RD X.K F1 v d->AM X.K F1 M' H->Rv v H)):=by
   intro pins s σ H vs us Rv I rv ⟨F1,M1,ds,m1,r1,h⟩
   unfold oAll at h
   split at h
   . obtain⟨x,rfl,rx⟩:=r1.one'
     split at h
     . rename_i xs hd
       obtain⟨bs,rfl,q⟩:=h
       obtain⟨a,ws,rfl,e,rr⟩:=a62 m1 rx hd
       obtain⟨u,rfl,ru⟩:=rv.one
       cases ru
       obtain⟨its,ri,pl,hz⟩:=I.list e
       have hits:=b24 rr ri
       subst hits
       have hl:=pl.isList
       have hlt:a<s.heap.objs.size:=by obtain⟨_,e,_⟩:=hl;exact Heap.lt_size e
       refine call_all_walk (wpAny_pyIter_list hl ?_)
       refine⟨s.heap.objs.size,[s.heap.objs.size,a],[s.heap.objs.size],(bs.map Value.bool).toArray.size,_,_,fun i=>(bs[i]?).getD true,rfl,Walks.list (prog:=X.prog) (w:=X.w) (A:=X.A.in1) (I.ok.hd hc) s.heap.objs.size a (Nat.ne_of_lt hlt) (bs.map Value.bool).toArray,⟨⟨_,Heap.get?_push_size _ rfl,rfl,rfl⟩,hl.push _⟩,fun i v s' Q' E' hP hQ=> ?_,fun h' tk hk=> ?_⟩
       . have hP':(bs.map Value.bool)[i]? =some v:=by simpa using hP
         rw[List.getElem?_map]at hP'
         cases hb:bs[i]? with
         |none=>rw[hb]at hP';cases hP'
         |some b=>
           rw[hb]at hP'
           cases hP'
           have hQ:Q' ((bs[i]?).getD true) s':=hQ
           rw[hb]at hQ
           exact wpAny_truthy_bool hQ
       . have e2:((List.range bs.length).all fun i=>(bs[i]?).getD true)=bs.all id:=by
           rw[Bool.eq_iff_iff,List.all_eq_true,List.all_eq_true]
           constructor
           . intro h b hb
             obtain⟨i,hi,rfl⟩:=List.getElem_of_mem hb
             have:=h i (List.mem_range.mpr hi)
             simpa[List.getElem?_eq_getElem hi]using this
           . intro h i hi
             have hi':=List.mem_range.mp hi
             simpa[List.getElem?_eq_getElem hi']using h _ (List.getElem_mem hi')
         rw[show(bs.map Value.bool).toArray.size=bs.length by simp,e2]
         refine⟨.bl _,H,?_,rfl,q _ (.bl _) m1⟩
         exact I.kept (t':=tk) fun b o e=>hk b o (fun hm=>by rw[List.mem_singleton.mp hm]at e;exact Nat.lt_irrefl _ (Heap.lt_size e)) (Heap.get?_push_of_some _ e)
     . exact h.elim
   . exact h.elim
 refine(a8p base hg hm boot_all a1v (by decide) (by decide) he rfl).to ((ha.run F Γ M σ H _ f0 g m hw).mono fun vs H1 ⟨ds,F1,M1,s1,m1,r1,q1⟩=>⟨F1,M1,ds,m1,r1,?_⟩)
 unfold oAll at q1 |-
 try dsimp only at q1
 split at q1
 . rename_i d
   dsimp only
   cases hd:dr M1 d with
   |none=>rw[hd]at q1;exact q1.elim
   |some xs=>
     rw[hd]at q1
     obtain⟨bs,e,q⟩:=q1
     exact⟨bs,e,fun v rv m'=>⟨_,F1,M1,s1,m1,rv,q⟩⟩
 . exact q1.elim
end
theorem FnOk.noX{P:Program}{w:World}{K:PySem.W.Frag}{mg:Str->Option Value}{base:Heap}{k:Nat}{f:Addr}{fd:FuncData}{ps:List Str}{sp sp':Sp}(Fn:FnOk P w K mg base (CXE P w) k f fd ps sp)
   (h: ∀vs H Q E,sp' vs H Q E->sp vs H Q fun _ _ _=>False):FnOk P w K mg base CX0 k f fd ps sp':=by
 refine⟨fun vs H Q E q=>Fn.len vs H Q _ (h _ _ _ _ q),fun A outer s H args us vs Q E hr he hb hv hs=>codeAny_mono (Fn.run A outer s H args us vs Q _ hr he hb hv (h _ _ _ _ hs)) fun r s' q=> ?_⟩
 cases r with
 |error e=>obtain⟨_,_,_,_,_,_,_,_,_,_,_,_,_,_,z⟩:=q;exact z.elim
 |ok fl=>
   cases fl with
   |ret u=>exact q
   |_=>exact q
noncomputable def a58(K:PySem.W.Frag):Sp:=fun vs H Q _=> ∃(a:Addr) (ns:List Int),vs=[.ref a]/\SqL K H a (ns.map V.int)/\Script 63 ns/\ ∀H',Q (.bl true) H'
def spTrue:SpA:=fun ds _ Q _=> ∃ns:List Int,ds=[.scr (ns.map D.int)]/\Script 63 ns/\ ∀M',Q (.bl true) M'
theorem b58{K:PySem.W.Frag}{F:Hp}: ∀ns:List Int,RDs K F (ns.map V.int) (ns.map D.int)
 | []=> .nil
 |_::ns=> .cons (.int _) (b58 ns)
theorem law_ok{P:Program}{w:World}{K:PySem.W.Frag}{mg:Str->Option Value}{base:Heap}{k:Nat}{f:Addr}{fd:FuncData}{ps:List Str}(Fn:FnOk P w K mg base (CXE P w) k f fd ps (a0m K spTrue)):FnOk P w K mg base CX0 k f fd ps (a58 K):=by
 refine Fn.noX fun vs H Q E zz9=> ?_
 obtain⟨a,ns,e,hS,hsc,q⟩:=zz9
 subst e
 refine⟨fun b=>if b=a then H b else none,[.scr (ns.map D.int)],fun _=>none,fun d _=>d= .bl true,fun _ _=>False,⟨fun b o e=> ?_,fun b o e=> ?_,fun b o e=> ?_⟩,.cons (.scr ?_ (b58 ns)) .nil,⟨ns,rfl,hsc,fun _=>rfl⟩,fun v H' ⟨d,_,_,_,_,r,hd⟩=> ?_,fun _ _ ⟨_,_,_,_,z⟩=>z.elim⟩
 . split at e
   . exact e
   . cases e
 . cases e
 . cases e
 . rcases hS with(h | ⟨o,h⟩) |h
   . exact .inl (.inl (by simpa using h))
   . exact .inl (.inr ⟨o,by simpa using h⟩)
   . exact .inr h
 . subst hd
   cases r
   exact q H'
theorem compL{fs:List Nat}{tl te:AE}{Γ:G}{M:Mem}{Q:AK}(ds:List D)(f:D->D)(htl: ∀R:AK,R (.lst ds) M->tl Γ M R)(hn:ds.length<=1000)(he: ∀x∈ds,∀(M':Mem) (R:AK),R (f x) M'->te (some x::frG fs Γ) M' R)
   (q:Q (.lst (ds.map f)) M):aFz (a3t 1 fs (iaL tl) (gaN 0) aYes te) Γ M Q:=by
 refine htl _ ?_
 refine⟨fun i=>some (f (ds.getD i .non)),hn,fun M' _=>⟨rfl,fun i hi own ho=> ?_⟩,fun p hp=> ?_⟩
 . obtain⟨o,rfl⟩: ∃o,own=[o]:=by
     cases own with
     |nil=>cases ho
     |cons o l=>cases l with
       |nil=>exact⟨o,rfl⟩
       |cons _ _=>simp at ho
   refine⟨rfl,⟨[some _],rfl,rfl⟩,rfl,?_⟩
   rw[if_pos rfl]
   have hi':i<ds.length:=hi
   have e:ds.getD i .non=ds[i]:=by simp[List.getD,List.getElem?_eq_getElem hi']
   show te (some (ds.getD i .non)::frG fs Γ) M' _
   rw[e]
   exact he _ (List.getElem_mem hi') M' _ ⟨rfl,by dsimp only;rw[e]⟩
 . dsimp only
   rw[a0e]
   dsimp only
   rw[a2l hp]
   have e:outs (fun i=>some (f (ds.getD i .non))) ds.length=ds.map f:=by
     apply List.ext_getElem?
     intro i
     have:outs (fun i=>some (f (ds.getD i .non))) ds.length=(List.range ds.length).map fun i=>f (ds.getD i .non):=by
       unfold outs
       induction List.range ds.length with
       |nil=>rfl
       |cons a l ih=>simp only[List.filterMap_cons,List.map_cons,ih]
     rw[this]
     simp only[List.getElem?_map]
     by_cases hi:i<ds.length
     . simp[List.getElem?_range hi,List.getElem?_eq_getElem hi,List.getD]
     . simp[List.getElem?_eq_none (show(List.range ds.length).length<=i by simp;omega),List.getElem?_eq_none (show ds.length<=i by omega)]
   rw[e]
   exact q
theorem at_map{α:Type}(f:α->D)(xs:List α)(j:Int)(h0:0<=j)(h1:j<xs.length): ∃x,atI (xs.map f) j=some (f x)/\x∈xs:=by
 obtain⟨k,rfl⟩:=Int.eq_ofNat_of_zero_le h0
 have hk:k<xs.length:=by omega
 exact⟨xs[k],a3s (by simp[List.getElem?_eq_getElem hk]),List.getElem_mem hk⟩
theorem at0{a:D}{l:List D}:atI (a::l) 0=some a:=a3s (j:=0) rfl
theorem at1{a b:D}{l:List D}:atI (a::b::l) 1=some b:=a3s (j:=1) rfl
theorem at2{a b c:D}{l:List D}:atI (a::b::c::l) 2=some c:=a3s (j:=2) rfl
theorem at3{a b c d:D}{l:List D}:atI (a::b::c::d::l) 3=some d:=a3s (j:=3) rfl
theorem compF{fs:List Nat}{tl:AE}{ti:AT}{Γ:G}{M:Mem}{Q:AK}(ds:List D)(p:D->Bool)(htl: ∀R:AK,R (.lst ds) M->tl Γ M R)(hn:ds.length<=1000)
   (hi: ∀x∈ds,∀(M':Mem) (R:Bool->Mem->Prop),R (p x) M'->ti (some x::frG fs Γ) M' R) (q:Q (.lst (ds.filter p)) M):aFz (a3t 1 fs (iaL tl) (gaN 0) ti (aV 0)) Γ M Q:=by
 refine htl _ ?_
 refine⟨fun i=>if p (ds.getD i .non)=true then some (ds.getD i .non)else none,hn,fun M' _=>⟨rfl,fun i hi' own ho=> ?_⟩,fun l hp=> ?_⟩
 . obtain⟨o,rfl⟩: ∃o,own=[o]:=by
     cases own with
     |nil=>cases ho
     |cons o l=>cases l with
       |nil=>exact⟨o,rfl⟩
       |cons _ _=>simp at ho
   refine⟨rfl,⟨[some _],rfl,rfl⟩,?_⟩
   have hi'':i<ds.length:=hi'
   have e:ds.getD i .non=ds[i]:=by simp[List.getD,List.getElem?_eq_getElem hi'']
   show ti (some (ds.getD i .non)::frG fs Γ) M' _
   rw[e]
   refine hi _ (List.getElem_mem hi'') M' _ ⟨rfl,?_⟩
   cases hpx:p ds[i]with
   |true=>
     rw[if_pos rfl]
     exact⟨rfl,by dsimp only;rw[e,hpx,if_pos rfl]⟩
   |false=>
     rw[if_neg Bool.false_ne_true]
     dsimp only
     rw[e,hpx,if_neg Bool.false_ne_true]
 . dsimp only
   rw[a0e]
   dsimp only
   rw[a2l hp]
   have e: ∀n,n<=ds.length->outs (fun i=>if p (ds.getD i .non)=true then some (ds.getD i .non)else none) n=(ds.take n).filter p:=by
     intro n
     induction n with
     |zero=>intro _;rfl
     |succ n ih=>
       intro hn'
       have hlt:n<ds.length:=by omega
       rw[a4r,ih (by omega),List.take_succ,List.filter_append,List.getElem?_eq_getElem hlt]
       have e:ds.getD n .non=ds[n]:=by simp[List.getD,List.getElem?_eq_getElem hlt]
       rw[e]
       cases hpx:p ds[n]<;>simp[hpx]
   rw[e ds.length (Nat.le_refl _),List.take_length]
   exact q
section
variable {M:Mem}{Q:AK}
theorem b6k{i j:Int}:oEq false (.int i) (.int j) M Q=Q (.bl (decide (i=j))) M:=by unfold oEq eqC eqB;simp[a4k,eqS]
theorem eqq_str{i j:PySem.Str}:oEq false (.str i) (.str j) M Q=Q (.bl (decide (i=j))) M:=by unfold oEq eqC eqB;simp[a4k,eqS]
theorem eqq_bl{i j:Bool}:oEq false (.bl i) (.bl j) M Q=Q (.bl (decide (i=j))) M:=by unfold oEq eqC eqB;simp[a4k,eqS]
theorem neq_int{i j:Int}:oEq true (.int i) (.int j) M Q=Q (.bl (!decide (i=j))) M:=by unfold oEq eqC eqB;simp[a4k,eqS]
theorem b5b{i j:PySem.Str}:oEq true (.str i) (.str j) M Q=Q (.bl (!decide (i=j))) M:=by unfold oEq eqC eqB;simp[a4k,eqS]
theorem neq_bl{i j:Bool}:oEq true (.bl i) (.bl j) M Q=Q (.bl (!decide (i=j))) M:=by unfold oEq eqC eqB;simp[a4k,eqS]
end
theorem a0x{c:AT}{t rest:AS}{E:AEnds}{Γ:G}{M:Mem}(h: ∀R:Bool->Mem->Prop,R false M->c Γ M R)(h2:rest E Γ M):aSeq (aIf c t aNext) rest E Γ M:=h _ (by rw[if_neg Bool.false_ne_true];exact h2)
theorem a1a{c:AT}{t u rest:AS}{E:AEnds}{Γ:G}{M:Mem}(h: ∀R:Bool->Mem->Prop,R true M->c Γ M R)(h2:t {E with nx:=rest E} Γ M):aSeq (aIf c t u) rest E Γ M:=h _ (by rw[if_pos rfl];exact h2)
theorem a6e{d:D}{M:Mem}(h:shD (drf M d)=true):eqB M d d=true:=by
 unfold eqB
 split
 . rename_i hs
   cases d<;>first
     | (simp[a4k]at hs;done)
     |simp[eqS]
 . unfold shD at h
   simp only[Bool.and_eq_true]at h
   exact b2w _ (PySem.SeqAt.canLay_of_shaped h.2)
theorem a4z{d:D}{M:Mem}{Q:AK}(h:shD (drf M d)=true)(q:Q (.bl true) M):oEq false d d M Q:=⟨.inr ⟨h,h⟩,by rw[a6e h];exact q⟩
theorem a59{d:D}{M:Mem}{Q:AK}(h:shD (drf M d)=true)(q:Q (.bl false) M):oEq true d d M Q:=⟨.inr ⟨h,h⟩,by rw[a6e h];exact q⟩
open PySem
inductive Gd:Nat->D->Prop where
 |non (n:Nat):Gd n .non
 |bl (n:Nat) (b:Bool):Gd n (.bl b)
 |int (n:Nat) (i:Int):Gd n (.int i)
 |str (n:Nat) (x:Str) (h:PyData.strOk x=true):Gd n (.str x)
 |lst (n:Nat) (ds:List D) (h: ∀d∈ds,Gd n d):Gd (n+1) (.lst ds)
 |tup (n:Nat) (ds:List D) (h: ∀d∈ds,Gd n d):Gd (n+1) (.tup ds)
theorem b6f{n:Nat}: ∀{ds:List D},(∀d∈ds,d.flat=true/\d.py.canLay0=true/\d.py.depth<=n)->D.flats ds=true/\PyData.canLayAll0 (D.pys ds)=true/\PyData.depthAll (D.pys ds)<=n
 | [],_=>⟨by simp[D.flats],by simp[D.pys,PyData.canLayAll0],by simp[D.pys,PyData.depthAll]⟩
 |d::ds,h=>by
   obtain⟨h1,h2,h3⟩:=h d List.mem_cons_self
   obtain⟨g1,g2,g3⟩:=b6f fun e he=>h e (List.mem_cons_of_mem _ he)
   refine⟨by simp[D.flats,h1,g1],by simp[D.pys,PyData.canLayAll0,h2,g2],?_⟩
   simp only[D.pys,PyData.depthAll]
   omega
theorem Gd.ok{n:Nat}{d:D}(h:Gd n d):d.flat=true/\d.py.canLay0=true/\d.py.depth<=n:=by
 induction h with
 |non n=>simp[D.flat,D.py,PyData.canLay0,PyData.depth]
 |bl n b=>simp[D.flat,D.py,PyData.canLay0,PyData.depth]
 |int n i=>simp[D.flat,D.py,PyData.canLay0,PyData.depth]
 |str n x h=>simp[D.flat,D.py,PyData.canLay0,PyData.depth,h]
 |lst n ds _ ih=>
   obtain⟨h1,h2,h3⟩:=b6f ih
   exact⟨by simpa[D.flat]using h1,by simpa[D.py,PyData.canLay0]using h2,by simp only[D.py,PyData.depth];omega⟩
 |tup n ds _ ih=>
   obtain⟨h1,h2,h3⟩:=b6f ih
   exact⟨by simpa[D.flat]using h1,by simpa[D.py,PyData.canLay0]using h2,by simp only[D.py,PyData.depth];omega⟩
theorem Gd.sh{n:Nat}{d:D}(h:Gd n d)(hn:n<=64:=by decide):shD d=true:=by
 obtain⟨h1,h2,h3⟩:=h.ok
 unfold shD SeqAt.shaped
 rw[h1,h2]
 simp;omega
noncomputable def keyOf:Key->D
 | .inl i=> .int i
 | .inr x=> .str x
section
variable {X:Cx}{F0:Hp}{o:Expr}{td:AE}{p q pos apos cpos:Pos}{K:PySem.W.Frag}
def aVals(td:AE):AE:=fun Γ M Q=>td Γ M fun x M1=>opt (dd M1 x) fun kvs=> ∀p,M1 p=none->Q (.obj p) (put M1 p (.lst (kvs.map fun kv=>kv.2)))
def aKeys(td:AE):AE:=fun Γ M Q=>td Γ M fun x M1=>opt (dd M1 x) fun kvs=> ∀p,M1 p=none->Q (.obj p) (put M1 p (.lst (kvs.map fun kv=>keyOf kv.1)))
def aItems(td:AE):AE:=fun Γ M Q=>td Γ M fun x M1=>opt (dd M1 x) fun kvs=> ∀p,M1 p=none->Q (.obj p) (put M1 p (.lst (kvs.map fun kv=> .tup [keyOf kv.1,kv.2])))
theorem PF.vals{F:Hp}: ∀{ws:List (Key×V)}{kvs:List (Key×D)},PF K F ws kvs->RDs K F (ws.map (·.2)) (kvs.map (·.2))
 |_,_,.nil=> .nil
 |_,_,.cons h t=> .cons h.2 (PF.vals t)
theorem a91{F:Hp}: ∀k:Key,RD K F (kV k) (keyOf k)
 | .inl _=> .int _
 | .inr _=> .str _
theorem PF.keys{F:Hp}: ∀{ws:List (Key×V)}{kvs:List (Key×D)},PF K F ws kvs->RDs K F (ws.map fun kv=>kV kv.1) (kvs.map fun kv=>keyOf kv.1)
 |_,_,.nil=> .nil
 |_,_,.cons h t=> .cons (by show RD K F (kV _) (keyOf _);rw[h.1];exact a91 _) (PF.keys t)
theorem b40(hm:X.mg "list"=none)(hc:X.calm=true)(hg:Gl X "list")(ho:PEA X F0 o td)
   (hbase:attributeBase o "values" X.env (eval o X.env)=eval o X.env:=by rfl) (hline:(apos.endLine==cpos.line)=true:=by rfl)
   (he:starEach [.Call (.Attribute o "values" apos) [] [] cpos] X.env=(false,eval (.Call (.Attribute o "values" apos) [] [] cpos) X.env)::starEach [] X.env:=by rfl) (hpl:(backTo pos (starEach [] X.env)).any (·.1)=false:=by rfl):
   PEA X F0 (.Call (.Name "list" p) [.Call (.Attribute o "values" apos) [] [] cpos] [] pos) (aVals td):=by
 refine⟨?_⟩
 intro F Γ M σ H Q f0 g m hw
 refine(a4o (a55 hc) hg hm boot_list (a5f (a7v PySem.F.plainAttrs_dict PySem.F.slot_dict_values PySem.F.type_dict_values a9t a0n hbase hline) pa_nil he) (by decide) (by decide) he hpl).to
   ((ho.run F Γ M σ H _ f0 g m hw).mono fun v H1 ⟨d,F1,M1,s1,m1,r1,q1⟩=> ?_)
 obtain⟨kvs,hd,q2⟩:=a1z q1
 obtain⟨a,ws,rfl,rfl,hM,e1,pf⟩:=a34 m1 r1 hd
 refine⟨.inr (.inr (.inl ⟨rfl,.inl ⟨ws,e1⟩⟩)),a,ws,rfl,rfl,.inl e1,fun vw hvw=> ?_⟩
 have ha:a≠vw:=fun z=>by rw[z,hvw]at e1;cases e1
 refine⟨vw,a,ws,rfl,a0u,.inl (by rw[a0p ha];exact e1),fun l hl=> ?_⟩
 exact⟨.obj l,F1,_,s1,(m1.more (u:= .ext (viewφ "dict_values" vw a)) hvw).new (o:= .lst (kvs.map fun kv:Key×D=>kv.2)) hl (PF.vals pf),.obj l,q2 l ((m1.more (u:= .ext (viewφ "dict_values" vw a)) hvw).fM hl)⟩
theorem paKeys(hm:X.mg "list"=none)(hc:X.calm=true)(hg:Gl X "list")(ho:PEA X F0 o td)
   (hbase:attributeBase o "keys" X.env (eval o X.env)=eval o X.env:=by rfl) (hline:(apos.endLine==cpos.line)=true:=by rfl)
   (he:starEach [.Call (.Attribute o "keys" apos) [] [] cpos] X.env=(false,eval (.Call (.Attribute o "keys" apos) [] [] cpos) X.env)::starEach [] X.env:=by rfl) (hpl:(backTo pos (starEach [] X.env)).any (·.1)=false:=by rfl):
   PEA X F0 (.Call (.Name "list" p) [.Call (.Attribute o "keys" apos) [] [] cpos] [] pos) (aKeys td):=by
 refine⟨?_⟩
 intro F Γ M σ H Q f0 g m hw
 refine(a4o (a7n hc) hg hm boot_list (a5f (a7v PySem.F.plainAttrs_dict PySem.F.slot_dict_keys PySem.F.type_dict_keys mt_keys a0n hbase hline) pa_nil he) (by decide) (by decide) he hpl).to
   ((ho.run F Γ M σ H _ f0 g m hw).mono fun v H1 ⟨d,F1,M1,s1,m1,r1,q1⟩=> ?_)
 obtain⟨kvs,hd,q2⟩:=a1z q1
 obtain⟨a,ws,rfl,rfl,hM,e1,pf⟩:=a34 m1 r1 hd
 refine⟨.inr (.inr (.inl ⟨rfl,.inl ⟨ws,e1⟩⟩)),a,ws,rfl,rfl,.inl e1,fun vw hvw=> ?_⟩
 have ha:a≠vw:=fun z=>by rw[z,hvw]at e1;cases e1
 refine⟨vw,a,ws,rfl,a0u,.inl (by rw[a0p ha];exact e1),fun l hl=> ?_⟩
 exact⟨.obj l,F1,_,s1,(m1.more (u:= .ext (viewφ "dict_keys" vw a)) hvw).new (o:= .lst (kvs.map fun kv:Key×D=>keyOf kv.1)) hl (PF.keys pf),.obj l,q2 l ((m1.more (u:= .ext (viewφ "dict_keys" vw a)) hvw).fM hl)⟩
theorem b77{F:Hp}{M:Mem}{H H1:Hp}{l:Addr}{as:List Addr}{ws:List (Key×V)}{kvs:List (Key×D)}(m:AM K F M H)(hl:H l=none)(ha: ∀a∈as,H a=none/\a≠l)
   (hb: ∀b,(∀a∈as,b≠a)->H1 b=upd H l (.lst (as.map V.ref)) b) (hp:Prs H1 as ws) (pf:PF K F ws kvs):
   ∃F',Same F F'/\AM K F' (put M l (.lst (kvs.map fun kv=> .tup [keyOf kv.1,kv.2]))) H1:=by
 have hs:Same F fun b=>if b∈as then H1 b else F b:=fun b x e=>by
   have:b∉as:=fun hm=>by rw[m.sub.free (ha b hm).1]at e;cases e
   dsimp only;rw[if_neg this];exact e
 have out: ∀b,b∉as->H1 b=upd H l (.lst (as.map V.ref)) b:=fun b hn=>hb b fun a hm z=>hn (z▸hm)
 have hll:l∉as:=fun hm=>(ha l hm).2 rfl
 refine⟨_,hs,⟨fun b x e=> ?_,fun b x e=> ?_,fun b x e=> ?_⟩⟩
 . split at e
   . exact e
   . rename_i hn
     have hbl:b≠l:=by rintro rfl;rw[m.fF hl]at e;cases e
     rw[out b hn,a0p hbl];exact m.sub b x e
 . have hn:b∉as:=by
     by_cases hbl:b=l
     . subst hbl;exact hll
     . rw[a0g hbl]at e
       intro hm
       rw[m.fM (ha b hm).1]at e;cases e
   rw[if_neg hn]
   by_cases hbl:b=l
   . subst hbl;exact m.fF hl
   . rw[a0g hbl]at e;exact m.dj b x e
 . by_cases hbl:b=l
   . subst hbl
     rw[a0e]at e
     cases e
     refine⟨.lst (as.map V.ref),by rw[out b hll,a0u],?_⟩
     show RDs K _ (as.map V.ref) (kvs.map fun kv=> .tup [keyOf kv.1,kv.2])
     have key: ∀{as':List Addr}{ws':List (Key×V)}{kvs':List (Key×D)},(∀a∈as',a∈as)->Prs H1 as' ws'->PF K F ws' kvs'->RDs K (fun b=>if b∈as then H1 b else F b) (as'.map V.ref) (kvs'.map fun kv=> .tup [keyOf kv.1,kv.2]):=by
       intro as' ws' kvs' hin hp' pf'
       induction hp' generalizing kvs' with
       |nil=>cases pf';exact .nil
       |cons h t ih=>
         cases pf' with
         |cons h2 t2=>
           refine .cons (.tup (by rw[if_pos (hin _ List.mem_cons_self)];exact h) ?_) (ih (fun a hm=>hin a (List.mem_cons_of_mem _ hm)) t2)
           refine .cons ?_ (.cons (h2.2.up hs) .nil)
           rw[h2.1];exact a91 _
     exact key (fun _ h=>h) hp pf
   . rw[a0g hbl]at e
     obtain⟨y,e1,r1⟩:=m.mem b x e
     have hn:b∉as:=fun hm=>by rw[(ha b hm).1]at e1;cases e1
     exact⟨y,by rw[out b hn,a0p hbl];exact e1,r1.up hs⟩
theorem paItems(hm:X.mg "list"=none)(hc:X.calm=true)(hg:Gl X "list")(ho:PEA X F0 o td)
   (hbase:attributeBase o "items" X.env (eval o X.env)=eval o X.env:=by rfl) (hline:(apos.endLine==cpos.line)=true:=by rfl)
   (he:starEach [.Call (.Attribute o "items" apos) [] [] cpos] X.env=(false,eval (.Call (.Attribute o "items" apos) [] [] cpos) X.env)::starEach [] X.env:=by rfl) (hpl:(backTo pos (starEach [] X.env)).any (·.1)=false:=by rfl):
   PEA X F0 (.Call (.Name "list" p) [.Call (.Attribute o "items" apos) [] [] cpos] [] pos) (aItems td):=by
 refine⟨?_⟩
 intro F Γ M σ H Q f0 g m hw
 refine(a4o (a66 hc) hg hm boot_list (a5f (a7v PySem.F.plainAttrs_dict PySem.F.slot_dict_items PySem.F.type_dict_items b2i a0n hbase hline) pa_nil he) (by decide) (by decide) he hpl).to
   ((ho.run F Γ M σ H _ f0 g m hw).mono fun v H1 ⟨d,F1,M1,s1,m1,r1,q1⟩=> ?_)
 obtain⟨kvs,hd,q2⟩:=a1z q1
 obtain⟨a,ws,rfl,rfl,hM,e1,pf⟩:=a34 m1 r1 hd
 refine⟨.inr (.inr (.inl ⟨rfl,.inl ⟨ws,e1⟩⟩)),a,ws,rfl,rfl,.inl e1,fun vw hvw=> ?_⟩
 have ha:a≠vw:=fun z=>by rw[z,hvw]at e1;cases e1
 refine⟨vw,a,ws,rfl,a0u,.inl (by rw[a0p ha];exact e1),fun l as H2 hl has hH2 hp=> ?_⟩
 have m2:=m1.more (u:= .ext (viewφ "dict_items" vw a)) hvw
 obtain⟨F',s',m'⟩:=b77 m2 hl has hH2 hp pf
 exact⟨.obj l,F',_,s1.trans s',m',.obj l,q2 l (m2.fM hl)⟩
end
noncomputable def b1b(M:Mem)(T:String):D->Bool
 | .int _=>T== "int"
 | .bl _=>T== "bool"||T== "int"
 | .str _=>T== "str"
 | .lst _=>T== "list"
 | .tup _=>T== "tuple"
 | .obj p=>(match M p with |some (.lst _)=>T== "list" |some (.dic _)=>T== "dict" |_=>false)
 |_=>false
noncomputable def a5w(M:Mem):D->Bool
 | .scr _=>false | .ctp _=>false
 | .obj p=>(match M p with |some (.lst _)=>true |some (.dic _)=>true |_=>false)
 |_=>true
section
variable {X:Cx}{F0:Hp}{e:Expr}{te:AE}{p q pos:Pos}{K:PySem.W.Frag}{T:String}{x:Str}
theorem ty_of{F:Hp}{M:Mem}{H:Hp}{v:V}{d:D}(m:AM K F M H)(r:RD K F v d)(h:a5w M d=true)(hT:T="int"\/T="bool"\/T="str"\/T="list"\/T="tuple"):
   ∃t,TyOf K H v t/\PySem.W.kitOne K t (.type T)=some (b1b M T d):=by
 cases r<;>first
   | (simp[a5w]at h;done)
   |skip
 . exact⟨_,.non,by rcases hT with rfl |rfl |rfl |rfl |rfl<;>rfl⟩
 . exact⟨_,.bl _,by rcases hT with rfl |rfl |rfl |rfl |rfl<;>rfl⟩
 . exact⟨_,.int _,by rcases hT with rfl |rfl |rfl |rfl |rfl<;>rfl⟩
 . exact⟨_,.str _,by rcases hT with rfl |rfl |rfl |rfl |rfl<;>rfl⟩
 . rename_i e r
   exact⟨_,.lst (m.sub _ _ e),by rcases hT with rfl |rfl |rfl |rfl |rfl<;>rfl⟩
 . rename_i e r
   exact⟨_,.tup (m.sub _ _ e),by rcases hT with rfl |rfl |rfl |rfl |rfl<;>rfl⟩
 . rename_i pp
   unfold a5w at h
   dsimp only at h
   unfold b1b
   dsimp only
   split at h
   . rename_i ds hd
     obtain⟨u,e,r⟩:=m.mem _ _ hd
     obtain⟨vs,rfl,r⟩:=r.isL
     exact⟨_,.lst e,by rcases hT with rfl |rfl |rfl |rfl |rfl<;>rfl⟩
   . rename_i ds hd
     obtain⟨u,e,r⟩:=m.mem _ _ hd
     obtain⟨vs,rfl,r⟩:=r.isD
     exact⟨_,.dK e,by rcases hT with rfl |rfl |rfl |rfl |rfl<;>rfl⟩
   . cases h
def b60(T:String)(te:AE):AE:=fun Γ M Q=>te Γ M fun d M1=>a5w M1 d=true/\Q (.bl (b1b M1 T d)) M1
theorem b41(hT:T="int"\/T="bool"\/T="str"\/T="list"\/T="tuple")(hg:Gl X "isinstance")(hm:X.mg "isinstance"=none)(hx:Gl X x)(hmx:X.mg x=none)(hv:bootBuiltins x=some (.type T))(ha:PEA X F0 e te)
   (hn:x≠ "__name__":=by decide) (hdb:(x==("__debug__":Str))=false:=by decide)
   (he:starEach [e,.Name x q] X.env=(false,eval e X.env)::starEach [.Name x q] X.env:=by rfl) (he2:starEach [.Name x q] X.env=(false,eval (.Name x q) X.env)::starEach [] X.env:=by rfl) (hpl:(backTo pos (starEach [.Name x q] X.env)).any (·.1)=false:=by rfl):
   PEA X F0 (.Call (.Name "isinstance" p) [e,.Name x q] [] pos) (b60 T te):=by
 refine⟨?_⟩
 intro F Γ M σ H Q f0 g m hw
 refine(a8p a98 hg hm boot_isinstance (a5f a0n (a5f (pe_bltn (v:= .ty T) hx hmx hv rfl hn hdb) pa_nil he2) he) (by decide) (by decide) he hpl).to ((ha.run F Γ M σ H _ f0 g m hw).mono fun v H1 zz9=> ?_)
 obtain⟨d,F1,M1,s1,m1,r1,hok,q1⟩:=zz9
 obtain⟨t,h1,h2⟩:=ty_of m1 r1 hok hT
 exact⟨v,.ty T,t,.type T,_,rfl,h1,rfl,h2,_,F1,M1,s1,m1,.bl _,q1⟩
end
noncomputable abbrev ATh:=AEnds->Value->G->Mem->Prop
def selfH(X:Cx)(hs:List ExceptHandler):TH:=fun D cls a σ H=> ∀s B a0,Inv X [] σ H s->Exn X H B a cls a0 (some .none) s.heap->wpAny (model X.prog X.w) X.A (handleBy (.ref a) X.env hs) (SP X [] D) X.xe s
theorem ph_self{X:Cx}{hs:List ExceptHandler}:PH X hs (selfH X hs):=fun s σ H D B a cls a0 I ex h=>h s B a0 I ex
theorem PH.to{X:Cx}{hs:List ExceptHandler}{t:TH}{D:Ends}{cls:Value}{a:Addr}{σ:St}{H:Hp}(h:PH X hs t)(hw:t D cls a σ H):selfH X hs D cls a σ H:=fun s B a0 I ex=>h s σ H D B a cls a0 I ex hw
theorem selfH.mono{X:Cx}{hs:List ExceptHandler}{D D':Ends}{cls:Value}{a:Addr}{σ:St}{H:Hp}(h:selfH X hs D cls a σ H)(k:EndsTo D D'):selfH X hs D' cls a σ H:=fun s B a0 I ex=>thn (h s B a0 I ex) fun _ _ q=>q.to k
structure PHA(X:Cx)(F0:Hp)(hs:List ExceptHandler)(t:ATh):Prop where
 run: ∀F Γ M σ H E cls a,Same F0 F->AG X.K F Γ σ->AM X.K F M H->t E cls Γ M->selfH X hs (PQD X.K F E) cls a σ H
def aTry(tb:AX->AS)(th:ATh)(to:AS):AS:=fun E Γ M=>tb (fun Γ' M' cls=>th E cls Γ' M') {E with nx:=to E} Γ M
section
variable {X:Cx}{F0:Hp}{R:AX}
theorem selfSs.byImp{R R':RX}{sts:List Stmt}{D:Ends}{σ:St}{H:Hp}(h:selfSs (X.by R) sts D σ H)(k: ∀σ H cls a,R σ H cls a->R' σ H cls a):selfSs (X.by R') sts D σ H:=fun pins s I=>
 wpAny_mono (h pins s (I.unwish.wish _)) (fun _ _ q=>by
   cases ‹Flow›with
   |next=>obtain⟨σ',H',J,q⟩:=q;exact⟨σ',H',J.unwish.wish _,q⟩
   |brk=>obtain⟨σ',H',J,q⟩:=q;exact⟨σ',H',J.unwish.wish _,q⟩
   |cont=>obtain⟨σ',H',J,q⟩:=q;exact⟨σ',H',J.unwish.wish _,q⟩
   |ret u=>obtain⟨v,σ',H',J,r,q⟩:=q;exact⟨v,σ',H',J.unwish.wish _,r,q⟩) fun e s' x=>x.imp k
theorem Cat.by{R':AX}(pl:Plain X)(calm:X.calm=true)(hu:X.A.units+64<cLine):Cat (X.by (b5l X.K F0 R')) F0 R':=⟨b1u,pl.wish _,calm,fun fr=>a9i pl fr,hu⟩
theorem sTry{body orelse:List Stmt}{h₀:ExceptHandler}{hs:List ExceptHandler}{pos:Pos}{tb:AX->AS}{th:ATh}{t_o:AS}(k:Cat X F0 R)
   (hb: ∀pn F1 R',Cat ((X.pin pn).by (b5l X.K F1 R')) F1 R'->PSsA ((X.pin pn).by (b5l X.K F1 R')) F1 body (tb R')) (hh: ∀pn,PHA (X.pin pn) F0 (h₀::hs) th) (ho:PSsA X F0 orelse t_o):
   PSA X F0 (.Try body (h₀::hs) orelse [] pos) (aTry tb th t_o):=by
 refine⟨?_⟩
 intro F Γ M σ H E f0 g m hw
 refine(ps_try k.pl (tb:=fun R D σ H=> ∀pn,selfSs ((X.pin pn).by R) body D σ H) (th:=fun D cls a σ H=> ∀pn,selfH (X.pin pn) (h₀::hs) D cls a σ H) (to:=selfSs X orelse)
   (fun pn R pins s σ H D I h=>h pn pins s I) (fun pn s σ H D B a cls a0 I ex h=>h pn s B a0 I ex) a2h).to ?_
 intro pn
 have b:=(hb pn F (fun Γ' M' cls=>th E cls Γ' M') (Cat.by (k.pl.pin pn) k.calm k.un)).run F Γ M σ H _ (.refl F) g m hw
 refine(b.byImp fun σ' H' cls a ⟨F',Γ',M',s',g',m',q'⟩ pn'=> ?_).mono ⟨fun σ' H' ⟨F',Γ',M',s',g',m',q'⟩=> ?_,fun _ _ z=>z,fun _ _ z=>z,fun _ _ z=>z⟩
 . exact(ho.run F' Γ' M' σ' H' E (f0.trans s') g' m' q').mono (PQD.dn s')
 . exact((hh pn').run F' Γ' M' σ' H' E cls a (f0.trans s') g' m' q').mono (PQD.dn s')
theorem Cat.pin(k:Cat X F0 R)(h:X.pn=[])(pn:List (Addr×Obj)):Thr (X.pin pn) (b5l X.K F0 R):=by
 rintro e s' ⟨a,σ,H,B,cls,a0,m,rfl,I,ex,r⟩
 have J:Inv X [] σ H s':=⟨I.ok.unpin,I.os,I.bare,I.base,I.loc,I.cell,I.free,I.freeC,fun p hp=>by rw[h]at hp;simp at hp,I.hok,I.len⟩
 refine k.thr _ _ ⟨a,σ,H,B,cls,a0,m,rfl,J,⟨ex.air,ex.tr,ex.md,fun b o e q n=>ex.cov b o e ?_ n,ex.nd⟩,r⟩
 rcases q with q |q |q | ⟨p,hp,e⟩ |q
 . exact .inl q
 . exact .inr (.inl q)
 . exact .inr (.inr (.inl q))
 . rw[h]at hp;simp at hp
 . exact .inr (.inr (.inr (.inr q)))
theorem haNil(k:Cat X F0 R)(h:X.pn=[])(pn:List (Addr×Obj)):PHA (X.pin pn) F0 [] (fun _ cls Γ M=>R Γ M cls):=by
 refine⟨?_⟩
 intro F Γ M σ H E cls a f0 g m hw
 exact(ph_nil (k.pin h pn) (k.pl.pin pn)).to ⟨F,Γ,M,f0,g,m,hw⟩
variable {x n:Str}{C:Addr}{np hp:Pos}{b₀:Stmt}{suite:List Stmt}{rest:List ExceptHandler}{ts:Addr->AS}{tr:ATh}{K':PySem.W.Frag}
theorem haCons(hK:X.K=K')(Pl:Plain X)(hm:X.mg x=some (.ref C))(hg:Gl X x)(hs: ∀a,PSsA (X.hand a) F0 (b₀::suite) (ts a))(hr:PHA X F0 rest tr)(hd:(x==("__debug__":Str))=false:=by decide):
   PHA X F0 (.ExceptHandler (some (.Name x np)) none (b₀::suite) hp::rest) (fun E cls Γ M=> ∃b,PySem.W.exmOne K' cls (.ref C)=some b/\if b=true then ∀a,ts a E Γ M else tr E cls Γ M):=by
 refine⟨?_⟩
 intro F Γ M σ H E cls a f0 g m hw
 subst hK
 refine(ph_cons Pl hm hg (ts:=fun a D σ H=>selfSs (X.hand a) (b₀::suite) D σ H) (fun a pins s σ H D I h=>h pins s I) ph_self hd).to ?_
 obtain⟨b,hx,hw⟩:=hw
 refine⟨b,hx,?_⟩
 cases b with
 |true=>rw[if_pos rfl]at hw |-;exact(hs a).run F Γ M σ H E f0 g m (hw a)
 |false=>rw[if_neg Bool.false_ne_true]at hw |-;exact hr.run F Γ M σ H E cls a f0 g m hw
end
section
variable {X:Cx}{F0:Hp}{k:Nat}{x:Str}{ps:List Str}{sa:Addr->SpA}{p pos:Pos}{e:Expr}{es:List Expr}{tt:AA}{a:Addr}
end
section
variable {X:Cx}{F0:Hp}{e:Expr}{te:AE}{p q pos:Pos}{x:Str}{C:Addr}
end
section
variable {X:Cx}{tg:Expr}{F0:Hp}{tt:AA}{pos:Pos}
noncomputable def size2(a b:Int):Nat:=((b- a+1)/2).toNat
def iaR3(tt:AA):AI:=fun Γ M Q=>tt Γ M fun ds M1=>match ds with
 | [.int i,.int j,.int c]=>c=2/\(-(2^61)<=i/\i<2^61/\ -(2^61)<=j/\j<2^61)/\Q ⟨size2 i j,fun k=> .int (i+k *2),fun _=>True⟩ M1
 |_=>False
end
section
variable {X:Cx}{F0:Hp}{pos:Pos}{k v:Expr}{tk tv:AE}
def aDict1(tk tv:AE):AE:=fun Γ M Q=> ∀p,M p=none->tk Γ (put M p (.dic [])) fun x M1=>tv Γ M1 fun y M2=>M2 p=some (.dic [])/\opt (keyD x) fun kk=>Q (.obj p) (put M2 p (.dic [(kk,y)]))
theorem paDict1(hk:PEA X F0 k tk)(hv:PEA X F0 v tv):PEA X F0 (.Dict [some k] [v] pos) (aDict1 tk tv):=by
 refine⟨?_⟩
 intro F Γ M σ H Q f0 g m hw
 refine(pe_disp (trs:=[(selfE X k,selfE X v)]) (b7k a0n a0n pps_nil) rfl rfl (by simp) (Nat.le_of_ble_eq_true rfl)).to ?_
 intro p hp
 have hq:=hw p (m.fM hp)
 have m1:=m.new (o:= .dic []) hp (u:= .dK []) .nil
 refine two hk hv f0 g m1 hq fun F2 M2 H2 a b x y s m2 r1 r2 q=> ?_
 obtain⟨e1,q⟩:=q
 obtain⟨kk,hkk,q⟩:=a1z q
 obtain⟨u,e2,ro⟩:=m2.mem _ _ e1
 obtain⟨ws,rfl,pf⟩:=ro.isD
 cases pf
 refine⟨e2,[(kk,b)],?_,Nat.le_of_ble_eq_true rfl,.obj p,F2,put M2 p (.dic [(kk,y)]),s,?_,.obj p,q⟩
 . rw[a5v r1 hkk];rfl
 . exact m2.set e1 (u:= .dK (a7y [] [(kk,b)])) (o':= .dic [(kk,y)]) (.cons ⟨rfl,r2⟩ .nil)
end
section
variable {X:Cx}{F0:Hp}{e:Expr}{te:AE}
def aFzN(t:AE):AE:=fun Γ M Q=>t Γ M fun d M'=>match d with | .obj p=>(match M' p with |some (.lst ds)=>Q (.lst ds) (del M' p) |_=>False) | .non=>Q .non M' |_=>False
theorem paFzN(h:PEA X F0 e te):PEA X F0 e (aFzN te):=by
 refine⟨?_⟩
 intro F Γ M σ H Q f0 g m hw
 refine(h.run F Γ M σ H _ f0 g m hw).mono fun v H1 zz9=> ?_
 obtain⟨d,F1,M1,s1,m1,r1,q1⟩:=zz9
 cases r1 with
 |obj p=>
   try dsimp only at q1
   split at q1
   . rename_i ds hd
     obtain⟨F2,s2,m2,r2⟩:=m1.freeze hd
     exact⟨_,F2,_,s1.trans s2,m2,r2,q1⟩
   . exact q1.elim
 |non=>exact⟨_,F1,_,s1,m1,.non,q1⟩
 |_=>exact q1.elim
end
theorem a81{n j:Nat}(h:j<n):ixN n (j:Int)=some j:=by
 unfold ixN
 rw[if_pos (by omega),if_pos (by omega)];rfl
end L2
namespace PySem
open Sem (wp)
theorem b5x:typeLookup (.type "list") "keys"=pure none:=am_miss_of_fast (by decide+kernel)
theorem a4x{prog:Program}{w:World}{A:Around}{E:Value->Shared->Prop}{s:Shared}{a:Addr}{o:Obj}{xs:Array Value}{k:Nat}{name:Str}{Q:Option Value->Shared->Prop}
   (hx : s.heap.get? a = some o) (hc : o.cls = .type "list") (hdat : o.data = .seq xs k) (hd : o.dict = none) (hmiss : typeLookup (.type "list") name = pure none) (hname : (["__module__", "__name__", "__qualname__", "__doc__", "__annotations__"] : List Str).contains name = false) (hA : A.handled = none)
   (h: ∀h' tk,(∀b ob,s.heap.get? b=some ob->h'.get? b=some ob)->Q none {s with heap:=h',toks:=tk}) (hsz:name.length+100<=sizeLine:=by size_fits):
   wpAny (model prog w) A (getAttr? (.ref a) name) Q E s:=by
 obtain⟨c,dct,dat,sl⟩:=o
 simp only at hc hdat hd
 subst hc hdat hd
 obtain⟨hp,g,d,tk,os⟩:=s
 have hT: ∀tk',(⟨hp,g,d,tk',os⟩:Shared).TypeIs (.ref a) "list":=fun _=>⟨_,hx,rfl⟩
 have f1:=sub_AttributeError
 have f3:=F.slot_list_getattribute.lookup
 have f4:=F.slot_list_getattribute.bind (.ref a)
 have f5:=am_list_getattr_none
 unfold getAttr? getAttrBy? getAttrBy
 repeat (any_goals (first |assumption |exact hT _ | ((with_reducible show wpAny _ _ (call (Value.builtin "list.__getattribute__") _ _) _ _ _);refine call_meets F.slot_list_getattribute (hT _) am_entry_list_getattribute (F.args_list_getattribute_2 _ _) (meets_getattribute_miss_list a xs k sl name _ hmiss hname hsz) ⟨hx,hA,fun h' tk' e hx'=> ?_⟩) |wp_step))
 obtain⟨t',u',he⟩:=hx'.there
 show wpAny _ _ (getattributeRaised _ _ _ _ _ _ _) _ _ _
 unfold getattributeRaised
 repeat (any_goals (first |assumption |wp_step))
 exact h _ _ hx'.keeps
theorem a10:plainId "dict.update.loop"=true:=by decide+kernel
theorem a33 : entryFor table "dict.update.loop" = some Builtin.«dict.update.loop» := entryFor_of_fast (by kernel_rfl)
section
variable {prog:Program}{w:World}{K:Type}[DecidableEq K]{knd:KeyKind prog w K}{A:Around}{R:Result->Shared->Prop}{I:Addr}{fp wr:List Addr}{n:Nat}{P:Nat->Value->Prop}{St:Nat->Heap->Prop}
def PairAt(knd:KeyKind prog w K)(d:Addr)(wr:List Addr)(h:Heap)(p:K×Value)(v:Value):Prop:=
 ∃t key o,v= .ref t/\t≠d/\t∉wr/\h.get? t=some o/\o.cls= .type "tuple"/\(∃n,o.data= .seq #[key,p.2] n)/\knd.is p.1 key=true
theorem a54(W:Walks prog w A.in1 I fp wr n P St)(d:Addr)(hd:d∉fp)(ps:List (K×Value))(hl:ps.length=n)(hn:n<=1000):
   ∀(k i:Nat) (s:Shared) (tk:Tok),n- i=k->i<=n->St i s.heap->(∀j v p,P j v->ps[j]? =some p->PairAt knd d wr s.heap p v)->s.heap.DictOf knd d ((ps.take i).foldl (fun m p=>stored m p.1 p.2) [])->
   (∀h' tk',(∀b o,b≠d->b∉wr->s.heap.get? b=some o->h'.get? b=some o)->h'.DictOf knd d (ps.foldl (fun m p=>stored m p.1 p.2) [])->R (.ok (.ret .none)) {s with heap:=h',toks:=tk'})->
   codeAny (model prog w) A (.builtin "dict.update.loop" ⟨[.ref d,.ref I,.int i tk,.none],[]⟩) R s:=by
 have hdw:d∉wr:=fun h=>hd (W.sub _ h)
 have hlen: ∀i,((ps.take i).foldl (fun m p=>stored m p.1 p.2) []).length<=i:=by
   intro i
   have all: ∀(ps:List (K×Value)) (m:List (K×Value)),(ps.foldl (fun m p=>stored m p.1 p.2) m).length<=m.length+ps.length:=by
     intro ps
     induction ps with
     |nil=>intro m;simp
     |cons p ps ih2=>
       intro m
       have h1:=ih2 (stored m p.1 p.2)
       have h2:=stored_length_le m p.1 p.2
       simp only[List.foldl_cons,List.length_cons]
       omega
   have h:=all (ps.take i) []
   rw[List.length_take]at h
   simp only[List.length_nil]at h
   omega
 intro k
 induction k with
 |zero=>
   intro i s tk hk hi hst hps hD hR
   have hin:i=n:=by omega
   subst hin
   refine codeAny_builtin a33 ?_
   rw[Around.under_plainId a10 _]
   show wpAny _ A.in1 (pyNext (.ref I)>>=_) _ _ s
   refine wpAny_bind (W.done s _ _ hst fun h' tk' hm=> ?_)
   rw[<-hl,List.take_length]at hD
   exact wpAny_pure (hR h' tk' (fun b o _ hb e=>hm b o hb e) (by obtain⟨o,es,ep,ho,r⟩:=hD;exact⟨o,es,ep,hm d o hdw ho,r⟩))
 |succ k ih=>
   intro i s tk hk hi hst hps hD hR
   have hlt:i<n:=by omega
   refine codeAny_builtin a33 ?_
   rw[Around.under_plainId a10 _]
   show wpAny _ A.in1 (pyNext (.ref I)>>=_) _ _ s
   refine wpAny_bind (W.item i s _ _ hlt hst fun v h' tk' hP hst' hm=> ?_)
   obtain⟨p,hp⟩: ∃p,ps[i]? =some p:=⟨ps[i]'(by omega),List.getElem?_eq_getElem (by omega)⟩
   obtain⟨t,key,o,rfl,ht1,ht2,ht3,ht4,⟨m,ht5⟩,hkey⟩:=hps i v p hP hp
   have ht3':=hm t o ht2 ht3
   have hD':h'.DictOf knd d ((ps.take i).foldl (fun m p=>stored m p.1 p.2) []):=by obtain⟨o,es,ep,ho,r⟩:=hD;exact⟨o,es,ep,hm d o hdw ho,r⟩
   dsimp only
   refine wpAny_bind (wpAny_holding (wpAny_bind (wpAny_tryCatch ?_)))
   unfold Builtin.Dict.pairItems
   refine wpAny_bind (wpAny_typeOf (T:="tuple") ⟨o,ht3',ht4⟩ ?_)
   rw[if_pos (by decide)]
   refine wpAny_bind (wpAny_seqItems ht3' ht5 (wpAny_pure ?_))
   have hsl:(1000:Nat)<=sizeLine:=by decide
   have hls:=hlen i
   refine wpAny_holding (wpAny_dictSet_pairs hkey hD' (fun h2 hD2 hs2=> ?_) (by omega))
   have e:stored ((ps.take i).foldl (fun m p=>stored m p.1 p.2) []) p.1 p.2=(ps.take (i+1)).foldl (fun m p=>stored m p.1 p.2) []:=by
     rw[List.take_succ,hp,List.foldl_append];rfl
   rw[e]at hD2
   refine wpAny_pure ⟨plainId_quiet a10 _,ih (i+1) _ 0 (by omega) hlt (W.frame _ _ _ hst' fun b hb o' e'=> ?_) (fun j v q hPj hq=> ?_) hD2 fun h3 tk3 hk3 hD3=> ?_⟩
   . exact(hs2.2 b (fun z=>hd (z▸hb))).trans e'
   . obtain⟨t',key',o2,rfl,g1,g2,g3,g4⟩:=hps j v q hPj hq
     exact⟨t',key',o2,rfl,g1,g2,(hs2.2 t' g1).trans (hm t' o2 g2 g3),g4⟩
   . exact hR h3 tk3 (fun b o' hb1 hb2 e'=>hk3 b o' hb1 hb2 ((hs2.2 b hb1).trans (hm b o' hb2 e'))) hD3
end
section
variable {prog:Program}{w:World}{K:Type}[DecidableEq K]{knd:KeyKind prog w K}{A:Around}{E:Value->Shared->Prop}{s:Shared}
theorem a67{l:Addr}{o:Obj}{items:Array Value}{m:Nat}{Q:Value->Shared->Prop}(hA:A.handled=none)(hl:s.heap.get? l=some o)(hc:o.cls= .type "list")(hdat:o.data= .seq items m)(hdn:o.dict=none)(ps:List (K×Value))(hlen:ps.length=items.size)(hn:items.size<=1000)
   (hps: ∀(j:Nat) (v:Value) (p:K×Value),items[j]? =some v->ps[j]? =some p-> ∃t key o,v= .ref t/\s.heap.get? t=some o/\o.cls= .type "tuple"/\(∃n,o.data= .seq #[key,p.2] n)/\knd.is p.1 key=true)
   (h: ∀h' tk,(∀b ob,s.heap.get? b=some ob->h'.get? b=some ob)->h'.DictOf knd s.heap.objs.size (ps.foldl (fun m p=>stored m p.1 p.2) [])->Q (.ref s.heap.objs.size) {s with heap:=h',toks:=tk}):
   wpAny (model prog w) A (call (.type "dict") [.ref l]) Q E s:=by
 refine callType_codes (Q₁:=fun obj s₁=>obj= .ref s.heap.objs.size/\s₁={s with heap:=s.heap.push {cls:= .type "dict",data:= .dict #[]}}) F.kt_called_dict (F.kt_typeCall_dict_1 _) F.entry_dict_init (kt_code_dict_new _ ⟨rfl,rfl⟩) ?_
 rintro obj s₁ ⟨rfl,rfl⟩
 have hnew:(s.heap.push {cls:= .type "dict",data:= .dict #[]}).DictOf knd s.heap.objs.size []:=Heap.DictOf.new s.heap
 have hl1:=Heap.get?_push_of_some {cls:= .type "dict",data:= .dict #[]} hl
 refine⟨hnew.typeIs,F.args_dict_init_2 _ _,?_⟩
 unfold Builtin.«dict.__init__»
 refine wpAny_bind ?_
 unfold Builtin.Dict.selfAndRest
 refine wpAny_bind (wpAny_notOrdered_dict hnew.typeIs ?_)
 show wpAny _ _ (pure (s.heap.objs.size,[Value.ref l])) _ _ _
 refine wpAny_pure ?_
 show wpAny _ _ (Builtin.Dict.updateFrom "dict.__init__" s.heap.objs.size (.ref l) [] .none) _ _ _
 unfold Builtin.Dict.updateFrom
 refine wpAny_bind (wpAny_typeOf (T:="list") ⟨o,hl1,hc⟩ ?_)
 rw[if_pos (by decide)]
 refine wpAny_bind (a4x hl1 hc hdat hdn b5x (by decide+kernel) hA fun h2 tk2 hk2=> ?_)
 rw[if_pos (show(none:Option Value).isNone=true from rfl)]
 have hl2:=hk2 _ _ hl1
 have hD2:h2.DictOf knd s.heap.objs.size []:=by obtain⟨o,es,ep,ho,r⟩:=hnew;exact⟨o,es,ep,hk2 _ _ ho,r⟩
 have hlt:l<s.heap.objs.size:=Heap.lt_size hl
 have hsz:s.heap.objs.size<h2.objs.size:=by obtain⟨o,es,ep,ho,r⟩:=hD2;exact Heap.lt_size ho
 refine wpAny_bind (wpAny_rule (wpAny_bind (wpAny_pyIter_list (items:=items) ⟨o,hl2,hc,m,hdat⟩ ?_)))
 refine wpAny_pure ⟨plainId_quiet a10 _,?_⟩
 have hIl: ∀b,b<h2.objs.size->b≠h2.objs.size:=fun b hb=>Nat.ne_of_lt hb
 have hne:l≠h2.objs.size:=hIl l (Heap.lt_size hl2)
 have hdf:s.heap.objs.size∉[h2.objs.size,l]:=by
   simp only[List.mem_cons,List.not_mem_nil,or_false,not_or]
   exact⟨Nat.ne_of_lt hsz,Nat.ne_of_gt hlt⟩
 refine a54 (knd:=knd) (Walks.list (A:=A.in1.in1) hA h2.objs.size l hne items) s.heap.objs.size hdf ps hlen hn items.size 0 _ 0 (by omega) (Nat.zero_le _) ⟨⟨_,Heap.get?_push_size _ rfl,rfl,rfl⟩,o,Heap.get?_push_of_some _ hl2,hc,m,hdat⟩ (fun j v p hP hp=> ?_) (by
     obtain⟨o,es,ep,ho,r⟩:=hD2
     exact⟨o,es,ep,Heap.get?_push_of_some _ ho,r⟩) fun h3 tk3 hk3 hD3=>⟨rfl,h h3 tk3 (fun b ob e=> ?_) hD3⟩
 . obtain⟨t,key,ot,rfl,g1,g2⟩:=hps j v p hP hp
   have g3:=hk2 _ _ (Heap.get?_push_of_some {cls:= .type "dict",data:= .dict #[]} g1)
   exact⟨t,key,ot,rfl,Nat.ne_of_lt (Heap.lt_size g1),by simp only[List.mem_singleton];exact hIl t (Heap.lt_size g3),Heap.get?_push_of_some _ g3,g2⟩
 . have e2:=hk2 _ _ (Heap.get?_push_of_some {cls:= .type "dict",data:= .dict #[]} e)
   exact hk3 b ob (Nat.ne_of_lt (Heap.lt_size e)) (by simp only[List.mem_singleton];exact hIl b (Heap.lt_size e2)) (Heap.get?_push_of_some _ e2)
end
end PySem
namespace L2
open PySem PySem.Spec PySem.Calls PyProof.Rows
theorem a60{κ:Type}[DecidableEq κ]: ∀(ps m:List (κ×Value)),((m++ps).map (·.1)).Nodup->ps.foldl (fun m p=>stored m p.1 p.2) m=m++ps
 | [],m,_=>by simp
 |p::ps,m,h=>by
   have h1:stored m p.1 p.2=m++[p]:=by
     refine stored_absent ?_ _
     have hn:p.1∉m.map (·.1):=fun z=>by
       rw[List.map_append,List.map_cons,List.nodup_append]at h
       exact h.2.2 _ z _ List.mem_cons_self rfl
     unfold valueAt
     rw[List.find?_eq_none.mpr fun x hx=>by
       have:x.1≠p.1:=fun e=>hn (by rw[<-e];exact List.mem_map.mpr ⟨x,hx,rfl⟩)
       simp[this]]
     rfl
   rw[List.foldl_cons,h1,a60 ps (m++[p]) (by simpa using h)]
   simp
section
variable {X:Cx}
def Prs'(H:Hp):List V->List (Key×V)->Prop:=Paired fun v p=> ∃t,v= .ref t/\H t=some (.tup [kV p.1,p.2])
def rDictOf:List V->Hp->VK->Prop:=fun xs H Q=> ∃a vs ps,xs=[.ref a]/\H a=some (.lst vs)/\vs.length<=1000/\Prs' H vs ps/\(ps.map (·.1)).Nodup/\ ∀p,H p=none->Q (.ref p) (upd H p (.dK ps))
theorem prs_len{H:Hp}{vs:List V}{ps:List (Key×V)}(h:Prs' H vs ps):vs.length=ps.length:=by
 induction h with
 |nil=>rfl
 |cons _ _ ih=>simp[ih]
theorem prs_rel{pins:List (Addr×Obj)}{σ:St}{H:Hp}{s:Shared}(I:Inv X pins σ H s){vs:List V}{ps:List (Key×V)}(h:Prs' H vs ps): ∀{its:List Value},Vals vs its->
   ∃ws:List (Key×Value),KV ps ws/\ ∀(j:Nat) (v:Value) (p:Key×Value),its[j]? =some v->ws[j]? =some p-> ∃t key o,v= .ref t/\s.heap.get? t=some o/\o.cls= .type "tuple"/\(∃n,o.data= .seq #[key,p.2] n)/\(a0z X.prog X.w).is p.1 key=true:=by
 induction h with
 |nil=>intro its _;exact⟨[],.nil,fun j v p _ h=>by simp at h⟩
 |cons hd _ ih=>
   intro its r
   cases r with
   |cons r1 r2=>
     obtain⟨ws,k1,k2⟩:=ih r2
     obtain⟨t,rfl,ht⟩:=hd
     cases r1
     obtain⟨_,us,ru,o,ho,hc,n,hdat⟩:=I.hok t _ ht
     obtain⟨key,x,rfl,rk,rv⟩:=vals2 ru
     refine⟨(_,x)::ws,.cons ⟨rfl,rv⟩ k1,fun j v p hj hp=> ?_⟩
     cases j with
     |zero=>
       simp only[List.getElem?_cons_zero,Option.some.injEq]at hj hp
       subst hj hp
       exact⟨t,key,o,rfl,ho,hc,⟨n,hdat⟩,a80 rk⟩
     |succ j=>exact k2 j v p (by simpa using hj) (by simpa using hp)
theorem kv_keys{ps:List (Key×V)}{ws:List (Key×Value)}(kv:KV ps ws):ps.map (·.1)=ws.map (·.1):=by
 induction kv with
 |nil=>rfl
 |cons h _ ih=>simp only[List.map_cons,h.1,ih]
theorem a5z(hc:X.calm=true):CallR X (.type "dict") rDictOf:=by
 intro pins s σ H xs us Q I r h
 obtain⟨a,vs,ps,rfl,ha,hn,hp,nd,q⟩:=h
 obtain⟨u,rfl,rx⟩:=b3y r
 cases rx
 obtain⟨hz,its,n,rv,hg⟩:=I.hok a _ ha
 obtain⟨ws,kv,hps⟩:=prs_rel I hp rv
 have hl1:=rv.length
 have hl2:=prs_len hp
 have hl3:=kv.length
 have ek:=kv_keys kv
 refine a67 (knd:=a0z X.prog X.w) (I.ok.hd hc) hg rfl rfl rfl ws (by simp;omega) (by simp;omega) (fun j v p hj hp=>hps j v p (by simpa using hj) hp) fun h' tk hk hD=> ?_
 rw[a60 ws [] (by rw[List.nil_append,<-ek];exact nd),List.nil_append]at hD
 refine⟨.ref s.heap.objs.size,_,I.laid (t':=tk) (o:= .dK ps) hk (Nat.le_refl _) (b2y (by omega) (beq_eq_false_iff_ne.mpr (Ne.symm (Nat.ne_of_lt I.big))) kv hD),rfl,q _ (I.hok.fresh (Nat.le_refl _))⟩
end
noncomputable def a7w:List D->Option (List (Key×D))
 | []=>some []
 | .tup [k,v]::r=>(match keyD k,a7w r with |some k',some r'=>some ((k',v)::r') |_,_=>none)
 |_=>none
theorem b19{K:PySem.W.Frag}{F:Hp}{M:Mem}{H:Hp}(m:AM K F M H): ∀{ds:List D}{vs:List V}{kvs:List (Key×D)},RDs K F vs ds->a7w ds=some kvs-> ∃ps,Prs' H vs ps/\PF K F ps kvs
 | [],_,_,.nil,h=>by cases h;exact⟨[],.nil,.nil⟩
 |d::ds,_,kvs,.cons r1 r2,h=>by
   unfold a7w at h
   split at h
   . rename_i heq;cases heq
   . rename_i k v r heq
     cases heq
     split at h
     . rename_i k' r' hk hr
       cases h
       obtain⟨ps,h1,h2⟩:=b19 m r2 hr
       cases r1 with
       |tup e rr=>
         obtain⟨x,y,rfl,rx,ry⟩:=rr.two'
         have ek:=a5v rx hk
         subst ek
         exact⟨(k',y)::ps,.cons ⟨_,rfl,m.sub _ _ e⟩ h1,.cons ⟨rfl,ry⟩ h2⟩
     . cases h
   . cases h
noncomputable def oDictOf:A1s:=fun ds M Q=>match ds with
 | [d]=>opt (dl M d) fun xs=>xs.length<=1000/\opt (a7w xs) fun kvs=>(kvs.map (·.1)).Nodup/\ ∀p,M p=none->Q (.obj p) (put M p (.dic kvs))
 |_=>False
theorem pf_keys{K:PySem.W.Frag}{F:Hp}{ps:List (Key×V)}{kvs:List (Key×D)}(h:PF K F ps kvs):ps.map (·.1)=kvs.map (·.1):=by
 induction h with
 |nil=>rfl
 |cons h _ ih=>simp only[List.map_cons,h.1,ih]
theorem b5t{K:PySem.W.Frag}:LC K rDictOf oDictOf:=by
 intro F M H xs ds Q R m r h k
 unfold oDictOf at h
 split at h
 . obtain⟨x,rfl,rx⟩:=r.one'
   obtain⟨es,hd,hn,h⟩:=a1z h
   obtain⟨kvs,hp,nd,h⟩:=a1z h
   obtain⟨p,vs,rfl,e,rr⟩:=a96 m rx hd
   obtain⟨ps,h1,h2⟩:=b19 m rr hp
   exact⟨p,vs,ps,rfl,e,by rw[rr.length];exact hn,h1,by rw[pf_keys h2];exact nd,fun l hl=>k _ _ ⟨.obj l,F,_,.refl F,m.new (o:= .dic kvs) hl h2,.obj l,h l (m.fM hl)⟩⟩
 . exact h.elim
section
variable {X:Cx}{pins:List (Addr×Obj)}{σ:St}{H:Hp}{s:Shared}
theorem Inv.still{d:Addr}{kvs:List (Key×V)}{o:Obj}(I:Inv X pins σ H s)(hd:H d=some (.dK kvs))(ho:s.heap.get? d=some o):Inv X pins σ (upd H d (.frz o (.dK kvs))) s:=by
 have key: ∀b u,H b=some u->(∀ws,u≠ .dK ws)->upd H d (.frz o (.dK kvs)) b=some u:=fun b u e n=>by
   rw[a0p (by rintro rfl;rw[hd]at e;cases e;exact n _ rfl)];exact e
 have nn: ∀b,H b=none->upd H d (.frz o (.dK kvs)) b=none:=fun b e=>by
   rw[a0p (by rintro rfl;rw[hd]at e;cases e)];exact e
 refine⟨I.ok,I.os,I.bare,⟨I.base.keep,I.base.slot,fun c oc e n hx=>nn c (I.base.free c oc e n hx),I.base.there,fun c xs e=>key c _ (I.base.tups c xs e) (fun _ z=>by cases z),fun c oc u e=>key c _ (I.base.frzs c oc u e) (fun _ z=>by cases z),fun c ps e=> ?_⟩,I.loc,I.cell,nn _ I.free,fun x c e=>nn _ (I.freeC x c e),fun p hp=> ?_,fun c u q=> ?_,I.len⟩
 . obtain⟨m1,e'⟩:=I.base.tbls c ps e
   exact⟨m1,key c _ e' (fun _ z=>by cases z)⟩
 . obtain⟨e,n,n1,n2,dd⟩:=I.pin p hp
   exact⟨e,nn _ n,n1,n2,dd⟩
 . have st: ∀{b:Addr}{u:HO},ObjOk X.prog X.w H s.heap b u->ObjOk X.prog X.w (upd H d (.frz o (.dK kvs))) s.heap b u:=fun x=>x.stay (fun _ _ _ r=>r) (fun c' r=>key c' _ r (fun _ z=>by cases z)) fun c' xs r=>key c' _ r (fun _ z=>by cases z)
   by_cases hc:c=d
   . subst hc
     rw[a0u]at q
     cases q
     exact⟨ho,st (I.hok c _ hd)⟩
   . rw[a0p hc]at q
     exact st (I.hok c u q)
noncomputable def ItdI(d:Addr)(o:Obj)(kvs:List (Key×V)):It:=⟨fun i H=>i<kvs.length/\H d=some (.frz o (.dK kvs)),fun i H x H'=> ∃T k v,H T=none/\kvs[i]? =some (k,v)/\x= .ref T/\H'=upd H T (.tup [kV k,v]),fun i H=>i=kvs.length/\H d=some (.frz o (.dK kvs))⟩
noncomputable def ItdV(d:Addr)(o:Obj)(kvs:List (Key×V)):It:=⟨fun i H=>i<kvs.length/\H d=some (.frz o (.dK kvs)),fun i H x H'=>H'=H/\ ∃k,kvs[i]? =some (k,x),fun i H=>i=kvs.length/\H d=some (.frz o (.dK kvs))⟩
theorem kv_at{kvs:List (Key×V)}{ws:List (Key×Value)}(r:KV kvs ws){i:Nat}(h:i<kvs.length): ∃k v u,kvs[i]? =some (k,v)/\ws[i]? =some (k,u)/\RelV v u:=by
 have hw:i<ws.length:=by rw[<-r.length];exact h
 obtain⟨v,e,rv⟩:=r.at (j:=i) (k:=ws[i].1) (u:=ws[i].2) (List.getElem?_eq_getElem hw)
 exact⟨_,v,_,e,List.getElem?_eq_getElem hw,rv⟩
theorem b3z{P:Program}{w:World}{K:PySem.W.Frag}{tg:Expr}{it d:Addr}{o:Obj}{kvs:List (Key×V)}{ws:List (Key×Value)}{ep:Nat}(rel:KV kvs ws)(hat: ∀h:Heap,h.get? d=some o->h.DictAt (a0z P w) d ws ep):
   Turn P w K tg (ItdV d o kvs) [it] it (fun i h=>h.IsValIter it d i ws.length ep) where
 mem:=by simp
 obj:=fun i h st b hb=>by
   have e:b=it:=by simpa using hb
   subst e
   obtain⟨o',e,_,dt⟩:=st
   exact⟨o',e,fun v z=>by rw[dt]at z;cases z⟩
 keep:=fun i h h' st k=>st.at fun o e=>k it (by simp) o e
 item:=by
   intro X hP hw hK hc i pins s σ H E I hf st hg
   subst hP hw hK
   obtain⟨f0,f1,f2,f3,f4,f5⟩:=hf it (by simp)
   obtain⟨hi,hd⟩:=hg
   obtain⟨k,v,u,e1,e2,rv⟩:=kv_at rel hi
   refine wpAny_pyNext_values_item st (hat _ (I.hok d _ hd).1) e2 fun h' st' hs'=> ?_
   have I1:Inv X pins σ H {s with heap:=h',toks:=s.toks}:=I.turned (fun b o hb e=>(hs'.2 b hb).trans e) f0 f1 f3 f4 f5
   obtain⟨oi,g,c,dt⟩:=id st'
   exact⟨u,rfl,b8b (s:={s with heap:=h'}) g c dt (by decide) ⟨v,H,I1,rv,⟨rfl,k,e1⟩,st',fun b hb=>(hf b hb).1⟩⟩
 done:=by
   intro X hP hw hK hc i pins s σ H E I hf st hg
   subst hP hw hK
   obtain⟨f0,f1,f2,f3,f4,f5⟩:=hf it (by simp)
   obtain⟨hi,hd⟩:=hg
   refine wpAny_pyNext_values_end (I.ok.hd hc) st (hat _ (I.hok d _ hd).1) (by rw[hi,rel.length];simp) fun h' he'=>⟨rfl,?_⟩
   exact I.turned (t':=s.toks) (fun b o hb e=>he' b o hb e) f0 f1 f3 f4 f5
 self:=fun A i s Q E st q=>wpAny_pyIter_valiter st q
theorem b28{P:Program}{w:World}{K:PySem.W.Frag}{elts:List Expr}{kk:Nat}{pos:Pos}{it d:Addr}{o:Obj}{kvs:List (Key×V)}{ws:List (Key×Value)}{ep:Nat}(rel:KV kvs ws)(hat: ∀h:Heap,h.get? d=some o->h.DictAt (a0z P w) d ws ep):
   Turn P w K (.Tuple elts kk pos) (ItdI d o kvs) [it] it (fun i h=> ∃ok ov,IsItemIter h it d i ws.length ep ok ov) where
 mem:=by simp
 obj:=fun i h st b hb=>by
   have e:b=it:=by simpa using hb
   subst e
   obtain⟨ok,ov,e⟩:=st
   exact⟨_,e,fun v z=>by cases z⟩
 keep:=fun i h h' st k=>by
   obtain⟨ok,ov,e⟩:=st
   exact⟨ok,ov,k it (by simp) _ e⟩
 item:=by
   intro X hP hw hK hc i pins s σ H E I hf st hg
   subst hP hw hK
   obtain⟨f0,f1,f2,f3,f4,f5⟩:=hf it (by simp)
   obtain⟨hi,hd⟩:=hg
   obtain⟨k,v,u,e1,e2,rv⟩:=kv_at rel hi
   obtain⟨ok,ov,st⟩:=st
   refine wpAny_pyNext_items_item st (hat _ (I.hok d _ hd).1) e2 fun key h' hk ho hT hsz hkeep=> ?_
   refine⟨.ref s.heap.objs.size,rfl,wpAny_letOwnedTupleGo_items ho fun h2 st2 hs2=> ?_⟩
   have hTi:s.heap.objs.size≠it:=Nat.ne_of_gt (Heap.lt_size st)
   have I1:Inv X pins σ H {s with heap:=h2,toks:=s.toks}:=I.turned (fun b o hb e=>(hs2.2 b hb).trans (hkeep b o hb e)) f0 f1 f3 f4 f5
   have hT2:h2.get? s.heap.objs.size=some {cls:= .type "tuple",data:= .seq #[key,u]}:=(hs2.2 _ hTi).trans hT
   have hnone:H s.heap.objs.size=none:=I.hok.fresh (Nat.le_refl _)
   have fp:FpOk X pins H s.heap.objs.size:=I.fpOk (Nat.le_refl _) hnone
   have rk:RelV (kV k) key:=by
     rcases a07 hk with⟨i,t,rfl,rfl⟩ | ⟨x,t,rfl,rfl⟩
     . exact⟨t,rfl⟩
     . exact⟨t,rfl⟩
   refine⟨.ref s.heap.objs.size,upd H s.heap.objs.size (.tup [kV k,v]),I1.adopt fp I.sz ⟨by show 2<=sizeLine;decide,[key,u],.cons rk (.cons rv .nil),_,hT2,rfl,_,rfl⟩,rfl,⟨_,k,v,hnone,e1,rfl,rfl⟩,⟨_,_,st2⟩,fun b hb=> ?_⟩
   have e:b=it:=by simpa using hb
   subst e
   rw[a0p (Ne.symm hTi)];exact f0
 done:=by
   intro X hP hw hK hc i pins s σ H E I hf st hg
   subst hP hw hK
   obtain⟨f0,f1,f2,f3,f4,f5⟩:=hf it (by simp)
   obtain⟨hi,hd⟩:=hg
   obtain⟨ok,ov,st⟩:=st
   refine wpAny_pyNext_items_end (I.ok.hd hc) st (hat _ (I.hok d _ hd).1) (by rw[hi,rel.length];simp) fun h' he'=>⟨rfl,?_⟩
   exact I.turned (t':=s.toks) (fun b o hb e=>he' b o hb e) f0 f1 f3 f4 f5
 self:=by
   intro A i s Q E st q
   obtain⟨ok,ov,st⟩:=st
   exact PySem.W.kcp_self st q
end
section
variable {X:Cx}{tg o:Expr}{apos cpos:Pos}{tl:TE}
def iVals(K:PySem.W.Frag)(tl:TE):TI:=fun σ H R=>tBM0 K "dict" (b4n "dict_values") tl σ H fun v H2=> ∃d kvs vw,v= .ref vw/\H2 vw=some (.ext (viewφ "dict_values" vw d))/\H2 d=some (.dK kvs)/\ ∀o,R (ItdV d o kvs) (upd H2 d (.frz o (.dK kvs)))
def iItms(K:PySem.W.Frag)(tl:TE):TI:=fun σ H R=>tBM0 K "dict" (b4n "dict_items") tl σ H fun v H2=> ∃d kvs vw,v= .ref vw/\H2 vw=some (.ext (viewφ "dict_items" vw d))/\H2 d=some (.dK kvs)/\ ∀o,R (ItdI d o kvs) (upd H2 d (.frz o (.dK kvs)))
theorem pi_vals(ho:PE X o tl)(hbase:attributeBase o "values" X.env (eval o X.env)=eval o X.env:=by rfl)(hline:(apos.endLine==cpos.line)=true:=by rfl):PI X tg (.Call (.Attribute o "values" apos) [] [] cpos) (iVals X.K tl):=by
 intro pins s σ H R I h
 refine thn (a7v PySem.F.plainAttrs_dict PySem.F.slot_dict_values PySem.F.type_dict_values a9t ho hbase hline pins s σ H _ I h) fun v s1 zz9=> ?_
 obtain⟨x,H1,I1,r1,d,kvs,vw,e,hv,hd,q⟩:=zz9
 subst e
 cases r1
 have hvw:s1.heap.get? vw=some {cls:= .type "dict_values",data:= .fields #[.ref d]}:=(I1.hok vw _ hv).1
 obtain⟨hz,lo,ws,rel,hD⟩:=b6o I1.hok hd
 obtain⟨ep,hat⟩:=hD.dictAt
 obtain⟨ob,es,hob,rest⟩:=id hat
 refine wpAny_pyIter_values ⟨_,hvw,rfl,rfl⟩ hat ?_
 have I2:=I1.still hd hob
 refine⟨s1.heap.objs.size,[s1.heap.objs.size],_,_,_,rfl,I2.kept (t':=s1.toks) fun b o e=>Heap.get?_push_of_some _ e,b3z rel (fun h e=>⟨ob,es,e,rest⟩),⟨_,Heap.get?_push_size _ rfl,rfl,rfl⟩,fun b hb=> ?_,q ob⟩
 have e:b=s1.heap.objs.size:=by simpa using hb
 subst e
 exact I2.fpOk (Nat.le_refl _) (I2.hok.fresh (Nat.le_refl _))
theorem pi_itms{elts:List Expr}{kk:Nat}{tpos:Pos}(ho:PE X o tl)(hbase:attributeBase o "items" X.env (eval o X.env)=eval o X.env:=by rfl)(hline:(apos.endLine==cpos.line)=true:=by rfl):PI X (.Tuple elts kk tpos) (.Call (.Attribute o "items" apos) [] [] cpos) (iItms X.K tl):=by
 intro pins s σ H R I h
 refine thn (a7v PySem.F.plainAttrs_dict PySem.F.slot_dict_items PySem.F.type_dict_items b2i ho hbase hline pins s σ H _ I h) fun v s1 zz9=> ?_
 obtain⟨x,H1,I1,r1,d,kvs,vw,e,hv,hd,q⟩:=zz9
 subst e
 cases r1
 have hvw:s1.heap.get? vw=some {cls:= .type "dict_items",data:= .fields #[.ref d]}:=(I1.hok vw _ hv).1
 obtain⟨hz,lo,ws,rel,hD⟩:=b6o I1.hok hd
 obtain⟨ep,hat⟩:=hD.dictAt
 obtain⟨ob,es,hob,rest⟩:=id hat
 refine wpAny_pyIter_items ⟨_,hvw,rfl,rfl⟩ hat ?_
 have I2:=I1.still hd hob
 refine⟨s1.heap.objs.size,[s1.heap.objs.size],_,_,_,rfl,I2.kept (t':=s1.toks) fun b o e=>Heap.get?_push_of_some _ e,b28 rel (fun h e=>⟨ob,es,e,rest⟩),⟨_,_,Heap.get?_push_size _ rfl⟩,fun b hb=> ?_,q ob⟩
 have e:b=s1.heap.objs.size:=by simpa using hb
 subst e
 exact I2.fpOk (Nat.le_refl _) (I2.hok.fresh (Nat.le_refl _))
end
theorem AM.fix{K:PySem.W.Frag}{F:Hp}{M:Mem}{H:Hp}{p:Addr}{o:MO}{u:HO}(m:AM K F M H)(hp:M p=some o):Same F (upd F p u)/\AM K (upd F p u) (del M p) (upd H p u):=by
 have hs:Same F (upd F p u):=a1i (m.dj p o hp)
 refine⟨hs,fun b x e=> ?_,fun b x e=> ?_,fun b x e=> ?_⟩
 . by_cases hb:b=p
   . subst hb;rw[a0u]at e |-;exact e
   . rw[a0p hb]at e |-;exact m.sub b x e
 . have hb:b≠p:=by rintro rfl;rw[a6f]at e;cases e
   rw[a63 hb]at e
   rw[a0p hb];exact m.dj b x e
 . have hb:b≠p:=by rintro rfl;rw[a6f]at e;cases e
   rw[a63 hb]at e
   obtain⟨y,e1,r1⟩:=m.mem b x e
   exact⟨y,by rw[a0p hb];exact e1,r1.up hs⟩
section
variable {X:Cx}{F0:Hp}{tg o:Expr}{td:AE}{apos cpos:Pos}
noncomputable def valAt(kvs:List (Key×D))(i:Nat):D:=match kvs[i]? with |some kv=>kv.2 |none=> .non
noncomputable def itemAt(kvs:List (Key×D))(i:Nat):D:=match kvs[i]? with |some kv=> .tup [keyOf kv.1,kv.2] |none=> .non
def iaV(td:AE):AI:=fun Γ M Q=>td Γ M fun x M1=>match x with
 | .obj p=>(match M1 p with |some (.dic kvs)=>Q ⟨kvs.length,valAt kvs,fun _=>True⟩ (del M1 p) |_=>False)
 |_=>False
theorem pf_at{K:PySem.W.Frag}{F:Hp}{ws:List (Key×V)}{kvs:List (Key×D)}(h:PF K F ws kvs): ∀{i:Nat}{k:Key}{v:V},ws[i]? =some (k,v)-> ∃d,kvs[i]? =some (k,d)/\RD K F v d:=by
 induction h with
 |nil=>intro i k v e;simp at e
 |cons h1 _ ih=>
   intro i k v e
   cases i with
   |zero=>
     simp only[List.getElem?_cons_zero,Option.some.injEq]at e
     rename_i p q _ _ _
     subst e
     exact⟨q.2,by simp only[List.getElem?_cons_zero,Option.some.injEq];exact Prod.ext h1.1.symm rfl,h1.2⟩
   |succ i=>exact ih (by simpa using e)
theorem key_of'{K:PySem.W.Frag}{F:Hp}(k:Key):RD K F (kV k) (keyOf k):=by
 cases k
 . exact .int _
 . exact .str _
theorem iValues(ho:PEA X F0 o td)(hbase:attributeBase o "values" X.env (eval o X.env)=eval o X.env:=by rfl)(hline:(apos.endLine==cpos.line)=true:=by rfl):PIA X F0 tg (.Call (.Attribute o "values" apos) [] [] cpos) (iaV td):=by
 refine⟨?_⟩
 intro F Γ M σ H Q f0 g m h
 refine(pi_vals a0n hbase hline).to ((ho.run F Γ M σ H _ f0 g m h).mono fun v H1 zz9=> ?_)
 obtain⟨d,F1,M1,s1,m1,r1,q1⟩:=zz9
 obtain⟨p,rfl⟩: ∃p,d= .obj p:=by
   cases d<;>first |exact q1.elim |exact⟨_,rfl⟩
 cases r1
 try dsimp only at q1
 split at q1
 . rename_i kvs hp
   obtain⟨u,e1,ro⟩:=m1.mem _ _ hp
   obtain⟨ws,rfl,pf⟩:=ro.isD
   refine⟨.inr (.inr (.inl ⟨rfl,.inl ⟨ws,e1⟩⟩)),p,ws,rfl,rfl,.inl e1,fun vw hvw=>⟨p,ws,vw,rfl,a0u,?_,fun ob=> ?_⟩⟩
   . rw[a0p (fun z=>by rw[z,hvw]at e1;cases e1)];exact e1
   . obtain⟨s2,m2⟩:=(m1.more (u:= .ext (viewφ "dict_values" vw p)) hvw).fix (u:= .frz ob (.dK ws)) hp
     have hl:=pf.length
     refine⟨_,_,_,s1.trans s2,m2,⟨fun i F' M' H' s' m' _ hi=>⟨by rw[hl];exact hi,m'.sub _ _ (s' _ _ a0u)⟩,fun i F' M' H' x H'' s' m' _ hi y=> ?_,fun F' M' H' s' m' _=>⟨hl.symm,m'.sub _ _ (s' _ _ a0u)⟩⟩,q1⟩
     obtain⟨rfl,k,e⟩:=y
     obtain⟨d,e2,rd⟩:=pf_at pf e
     refine⟨F',.refl _,m',?_⟩
     show RD X.K F' x (valAt kvs i)
     unfold valAt
     rw[e2]
     exact rd.up (s2.trans s')
 . exact q1.elim
end
structure FunD(K:PySem.W.Frag)(x qual:Str)(st:Stmt)(f:Addr)(fd:FuncData):Prop where
 ex: ∃(oc:Value) (od:Option Addr) (dv:Addr) (kV doc pm:Value) (an:Option Addr) (cdv ct:Value) (osl:Array (Option Value)),
   fd=PySem.W.fnOf x qual (a09 st) (a02 st) (a0f st) (.ref dv) kV doc pm an cdv ct/\K.lookup f=some ⟨oc,od,.func fd,osl⟩/\PySem.W.codeIn K cdv qual=true/\ ∃oc2 od2 n2 osl2,K.lookup dv=some ⟨oc2,od2,.seq #[.none] n2,osl2⟩
theorem b6g{K:PySem.W.Frag}{x qual:Str}{st:Stmt}{f dv:Addr}{oc oc2:Value}{od an od2:Option Addr}{osl osl2:Array (Option Value)}{kV doc pm cdv ct:Value}{n2:Nat}(l:K.lookup f=some ⟨oc,od,.func (PySem.W.fnOf x qual (a09 st) (a02 st) (a0f st) (.ref dv) kV doc pm an cdv ct),osl⟩)
   (c:PySem.W.codeIn K cdv qual=true) (d:K.lookup dv=some ⟨oc2,od2,.seq #[.none] n2,osl2⟩):FunD K x qual st f (PySem.W.fnOf x qual (a09 st) (a02 st) (a0f st) (.ref dv) kV doc pm an cdv ct):=
 ⟨oc,od,dv,kV,doc,pm,an,cdv,ct,osl,rfl,l,c,oc2,od2,n2,osl2,d⟩
theorem FunD.okX{P:Program}{w:World}{K:PySem.W.Frag}{mg:Str->Option Value}{base:Heap}{x qual:Str}{st:Stmt}{f:Addr}{fd:FuncData}{N ps:List Str}{k:Nat}{sp:Sp}(F:FunD K x qual st f fd)(S:FnScope N ps (a0f st))(len: ∀vs H Q E,sp vs H Q E->vs.length=ps.length)
   (hbody: ∀(cdv:Value) (A:Around) (outer:List Env) (s:Shared) (H:Hp) (vs:List V) (Q:VK) (E:XK),Room k (A.deeper (envOfC qual (a0f st) s.heap.objs.size f cdv))->sp vs H Q E->
     ∃t,PSs ((cxOf (CXE P w) P w K mg base N qual (a0f st) f cdv A outer s H E).by (rE E)) (a02 st) t/\t {nx:=fun _ H'=>Q .non H',rt:=Q} (start N vs) H):FnOk P w K mg base (CXE P w) (k+1) f fd ps sp:=by
 obtain⟨oc,od,dv,kV,doc,pm,an,cdv,ct,osl,rfl,lk,hcd,_⟩:=F.ex
 refine fn_of lk hcd S len fun A outer s H vs Q E hr hsp=> ?_
 obtain⟨t,h,q⟩:=hbody cdv A outer s H vs Q E hr hsp
 exact⟨t,h.unthr b2n,q⟩
theorem FunD.okA{P:Program}{w:World}{K:PySem.W.Frag}{mg:Str->Option Value}{base:Heap}{x qual:Str}{st:Stmt}{f:Addr}{fd:FuncData}{N ps:List Str}{k:Nat}{sa:SpA}(Fn:FunD K x qual st f fd)(S:FnScope N ps (a0f st))(len: ∀ds M Q E,sa ds M Q E->ds.length=ps.length)
   (hbody: ∀(cdv:Value) (A:Around) (outer:List Env) (s:Shared) (H:Hp) (E:XK) (F0:Hp) (ds:List D) (M:Mem) (Q:AK) (Ea:Value->Mem->Prop),Room k (A.deeper (envOfC qual (a0f st) s.heap.objs.size f cdv))->
     Cat ((cxOf (CXE P w) P w K mg base N qual (a0f st) f cdv A outer s H E).by (rE E)) F0 (fun _ M cls=>Ea cls M)->sa ds M Q Ea->
     ∃t,PSsA ((cxOf (CXE P w) P w K mg base N qual (a0f st) f cdv A outer s H E).by (rE E)) F0 (a02 st) t/\t {nx:=fun _ M'=>Rt Q .non M',rt:=Rt Q} (a7r N ds) M):FnOk P w K mg base (CXE P w) (k+1) f fd ps (a0m K sa):=by
 refine Fn.okX S (fun vs H Q E ⟨F,ds,M,Qa,Ea,m,r,h,_⟩=>by rw[r.length];exact len _ _ _ _ h) ?_
 intro cdv A outer s H vs Q E hr ⟨F,ds,M,Qa,Ea,m,r,h,hQ,hE⟩
 obtain⟨t,ht,q⟩:=hbody cdv A outer s H E F ds M Qa Ea hr (Cat.of hE hr.units) h
 refine⟨_,a2h,?_⟩
 refine(ht.run F _ M _ H _ (.refl F) (b1w r) m q).mono ⟨fun σ' H' ⟨F',Γ',M',s',g',m',q'⟩=> ?_,fun v H' z=> ?_,fun _ _ ⟨_,_,_,_,_,_,q'⟩=>q'.elim,fun _ _ ⟨_,_,_,_,_,_,q'⟩=>q'.elim⟩
 . exact hQ _ _ (PQ.rt ⟨.non,F',M',s',m',.non,q'⟩)
 . exact hQ _ _ (PQ.rt z)
structure HasD(P:Program)(w:World)(K:PySem.W.Frag)(mg:Str->Option Value)(base:Heap)(k:Nat)(x:Str)(ps:List Str)(sp:Sp):Prop where
 ex: ∃f fd,FnOk P w K mg base (CXE P w) k f fd ps sp/\mg x=some (.ref f)/\PySem.W.keepIn K (.ref f)=true/\Binds K fd ps []/\Binds K fd ps [.none]
theorem HasD.all{P:Program}{w:World}{K:PySem.W.Frag}{mg:Str->Option Value}{base:Heap}{k:Nat}{x:Str}{ps:List Str}{sp:Sp}(h:HasD P w K mg base k x ps sp):Has P w K mg base (CXE P w) k x ps sp:=by
 obtain⟨f,fd,h1,h2,h3,h4,_⟩:=h.ex
 exact⟨f,fd,h1,h2,h3,h4⟩
section
variable {X:Cx}{k:Nat}{f:Addr}{fd:FuncData}{ps:List Str}{sp:Sp}{R:RX}{x:Str}{p pos:Pos}{e:Expr}{es:List Expr}{t:TA}
theorem b7d{pins:List (Addr×Obj)}{σ:St}{H:Hp}{s:Shared}{Q:VK}{us:List Value}{vs:List V}(F:FnOk X.prog X.w X.K X.mg X.base (CXE X.prog X.w) k f fd ps sp)(hr:Room k X.A)(hb:Binds X.K fd ps [.none])(T:Thr X R)(Pl:Plain X)
   (I:Inv X pins σ H s) (r:Vals vs us) (h:sp (vs++[.non]) H Q (fun cls _ H'=> ∀a,R σ H' cls a)):wpAny (model X.prog X.w) X.A (call (.ref f) us) (EP X pins σ Q) X.xe s:=by
 have r2:Vals (vs++[.non]) (us++[.none]):=r.append (.cons rfl .nil)
 have hl:(us++[Value.none]).length=ps.length:=by rw[<-r2.length];exact F.len _ _ _ _ h
 refine wpAny_call (codeAny_mono (F.run X.A X.stack s H ⟨us,[]⟩ (us++[.none]) (vs++[.non]) Q _ hr I.env0 (hb s us I.kIn hl) r2 h) fun r s' hq=> ?_)
 cases r with
 |error e=>exact T.call Pl I hq
 |ok fl=>
   cases fl with
   |ret u=>exact I.after hq
   |next=>exact False.elim hq
   |brk=>exact False.elim hq
   |cont=>exact False.elim hq
def tCallXD(sp:Sp)(R:RX)(t:TA):TE:=fun σ H Q=>t σ H fun vs H1=>sp (vs++[.non]) H1 Q (fun cls _ H'=> ∀a,R σ H' cls a)
theorem b4y(h:HasD X.prog X.w X.K X.mg X.base k x ps sp)(hr:Room k X.A)(hg:Gl X x)(T:Thr X R)(Pl:Plain X)(ha:PA X (e::es) t)
   (hdb:(x==("__debug__":Str))=false:=by decide) (he:starEach (e::es) X.env=(false,eval e X.env)::starEach es X.env:=by rfl) (hpl:(backTo pos (starEach es X.env)).any (·.1)=false:=by rfl):
   PE X (.Call (.Name x p) (e::es) [] pos) (tCallXD sp R t):=by
 intro pins s σ H Q I hw
 obtain⟨f,fd,F,hm,hk,_,hb⟩:=h.ex
 refine wpAny_Call_Name_kw (a5j I hg hm ?_ hdb)
 refine PySem.W.callWith_K (h₀:=X.base) I.ok.mod.kin hk (thn (ha pos pins s σ H _ I hw) fun us s1 ⟨vs,H1,I1,r,q⟩=>⟨I1.kIn,?_⟩) he hpl
 exact b7d F hr hb T Pl I1 r q
end
section
variable {X:Cx}{F0:Hp}{R:AX}{k:Nat}{x:Str}{ps:List Str}{sa:SpA}{p pos:Pos}{e:Expr}{es:List Expr}{tt:AA}
def aFunD(sa:SpA)(R:AX)(t:AA):AE:=fun Γ M Q=>t Γ M fun ds M1=>sa (ds++[.non]) M1 Q fun cls M'=>R Γ M' cls
theorem paFunD(h:HasD X.prog X.w X.K X.mg X.base k x ps (a0m X.K sa))(hr:Room k X.A)(hg:Gl X x)(c:Cat X F0 R)(ha:PAA X F0 (e::es) tt)
   (hdb:(x==("__debug__":Str))=false:=by decide) (he:starEach (e::es) X.env=(false,eval e X.env)::starEach es X.env:=by rfl) (hpl:(backTo pos (starEach es X.env)).any (·.1)=false:=by rfl):
   PEA X F0 (.Call (.Name x p) (e::es) [] pos) (aFunD sa R tt):=by
 refine⟨?_⟩
 intro F Γ M σ H Q f0 g mm hw
 refine(b4y h hr hg c.thr c.pl a1v hdb he hpl).to ((ha.run F Γ M σ H _ f0 g mm hw).mono fun vs H1 zz9=> ?_)
 obtain⟨ds,F1,M1,s1,m1,r1,q1⟩:=zz9
 exact⟨F1,ds++[.non],M1,_,_,m1,r1.append (.cons .non .nil),q1,fun v H' z=>z.dn s1,fun cls H' ⟨F',M',s',m',q'⟩ a=>⟨F',Γ,M',f0.trans (s1.trans s'),g.up (s1.trans s'),m',q'⟩⟩
end
section
variable {X:Cx}{pins:List (Addr×Obj)}{σ:St}{H:Hp}{s:Shared}
theorem Inv.thaw{d:Addr}{kvs:List (Key×V)}{o:Obj}(I:Inv X pins σ H s)(hd:H d=some (.frz o (.dK kvs)))(h0: ∀o u,X.H₀ d≠some (.frz o u)):Inv X pins σ (upd H d (.dK kvs)) s:=by
 have key: ∀b u,H b=some u->(∀o ws,u≠ .frz o (.dK ws))->upd H d (.dK kvs) b=some u:=fun b u e n=>by
   rw[a0p (by rintro rfl;rw[hd]at e;cases e;exact n _ _ rfl)];exact e
 have nn: ∀b,H b=none->upd H d (.dK kvs) b=none:=fun b e=>by
   rw[a0p (by rintro rfl;rw[hd]at e;cases e)];exact e
 refine⟨I.ok,I.os,I.bare,⟨I.base.keep,I.base.slot,fun c oc e n hx=>nn c (I.base.free c oc e n hx),I.base.there,fun c xs e=>key c _ (I.base.tups c xs e) (fun _ _ z=>by cases z),fun c oc u e=> ?_,fun c ps e=> ?_⟩,I.loc,I.cell,nn _ I.free,fun x c e=>nn _ (I.freeC x c e),fun p hp=> ?_,fun c u q=> ?_,I.len⟩
 . have:=I.base.frzs c oc u e
   rw[a0p (by rintro rfl;exact h0 _ _ e)];exact this
 . obtain⟨m1,e'⟩:=I.base.tbls c ps e
   exact⟨m1,key c _ e' (fun _ _ z=>by cases z)⟩
 . obtain⟨e,n,n1,n2,dd⟩:=I.pin p hp
   exact⟨e,nn _ n,n1,n2,dd⟩
 . have st: ∀{b:Addr}{u:HO},ObjOk X.prog X.w H s.heap b u->ObjOk X.prog X.w (upd H d (.dK kvs)) s.heap b u:=fun x=>x.stay (fun _ _ _ r=>r) (fun c' r=>key c' _ r (fun _ _ z=>by cases z)) fun c' xs r=>key c' _ r (fun _ _ z=>by cases z)
   by_cases hc:c=d
   . subst hc
     rw[a0u]at q
     cases q
     exact st (I.hok c _ hd).2
   . rw[a0p hc]at q
     exact st (I.hok c u q)
end
section
variable {X:Cx}{F0:Hp}{R:AX}{tg o:Expr}{td:AE}{apos cpos:Pos}
theorem selfE.frzs{e:Expr}{σ:St}{H:Hp}{Q:VK}(h:selfE X e σ H Q):selfE X e σ H fun v H'=>Q v H'/\ ∀b o u,X.H₀ b=some (.frz o u)->H' b=some (.frz o u):=fun pins s I=>thn (h pins s I) fun _ _ ⟨v,H',J,r,q⟩=>⟨v,H',J,r,q,J.base.frzs⟩
def aForI(td:AE)(gt:AGt)(tb:AS):AS:=fun E Γ M=>td Γ M fun x M1=>match x with
 | .obj p=>(match M1 p with
   |some (.dic kvs)=> ∀u,LoopP ⟨kvs.length,itemAt kvs,fun M=>M p=some (.raw u)⟩ gt tb {E with nx:=fun Γ' M'=>M' p=some (.raw u)/\E.nx Γ' (put M' p (.dic kvs))} Γ (put M1 p (.raw u))
   |_=>False)
 |_=>False
theorem AM.lie{K:PySem.W.Frag}{F:Hp}{M:Mem}{H:Hp}{p:Addr}{o:MO}{u:HO}(m:AM K F M H)(hp:M p=some o):AM K F (put M p (.raw u)) (upd H p u):=m.set hp (u:=u) (o':= .raw u) rfl
theorem sForI{elts:List Expr}{kk:Nat}{tpos pos:Pos}{body:List Stmt}{gt:AGt}{tb:AS}(k:Cat X F0 R)(ho:PEA X F0 o td)(hg:PGA X F0 (.Tuple elts kk tpos) gt)(hb:PSsA X F0 body tb)
   (hbase:attributeBase o "items" X.env (eval o X.env)=eval o X.env:=by rfl) (hline:(apos.endLine==cpos.line)=true:=by rfl)
   (hs: ∀x,foldedSetIterable (.Call (.Attribute o "items" apos) [] [] cpos) X.env x=pure x:=by intro _;rfl):
   PSA X F0 (.For (.Tuple elts kk tpos) (.Call (.Attribute o "items" apos) [] [] cpos) body [] pos) (aForI td gt tb):=by
 refine⟨?_⟩
 intro F Γ M σ H E f0 g m h
 intro pins0 s0 I0
 let D':Ends:={PQD X.K F E with nx:=fun σ' H'=> ∃F1 F' Γ' M' p kvs ws ob,Same F F1/\Same F1 F'/\PF X.K F1 ws kvs/\(∀o u,X.H₀ p≠some (.frz o u))/\AG X.K F' Γ' σ'/\AM X.K F' M' H'/\M' p=some (.raw (.frz ob (.dK ws)))/\E.nx Γ' (put M' p (.dic kvs))}
 have main:selfS X (.For (.Tuple elts kk tpos) (.Call (.Attribute o "items" apos) [] [] cpos) body [] pos) D' σ H:=by
   intro pins1 s1 I1
   refine(ps_for (k.pass I0.ok.frames) k.calm (pi_itms a0n hbase hline) a8o a2h hs).to ?_ pins1 s1 I1
   refine(selfE.frzs (ho.run F Γ M σ H _ f0 g m h)).mono fun v H1 zz9=> ?_
   obtain⟨⟨d,F1,M1,s1,m1,r1,q1⟩,hz⟩:=zz9
   obtain⟨p,rfl⟩: ∃p,d= .obj p:=by
     cases d<;>first |exact q1.elim |exact⟨_,rfl⟩
   cases r1
   try dsimp only at q1
   split at q1
   . rename_i kvs hp
     obtain⟨u,e1,ro⟩:=m1.mem _ _ hp
     obtain⟨ws,rfl,pf⟩:=ro.isD
     have hl:=pf.length
     have h0: ∀o u,X.H₀ p≠some (.frz o u):=fun o u z=>by
       have:=hz p o u z
       rw[e1]at this;cases this
     refine⟨.inr (.inr (.inl ⟨rfl,.inl ⟨ws,e1⟩⟩)),p,ws,rfl,rfl,.inl e1,fun vw hvw=>⟨p,ws,vw,rfl,a0u,?_,fun ob=> ?_⟩⟩
     . rw[a0p (fun z=>by rw[z,hvw]at e1;cases e1)];exact e1
     . obtain⟨W,w0,turn⟩:=q1 (.frz ob (.dK ws))
       have m2:=(m1.more (u:= .ext (viewφ "dict_items" vw p)) hvw).lie (u:= .frz ob (.dK ws)) hp
       refine⟨fun i n σ' H'=>n=kvs.length- i/\i<=kvs.length/\ ∃F' Γ' M',Same F1 F'/\AG X.K F' Γ' σ'/\AM X.K F' M' H'/\W i Γ' M',⟨kvs.length,rfl,Nat.zero_le _,F1,Γ,_,.refl _,g.up s1,m2,w0⟩,?_⟩
       rintro i n σ3 H3 ⟨rfl,hle,F3,Γ3,M3,s3,g3,m3,w3⟩
       obtain⟨hh,w3⟩:=turn i Γ3 M3 w3
       have hH:H3 p=some (.frz ob (.dK ws)):=by
         obtain⟨u',e4,r4⟩:=m3.mem _ _ hh
         rw[e4];exact congrArg some r4
       by_cases hlt:i<kvs.length
       . rw[if_pos hlt]at w3
         refine .inr ⟨⟨by rw[hl];exact hlt,hH⟩,PQg X.K F1 (W (i+1)),fun σ' H' ⟨F',Γ',M',s',g',m',w'⟩=>⟨kvs.length- (i+1),by omega,rfl,hlt,F',Γ',M',s',g',m',w'⟩,fun x H' y=> ?_⟩
         obtain⟨T,kk',v,hT,e,rfl,rfl⟩:=y
         obtain⟨d,e2,rd⟩:=pf_at pf e
         have s4:=a1i (u:= .tup [kV kk',v]) (m3.fF hT)
         have r4:RD X.K (upd F3 T (.tup [kV kk',v])) (.ref T) (itemAt kvs i):=by
           unfold itemAt
           rw[e2]
           exact .tup a0u (.cons (key_of' kk') (.cons (rd.up (s3.trans s4)) .nil))
         refine(hg.run _ Γ3 M3 σ3 _ _ _ _ (f0.trans (s1.trans (s3.trans s4))) (g3.up s4) (m3.frz hT) r4 w3).mono fun σ5 H5 zz9=> ?_
         obtain⟨F5,Γ5,M5,s5,g5,m5,q5⟩:=zz9
         have sx:=s3.trans (s4.trans s5)
         have nxt: ∀σ' H',PQg X.K F5 (fun Γ' M'=>M' p=some (.raw (.frz ob (.dK ws)))/\E.nx Γ' (put M' p (.dic kvs))) σ' H'->D'.nx σ' H':=fun σ' H' ⟨F',Γ',M',s',g',m',hp',q'⟩=>⟨F1,F',Γ',M',p,kvs,ws,ob,s1,sx.trans s',pf,h0,g',m',hp',q'⟩
         exact(hb.run F5 Γ5 M5 σ5 H5 _ (f0.trans (s1.trans sx)) g5 m5 q5).mono ⟨fun _ _ z=>PQg.dn sx z,fun _ _ z=>PQ.dn (s1.trans sx) z,nxt,fun _ _ z=>PQg.dn sx z⟩
       . rw[if_neg hlt]at w3
         exact .inl ⟨⟨by omega,hH⟩,F1,F3,Γ3,M3,p,kvs,ws,ob,s1,s3,pf,h0,g3,m3,w3.1,w3.2⟩
   . exact q1.elim
 refine thn (main pins0 s0 I0) fun f s' q=> ?_
 cases f with
 |next=>
   obtain⟨σ',H',I,F1,F',Γ',M',p,kvs,ws,ob,e1,e2,pf,h0,g',m',hp,q⟩:=q
   obtain⟨u,e3,ro⟩:=m'.mem _ _ hp
   have ro:u= .frz ob (.dK ws):=ro
   subst ro
   exact⟨σ',upd H' p (.dK ws),I.thaw e3 h0,F',Γ',_,e1.trans e2,g',m'.set hp (u:= .dK ws) (o':= .dic kvs) (pf.up e2),q⟩
 |brk=>exact q
 |cont=>exact q
 |ret u=>exact q
end
section
variable {X:Cx}{F0:Hp}{tg l:Expr}{tl:AE}{pos:Pos}
end
end L2
namespace K9
open PySem PySem.Spec PySem.Calls PyProof.Rows L2
local macro_rules
 | `(tactic| simp! only [$xs,*] $[$l]?) => `(tactic| simp only [aYes, Bool.and_self, at0, at1, at2, at3, aSeq, aNext, aIf, aFor, iaR1, iaR2, iaR3, iaS, iaL, gaN, aSl, aPart, aNoPart, aT, aOp, aV, aC, aRet, aRetN, aTup, aLst, aLstM, b0e, aNil, aAnd, aOr, aNot, aAndV, aOrV, aNotV, aSet, aAsg, b1s, b61, aFun, aUn, oAdd, addF, addC, oI, oIc, b6k, eqq_str, eqq_bl, neq_int, b5b, neq_bl, oIsN, b56, oNeg, oLen, lenF, lenC, oIx, ixF, ixC, oIn, inB, oSl, slF, slC, Option.bind_some, Option.map_some, true_and, L2.dq, L2.dr, L2.dl, L2.dd, a2m, a1j, a25, keyD, aFldC, aDPut, oDIn, aDGet, aDPop, aDGet1, aSetF, aDNew, aRaise, b6z, oCat, oCatM, a7r, List.map_cons, List.map_nil, List.length_cons, List.length_nil, List.replicate, List.cons_append, List.nil_append, List.getElem?_cons_zero, List.getElem?_cons_succ, List.set_cons_zero, List.set_cons_succ, Nat.reduceAdd, Nat.reduceSub, if_true, Bool.false_eq_true, if_false, $xs,*] $[$l]?)
noncomputable def letters:List Nat:=("abcdefghijklmnopqrstuvwxyz":Str).cps.toList
noncomputable def a2s(x:Str):Bool:= !(decide (x.length<1)||decide (8<x.length))&&x.cps.toList.all fun c=>decide (c∈letters)
structure TS where
 ws:List (Str×Int)
 js:List (Int×Str×Str×Str)
 nx:Int
noncomputable def dW(ws:List (Str×Int)):List (Key×D):=ws.map fun w=>(Sum.inr w.1,.int w.2)
noncomputable def eJ(j:Int×Str×Str×Str):D:= .tup [.int j.1,.str j.2.1,.str j.2.2.1,.str j.2.2.2]
noncomputable def eW(w:Str×Int):D:= .tup [.str w.1,.int w.2]
noncomputable def dJ(js:List (Int×Str×Str×Str)):List (Key×D):=js.map fun j=>(Sum.inl j.1,eJ j)
noncomputable def fsT(d1 d2:Addr)(n:Int):List (Str×D):=[("teeth_of",.obj d1),("join_of",.obj d2),("next_number",.int n)]
structure Tr(C:Addr)(M:Mem)(p d1 d2:Addr)(S:TS):Prop where
 self:M p=some (.ins C (fsT d1 d2 S.nx))
 teeth:M d1=some (.dic (dW S.ws))
 join:M d2=some (.dic (dJ S.js))
 ne:d1≠d2
 lt: ∀j∈S.js,j.1<S.nx
inductive Rk where
 |noName |twice |noTeeth |full |noWheel |noJoin
noncomputable def TS.has(S:TS)(n:Str):Bool:=S.ws.any fun w=>decide (w.1=n)
noncomputable def refW(S:TS)(n:Str)(t:Int):Option Rk:=
 if a2s n=false then some .noName else if S.has n=true then some .twice else if t<1\/1000000000<=t then some .noTeeth else if 100<=S.ws.length then some .full else none
noncomputable def a2a(k:Str):Bool:=decide (k="mesh")||decide (k="pin")||decide (k="band")||decide (k="cross")
noncomputable def refJ(S:TS)(k a b:Str):Option Rk:=
 if a2a k=false then some .noJoin else if S.has a=false\/S.has b=false then some .noWheel else if a=b then some .noJoin else if 200<=S.js.length then some .full else none
noncomputable def TS.hasJ(S:TS)(n:Int):Bool:=S.js.any fun j=>decide (j.1=n)
noncomputable def refL(S:TS)(n:Int):Option Rk:=if S.hasJ n=false then some .noJoin else none
theorem b1g(ws:List (Str×Int))(n:Str):(getK (dW ws) (Sum.inr n)).isSome=ws.any fun w=>decide (w.1=n):=by
 induction ws with
 |nil=>rfl
 |cons w ws ih=>
   unfold dW getK at ih |-
   simp only[List.map_cons,List.find?_cons,List.any_cons,Sum.inr.injEq]
   by_cases h:w.1=n
   . simp[h]
   . simp only[h,decide_false,Bool.false_or];exact ih
theorem b1h(js:List (Int×Str×Str×Str))(n:Int):(getK (dJ js) (Sum.inl n)).isSome=js.any fun j=>decide (j.1=n):=by
 induction js with
 |nil=>rfl
 |cons w ws ih=>
   unfold dJ getK at ih |-
   simp only[List.map_cons,List.find?_cons,List.any_cons,Sum.inl.injEq]
   by_cases h:w.1=n
   . simp[h]
   . simp only[h,decide_false,Bool.false_or];exact ih
theorem a22{kvs:List (Key×D)}{k:Key}{v:D}(h:(getK kvs k).isSome=false):a50 kvs k v=kvs++[(k,v)]:=by
 unfold a50;rw[h];rfl
theorem b6m(js:List (Int×Str×Str×Str))(n:Int):a5y (dJ js) (Sum.inl n)=dJ (js.filter fun j=>decide (j.1≠n)):=by
 unfold a5y dJ
 rw[List.filter_map]
 congr 1
 apply List.filter_congr
 intro j _
 simp[Function.comp]
inductive Deed where
 |wheel (n:Str) (t:Int) |join (k a b:Str) |less (n:Int)
def Deed.ok:Deed->Prop
 | .wheel n _=>n.length<=1000
 |_=>True
noncomputable def wordOf:Rk->Str
 | .noName=>"no name" | .twice=>"twice" | .noTeeth=>"no teeth" | .full=>"full" | .noWheel=>"no wheel" | .noJoin=>"no join"
noncomputable def refD(S:TS):Deed->Option Rk
 | .wheel n t=>refW S n t
 | .join k a b=>refJ S k a b
 | .less n=>refL S n
noncomputable def gives(S:TS):Deed->D
 | .join _ _ _=> .int S.nx
 |_=> .non
noncomputable def behind(S:TS):Deed->TS
 | .wheel n t=>{S with ws:=S.ws++[(n,t)]}
 | .join k a b=>{S with js:=S.js++[(S.nx,k,a,b)],nx:=S.nx+1}
 | .less n=>{S with js:=S.js.filter fun j=>decide (j.1≠n)}
noncomputable def due(S:TS)(d:Deed):D:=match refD S d with
 |some r=> .tup [.str "refused",.str (wordOf r)]
 |none=> .tup [.str "done",gives S d]
noncomputable abbrev Jn:=Int×Str×Str×Str
noncomputable abbrev Ld:=Int×Str×Str
noncomputable abbrev TT:=List (Str×Option Ld)
noncomputable def a7l(here:Str)(j:Jn):List Ld:=(if j.2.2.1=here then[(j.1,j.2.1,j.2.2.2)]else[])++(if j.2.2.2=here then[(j.1,j.2.1,j.2.2.1)]else[])
noncomputable def lead(js:List Jn)(here:Str):List Ld:=js.flatMap (a7l here)
noncomputable def eL(l:Ld):D:= .tup [.int l.1,.str l.2.1,.str l.2.2]
noncomputable def names(t:TT):List Str:=t.map Prod.fst
noncomputable def eE:Option Ld->D
 |none=> .non
 |some l=>eL l
noncomputable def encT(t:TT):List (Key×D):=t.map fun e=>(Sum.inr e.1,eE e.2)
noncomputable def ends(js:List Jn):List Str:=js.flatMap fun j=>[j.2.2.1,j.2.2.2]
noncomputable def a4g(js:List Jn)(t:TT):Nat:=((ends js).filter fun n=>decide (n∉names t)).length
inductive Grown(js:List Jn)(start:Str):TT->Prop where
 |root:Grown js start [(start,none)]
 |more (t:TT) (n:Str) (e:Ld) (g:Grown js start t) (new:n∉names t) (old:e.2.2∈names t) (by_:(e.1,e.2.1,n)∈lead js e.2.2):Grown js start (t++[(n,some e)])
def Closed(js:List Jn)(t:TT):Prop:= ∀n∈names t,∀l∈lead js n,l.2.2∈names t
inductive Reach(js:List Jn)(a:Str):Str->Prop where
 |refl:Reach js a a
 |step {b:Str}{l:Ld} (h:Reach js a b) (hl:l∈lead js b):Reach js a l.2.2
inductive Way(js:List Jn):Str->List (Int×Str)->Str->Prop where
 |nil (a:Str):Way js a [] a
 |cons {a b:Str}{l:Ld}{st:List (Int×Str)} (hl:l∈lead js a) (h:Way js l.2.2 st b):Way js a ((l.1,l.2.2)::st) b
theorem a0y(t:TT)(n:Str)(e:Option Ld):names (t++[(n,e)])=names t++[n]:=by simp[names]
theorem b5q(here:Str)(j:Jn):(a7l here j).length<=2:=by
 unfold a7l;rw[List.length_append]
 split<;>split<;>simp
theorem b2o(js:List Jn)(here:Str):(lead js here).length<=2 *js.length:=by
 induction js with
 |nil=>simp[lead]
 |cons j js ih=>
   have:=b5q here j
   unfold lead at ih |-
   rw[List.flatMap_cons,List.length_append,List.length_cons];omega
theorem b5p{js:List Jn}{here:Str}{l:Ld}(h:l∈lead js here):l.2.2∈ends js:=by
 unfold lead at h
 obtain⟨j,hj,h⟩:=List.mem_flatMap.mp h
 unfold ends
 refine List.mem_flatMap.mpr ⟨j,hj,?_⟩
 unfold a7l at h
 rcases List.mem_append.mp h with h |h
 . split at h
   . have:l=(j.1,j.2.1,j.2.2.2):=by simpa using h
     subst this;simp
   . cases h
 . split at h
   . have:l=(j.1,j.2.1,j.2.2.1):=by simpa using h
     subst this;simp
   . cases h
theorem b8d(js:List Jn):(ends js).length=2 *js.length:=by
 induction js with
 |nil=>rfl
 |cons j js ih=>
   unfold ends at ih |-
   rw[List.flatMap_cons,List.length_append,List.length_cons,ih];simp;omega
theorem b1i{α:Type}{p q:α->Bool}{l:List α}{x:α}(hx:x∈l)(hp:p x=true)(hq:q x=false)(h: ∀y,q y=true->p y=true):(l.filter q).length+1<=(l.filter p).length:=by
 induction l with
 |nil=>cases hx
 |cons y l ih=>
   have all: ∀l:List α,(l.filter q).length<=(l.filter p).length:=by
     intro l
     induction l with
     |nil=>exact Nat.le_refl _
     |cons z l ih2=>
       rw[List.filter_cons,List.filter_cons]
       cases hz:q z with
       |true=>rw[if_pos (h z hz),if_pos rfl,List.length_cons,List.length_cons];omega
       |false=>
         rw[if_neg Bool.false_ne_true]
         split
         . rw[List.length_cons];omega
         . exact ih2
   rw[List.filter_cons,List.filter_cons]
   rcases List.mem_cons.mp hx with rfl |hx
   . rw[if_pos hp,hq,if_neg Bool.false_ne_true,List.length_cons]
     have:=all l;omega
   . have:=ih hx
     cases hz:q y with
     |true=>rw[if_pos (h y hz),if_pos rfl,List.length_cons,List.length_cons];omega
     |false=>
       rw[if_neg Bool.false_ne_true]
       split
       . rw[List.length_cons];omega
       . exact this
theorem b0g{js:List Jn}{t:TT}{n:Str}{e:Option Ld}(h:n∈ends js)(hn:n∉names t):a4g js (t++[(n,e)])+1<=a4g js t:=by
 unfold a4g
 refine b1i h (decide_eq_true hn) (decide_eq_false fun z=>z ?_) fun y hy=> ?_
 . rw[a0y];simp
 . have hy:=of_decide_eq_true hy
   rw[a0y]at hy
   exact decide_eq_true fun z=>hy (List.mem_append_left _ z)
theorem Grown.nodup{js:List Jn}{s:Str}{t:TT}(g:Grown js s t):(names t).Nodup:=by
 induction g with
 |root=>simp[names]
 |more t n e g new old by_ ih=>
   rw[a0y]
   rw[List.nodup_append]
   refine⟨ih,by simp,fun a ha b hb=> ?_⟩
   have:b=n:=by simpa using hb
   subst this
   rintro rfl
   exact new ha
theorem Grown.start{js:List Jn}{s:Str}{t:TT}(g:Grown js s t):s∈names t:=by
 induction g with
 |root=>simp[names]
 |more t n e g new old by_ ih=>rw[a0y];exact List.mem_append_left _ ih
theorem Grown.reach{js:List Jn}{s:Str}{t:TT}(g:Grown js s t): ∀n∈names t,Reach js s n:=by
 induction g with
 | root => intro n hn; have : n = s := by simpa [names] using hn
           subst this;exact .refl
 |more t n e g new old by_ ih=>
   intro m hm
   rw[a0y]at hm
   rcases List.mem_append.mp hm with hm |hm
   . exact ih m hm
   . have:m=n:=by simpa using hm
     subst this
     exact .step (l:=(e.1,e.2.1,m)) (ih _ old) by_
theorem Grown.all{js:List Jn}{s:Str}{t:TT}(g:Grown js s t)(c:Closed js t){n:Str}(h:Reach js s n):n∈names t:=by
 induction h with
 |refl=>exact g.start
 |step h hl ih=>exact c _ ih _ hl
theorem Grown.came{js:List Jn}{s:Str}{t:TT}(g:Grown js s t){n:Str}(hn:n∈names t)(ne:n≠s):
   ∃t0 e t2,Grown js s t0/\t=t0++(n,some e)::t2/\n∉names t0/\e.2.2∈names t0/\(e.1,e.2.1,n)∈lead js e.2.2:=by
 induction g with
 |root=>exact absurd (by simpa[names]using hn) ne
 |more t m e g new old by_ ih=>
   rw[a0y]at hn
   rcases List.mem_append.mp hn with hn |hn
   . obtain⟨t0,e0,t2,h1,h2,h3,h4,h5⟩:=ih hn
     exact⟨t0,e0,t2++[(m,some e)],h1,by rw[h2];simp,h3,h4,h5⟩
   . have:n=m:=by simpa using hn
     subst this
     exact⟨t,e,[],g,rfl,new,old,by_⟩
theorem b6d(t0 t2:TT)(n:Str)(e:Option Ld)(h:n∉names t0):getK (encT (t0++(n,e)::t2)) (Sum.inr n)=some (eE e):=by
 induction t0 with
 |nil=>unfold encT getK;simp
 |cons x t0 ih=>
   have hx:x.1≠n:=fun z=>h (by simp[names,z])
   have ht:n∉names t0:=fun z=>h (by unfold names at z |-;simp only[List.map_cons,List.mem_cons];exact .inr z)
   have:=ih ht
   unfold encT getK at this |-
   simp only[List.cons_append,List.map_cons,List.find?_cons,Sum.inr.injEq]
   rw[decide_eq_false hx]
   exact this
theorem a5p(t:TT)(n:Str):(getK (encT t) (Sum.inr n)).isSome=decide (n∈names t):=by
 induction t with
 |nil=>rfl
 |cons x t ih=>
   unfold encT getK names at ih |-
   simp only[List.map_cons,List.find?_cons,List.mem_cons,Sum.inr.injEq]
   by_cases h:x.1=n
   . simp[h]
   . rw[decide_eq_false h]
     have h': ¬ n=x.1:=fun z=>h z.symm
     simp only[h',false_or]
     exact ih
theorem b4r{t:TT}{n:Str}{l:Ld}(h:n∉names t):a50 (encT t) (Sum.inr n) (eL l)=encT (t++[(n,some l)]):=by
 rw[a22 (by rw[a5p,decide_eq_false h])]
 simp[encT,eE]
noncomputable def chF(s k:Nat):Nat:=97+(k/26+s) % 26
noncomputable def chL(s k:Nat):Nat:=97+(k+s) % 26
noncomputable def a11(s k:Nat):List Nat:=
 if s % 3=0 then(if k<26 then[chL s k]else[chF s k,chL s k])else if s % 3=1 then List.replicate (s % 7) 97++[chF s k,chL s k]else[chF s k,chL s k]++List.replicate ((s+k) % 7) 113
noncomputable def a1l(s k:Nat):Str:=⟨(a11 s k).toArray⟩
theorem b3x{s k k':Nat}(h:k<676)(h':k'<676)(e:a1l s k=a1l s k'):k=k':=by
 have e:a11 s k=a11 s k':=by
   have:=congrArg (fun x:Str=>x.cps.toList) e
   exact this
 have both:chF s k=chF s k'->chL s k=chL s k'->k=k':=fun e1 e2=>by unfold chF at e1;unfold chL at e2;omega
 unfold a11 at e
 split at e
 . split at e<;>split at e
   . have:=(List.cons.inj e).1
     unfold chL at this;omega
   . simp at e
   . simp at e
   . obtain⟨e1,e2⟩:=List.cons.inj e
     exact both e1 (List.cons.inj e2).1
 . split at e
   . have:=List.append_cancel_left e
     obtain⟨e1,e2⟩:=List.cons.inj this
     exact both e1 (List.cons.inj e2).1
   . obtain⟨e1,e2⟩:=List.cons.inj e
     exact both e1 (List.cons.inj e2).1
theorem b5m{c:Nat}(h1:97<=c)(h2:c<123):c∈letters:=by
 have: ∀i,i<26->97+i∈letters:=by decide+kernel
 have:=this (c- 97) (by omega)
 rwa [show 97+(c- 97)=c by omega]at this
theorem b26{s k c:Nat}(h:c∈a11 s k):97<=c/\c<123:=by
 have l:97<=chL s k/\chL s k<123:=by unfold chL;omega
 have f:97<=chF s k/\chF s k<123:=by unfold chF;omega
 have two:c∈[chF s k,chL s k]->97<=c/\c<123:=fun h=>by
   rcases List.mem_cons.mp h with h |h
   . rw[h];exact f
   . rw[List.mem_singleton.mp h];exact l
 unfold a11 at h
 split at h
 . split at h
   . rw[List.mem_singleton.mp h];exact l
   . exact two h
 . split at h
   . rcases List.mem_append.mp h with h |h
     . rw[(List.mem_replicate.mp h).2];omega
     . exact two h
   . rcases List.mem_append.mp h with h |h
     . exact two h
     . rw[(List.mem_replicate.mp h).2];omega
theorem a41(s k:Nat):1<=(a11 s k).length/\(a11 s k).length<=8:=by
 unfold a11
 split
 . split<;>simp
 . split<;>simp<;>omega
theorem a2r(s k:Nat):a2s (a1l s k)=true:=by
 have hl:=a41 s k
 have e:(a1l s k).length=(a11 s k).length:=rfl
 unfold a2s
 rw[decide_eq_false (by rw[e];omega),decide_eq_false (by rw[e];omega)]
 show(a11 s k).all _=true
 rw[List.all_eq_true]
 intro c hc
 have:=b26 hc
 exact decide_eq_true (b5m this.1 this.2)
theorem a89(s:Nat){n:Nat}(h:n<=676):((List.range n).map (a1l s)).Nodup:=by
 refine List.pairwise_map.mpr (List.Pairwise.imp_of_mem (fun {a b} ha hb hab e=> ?_) List.pairwise_lt_range)
 have ha:=List.mem_range.mp ha
 have hb:=List.mem_range.mp hb
 have:=b3x (by omega) (by omega) e
 omega
noncomputable abbrev En:=Int×Nat×Nat
inductive Hung(es:List En)(a:Nat):Nat->Prop where
 |refl:Hung es a a
 |to {e:En} (h:Hung es a e.2.1) (he:e∈es):Hung es a e.2.2
 |fro {e:En} (h:Hung es a e.2.2) (he:e∈es):Hung es a e.2.1
noncomputable def at_(ns:List Str)(i:Nat):Str:=ns.getD i ""
noncomputable def jE(j:Jn):Int×Str×Str:=(j.1,j.2.2.1,j.2.2.2)
noncomputable def eN(ns:List Str)(e:En):Int×Str×Str:=(e.1,at_ ns e.2.1,at_ ns e.2.2)
structure Net(ns:List Str)(js:List Jn)(es:List En):Prop where
 same:js.map jE=es.map (eN ns)
 inn: ∀e∈es,e.2.1<ns.length/\e.2.2<ns.length/\e.2.1≠e.2.2
 nd:ns.Nodup
 keys:(es.map Prod.fst).Nodup
theorem a76{ns:List Str}(nd:ns.Nodup){i j:Nat}(hi:i<ns.length)(hj:j<ns.length)(e:at_ ns i=at_ ns j):i=j:=by
 unfold at_ at e
 rw[List.getD_eq_getElem?_getD,List.getD_eq_getElem?_getD,List.getElem?_eq_getElem hi,List.getElem?_eq_getElem hj]at e
 have e:ns[i]=ns[j]:=e
 have P:=List.pairwise_iff_getElem.mp nd
 rcases Nat.lt_trichotomy i j with h |h |h
 . exact absurd e (P i j hi hj h)
 . exact h
 . exact absurd e.symm (P j i hj hi h)
theorem b70{js:List Jn}{x:Str}{l:Ld}(h:l∈lead js x): ∃j∈js,j.1=l.1/\((j.2.2.1=x/\j.2.2.2=l.2.2)\/(j.2.2.2=x/\j.2.2.1=l.2.2)):=by
 unfold lead at h
 obtain⟨j,hj,h⟩:=List.mem_flatMap.mp h
 refine⟨j,hj,?_⟩
 unfold a7l at h
 rcases List.mem_append.mp h with h |h<;>split at h
 . rename_i e
   rw[List.mem_singleton.mp h];exact⟨rfl,.inl ⟨e,rfl⟩⟩
 . cases h
 . rename_i e
   rw[List.mem_singleton.mp h];exact⟨rfl,.inr ⟨e,rfl⟩⟩
 . cases h
theorem Net.keyOf{ns:List Str}{js:List Jn}{es:List En}(N:Net ns js es):js.map Prod.fst=es.map Prod.fst:=by
 have:=congrArg (List.map Prod.fst) N.same
 rw[List.map_map,List.map_map]at this
 exact this
theorem Net.len{ns:List Str}{js:List Jn}{es:List En}(N:Net ns js es):js.length=es.length:=by
 have:=congrArg List.length N.same
 simpa using this
noncomputable def a24(bs:List Bool):Nat:=(bs.filter fun b=> !b).length
theorem a9w{bs:List Bool}{i:Nat}(h:i<bs.length):a24 (bs.set i true)+(if bs[i]=true then 0 else 1)=a24 bs:=by
 unfold a24
 induction bs generalizing i with
 |nil=>cases h
 |cons b bs ih=>
   cases i with
   |zero=>cases b<;>simp
   |succ i=>
     have:=ih (i:=i) (by simpa using h)
     cases b<;>simp[List.filter_cons]at this |- <;>omega
theorem b5i{bs:List Bool}{i j:Nat}(hi:i<bs.length)(hj:j<bs.length)(h:bs.getD i false≠bs.getD j false):a24 ((bs.set i true).set j true)+1=a24 bs:=by
 have gi:bs.getD i false=bs[i]:=by simp[List.getD,List.getElem?_eq_getElem hi]
 have gj:bs.getD j false=bs[j]:=by simp[List.getD,List.getElem?_eq_getElem hj]
 rw[gi,gj]at h
 have hij:i≠j:=by rintro rfl;exact h rfl
 have l1:=a9w hi
 have hj':j< (bs.set i true).length:=by simpa using hj
 have l2:=a9w hj'
 have e:(bs.set i true)[j]=bs[j]:=List.getElem_set_ne hij hj'
 rw[e]at l2
 cases h1:bs[i]<;>cases h2:bs[j]
 . rw[h1,h2]at h;exact absurd rfl h
 . rw[h1]at l1;rw[h2]at l2;simp at l1 l2;omega
 . rw[h1]at l1;rw[h2]at l2;simp at l1 l2;omega
 . rw[h1,h2]at h;exact absurd rfl h
structure Hg(es:List En)(a n:Nat)(bs:List Bool):Prop where
 len:bs.length=n
 sound: ∀b,bs.getD b false=true->Hung es a b
 first:bs.getD a false=true
theorem b6e{bs:List Bool}{i j b:Nat}(h:((bs.set i true).set j true).getD b false=true):b=i\/b=j\/bs.getD b false=true:=by
 by_cases h1:b=i
 . exact .inl h1
 by_cases h2:b=j
 . exact .inr (.inl h2)
 refine .inr (.inr ?_)
 simp only[List.getD_eq_getElem?_getD]at h |-
 rw[List.getElem?_set_ne (fun z=>h2 z.symm),List.getElem?_set_ne (fun z=>h1 z.symm)]at h
 exact h
theorem b4e{bs:List Bool}{i j b:Nat}(hb:bs.getD b false=true):((bs.set i true).set j true).getD b false=true:=by
 have one: ∀(bs:List Bool) (i:Nat),bs.getD b false=true->(bs.set i true).getD b false=true:=by
   intro bs i hb
   simp only[List.getD_eq_getElem?_getD]at hb |-
   by_cases h:i=b
   . subst h
     cases hx:bs[i]? with
     |none=>rw[hx]at hb;cases hb
     |some x=>
       have:i<bs.length:=by
         by_cases hlt:i<bs.length
         . exact hlt
         . rw[List.getElem?_eq_none (by omega)]at hx;cases hx
       rw[List.getElem?_set_self this];rfl
   . rw[List.getElem?_set_ne h];exact hb
 exact one _ j (one _ i hb)
theorem Hg.edge{es:List En}{a n:Nat}{bs:List Bool}(h:Hg es a n bs){e:En}(he:e∈es)(i1:e.2.1<n)(i2:e.2.2<n)(d:bs.getD e.2.1 false≠bs.getD e.2.2 false):
   Hg es a n ((bs.set e.2.1 true).set e.2.2 true)/\a24 ((bs.set e.2.1 true).set e.2.2 true)+1=a24 bs:=by
 have i1':e.2.1<bs.length:=by rw[h.len];exact i1
 have i2':e.2.2<bs.length:=by rw[h.len];exact i2
 have both:Hung es a e.2.1/\Hung es a e.2.2:=by
   cases h1:bs.getD e.2.1 false with
   |true=>exact⟨h.sound _ h1,.to (h.sound _ h1) he⟩
   |false=>
     have h2:bs.getD e.2.2 false=true:=by
       cases h2:bs.getD e.2.2 false with
       |true=>rfl
       |false=>rw[h1,h2]at d;exact absurd rfl d
     exact⟨.fro (h.sound _ h2) he,h.sound _ h2⟩
 refine⟨⟨by simp[h.len],fun b hb=> ?_,b4e h.first⟩,b5i i1' i2' d⟩
 rcases b6e hb with rfl |rfl |hb
 . exact both.1
 . exact both.2
 . exact h.sound b hb
theorem Hg.all{es:List En}{a n:Nat}{bs:List Bool}(h:Hg es a n bs)(cl: ∀e∈es,bs.getD e.2.1 false=bs.getD e.2.2 false){b:Nat}(hb:Hung es a b):bs.getD b false=true:=by
 induction hb with
 |refl=>exact h.first
 |to _ he ih=>rw[<-cl _ he];exact ih
 |fro _ he ih=>rw[cl _ he];exact ih
structure Rw(s:Nat)(ws:List (Str×Int))(js:List (Str×Nat×Nat)):Prop where
 names:ws.map Prod.fst=(List.range ws.length).map (a1l s)
 teeth: ∀w∈ws,1<=w.2/\w.2<1000000000
 kinds: ∀j∈js,a2a j.1=true/\j.2.1<ws.length/\j.2.2<ws.length/\j.2.1≠j.2.2
theorem Rw.wheel{s:Nat}{ws:List (Str×Int)}{js:List (Str×Nat×Nat)}(r:Rw s ws js){t:Int}(h1:1<=t)(h2:t<1000000000):Rw s (ws++[(a1l s ws.length,t)]) js:=by
 refine⟨?_,fun w hw=> ?_,fun j hj=> ?_⟩
 . rw[List.map_append,r.names,List.length_append]
   simp[List.range_succ]
 . rcases List.mem_append.mp hw with hw |hw
   . exact r.teeth w hw
   . rw[List.mem_singleton.mp hw];exact⟨h1,h2⟩
 . obtain⟨a,b,c,d⟩:=r.kinds j hj
   rw[List.length_append]
   exact⟨a,by omega,by omega,d⟩
theorem Rw.join{s:Nat}{ws:List (Str×Int)}{js:List (Str×Nat×Nat)}(r:Rw s ws js){k:Str}{a b:Nat}(hk:a2a k=true)(ha:a<ws.length)(hb:b<ws.length)(ne:a≠b):Rw s ws (js++[(k,a,b)]):=by
 refine⟨r.names,r.teeth,fun j hj=> ?_⟩
 rcases List.mem_append.mp hj with hj |hj
 . exact r.kinds j hj
 . rw[List.mem_singleton.mp hj];exact⟨hk,ha,hb,ne⟩
theorem Rw.nil(s:Nat):Rw s [] []:=⟨rfl,fun _ h=>(List.not_mem_nil h).elim,fun _ h=>(List.not_mem_nil h).elim⟩
theorem Rw.nodup{s:Nat}{ws:List (Str×Int)}{js:List (Str×Nat×Nat)}(r:Rw s ws js)(h:ws.length<=676):(ws.map Prod.fst).Nodup:=by
 rw[r.names];exact a89 s h
theorem Rw.name{s:Nat}{ws:List (Str×Int)}{js:List (Str×Nat×Nat)}(r:Rw s ws js){x:Str}(h:x∈ws.map Prod.fst): ∃k,k<ws.length/\x=a1l s k:=by
 rw[r.names]at h
 obtain⟨k,hk,rfl⟩:=List.mem_map.mp h
 exact⟨k,List.mem_range.mp hk,rfl⟩
noncomputable def jsRow(ns:List Str)(i:Nat)(j:Str×Nat×Nat):Jn:=((i:Int),j.1,at_ ns j.2.1,at_ ns j.2.2)
noncomputable def b09(ns:List Str)(js:List (Str×Nat×Nat)):List Jn:=js.mapIdx (jsRow ns)
noncomputable def esRow(i:Nat)(j:Str×Nat×Nat):En:=((i:Int),j.2.1,j.2.2)
noncomputable def esOf(js:List (Str×Nat×Nat)):List En:=js.mapIdx esRow
theorem b52(ns:List Str)(js:List (Str×Nat×Nat))(j:Str×Nat×Nat):b09 ns (js++[j])=b09 ns js++[jsRow ns js.length j]:=by
 unfold b09;rw[List.mapIdx_append];simp
theorem gcd_step{d r:Nat}:Nat.gcd r (d % r)=Nat.gcd d r:=by
 rw[Nat.gcd_comm r,Nat.gcd_comm d,Nat.gcd_rec r d]
noncomputable def low(t b:Int):Int:=if b<0 then -(Int.gcd t b:Int)else(Int.gcd t b:Int)
theorem b5e{t b:Int}(hb:b≠0):low t b≠0:=by
 have:Int.gcd t b≠0:=by rw[Ne,Int.gcd_eq_zero_iff];intro h;exact hb h.2
 unfold low;split<;>omega
theorem b5g(t b:Int):low t b∣t:=by
 unfold low;split
 . exact Int.neg_dvd.mpr (Int.gcd_dvd_left ..)
 . exact Int.gcd_dvd_left ..
theorem b5f(t b:Int):low t b∣b:=by
 unfold low;split
 . exact Int.neg_dvd.mpr (Int.gcd_dvd_right ..)
 . exact Int.gcd_dvd_right ..
noncomputable def lowT(t b:Int):Int:=t.fdiv (low t b)
noncomputable def lowB(t b:Int):Int:=b.fdiv (low t b)
theorem a6b(t b:Int):lowT t b *low t b=t:=Int.fdiv_mul_cancel (b5g t b)
theorem a6c(t b:Int):lowB t b *low t b=b:=Int.fdiv_mul_cancel (b5f t b)
theorem a6a(t b:Int):lowT t b *b=lowB t b *t:=by
 have e1:=a6b t b
 have e2:=a6c t b
 generalize lowT t b=x at *
 generalize lowB t b=y at *
 generalize low t b=d at *
 subst e1;rw[<-e2]
 rw[<-Int.mul_assoc,<-Int.mul_assoc,Int.mul_comm x y]
theorem a2w{t b:Int}(hb:b≠0):1<=lowB t b:=by
 have e2:=a6c t b
 have h0:(Int.gcd t b:Int)>0:=by
   have:Int.gcd t b≠0:=by rw[Ne,Int.gcd_eq_zero_iff];intro h;exact hb h.2
   omega
 unfold low at e2
 generalize lowB t b=y at *
 rcases Int.lt_or_le y 1 with h |h
 . exfalso
   split at e2
   . have:=Int.mul_nonneg (show 0<= -y by omega) (Int.le_of_lt h0)
     rw[Int.neg_mul]at this
     rw[Int.mul_neg]at e2
     omega
   . have:=Int.mul_nonneg (show 0<= -y by omega) (Int.le_of_lt h0)
     rw[Int.neg_mul]at this
     omega
 . exact h
theorem low_gcd{t b:Int}(hb:b≠0):Int.gcd (lowT t b) (lowB t b)=1:=by
 have e1:=a6b t b
 have e2:=a6c t b
 have h0:Int.gcd t b≠0:=by rw[Ne,Int.gcd_eq_zero_iff];intro h;exact hb h.2
 have g:(low t b).natAbs=Int.gcd t b:=by unfold low;split<;>omega
 have:Int.gcd (lowT t b *low t b) (lowB t b *low t b)=Int.gcd (lowT t b) (lowB t b) * (low t b).natAbs:=Int.gcd_mul_right ..
 rw[e1,e2,g]at this
 have p:0<Int.gcd t b:=Nat.pos_of_ne_zero h0
 exact Nat.eq_of_mul_eq_mul_right p (by omega)
theorem absE(a:Int):(if a<0 then -a else a)=((a.natAbs:Nat):Int):=by split<;>omega
noncomputable def addW(x:Str)(st:TT×List Str)(l:Ld):TT×List Str:=if l.2.2∈names st.1 then st else(st.1++[(l.2.2,some (l.1,l.2.1,x))],st.2++[l.2.2])
noncomputable def stepT(js:List Jn)(st:TT×List Str):TT×List Str:=match st.2 with | []=>st |x::ws=>(lead js x).foldl (addW x) (st.1,ws)
noncomputable def b1a(js:List Jn):Nat->TT×List Str->TT×List Str
 |0,s=>s
 |k+1,s=>stepT js (b1a js k s)
def IsTree(js:List Jn)(n:Str)(t:TT):Prop:= ∃k,b1a js k ([(n,none)],[n])=(t,[])
theorem a6y{js:List Jn}{s:TT×List Str}{t:TT}{k:Nat}(h:b1a js k s=(t,[])): ∀m,b1a js (k+m) s=(t,[])
 |0=>h
 |m+1=>by
   show stepT js (b1a js (k+m) s)=_
   rw[a6y h m];rfl
theorem IsTree.one{js:List Jn}{n:Str}{t t':TT}(h:IsTree js n t)(h':IsTree js n t'):t=t':=by
 obtain⟨k,e⟩:=h
 obtain⟨k',e'⟩:=h'
 have a:=a6y e k'
 have b:=a6y e' k
 rw[Nat.add_comm k' k,a]at b
 exact(Prod.mk.inj b).1
noncomputable abbrev Fr:=Int×Int
noncomputable def fac(k:Str)(a b:Int):Fr:=if k="pin" then(1,1)else if k="band" then(lowT a b,lowB a b)else(lowT (-a) b,lowB (-a) b)
noncomputable def mulF(x y:Fr):Fr:=(lowT (x.1 *y.1) (x.2 *y.2),lowB (x.1 *y.1) (x.2 *y.2))
noncomputable def a0h(ws:List (Str×Int))(n:Str):Int:=((ws.find? fun w=>decide (w.1=n)).map Prod.snd).getD 1
noncomputable abbrev Sh:=List (Str×Fr)
noncomputable def lk(sh:Sh)(n:Str):Fr:=((sh.find? fun e=>decide (e.1=n)).map Prod.snd).getD (1,1)
noncomputable def a30(ws:List (Str×Int))(sh:Sh)(e:Str×Option Ld):Fr:=match e.2 with
 |none=>(1,1)
 |some l=>mulF (lk sh l.2.2) (fac l.2.1 (a0h ws l.2.2) (a0h ws e.1))
noncomputable def a0c(ws:List (Str×Int))(t:TT):Sh:=t.foldl (fun sh e=>sh++[(e.1,a30 ws sh e)]) []
theorem a1d(ws:List (Str×Int))(t:TT)(e:Str×Option Ld):a0c ws (t++[e])=a0c ws t++[(e.1,a30 ws (a0c ws t) e)]:=by
 unfold a0c;rw[List.foldl_append];rfl
theorem a0o(ws:List (Str×Int))(t:TT):(a0c ws t).map Prod.fst=names t:=by
 suffices ∀(t:TT) (sh:Sh),(t.foldl (fun sh e=>sh++[(e.1,a30 ws sh e)]) sh).map Prod.fst=sh.map Prod.fst++names t by
   have:=this t []
   simpa[a0c]using this
 intro t
 induction t with
 |nil=>intro sh;simp[names]
 |cons e t ih=>intro sh;rw[List.foldl_cons,ih];simp[names]
theorem b3d(ws:List (Str×Int))(t:TT):(a0c ws t).length=t.length:=by
 have:=congrArg List.length (a0o ws t)
 simpa[names]using this
def Small(i:Nat)(x:Fr):Prop:=1<=x.2/\x.2<2^(30 *i)/\x.1.natAbs<2^(30 *i)
theorem b05{t b:Int}(hb:1<=b):lowB t b<=b:=by
 have hp:=a2w (t:=t) (b:=b) (by omega)
 have e:=a6c t b
 have hl:1<=low t b:=by
   have hn:=b5e (t:=t) (b:=b) (by omega)
   have:low t b=(Int.gcd t b:Int):=if_neg (by omega)
   omega
 have:lowB t b *1<=lowB t b *low t b:=Int.mul_le_mul_of_nonneg_left hl (by omega)
 omega
theorem b04{t b:Int}(hb:1<=b):(lowT t b).natAbs<=t.natAbs:=by
 have e:=a6b t b
 have hl:1<=(low t b).natAbs:=by
   have hn:=b5e (t:=t) (b:=b) (by omega)
   omega
 have e2:(lowT t b).natAbs * (low t b).natAbs=t.natAbs:=by rw[<-Int.natAbs_mul,e]
 have:=Nat.mul_le_mul_left (lowT t b).natAbs hl
 omega
theorem a61{k:Str}{a b:Int}(ha:1<=a)(ha2:a<1000000000)(hb:1<=b)(hb2:b<1000000000):Small 1 (fac k a b):=by
 have e30:(2:Nat)^(30 *1)=1073741824:=by decide
 have e30':(2:Int)^(30 *1)=1073741824:=by decide
 unfold fac Small
 rw[e30,e30']
 split
 . exact⟨by decide,by decide,by decide⟩
 . split
   . have h1:=a2w (t:=a) (b:=b) (by omega)
     have h2:=b05 (t:=a) hb
     have h3:=b04 (t:=a) hb
     exact⟨h1,by show lowB a b<_;omega,by show(lowT a b).natAbs<_;omega⟩
   . have h1:=a2w (t:= -a) (b:=b) (by omega)
     have h2:=b05 (t:= -a) hb
     have h3:=b04 (t:= -a) hb
     exact⟨h1,by show lowB (-a) b<_;omega,by show(lowT (-a) b).natAbs<_;omega⟩
theorem b3m{i j:Nat}{x y:Fr}(hx:Small i x)(hy:Small j y):Small (i+j) (mulF x y):=by
 obtain⟨x1,x2,x3⟩:=hx
 obtain⟨y1,y2,y3⟩:=hy
 have hb:1<=x.2 *y.2:=by
   have:=Int.mul_le_mul_of_nonneg_left y1 (show 0<=x.2 by omega)
   omega
 have e:(2:Nat)^(30 * (i+j))=2^(30 *i) *2^(30 *j):=by rw[Nat.mul_add,Nat.pow_add]
 have e':(2:Int)^(30 * (i+j))=2^(30 *i) *2^(30 *j):=by rw[Nat.mul_add,Int.pow_add]
 have h1:=a2w (t:=x.1 *y.1) (b:=x.2 *y.2) (by omega)
 have h2:=b05 (t:=x.1 *y.1) hb
 have h3:=b04 (t:=x.1 *y.1) hb
 refine⟨h1,?_,?_⟩
 . show lowB _ _<_
   rw[e']
   refine Int.lt_of_le_of_lt h2 ?_
   exact Int.mul_lt_mul x2 (by omega) (by omega) (by omega)
 . show(lowT _ _).natAbs<_
   rw[e]
   refine Nat.lt_of_le_of_lt h3 ?_
   rw[Int.natAbs_mul]
   exact Nat.mul_lt_mul'' x3 y3
theorem Small.up{i j:Nat}{x:Fr}(h:Small i x)(hij:i<=j):Small j x:=by
 have e:(2:Nat)^(30 *i)<=2^(30 *j):=Nat.pow_le_pow_right (by decide) (by omega)
 have e':(2:Int)^(30 *i)<=2^(30 *j):=by
   have h1:((2^(30 *i):Nat):Int)=(2:Int)^(30 *i):=by rw[Int.natCast_pow];rfl
   have h2:((2^(30 *j):Nat):Int)=(2:Int)^(30 *j):=by rw[Int.natCast_pow];rfl
   omega
 exact⟨h.1,Int.lt_of_lt_of_le h.2.1 e',Nat.lt_of_lt_of_le h.2.2 e⟩
theorem b2l{sh:Sh}{n:Str}(h:n∈sh.map Prod.fst): ∃e∈sh,e.1=n/\lk sh n=e.2:=by
 induction sh with
 |nil=>cases h
 |cons e sh ih=>
   by_cases he:e.1=n
   . exact⟨e,List.mem_cons_self,he,by simp[lk,he]⟩
   . obtain⟨x,h1,h2,h3⟩:=ih (by
       rcases List.mem_cons.mp h with h |h
       . exact absurd h.symm he
       . exact h)
     refine⟨x,List.mem_cons_of_mem _ h1,h2,?_⟩
     rw[<-h3]
     unfold lk
     rw[List.find?_cons,decide_eq_false he]
def a2b(ws:List (Str×Int)):Prop:= ∀w∈ws,1<=w.2/\w.2<1000000000
theorem a0l{ws:List (Str×Int)}(h:a2b ws)(n:Str):1<=a0h ws n/\a0h ws n<1000000000:=by
 unfold a0h
 cases e:ws.find? (fun w=>decide (w.1=n))with
 |none=>exact⟨by decide,by decide⟩
 |some w=>exact h w (List.mem_of_find?_eq_some e)
theorem a2p{ws:List (Str×Int)}(h:a2b ws){js:List Jn}{n:Str}{t:TT}(g:Grown js n t): ∀e∈a0c ws t,Small t.length e.2:=by
 induction g with
 |root=>
   intro e he
   have:e=(n,(1,1)):=by simpa[a0c,a30]using he
   rw[this]
   show Small 1 (1,1)
   exact⟨by decide,by decide,by decide⟩
 |more t m l g new old by_ ih=>
   intro e he
   rw[a1d]at he
   rw[List.length_append]
   rcases List.mem_append.mp he with he |he
   . exact(ih e he).up (Nat.le_add_right _ _)
   . rw[List.mem_singleton.mp he]
     obtain⟨x,h1,_,h3⟩:=b2l (sh:=a0c ws t) (n:=l.2.2) (by rw[a0o];exact old)
     show Small _ (mulF (lk (a0c ws t) l.2.2) _)
     rw[h3]
     have t1:=a0l h l.2.2
     have t2:=a0l h m
     exact b3m (ih x h1) (a61 t1.1 t1.2 t2.1 t2.2)
noncomputable def jams(ws:List (Str×Int))(sh:Sh)(j:Jn):Bool:=decide (j.2.2.1∈sh.map Prod.fst)&& !decide (mulF (lk sh j.2.2.1) (fac j.2.1 (a0h ws j.2.2.1) (a0h ws j.2.2.2))=lk sh j.2.2.2)
noncomputable def byF(k:Str)(a b:Int):Fr:=if k="pin" then(1,1)else if k="band" then(a,b)else(-a,b)
theorem a95(k:Str)(a b:Int):fac k a b=(lowT (byF k a b).1 (byF k a b).2,lowB (byF k a b).1 (byF k a b).2):=by
 unfold fac byF
 split
 . decide
 . split<;>rfl
theorem a75{k:Str}{a b:Int}(ha:1<=a)(hb:1<=b):(byF k a b).1≠0/\(byF k a b).2≠0:=by
 unfold byF
 split
 . exact⟨by decide,by decide⟩
 . split
   . exact⟨by show a≠0;omega,by show b≠0;omega⟩
   . exact⟨by show -a≠0;omega,by show b≠0;omega⟩
def Low(x:Fr):Prop:=1<=x.2/\Int.gcd x.1 x.2=1
theorem b6v{a b d:Int}(h:Int.gcd a b=1)(hd:b∣a *d):b∣d:=by
 have h1:b.natAbs∣a.natAbs *d.natAbs:=by rw[<-Int.natAbs_mul];exact Int.natAbs_dvd_natAbs.mpr hd
 exact Int.natAbs_dvd_natAbs.mp (Nat.Coprime.dvd_of_dvd_mul_left (show Nat.gcd b.natAbs a.natAbs=1 by rw[Nat.gcd_comm];exact h) h1)
theorem Low.eq{x y:Fr}(hx:Low x)(hy:Low y)(e:x.1 *y.2=y.1 *x.2):x=y:=by
 obtain⟨a,b⟩:=x
 obtain⟨c,d⟩:=y
 obtain⟨h1,h2⟩:=hx
 obtain⟨h3,h4⟩:=hy
 dsimp only at *
 have d1:b∣d:=by
   refine b6v (a:=a) h2 ⟨c,?_⟩
   rw[e,Int.mul_comm]
 have d2:d∣b:=by
   refine b6v (a:=c) h4 ⟨a,?_⟩
   rw[<-e,Int.mul_comm]
 have hbd:b=d:=Int.le_antisymm (Int.le_of_dvd (by omega) d1) (Int.le_of_dvd (by omega) d2)
 subst hbd
 rw[Int.eq_of_mul_eq_mul_right (show b≠0 by omega) e]
theorem low_Low{t b:Int}(hb:b≠0):Low (lowT t b,lowB t b):=⟨a2w hb,low_gcd hb⟩
theorem a3x{x y:Fr}(hx:x.2≠0)(hy:y.2≠0):Low (mulF x y):=low_Low (Int.mul_ne_zero hx hy)
theorem a2q{x z:Fr}{k:Str}{a b:Int}(hx:x.2≠0)(hz:Low z)(ha:1<=a)(hb:1<=b):mulF x (fac k a b)=z↔x.1 * (byF k a b).1 *z.2=z.1 *x.2 * (byF k a b).2:=by
 obtain⟨_,n2⟩:=a75 (k:=k) ha hb
 rw[a95]
 generalize byF k a b=f at n2
 have s1:=a6a f.1 f.2
 have p1:=a2w (t:=f.1) n2
 have hy:lowB f.1 f.2≠0:=by omega
 generalize lowT f.1 f.2=u at *
 generalize lowB f.1 f.2=v at *
 have s2:=a6a (x.1 *u) (x.2 *v)
 have n3:x.2 *v≠0:=Int.mul_ne_zero hx hy
 have L:Low (mulF x (u,v)):=a3x hx hy
 have e1:(mulF x (u,v)).1=lowT (x.1 *u) (x.2 *v):=rfl
 have e2:(mulF x (u,v)).2=lowB (x.1 *u) (x.2 *v):=rfl
 have p2:lowB (x.1 *u) (x.2 *v)≠0:=by have:=a2w (t:=x.1 *u) n3;omega
 constructor
 . intro h
   rw[<-h,e1,e2]
   generalize lowT (x.1 *u) (x.2 *v)=p at *
   generalize lowB (x.1 *u) (x.2 *v)=q at *
   refine Int.eq_of_mul_eq_mul_right hy ?_
   have:x.1 *f.1 *q *v=q * (x.1 *u) *f.2:=by
     rw[show x.1 *f.1 *q *v=x.1 *q * (v *f.1)by ac_rfl,<-s1];ac_rfl
   rw[this,<-s2];ac_rfl
 . intro h
   refine Low.eq L hz ?_
   rw[e1,e2]
   generalize lowT (x.1 *u) (x.2 *v)=p at *
   generalize lowB (x.1 *u) (x.2 *v)=q at *
   refine Int.eq_of_mul_eq_mul_right (Int.mul_ne_zero n3 n2) ?_
   rw[show p *z.2 * (x.2 *v *f.2)=p * (x.2 *v) * (z.2 *f.2)by ac_rfl,s2,show q * (x.1 *u) * (z.2 *f.2)=q *x.1 *z.2 * (u *f.2)by ac_rfl,s1,show q *x.1 *z.2 * (v *f.1)=q *v * (x.1 *f.1 *z.2)by ac_rfl,h];ac_rfl
def Agrees(ws:List (Str×Int))(sh:Sh)(k a b:Str):Prop:=(lk sh a).1 * (byF k (a0h ws a) (a0h ws b)).1 * (lk sh b).2=(lk sh b).1 * (lk sh a).2 * (byF k (a0h ws a) (a0h ws b)).2
theorem Agrees.symm{ws:List (Str×Int)}{sh:Sh}{k a b:Str}(h:Agrees ws sh k a b):Agrees ws sh k b a:=by
 unfold Agrees byF at *
 generalize lk sh a=x at *
 generalize lk sh b=y at *
 generalize a0h ws a=m at *
 generalize a0h ws b=n at *
 split at h
 . rename_i hk
   rw[if_pos hk]
   dsimp only at h |-
   rw[Int.mul_one,Int.mul_one]at h |-
   exact h.symm
 . rename_i hk
   rw[if_neg hk]
   split at h
   . rename_i hk2
     rw[if_pos hk2]
     dsimp only at h |-
     rw[show y.1 *n *x.2=y.1 *x.2 *n by ac_rfl,<-h];ac_rfl
   . rename_i hk2
     rw[if_neg hk2]
     dsimp only at h |-
     rw[Int.mul_neg,Int.neg_mul]at h |-
     rw[show y.1 *n *x.2=y.1 *x.2 *n by ac_rfl,<-h,Int.neg_neg];ac_rfl
theorem a7z{sh:Sh}{n:Str}{e:Str×Fr}(h:n∈sh.map Prod.fst):lk (sh++[e]) n=lk sh n:=by
 induction sh with
 |nil=>cases h
 |cons x sh ih=>
   unfold lk at ih |-
   rw[List.cons_append,List.find?_cons,List.find?_cons]
   by_cases hx:x.1=n
   . rw[decide_eq_true hx]
   . rw[decide_eq_false hx]
     rcases List.mem_cons.mp h with h |h
     . exact absurd h.symm hx
     . exact ih h
theorem a9x{sh:Sh}{n:Str}{f:Fr}(h:n∉sh.map Prod.fst):lk (sh++[(n,f)]) n=f:=by
 induction sh with
 |nil=>simp[lk]
 |cons x sh ih=>
   rw[List.map_cons,List.mem_cons,not_or]at h
   have:=ih h.2
   unfold lk at this |-
   rw[List.cons_append,List.find?_cons,decide_eq_false fun z=>h.1 z.symm]
   exact this
theorem a1k{ws:List (Str×Int)}(ht:a2b ws){js:List Jn}{n:Str}{t:TT}(g:Grown js n t): ∀m∈names t,Low (lk (a0c ws t) m):=by
 induction g with
 |root=>
   intro m hm
   have:m=n:=by simpa[names]using hm
   subst this
   have e:lk (a0c ws [(m,none)]) m=(1,1):=by simp[a0c,a30,lk]
   rw[e]
   exact⟨by decide,by decide⟩
 |more t m l g new old by_ ih=>
   intro x hx
   rw[a0y]at hx
   rw[a1d]
   rcases List.mem_append.mp hx with hx |hx
   . rw[a7z (by rw[a0o];exact hx)];exact ih x hx
   . have:x=m:=by simpa using hx
     subst this
     rw[a9x (by rw[a0o];exact new)]
     have h1:=(ih _ old).1
     have t1:=a0l ht l.2.2
     have t2:=a0l ht x
     refine a3x (by omega) ?_
     rw[a95]
     have:=a2w (t:=(byF l.2.1 (a0h ws l.2.2) (a0h ws x)).1) (a75 (k:=l.2.1) t1.1 t2.1).2
     show lowB (byF l.2.1 (a0h ws l.2.2) (a0h ws x)).1 (byF l.2.1 (a0h ws l.2.2) (a0h ws x)).2≠0
     omega
noncomputable def nums(t:TT):List Int:=t.filterMap fun e=>e.2.map Prod.fst
theorem a1h{js:List Jn}{x:Str}{l:Ld}(h:l∈lead js x): ∃j∈js,j.1=l.1/\j.2.1=l.2.1/\((j.2.2.1=x/\j.2.2.2=l.2.2)\/(j.2.2.2=x/\j.2.2.1=l.2.2)):=by
 unfold lead at h
 obtain⟨j,hj,h⟩:=List.mem_flatMap.mp h
 refine⟨j,hj,?_⟩
 unfold a7l at h
 rcases List.mem_append.mp h with h |h<;>split at h
 . rename_i e
   have:l=(j.1,j.2.1,j.2.2.2):=by simpa using h
   subst this;exact⟨rfl,rfl,.inl ⟨e,rfl⟩⟩
 . cases h
 . rename_i e
   have:l=(j.1,j.2.1,j.2.2.1):=by simpa using h
   subst this;exact⟨rfl,rfl,.inr ⟨e,rfl⟩⟩
 . cases h
theorem a1y{js:List Jn}{j:Jn}(h:j∈js):(j.1,j.2.1,j.2.2.2)∈lead js j.2.2.1/\(j.1,j.2.1,j.2.2.1)∈lead js j.2.2.2:=by
 constructor<;>refine List.mem_flatMap.mpr ⟨j,h,?_⟩<;>unfold a7l
 . rw[if_pos rfl];simp
 . refine List.mem_append_right _ ?_;rw[if_pos rfl];simp
theorem b5o{js:List Jn}{x:Str}{l:Ld}(h:l∈lead js x):(l.1,l.2.1,x)∈lead js l.2.2:=by
 obtain⟨j,hj,e1,e2,⟨e3,e4⟩ | ⟨e3,e4⟩⟩:=a1h h
 . rw[<-e1,<-e2,<-e3,<-e4];exact(a1y hj).2
 . rw[<-e1,<-e2,<-e3,<-e4];exact(a1y hj).1
theorem Reach.trans{js:List Jn}{a b c:Str}(h1:Reach js a b)(h2:Reach js b c):Reach js a c:=by
 induction h2 with
 |refl=>exact h1
 |step _ hl ih=>exact .step ih hl
theorem Reach.symm{js:List Jn}{a b:Str}(h:Reach js a b):Reach js b a:=by
 induction h with
 |refl=>exact .refl
 | @step b l h hl ih=>exact Reach.trans (.step (l:=(l.1,l.2.1,b)) .refl (b5o hl)) ih
theorem uniq{js:List Jn}(nd:(js.map Prod.fst).Nodup){i j:Jn}(hi:i∈js)(hj:j∈js)(e:i.1=j.1):i=j:=by
 induction js with
 |nil=>cases hi
 |cons x js ih=>
   rw[List.map_cons,List.nodup_cons]at nd
   rcases List.mem_cons.mp hi with h1 |h1<;>rcases List.mem_cons.mp hj with h2 |h2
   . rw[h1,h2]
   . exact absurd (List.mem_map.mpr ⟨j,h2,by rw[<-e,h1]⟩) nd.1
   . exact absurd (List.mem_map.mpr ⟨i,h1,by rw[e,h2]⟩) nd.1
   . exact ih nd.2 h1 h2
noncomputable def a2g(js:List Jn)(t:TT):List Jn:=js.filter fun j=>decide (j.1∈nums t)
theorem a8w(t:TT)(n:Str)(e:Ld):nums (t++[(n,some e)])=nums t++[e.1]:=by simp[nums]
theorem a4v{js js':List Jn}{x:Str}{l:Ld}(h:l∈lead js x)(hs: ∀j∈js,j.1=l.1->j∈js'):l∈lead js' x:=by
 obtain⟨j,hj,e1,e2,⟨e3,e4⟩ | ⟨e3,e4⟩⟩:=a1h h
 . have:=(a1y (hs j hj e1)).1
   rw[e1,e2,e3,e4]at this;exact this
 . have:=(a1y (hs j hj e1)).2
   rw[e1,e2,e3,e4]at this;exact this
theorem Grown.sub{js js':List Jn}{x:Str}{t:TT}(g:Grown js x t)(hs: ∀j∈js,j.1∈nums t->j∈js'):Grown js' x t:=by
 induction g with
 |root=>exact .root
 |more t n e g new old by_ ih=>
   refine .more t n e (ih fun j hj hn=>hs j hj (by rw[a8w];exact List.mem_append_left _ hn)) new old (a4v by_ fun j hj e1=>hs j hj ?_)
   rw[a8w,e1];simp
theorem Grown.tree{js:List Jn}{x:Str}{t:TT}(g:Grown js x t):Grown (a2g js t) x t:=g.sub fun j hj hn=>List.mem_filter.mpr ⟨hj,decide_eq_true hn⟩
theorem b0h{ws:List (Str×Int)}(ht:a2b ws){js:List Jn}(nd:(js.map Prod.fst).Nodup){x:Str}{t:TT}(g:Grown js x t): ∀j∈js,j.1∈nums t->j.2.2.1∈names t/\j.2.2.2∈names t/\Agrees ws (a0c ws t) j.2.1 j.2.2.1 j.2.2.2:=by
 induction g with
 |root=>intro j _ h;simp[nums]at h
 |more t n e g new old by_ ih=>
   intro j hj hn
   have gg:=Grown.more t n e g new old by_
   rw[a8w]at hn
   have so: ∀m∈names t,lk (a0c ws (t++[(n,some e)])) m=lk (a0c ws t) m:=fun m hm=>by rw[a1d,a7z (by rw[a0o];exact hm)]
   rw[a0y]
   rcases List.mem_append.mp hn with hn |hn
   . obtain⟨h1,h2,h3⟩:=ih j hj hn
     refine⟨List.mem_append_left _ h1,List.mem_append_left _ h2,?_⟩
     unfold Agrees at h3 |-
     rw[so _ h1,so _ h2];exact h3
   . have hn:j.1=e.1:=by simpa using hn
     obtain⟨i,hi,e1,e2,e3⟩:=a1h by_
     obtain rfl:=uniq nd hi hj (e1.trans hn.symm)
     have l1:=(a1k ht g _ old).1
     have t1:=a0l ht e.2.2
     have t2:=a0l ht n
     have sn:lk (a0c ws (t++[(n,some e)])) n=mulF (lk (a0c ws t) e.2.2) (fac e.2.1 (a0h ws e.2.2) (a0h ws n)):=by
       rw[a1d,a9x (by rw[a0o];exact new)];rfl
     have ln:=a1k ht gg n (by rw[a0y];simp)
     have key:Agrees ws (a0c ws (t++[(n,some e)])) e.2.1 e.2.2 n:=by
       unfold Agrees
       rw[so _ old]
       exact(a2q (by omega) ln t1.1 t2.1).mp sn.symm
     dsimp only at e2 e3
     rcases e3 with⟨e3,e4⟩ | ⟨e3,e4⟩
     . rw[e2,e3,e4];exact⟨List.mem_append_left _ old,by simp,key⟩
     . rw[e2,e3,e4];exact⟨by simp,List.mem_append_left _ old,key.symm⟩
noncomputable def kindOf(js:List Jn)(n:Int):Str:=((js.find? fun j=>decide (j.1=n)).map fun j=>j.2.1).getD ""
theorem a70{js:List Jn}(nd:(js.map Prod.fst).Nodup){j:Jn}(h:j∈js):kindOf js j.1=j.2.1:=by
 unfold kindOf
 cases e:js.find? (fun i=>decide (i.1=j.1))with
 |none=>have:=List.find?_eq_none.mp e j h;simp at this
 |some i=>
   have h1:=List.mem_of_find?_eq_some e
   have h2:=List.find?_some e
   rw[uniq nd h1 h (of_decide_eq_true h2)];rfl
noncomputable def wayF(ws:List (Str×Int))(js:List Jn):Str->List (Int×Str)->Fr->Fr
 |_,[],f=>f
 |a,s::st,f=>wayF ws js s.2 st (f.1 * (byF (kindOf js s.1) (a0h ws a) (a0h ws s.2)).1,f.2 * (byF (kindOf js s.1) (a0h ws a) (a0h ws s.2)).2)
theorem b3v(ws:List (Str×Int))(js:List Jn){a b:Str}{st:List (Int×Str)}(h:Way js a st b)(s:Int×Str): ∀f:Fr,wayF ws js a (st++[s]) f=((wayF ws js a st f).1 * (byF (kindOf js s.1) (a0h ws b) (a0h ws s.2)).1,(wayF ws js a st f).2 * (byF (kindOf js s.1) (a0h ws b) (a0h ws s.2)).2):=by
 induction h with
 |nil=>intro f;rfl
 |cons hl _ ih=>intro f;rw[List.cons_append];unfold wayF;exact ih _
theorem Way.mono{js js':List Jn}(hs: ∀j∈js,j∈js'){a b:Str}{st:List (Int×Str)}(h:Way js a st b):Way js' a st b:=by
 induction h with
 |nil=>exact .nil _
 |cons hl _ ih=>exact .cons (a4v hl fun j hj _=>hs j hj) ih
theorem Way.snoc{js:List Jn}{a b:Str}{st:List (Int×Str)}(h:Way js a st b){l:Ld}(hl:l∈lead js b):Way js a (st++[(l.1,l.2.2)]) l.2.2:=by
 induction h with
 |nil=>exact .cons hl (.nil _)
 |cons hl' _ ih=>exact .cons hl' (ih hl)
theorem way_nil{js:List Jn}{a b:Str}(h:Way js a [] b):a=b:=by
 generalize e:([]:List (Int×Str))=st at h
 cases h with
 |nil=>rfl
 |cons _ _=>cases e
theorem a7o{ws:List (Str×Int)}(ht:a2b ws){js tj:List Jn}(nd:(js.map Prod.fst).Nodup){sh:Sh}(hs: ∀j∈tj,j∈js)(hA: ∀j∈tj,Agrees ws sh j.2.1 j.2.2.1 j.2.2.2/\(lk sh j.2.2.1).2≠0/\(lk sh j.2.2.2).2≠0){a b o:Str}{st:List (Int×Str)}(h:Way tj a st b):
   ∀f:Fr,f.1≠0->f.2≠0->(lk sh o).1 *f.1 * (lk sh a).2=(lk sh a).1 * (lk sh o).2 *f.2->(wayF ws js a st f).1≠0/\(wayF ws js a st f).2≠0/\(lk sh o).1 * (wayF ws js a st f).1 * (lk sh b).2=(lk sh b).1 * (lk sh o).2 * (wayF ws js a st f).2:=by
 induction h with
 |nil=>intro f h1 h2 h3;exact⟨h1,h2,h3⟩
 | @cons a b l st hl _ ih=>
   intro f h1 h2 h3
   obtain⟨j,hj,e1,e2,e3⟩:=a1h hl
   have key:Agrees ws sh l.2.1 a l.2.2/\(lk sh a).2≠0:=by
     obtain⟨A,n1,n2⟩:=hA j hj
     rw[e2]at A
     rcases e3 with⟨e3,e4⟩ | ⟨e3,e4⟩
     . rw[e3,e4]at A;rw[e3]at n1;exact⟨A,n1⟩
     . rw[e3,e4]at A;rw[e3]at n2;exact⟨A.symm,n2⟩
   have ek:kindOf js l.1=l.2.1:=by rw[<-e1,a70 nd (hs j hj),e2]
   obtain⟨b1,b2⟩:=a75 (k:=l.2.1) (a0l ht a).1 (a0l ht l.2.2).1
   obtain⟨A,na⟩:=key
   unfold wayF
   dsimp only
   rw[ek]
   unfold Agrees at A
   generalize byF l.2.1 (a0h ws a) (a0h ws l.2.2)=y at *
   refine ih _ (Int.mul_ne_zero h1 b1) (Int.mul_ne_zero h2 b2) (Int.eq_of_mul_eq_mul_right na ?_)
   dsimp only
   rw[show(lk sh o).1 * (f.1 *y.1) * (lk sh l.2.2).2 * (lk sh a).2=(lk sh o).1 *f.1 * (lk sh a).2 * (y.1 * (lk sh l.2.2).2)by ac_rfl,h3,
     show(lk sh a).1 * (lk sh o).2 *f.2 * (y.1 * (lk sh l.2.2).2)=(lk sh a).1 *y.1 * (lk sh l.2.2).2 * ((lk sh o).2 *f.2)by ac_rfl,A]
   ac_rfl
theorem b65{js:List Jn}(nd:(js.map Prod.fst).Nodup){a b:Str}{st:List (Int×Str)}(h:Way js a st b):(a::st.map Prod.snd).Nodup->(st.map Prod.fst).Nodup/\ ∀j∈js,(j.2.2.1∉a::st.map Prod.snd\/j.2.2.2∉a::st.map Prod.snd)->j.1∉st.map Prod.fst:=by
 induction h with
 |nil=>intro _;exact⟨List.nodup_nil,fun _ _ _ h=>List.not_mem_nil h⟩
 | @cons a b l st hl _ ih=>
   intro hnd
   rw[List.map_cons,List.nodup_cons]at hnd
   obtain⟨h1,h2⟩:=ih hnd.2
   obtain⟨i,hi,e1,e2,e3⟩:=a1h hl
   rw[List.map_cons,List.map_cons]
   refine⟨List.nodup_cons.mpr ⟨?_,h1⟩,fun j hj ho hm=> ?_⟩
   . have:=h2 i hi (by
       rcases e3 with⟨e3,_⟩ | ⟨e3,_⟩
       . left;rw[e3];exact hnd.1
       . right;rw[e3];exact hnd.1)
     rw[e1]at this;exact this
   . rcases List.mem_cons.mp hm with hm |hm
     . obtain rfl:=uniq nd hi hj (e1.trans hm.symm)
       dsimp only at ho
       rcases e3 with⟨e3,e4⟩ | ⟨e3,e4⟩<;>rw[e3,e4]at ho<;>simp at ho
     . refine h2 j hj ?_ hm
       dsimp only at ho
       rcases ho with ho |ho
       . left;exact fun z=>ho (List.mem_cons_of_mem _ z)
       . right;exact fun z=>ho (List.mem_cons_of_mem _ z)
structure Ring(ws:List (Str×Int))(js:List Jn)(x:Str)(a:Str)(rs:List (Int×Str)):Prop where
 way:Way js a rs a
 two:2<=rs.length
 joins:(rs.map Prod.fst).Nodup
 wheels:(rs.map Prod.snd).Nodup
 hang: ∀s∈rs,Reach js x s.2
 ne:(wayF ws js a rs (1,1)).1≠(wayF ws js a rs (1,1)).2
 last: ∃st n,rs=st++[(n,a)]
theorem ring_ok{ws:List (Str×Int)}(ht:a2b ws){js:List Jn}(nd:(js.map Prod.fst).Nodup){x:Str}{t:TT}(g:Grown js x t){j:Jn}(hj:j∈js)(h1:j.2.2.1∈names t)(h2:j.2.2.2∈names t)(hne:j.2.2.1≠j.2.2.2)
   (hjam: ¬ mulF (lk (a0c ws t) j.2.2.1) (fac j.2.1 (a0h ws j.2.2.1) (a0h ws j.2.2.2))=lk (a0c ws t) j.2.2.2)
   {st:List (Int×Str)} (hw:Way (a2g js t) j.2.2.1 st j.2.2.2) (hnd:(j.2.2.1::st.map Prod.snd).Nodup):Ring ws js x j.2.2.1 (st++[(j.1,j.2.2.1)]):=by
 have hs: ∀i∈a2g js t,i∈js:=fun i hi=>(List.mem_filter.mp hi).1
 have low:=a1k ht g
 have hA: ∀i∈a2g js t,Agrees ws (a0c ws t) i.2.1 i.2.2.1 i.2.2.2/\(lk (a0c ws t) i.2.2.1).2≠0/\(lk (a0c ws t) i.2.2.2).2≠0:=fun i hi=>by
   obtain⟨m1,m2⟩:=List.mem_filter.mp hi
   obtain⟨a1,a2,a3⟩:=b0h ht nd g i m1 (of_decide_eq_true m2)
   have:=(low _ a1).1
   have:=(low _ a2).1
   exact⟨a3,by omega,by omega⟩
 have l1:=low _ h1
 have l2:=low _ h2
 have t1:=a0l ht j.2.2.1
 have t2:=a0l ht j.2.2.2
 have hno: ¬ Agrees ws (a0c ws t) j.2.1 j.2.2.1 j.2.2.2:=fun A=>hjam ((a2q (by have:=l1.1;omega) l2 t1.1 t2.1).mpr A)
 have hjt:j∉a2g js t:=fun z=>hno (hA j z).1
 have hwj:=hw.mono hs
 have ndt:((a2g js t).map Prod.fst).Nodup:=nd.sublist (List.Sublist.map _ List.filter_sublist)
 obtain⟨q1,_⟩:=b65 ndt hw hnd
 have hmem: ∀{a b:Str}{st:List (Int×Str)},Way (a2g js t) a st b-> ∀s∈st,s.1∈(a2g js t).map Prod.fst:=by
   intro a b st h
   induction h with
   |nil=>intro s hs;cases hs
   |cons hl _ ih=>
     intro s hs
     rcases List.mem_cons.mp hs with rfl |hs
     . obtain⟨i,hi,e1,_⟩:=a1h hl
       exact List.mem_map.mpr ⟨i,hi,e1⟩
     . exact ih s hs
 have hreach: ∀{a b:Str}{st:List (Int×Str)},Way (a2g js t) a st b->Reach js x a-> ∀s∈st,Reach js x s.2:=by
   intro a b st h
   induction h with
   |nil=>intro _ s hs;cases hs
   |cons hl _ ih=>
     intro ha s hs'
     have:=Reach.step ha (a4v hl fun i hi _=>hs i hi)
     rcases List.mem_cons.mp hs' with rfl |hs'
     . exact this
     . exact ih this s hs'
 refine⟨hwj.snoc (a1y hj).2,?_,?_,?_,?_,?_,⟨st,j.1,rfl⟩⟩
 . cases st with
   |nil=>exact absurd (way_nil hw) hne
   |cons _ _=>simp
 . rw[List.map_append,List.nodup_append]
   refine⟨q1,by simp,fun a ha b hb=> ?_⟩
   have:b=j.1:=by simpa using hb
   subst this
   rintro rfl
   obtain⟨s,hs1,hs2⟩:=List.mem_map.mp ha
   obtain⟨i,hi,e⟩:=List.mem_map.mp (hmem hw s hs1)
   have:=uniq nd (hs i hi) hj (e.trans hs2)
   subst this
   exact hjt hi
 . rw[List.map_append,List.nodup_append]
   rw[List.nodup_cons]at hnd
   refine⟨hnd.2,by simp,fun a ha b hb=> ?_⟩
   have:b=j.2.2.1:=by simpa using hb
   subst this
   rintro rfl
   exact hnd.1 ha
 . have r1:=g.reach _ h1
   intro s hs'
   rcases List.mem_append.mp hs' with hs' |hs'
   . exact hreach hw r1 s hs'
   . rw[List.mem_singleton.mp hs'];exact r1
 . rw[b3v ws js hwj]
   obtain⟨f1,f2,f3⟩:=a7o ht nd hs hA (o:=j.2.2.1) hw (1,1) (by decide) (by decide) (by rw[Int.mul_one,Int.mul_one])
   dsimp only
   rw[a70 nd hj]
   generalize wayF ws js j.2.2.1 st (1,1)=F at *
   intro e
   refine hno (Agrees.symm ?_)
   unfold Agrees
   generalize byF j.2.1 (a0h ws j.2.2.2) (a0h ws j.2.2.1)=y at *
   refine Int.eq_of_mul_eq_mul_right f1 ?_
   rw[show(lk (a0c ws t) j.2.2.2).1 *y.1 * (lk (a0c ws t) j.2.2.1).2 *F.1=(lk (a0c ws t) j.2.2.2).1 * (lk (a0c ws t) j.2.2.1).2 * (F.1 *y.1)by ac_rfl,e,
     show(lk (a0c ws t) j.2.2.2).1 * (lk (a0c ws t) j.2.2.1).2 * (F.2 *y.2)=(lk (a0c ws t) j.2.2.2).1 * (lk (a0c ws t) j.2.2.1).2 *F.2 *y.2 by ac_rfl,<-f3]
   ac_rfl
theorem b29{js:List Jn}{x:Str}{t:TT}(g:Grown js x t){a b:Str}(ha:a∈names t)(hb:b∈names t):Reach (a2g js t) a b:=(g.tree.reach _ ha).symm.trans (g.tree.reach _ hb)
def AgreesG(ws:List (Str×Int))(g:Str->Fr)(k a b:Str):Prop:=(g a).1 * (byF k (a0h ws a) (a0h ws b)).1 * (g b).2=(g b).1 * (g a).2 * (byF k (a0h ws a) (a0h ws b)).2
theorem AgreesG.symm{ws:List (Str×Int)}{g:Str->Fr}{k a b:Str}(h:AgreesG ws g k a b):AgreesG ws g k b a:=by
 unfold AgreesG byF at *
 generalize g a=x at *
 generalize g b=y at *
 generalize a0h ws a=m at *
 generalize a0h ws b=n at *
 split at h
 . rename_i hk
   rw[if_pos hk]
   dsimp only at h |-
   rw[Int.mul_one,Int.mul_one]at h |-
   exact h.symm
 . rename_i hk
   rw[if_neg hk]
   split at h
   . rename_i hk2
     rw[if_pos hk2]
     dsimp only at h |-
     rw[show y.1 *n *x.2=y.1 *x.2 *n by ac_rfl,<-h];ac_rfl
   . rename_i hk2
     rw[if_neg hk2]
     dsimp only at h |-
     rw[Int.mul_neg,Int.neg_mul]at h |-
     rw[show y.1 *n *x.2=y.1 *x.2 *n by ac_rfl,<-h,Int.neg_neg];ac_rfl
structure Fits(ws:List (Str×Int))(js:List Jn)(x:Str)(t:TT)(g:Str->Fr):Prop where
 one:g x=(1,1)
 low: ∀n∈names t,Low (g n)
 agr: ∀j∈js,j.2.2.1∈names t->j.2.2.2∈names t->AgreesG ws g j.2.1 j.2.2.1 j.2.2.2
theorem Fits.less{ws:List (Str×Int)}{js js':List Jn}{x:Str}{t t':TT}{g:Str->Fr}(F:Fits ws js x t g)(hj: ∀j∈js',j∈js)(hn: ∀n∈names t',n∈names t):Fits ws js' x t' g:=
 ⟨F.one,fun n h=>F.low n (hn n h),fun j h h1 h2=>F.agr j (hj j h) (hn _ h1) (hn _ h2)⟩
theorem a4e{ws:List (Str×Int)}(ht:a2b ws){js:List Jn}{x:Str}{t:TT}{g:Str->Fr}(gr:Grown js x t):Fits ws js x t g-> ∀n∈names t,lk (a0c ws t) n=g n:=by
 induction gr with
 |root=>
   intro F n hn
   have:n=x:=by simpa[names]using hn
   subst this
   rw[F.one]
   simp[a0c,a30,lk]
 |more t n e gr new old by_ ih=>
   intro F m hm
   have sub: ∀m∈names t,m∈names (t++[(n,some e)]):=fun m h=>by rw[a0y];exact List.mem_append_left _ h
   have ih:=ih (F.less (fun _ h=>h) sub)
   rw[a1d]
   rw[a0y]at hm
   rcases List.mem_append.mp hm with hm |hm
   . rw[a7z (by rw[a0o];exact hm)];exact ih m hm
   . have:m=n:=by simpa using hm
     subst this
     have hm':m∈names (t++[(m,some e)]):=by rw[a0y];simp
     rw[a9x (by rw[a0o];exact new)]
     show mulF (lk (a0c ws t) e.2.2) (fac e.2.1 (a0h ws e.2.2) (a0h ws m))=g m
     rw[ih _ old]
     have l1:=(F.low _ (sub _ old)).1
     refine(a2q (by omega) (F.low _ hm') (a0l ht _).1 (a0l ht _).1).mpr ?_
     obtain⟨j,hj,_,e2,e3⟩:=a1h by_
     dsimp only at e2 e3
     rcases e3 with⟨e3,e4⟩ | ⟨e3,e4⟩
     . have:=F.agr j hj (by rw[e3];exact sub _ old) (by rw[e4];exact hm')
       rw[e2,e3,e4]at this;exact this
     . have:=(F.agr j hj (by rw[e4];exact hm') (by rw[e3];exact sub _ old)).symm
       rw[e2,e3,e4]at this;exact this
def a1m(ws:List (Str×Int))(js:List Jn)(t:TT):Prop:= ∀j∈js,j.2.2.1∈names t->mulF (lk (a0c ws t) j.2.2.1) (fac j.2.1 (a0h ws j.2.2.1) (a0h ws j.2.2.2))=lk (a0c ws t) j.2.2.2
theorem a06{js:List Jn}{t:TT}(cl:Closed js t){j:Jn}(hj:j∈js):j.2.2.1∈names t↔j.2.2.2∈names t:=
 ⟨fun h=>cl _ h _ (a1y hj).1,fun h=>cl _ h _ (a1y hj).2⟩
theorem a83{ws:List (Str×Int)}(ht:a2b ws){js:List Jn}{x:Str}{t:TT}{g:Str->Fr}(gr:Grown js x t)(cl:Closed js t)(F:Fits ws js x t g):a1m ws js t:=by
 intro j hj h1
 have h2:=(a06 cl hj).mp h1
 have e:=a4e ht gr F
 rw[e _ h1,e _ h2]
 have l1:=(F.low _ h1).1
 exact(a2q (by omega) (F.low _ h2) (a0l ht _).1 (a0l ht _).1).mpr (F.agr j hj h1 h2)
theorem b2m{ws:List (Str×Int)}{js:List Jn}{x:Str}{t:TT}(g:Grown js x t):lk (a0c ws t) x=(1,1):=by
 induction g with
 |root=>simp[a0c,a30,lk]
 |more t n e g new old by_ ih=>rw[a1d,a7z (by rw[a0o];exact g.start)];exact ih
theorem a5q{ws:List (Str×Int)}(ht:a2b ws){js:List Jn}{x:Str}{t:TT}(gr:Grown js x t)(nj:a1m ws js t):Fits ws js x t (lk (a0c ws t)):=by
 have low:=a1k ht gr
 refine⟨b2m gr,low,fun j hj h1 h2=> ?_⟩
 have l1:=(low _ h1).1
 exact(a2q (by omega) (low _ h2) (a0l ht _).1 (a0l ht _).1).mp (nj j hj h1)
theorem Reach.mono{js js':List Jn}(hs: ∀j∈js,j∈js'){a b:Str}(h:Reach js a b):Reach js' a b:=by
 induction h with
 |refl=>exact .refl
 |step _ hl ih=>exact .step ih (a4v hl fun j hj _=>hs j hj)
theorem a3o{js js':List Jn}(hs: ∀j∈js,j∈js'){x:Str}{t t':TT}(g:Grown js x t)(g':Grown js' x t')(c':Closed js' t'): ∀n∈names t,n∈names t':=fun n hn=>g'.all c' ((g.reach n hn).mono hs)
theorem a6d{ws:List (Str×Int)}(ht:a2b ws){js js':List Jn}(hs: ∀j∈js,j∈js'){x:Str}{t t':TT}(g:Grown js x t)(c:Closed js t)(g':Grown js' x t')(c':Closed js' t')(nj:a1m ws js' t'):
   a1m ws js t/\ ∀n∈names t,lk (a0c ws t) n=lk (a0c ws t') n:=by
 have F:=(a5q ht g' nj).less hs (a3o hs g g' c')
 exact⟨a83 ht g c F,a4e ht g F⟩
theorem a65{js:List Jn}{j:Jn}{t:TT}(c:Closed js t)(h:j.2.2.1∈names t↔j.2.2.2∈names t):Closed (js++[j]) t:=by
 intro n hn l hl
 obtain⟨i,hi,e1,e2,e3⟩:=a1h hl
 rcases List.mem_append.mp hi with hi |hi
 . rcases e3 with⟨e3,e4⟩ | ⟨e3,e4⟩
   . rw[<-e4];exact(a06 c hi).mp (by rw[e3];exact hn)
   . rw[<-e4];exact(a06 c hi).mpr (by rw[e3];exact hn)
 . have:i=j:=by simpa using hi
   subst this
   rcases e3 with⟨e3,e4⟩ | ⟨e3,e4⟩
   . rw[<-e4];exact h.mp (by rw[e3];exact hn)
   . rw[<-e4];exact h.mpr (by rw[e3];exact hn)
theorem Closed.reach{js:List Jn}{t:TT}(c:Closed js t){a b:Str}(ha:a∈names t)(h:Reach js a b):b∈names t:=by
 induction h with
 |refl=>exact ha
 |step _ hl ih=>exact c _ ih _ hl
theorem a7x{js:List Jn}{j:Jn}{x:Str}{t t':TT}(g:Grown js x t)(c:Closed js t)(g':Grown (js++[j]) x t')(c':Closed (js++[j]) t')(h:j.2.2.1∈names t↔j.2.2.2∈names t)(n:Str):n∈names t'↔n∈names t:=
 ⟨fun hn=>(a65 c h).reach g.start (g'.reach n hn),a3o (fun _ hi=>List.mem_append_left _ hi) g g' c' n⟩
theorem far_jam{ws:List (Str×Int)}(ht:a2b ws){js:List Jn}{j:Jn}{x:Str}{t t':TT}(g:Grown js x t)(c:Closed js t)(g':Grown (js++[j]) x t')(c':Closed (js++[j]) t')(h1:j.2.2.1∉names t)(h2:j.2.2.2∉names t)(nj:a1m ws js t):
   a1m ws (js++[j]) t'/\ ∀n∈names t',lk (a0c ws t') n=lk (a0c ws t) n:=by
 have same:=a7x g c g' c' ⟨fun z=>absurd z h1,fun z=>absurd z h2⟩
 have F0:=a5q ht g nj
 have F:Fits ws (js++[j]) x t' (lk (a0c ws t)):=by
   refine⟨F0.one,fun n hn=>F0.low n ((same n).mp hn),fun i hi a1 a2=> ?_⟩
   rcases List.mem_append.mp hi with hi |hi
   . exact F0.agr i hi ((same _).mp a1) ((same _).mp a2)
   . have:i=j:=by simpa using hi
     subst this
     exact absurd ((same _).mp a1) h1
 exact⟨a83 ht g' c' F,a4e ht g' F⟩
theorem b5h{t b:Int}(h:t≠0):lowT t b≠0:=fun z=>h (by have:=a6b t b;rw[z,Int.zero_mul]at this;exact this.symm)
theorem a7u{ws:List (Str×Int)}(ht:a2b ws){js:List Jn}{x:Str}{t:TT}(g:Grown js x t): ∀n∈names t,(lk (a0c ws t) n).1≠0:=by
 induction g with
 |root=>
   intro m hm
   have:m=x:=by simpa[names]using hm
   subst this
   have e:lk (a0c ws [(m,none)]) m=(1,1):=by simp[a0c,a30,lk]
   rw[e];decide
 |more t m l g new old by_ ih=>
   intro y hy
   rw[a0y]at hy
   rw[a1d]
   rcases List.mem_append.mp hy with hy |hy
   . rw[a7z (by rw[a0o];exact hy)];exact ih y hy
   . have:y=m:=by simpa using hy
     subst this
     rw[a9x (by rw[a0o];exact new)]
     show lowT _ _≠0
     refine b5h (Int.mul_ne_zero (ih _ old) ?_)
     rw[a95]
     exact b5h (a75 (a0l ht _).1 (a0l ht _).1).1
theorem b7e{ws:List (Str×Int)}(ht:a2b ws){js:List Jn}{j:Jn}(nd:((js++[j]).map Prod.fst).Nodup){x:Str}{t:TT}(g:Grown js x t)(c:Closed js t)(h:j.2.2.1∈names t↔j.2.2.2∈names t)(nj:a1m ws js t)
   {a:Str}{rs:List (Int×Str)} (R:Ring ws (js++[j]) x a rs):j.1∈rs.map Prod.fst:=by
 by_cases hm:j.1∈rs.map Prod.fst
 . exact hm
 exfalso
 have cm:=a65 c h
 obtain⟨st0,n0,er⟩:=R.last
 have ha:a∈names t:=cm.reach g.start (R.hang (n0,a) (by rw[er];simp))
 let tj:=js.filter fun i=>decide (i.2.2.1∈names t)
 have hway: ∀{b d:Str}{st:List (Int×Str)},Way (js++[j]) b st d->b∈names t->j.1∉st.map Prod.fst->Way tj b st d:=by
   intro b d st hw
   induction hw with
   |nil=>intro _ _;exact .nil _
   | @cons b d l st hl _ ih=>
     intro hb hn
     rw[List.map_cons,List.mem_cons,not_or]at hn
     refine .cons (a4v hl fun i hi e=> ?_) (ih (cm _ hb _ hl) hn.2)
     rcases List.mem_append.mp hi with hi |hi
     . refine List.mem_filter.mpr ⟨hi,decide_eq_true ?_⟩
       obtain⟨i',hi',e1,_,e3⟩:=a1h hl
       have:i'=i:=uniq nd hi' (List.mem_append_left _ hi) (e1.trans e.symm)
       subst this
       rcases e3 with⟨e3,_⟩ | ⟨e3,_⟩
       . rw[e3];exact hb
       . exact(a06 c hi).mpr (by rw[e3];exact hb)
     . have:i=j:=by simpa using hi
       subst this
       exact absurd e hn.1
 have hA: ∀i∈tj,Agrees ws (a0c ws t) i.2.1 i.2.2.1 i.2.2.2/\(lk (a0c ws t) i.2.2.1).2≠0/\(lk (a0c ws t) i.2.2.2).2≠0:=by
   intro i hi
   obtain⟨i1,i2⟩:=List.mem_filter.mp hi
   have i2:=of_decide_eq_true i2
   have i3:=(a06 c i1).mp i2
   have low:=a1k ht g
   have:=(low _ i2).1
   have:=(low _ i3).1
   exact⟨(a5q ht g nj).agr i i1 i2 i3,by omega,by omega⟩
 obtain⟨_,_,f3⟩:=a7o ht nd (fun i hi=>List.mem_append_left _ (List.mem_filter.mp hi).1) hA (o:=a) (hway R.way ha hm) (1,1) (by decide) (by decide) (by rw[Int.mul_one,Int.mul_one])
 refine R.ne ?_
 generalize wayF ws (js++[j]) a rs (1,1)=F at *
 have n1:=a7u ht g a ha
 have n2:(lk (a0c ws t) a).2≠0:=by have:=(a1k ht g a ha).1;omega
 refine Int.eq_of_mul_eq_mul_right (Int.mul_ne_zero n1 n2) ?_
 rw[show F.1 * ((lk (a0c ws t) a).1 * (lk (a0c ws t) a).2)=(lk (a0c ws t) a).1 *F.1 * (lk (a0c ws t) a).2 by ac_rfl,f3]
 ac_rfl
theorem scale{ws:List (Str×Int)}(ht:a2b ws){js:List Jn}{y:Str}{s:TT}{g:Str->Fr}(gr:Grown js y s):(∀n∈names s,(g n).2≠0)->(∀j∈js,j.2.2.1∈names s->j.2.2.2∈names s->AgreesG ws g j.2.1 j.2.2.1 j.2.2.2)->
   ∀n∈names s,(g n).1 * (g y).2 * (lk (a0c ws s) n).2=(g y).1 * (lk (a0c ws s) n).1 * (g n).2:=by
 induction gr with
 |root=>
   intro _ _ n hn
   have:n=y:=by simpa[names]using hn
   subst this
   have e:lk (a0c ws [(n,none)]) n=(1,1):=by simp[a0c,a30,lk]
   rw[e,Int.mul_one,Int.mul_one]
 |more t n e gr new old by_ ih=>
   intro N A m hm
   have sub: ∀m∈names t,m∈names (t++[(n,some e)]):=fun m h=>by rw[a0y];exact List.mem_append_left _ h
   have ih:=ih (fun m h=>N m (sub m h)) (fun j hj h1 h2=>A j hj (sub _ h1) (sub _ h2))
   rw[a1d]
   rw[a0y]at hm
   rcases List.mem_append.mp hm with hm |hm
   . rw[a7z (by rw[a0o];exact hm)];exact ih m hm
   . have:m=n:=by simpa using hm
     subst this
     have hm':m∈names (t++[(m,some e)]):=by rw[a0y];simp
     rw[a9x (by rw[a0o];exact new)]
     show _ *_ * (mulF (lk (a0c ws t) e.2.2) (fac e.2.1 (a0h ws e.2.2) (a0h ws m))).2=_ * (mulF (lk (a0c ws t) e.2.2) (fac e.2.1 (a0h ws e.2.2) (a0h ws m))).1 *_
     have i1:=ih _ old
     have l1:=(a1k ht gr _ old).1
     have b:=a75 (k:=e.2.1) (a0l ht e.2.2).1 (a0l ht m).1
     have fn:(fac e.2.1 (a0h ws e.2.2) (a0h ws m)).2≠0:=by rw[a95];have:=a2w (t:=(byF e.2.1 (a0h ws e.2.2) (a0h ws m)).1) b.2;dsimp only;omega
     have k1:=(a2q (by omega) (a3x (x:=lk (a0c ws t) e.2.2) (by omega) fn) (a0l ht _).1 (a0l ht _).1).mp rfl
     have k2:AgreesG ws g e.2.1 e.2.2 m:=by
       obtain⟨j,hj,_,e2,e3⟩:=a1h by_
       dsimp only at e2 e3
       rcases e3 with⟨e3,e4⟩ | ⟨e3,e4⟩
       . have:=A j hj (by rw[e3];exact sub _ old) (by rw[e4];exact hm')
         rw[e2,e3,e4]at this;exact this
       . have:=(A j hj (by rw[e4];exact hm') (by rw[e3];exact sub _ old)).symm
         rw[e2,e3,e4]at this;exact this
     unfold AgreesG at k2
     have n1:=N _ (sub _ old)
     generalize mulF (lk (a0c ws t) e.2.2) (fac e.2.1 (a0h ws e.2.2) (a0h ws m))=M at *
     generalize byF e.2.1 (a0h ws e.2.2) (a0h ws m)=B at *
     generalize lk (a0c ws t) e.2.2=S at *
     generalize g e.2.2=G at *
     generalize g m=P at *
     generalize g y=Y at *
     refine Int.eq_of_mul_eq_mul_right (Int.mul_ne_zero (Int.mul_ne_zero n1 b.2) (show S.2≠0 by omega)) ?_
     rw[show P.1 *Y.2 *M.2 * (G.2 *B.2 *S.2)=(P.1 *G.2 *B.2) *Y.2 *M.2 *S.2 by ac_rfl,<-k2,show G.1 *B.1 *P.2 *Y.2 *M.2 *S.2=(G.1 *Y.2 *S.2) *B.1 *P.2 *M.2 by ac_rfl,i1,show Y.1 *S.1 *G.2 *B.1 *P.2 *M.2=(S.1 *B.1 *M.2) *Y.1 *G.2 *P.2 by ac_rfl,k1]
     ac_rfl
theorem b8a{js:List Jn}{x y:Str}{t s:TT}(c:Closed js t)(gs:Grown js y s)(far:y∉names t){n:Str}(h:n∈names s):n∉names t:=fun h2=>far (c.reach h2 (gs.reach n h).symm)
def Ends(j:Jn)(p y:Str):Prop:=(j.2.2.1=p/\j.2.2.2=y)\/(j.2.2.2=p/\j.2.2.1=y)
theorem a5m{js:List Jn}{j:Jn}{x p y:Str}{t s t':TT}(g:Grown js x t)(c:Closed js t)(gs:Grown js y s)(cs:Closed js s)(g':Grown (js++[j]) x t')(c':Closed (js++[j]) t')(he:Ends j p y)(near:p∈names t)(n:Str):n∈names t'↔n∈names t\/n∈names s:=by
 have up: ∀i∈js,i∈js++[j]:=fun i hi=>List.mem_append_left _ hi
 have hj:j∈js++[j]:=by simp
 constructor
 . intro hn
   have R:=g'.reach n hn
   induction R with
   |refl=>exact .inl g.start
   | @step b l hb hl ih=>
     have ih:=ih (g'.all c' hb)
     obtain⟨i,hi,e1,e2,e3⟩:=a1h hl
     rcases List.mem_append.mp hi with hi |hi
     . rcases ih with ih |ih
       . rcases e3 with⟨e3,e4⟩ | ⟨e3,e4⟩
         . rw[<-e4];exact .inl ((a06 c hi).mp (by rw[e3];exact ih))
         . rw[<-e4];exact .inl ((a06 c hi).mpr (by rw[e3];exact ih))
       . rcases e3 with⟨e3,e4⟩ | ⟨e3,e4⟩
         . rw[<-e4];exact .inr ((a06 cs hi).mp (by rw[e3];exact ih))
         . rw[<-e4];exact .inr ((a06 cs hi).mpr (by rw[e3];exact ih))
     . have:i=j:=by simpa using hi
       subst this
       rcases e3 with⟨_,e4⟩ | ⟨_,e4⟩<;>rcases he with⟨h1,h2⟩ | ⟨h1,h2⟩
       . rw[<-e4,h2];exact .inr gs.start
       . rw[<-e4,h1];exact .inl near
       . rw[<-e4,h1];exact .inl near
       . rw[<-e4,h2];exact .inr gs.start
 . rintro(hn |hn)
   . exact a3o up g g' c' n hn
   . have hp:=a3o up g g' c' p near
     have hy:y∈names t':=by
       rcases he with⟨h1,h2⟩ | ⟨h1,h2⟩
       . rw[<-h2];exact(a06 c' hj).mp (by rw[h1];exact hp)
       . rw[<-h2];exact(a06 c' hj).mpr (by rw[h1];exact hp)
     exact c'.reach hy ((gs.reach n hn).mono up)
theorem Ends.agr{ws:List (Str×Int)}{g:Str->Fr}{j:Jn}{p y:Str}(he:Ends j p y):AgreesG ws g j.2.1 j.2.2.1 j.2.2.2↔AgreesG ws g j.2.1 p y:=by
 rcases he with⟨h1,h2⟩ | ⟨h1,h2⟩
 . rw[h1,h2]
 . rw[h1,h2];exact⟨fun h=>h.symm,fun h=>h.symm⟩
theorem b6a{ws:List (Str×Int)}(ht:a2b ws){js:List Jn}{j:Jn}{x p y:Str}{t s t':TT}(g:Grown js x t)(c:Closed js t)(gs:Grown js y s)(cs:Closed js s)(g':Grown (js++[j]) x t')(c':Closed (js++[j]) t')(he:Ends j p y)(near:p∈names t)(nj:a1m ws (js++[j]) t'):
   a1m ws js s/\(∀n∈names t,lk (a0c ws t') n=lk (a0c ws t) n)/\ ∀n∈names s,(lk (a0c ws t') n).1 * ((lk (a0c ws t) p).2 * (byF j.2.1 (a0h ws p) (a0h ws y)).2 * (lk (a0c ws s) n).2)=(lk (a0c ws t') n).2 * ((lk (a0c ws t) p).1 * (byF j.2.1 (a0h ws p) (a0h ws y)).1 * (lk (a0c ws s) n).1):=by
 have up: ∀i∈js,i∈js++[j]:=fun i hi=>List.mem_append_left _ hi
 have hn:=a5m g c gs cs g' c' he near
 have F:=a5q ht g' nj
 obtain⟨_,same⟩:=a6d ht up g c g' c' nj
 have lw:=a1k ht g'
 have ls:=a1k ht gs
 have sc:=scale ht gs (g:=lk (a0c ws t')) (fun n h=>by have:=(lw n ((hn n).mpr (.inr h))).1;omega) (fun i hi h1 h2=>F.agr i (up i hi) ((hn _).mpr (.inr h1)) ((hn _).mpr (.inr h2)))
 have hy:=(hn y).mpr (.inr gs.start)
 have hp:=(hn p).mpr (.inl near)
 have y1:=a7u ht g' y hy
 have y2:=(lw y hy).1
 refine⟨fun i hi h1=> ?_,fun n h=>(same n h).symm,fun n h=> ?_⟩
 . have h2:=(a06 cs hi).mp h1
   have a1:=sc _ h1
   have a2:=sc _ h2
   have a3:=F.agr i (up i hi) ((hn _).mpr (.inr h1)) ((hn _).mpr (.inr h2))
   have l1:=(ls _ h1).1
   have m1:=(lw _ ((hn _).mpr (.inr h1))).1
   have m2:=(lw _ ((hn _).mpr (.inr h2))).1
   refine(a2q (by omega) (ls _ h2) (a0l ht _).1 (a0l ht _).1).mpr ?_
   unfold AgreesG at a3
   generalize byF i.2.1 _ _=B at *
   generalize lk (a0c ws s) i.2.2.1=Sa at *
   generalize lk (a0c ws s) i.2.2.2=Sb at *
   generalize lk (a0c ws t') i.2.2.1=Ga at *
   generalize lk (a0c ws t') i.2.2.2=Gb at *
   generalize lk (a0c ws t') y=Y at *
   refine Int.eq_of_mul_eq_mul_right (Int.mul_ne_zero (Int.mul_ne_zero (Int.mul_ne_zero y1 (show Ga.2≠0 by omega)) (show Gb.2≠0 by omega)) (show Y.2≠0 by omega)) ?_
   rw[show Sa.1 *B.1 *Sb.2 * (Y.1 *Ga.2 *Gb.2 *Y.2)=(Y.1 *Sa.1 *Ga.2) *B.1 *Sb.2 *Gb.2 *Y.2 by ac_rfl,<-a1,show Ga.1 *Y.2 *Sa.2 *B.1 *Sb.2 *Gb.2 *Y.2=(Ga.1 *B.1 *Gb.2) *Y.2 *Y.2 *Sa.2 *Sb.2 by ac_rfl,a3,show Gb.1 *Ga.2 *B.2 *Y.2 *Y.2 *Sa.2 *Sb.2=(Gb.1 *Y.2 *Sb.2) *Ga.2 *B.2 *Y.2 *Sa.2 by ac_rfl,a2]
   ac_rfl
 . have a1:=sc n h
   have a2:=he.agr.mp (F.agr j (by simp) (by rcases he with⟨h1,h2⟩ | ⟨h1,h2⟩<;>simp only[h1,h2,hp,hy]) (by rcases he with⟨h1,h2⟩ | ⟨h1,h2⟩<;>simp only[h1,h2,hp,hy]))
   unfold AgreesG at a2
   rw[<-same p near]at a2
   generalize byF j.2.1 _ _=B at *
   generalize lk (a0c ws s) n=M at *
   generalize lk (a0c ws t') n=N at *
   generalize lk (a0c ws t) p=R at *
   generalize lk (a0c ws t') y=Y at *
   refine Int.eq_of_mul_eq_mul_right (show Y.2≠0 by omega) ?_
   rw[show N.1 * (R.2 *B.2 *M.2) *Y.2=(N.1 *Y.2 *M.2) *R.2 *B.2 by ac_rfl,a1,show Y.1 *M.1 *N.2 *R.2 *B.2=(Y.1 *R.2 *B.2) *M.1 *N.2 by ac_rfl,<-a2]
   ac_rfl
theorem b7x{x:Fr}(h:Low x):mulF x (1,1)=x:=by
 have h1:=h.1
 refine(a3x (by omega) (by decide)).eq h ?_
 have e:=a6a (x.1 *1) (x.2 *1)
 rw[Int.mul_one,Int.mul_one]at e
 show lowT (x.1 *1) (x.2 *1) *x.2=x.1 *lowB (x.1 *1) (x.2 *1)
 rw[Int.mul_one,Int.mul_one,e,Int.mul_comm]
open Classical in
theorem hung_on{ws:List (Str×Int)}(ht:a2b ws){js:List Jn}{j:Jn}{x p y:Str}{t s t':TT}(g:Grown js x t)(c:Closed js t)(gs:Grown js y s)(cs:Closed js s)(g':Grown (js++[j]) x t')(c':Closed (js++[j]) t')(he:Ends j p y)(near:p∈names t)(far:y∉names t)(nt:a1m ws js t)(ns:a1m ws js s):
   a1m ws (js++[j]) t':=by
 have hn:=a5m g c gs cs g' c' he near
 have Ft:=a5q ht g nt
 have Fs:=a5q ht gs ns
 have lt:=a1k ht g
 have ls:=a1k ht gs
 have fn:(fac j.2.1 (a0h ws p) (a0h ws y)).2≠0:=by
   rw[a95]
   have:=a2w (t:=(byF j.2.1 (a0h ws p) (a0h ws y)).1) (a75 (k:=j.2.1) (a0l ht p).1 (a0l ht y).1).2
   dsimp only;omega
 have lp:=(lt p near).1
 have LC:Low (mulF (lk (a0c ws t) p) (fac j.2.1 (a0h ws p) (a0h ws y))):=a3x (by omega) fn
 have C1:=(a2q (by omega) LC (a0l ht p).1 (a0l ht y).1).mp rfl
 generalize mulF (lk (a0c ws t) p) (fac j.2.1 (a0h ws p) (a0h ws y))=C at *
 have c2:=LC.1
 let G:Str->Fr:=fun n=>if n∈names t then lk (a0c ws t) n else mulF C (lk (a0c ws s) n)
 have Gt: ∀{n},n∈names t->G n=lk (a0c ws t) n:=fun h=>if_pos h
 have Gs: ∀{n},n∈names s->G n=mulF C (lk (a0c ws s) n):=fun h=>if_neg (b8a (x:=x) c gs far h)
 have Gm: ∀{n},n∈names s->(G n).1 * (C.2 * (lk (a0c ws s) n).2)=(G n).2 * (C.1 * (lk (a0c ws s) n).1):=fun h=>by rw[Gs h];exact a6a _ _
 refine a83 ht g' c' (g:=G) ⟨?_,fun n h=> ?_,fun i hi h1 h2=> ?_⟩
 . rw[Gt g.start];exact Ft.one
 . rcases(hn n).mp h with h |h
   . rw[Gt h];exact lt n h
   . rw[Gs h];exact a3x (by omega) (by have:=(ls n h).1;omega)
 . rcases List.mem_append.mp hi with hi |hi
   . rcases(hn _).mp h1 with h1 |h1
     . have h2:=(a06 c hi).mp h1
       have:=Ft.agr i hi h1 h2
       unfold AgreesG at this |-
       rw[Gt h1,Gt h2];exact this
     . have h2:=(a06 cs hi).mp h1
       have a3:=Fs.agr i hi h1 h2
       have a1:=Gm h1
       have a2:=Gm h2
       have s1:=(ls _ h1).1
       have s2:=(ls _ h2).1
       unfold AgreesG at a3 |-
       generalize byF i.2.1 _ _=B at *
       generalize lk (a0c ws s) i.2.2.1=Sa at *
       generalize lk (a0c ws s) i.2.2.2=Sb at *
       generalize G i.2.2.1=Na at *
       generalize G i.2.2.2=Nb at *
       refine Int.eq_of_mul_eq_mul_right (Int.mul_ne_zero (Int.mul_ne_zero (show C.2≠0 by omega) (show Sa.2≠0 by omega)) (Int.mul_ne_zero (show C.2≠0 by omega) (show Sb.2≠0 by omega))) ?_
       rw[show Na.1 *B.1 *Nb.2 * (C.2 *Sa.2 * (C.2 *Sb.2))=(Na.1 * (C.2 *Sa.2)) *B.1 *Nb.2 *C.2 *Sb.2 by ac_rfl,a1,show Na.2 * (C.1 *Sa.1) *B.1 *Nb.2 *C.2 *Sb.2=(Sa.1 *B.1 *Sb.2) *Na.2 *C.1 *Nb.2 *C.2 by ac_rfl,a3,show Sb.1 *Sa.2 *B.2 *Na.2 *C.1 *Nb.2 *C.2=(Nb.2 * (C.1 *Sb.1)) *Sa.2 *B.2 *Na.2 *C.2 by ac_rfl,<-a2]
       ac_rfl
   . have:i=j:=by simpa using hi
     subst this
     refine he.agr.mpr ?_
     unfold AgreesG
     rw[Gt near,Gs gs.start,b2m gs,b7x LC]
     exact C1
noncomputable def top(i:Nat):Stmt:=PySem.Challenge.pw_cogtrain_k09_whole_more_and_less.main.body.getD i (.Pass ⟨0,0,0,0⟩)
structure Txt(K:PySem.W.Frag)(mg:Str->Option Value):Prop where
 len:mg "len"=none
 all:mg "all"=none
 list:mg "list"=none
 range:mg "range"=none
 isinstance:mg "isinstance"=none
 int:mg "int"=none
 bool:mg "bool"=none
 str:mg "str"=none
 max:mg "max"=none
 abs:mg "abs"=none
 dict:mg "dict"=none
 tuple:mg "tuple"=none
 ValueError:mg "ValueError"=none
 LONGEST_NAME: ∃t,mg "LONGEST_NAME"=some (.int 8 t)
 TEETH_BOUND: ∃t,mg "TEETH_BOUND"=some (.int 1000000000 t)
 MOST_WHEELS: ∃t,mg "MOST_WHEELS"=some (.int 100 t)
 MOST_JOINS: ∃t,mg "MOST_JOINS"=some (.int 200 t)
 LETTERS: ∃t,mg "LETTERS"=some (.str "abcdefghijklmnopqrstuvwxyz" t)
 KINDS: ∃a,mg "KINDS"=some (.ref a)/\ ∀H,SqT K H a ([.str "mesh",.str "pin",.str "band",.str "cross"])
noncomputable abbrev a1u:Stmt:=top 10
theorem sc_greatest_divisor:FnScope ["one","other","divisor","rest","left_over"] ["one","other"] (a0f a1u):=⟨rfl,rfl,rfl,by decide+kernel,rfl,by decide+kernel,by decide+kernel⟩
noncomputable abbrev a4n:Stmt:=top 11
theorem sc_lowest:FnScope ["top","bottom","divisor"] ["top","bottom"] (a0f a4n):=⟨rfl,rfl,rfl,by decide+kernel,rfl,by decide+kernel,by decide+kernel⟩
noncomputable abbrev b0m:Stmt:=top 12
theorem b7a:FnScope ["one","other"] ["one","other"] (a0f b0m):=⟨rfl,rfl,rfl,by decide+kernel,rfl,by decide+kernel,by decide+kernel⟩
noncomputable abbrev a8l:Stmt:=top 14
theorem b4h:FnScope ["kind","one","other"] ["kind","one","other"] (a0f a8l):=⟨rfl,rfl,rfl,by decide+kernel,rfl,by decide+kernel,by decide+kernel⟩
noncomputable abbrev a2e:Stmt:=top 15
theorem a42:FnScope ["names","name"] ["names","name"] (a0f a2e):=⟨rfl,rfl,rfl,by decide+kernel,rfl,by decide+kernel,by decide+kernel⟩
noncomputable abbrev a26:Stmt:=top 16
theorem sc_wheel_meant:FnScope ["train","name","names"] ["train","name"] (a0f a26):=⟨rfl,rfl,rfl,by decide+kernel,rfl,by decide+kernel,by decide+kernel⟩
noncomputable abbrev a3m:Stmt:=top 17
theorem sc_joins_from:FnScope ["joins","here","leading","number","kind","one","other"] ["joins","here"] (a0f a3m):=⟨rfl,rfl,rfl,by decide+kernel,rfl,by decide+kernel,by decide+kernel⟩
noncomputable abbrev a37:Stmt:=top 18
theorem sc_tree_from:FnScope ["joins","start","tree","waiting","here","number","kind","there"] ["joins","start"] (a0f a37):=⟨rfl,rfl,rfl,by decide+kernel,rfl,by decide+kernel,by decide+kernel⟩
noncomputable abbrev a6k:Stmt:=top 19
theorem sc_road_by:FnScope ["joins","one","other","tree","steps","there","entry"] ["joins","one","other"] (a0f a6k):=⟨rfl,rfl,rfl,by decide+kernel,rfl,by decide+kernel,by decide+kernel⟩
noncomputable abbrev a2u:Stmt:=top 20
theorem sc_shares_along:FnScope ["train","tree","teeth_of","shares","name","entry","before"] ["train","tree"] (a0f a2u):=⟨rfl,rfl,rfl,by decide+kernel,rfl,by decide+kernel,by decide+kernel⟩
noncomputable abbrev a2v:Stmt:=top 21
theorem sc_jamming_join:FnScope ["train","shares","teeth_of","join","one","other","share"] ["train","shares"] (a0f a2v):=⟨rfl,rfl,rfl,by decide+kernel,rfl,by decide+kernel,by decide+kernel⟩
noncomputable abbrev a2d:Stmt:=top 22
theorem sc_ring_closed_by:FnScope ["join","joins","tree","numbers","tree_joins","steps"] ["join","joins","tree"] (a0f a2d):=⟨rfl,rfl,rfl,by decide+kernel,rfl,by decide+kernel,by decide+kernel⟩
noncomputable abbrev a3f:Stmt:=top 23
theorem sc_ring:FnScope ["train","name","tree","join"] ["train","name"] (a0f a3f):=⟨rfl,rfl,rfl,by decide+kernel,rfl,by decide+kernel,by decide+kernel⟩
noncomputable abbrev a3b:Stmt:=top 24
theorem sc_free_shares:FnScope ["train","name","tree","shares"] ["train","name"] (a0f a3b):=⟨rfl,rfl,rfl,by decide+kernel,rfl,by decide+kernel,by decide+kernel⟩
noncomputable abbrev a2c:Stmt:=top 25
theorem sc_turns:FnScope ["train","name","shares"] ["train","name"] (a0f a2c):=⟨rfl,rfl,rfl,by decide+kernel,rfl,by decide+kernel,by decide+kernel⟩
noncomputable abbrev a6m:Stmt:=top 33
theorem b3f:FnScope ["text"] ["text"] (a0f a6m):=⟨rfl,rfl,rfl,by decide+kernel,rfl,by decide+kernel,by decide+kernel⟩
noncomputable abbrev a1g:Stmt:=a5k (top 34) 0
theorem a44:FnScope ["self"] ["self"] (a0f a1g):=⟨rfl,rfl,rfl,by decide+kernel,rfl,by decide+kernel,by decide+kernel⟩
noncomputable abbrev a1c:Stmt:=a5k (top 34) 1
theorem a4m:FnScope ["self","name","teeth"] ["self","name","teeth"] (a0f a1c):=⟨rfl,rfl,rfl,by decide+kernel,rfl,by decide+kernel,by decide+kernel⟩
noncomputable abbrev a1f:Stmt:=a5k (top 34) 2
theorem sc_Train_put_join:FnScope ["self","kind","one","other","number"] ["self","kind","one","other"] (a0f a1f):=⟨rfl,rfl,rfl,by decide+kernel,rfl,by decide+kernel,by decide+kernel⟩
noncomputable abbrev a1b:Stmt:=a5k (top 34) 3
theorem a4l:FnScope ["self","number"] ["self","number"] (a0f a1b):=⟨rfl,rfl,rfl,by decide+kernel,rfl,by decide+kernel,by decide+kernel⟩
noncomputable abbrev a1n:Stmt:=a5k (top 34) 4
theorem a6j:FnScope ["self"] ["self"] (a0f a1n):=⟨rfl,rfl,rfl,by decide+kernel,rfl,by decide+kernel,by decide+kernel⟩
noncomputable abbrev a1q:Stmt:=a5k (top 34) 5
theorem a7b:FnScope ["self"] ["self"] (a0f a1q):=⟨rfl,rfl,rfl,by decide+kernel,rfl,by decide+kernel,by decide+kernel⟩
noncomputable abbrev a29:Stmt:=top 36
theorem a7a:FnScope ["_law_script","_law_k"] ["_law_script","_law_k"] (a0f a29):=⟨rfl,rfl,rfl,by decide+kernel,rfl,by decide+kernel,by decide+kernel⟩
noncomputable abbrev a47:Stmt:=top 37
theorem sc_law_name:FnScope ["_law_k","_law_spin","_law_letters","_law_first","_law_last"] ["_law_k","_law_spin"] (a0f a47):=⟨rfl,rfl,rfl,by decide+kernel,rfl,by decide+kernel,by decide+kernel⟩
noncomputable abbrev a39:Stmt:=top 38
theorem a9f:FnScope ["_law_number","_law_way"] ["_law_number","_law_way"] (a0f a39):=⟨rfl,rfl,rfl,by decide+kernel,rfl,by decide+kernel,by decide+kernel⟩
noncomputable abbrev a8j:Stmt:=top 39
theorem b4g:FnScope ["_law_kind","_law_one","_law_other"] ["_law_kind","_law_one","_law_other"] (a0f a8j):=⟨rfl,rfl,rfl,by decide+kernel,rfl,by decide+kernel,by decide+kernel⟩
noncomputable abbrev a5c:Stmt:=top 40
theorem sc_law_goes:FnScope ["_law_kind","_law_one","_law_other","_law_wheels","_law_speeds","_law_by_here","_law_here","_law_there"] ["_law_kind","_law_one","_law_other","_law_wheels","_law_speeds"] (a0f a5c):=⟨rfl,rfl,rfl,by decide+kernel,rfl,by decide+kernel,by decide+kernel⟩
noncomputable abbrev a28:Stmt:=top 41
theorem sc_law_closing:FnScope ["_law_kind","_law_one","_law_other","_law_wheels","_law_speeds","_law_kinds","_law_k","_law_some"] ["_law_kind","_law_one","_law_other","_law_wheels","_law_speeds"] (a0f a28):=⟨rfl,rfl,rfl,by decide+kernel,rfl,by decide+kernel,by decide+kernel⟩
noncomputable abbrev a6l:Stmt:=top 42
theorem sc_law_two:FnScope ["_law_number","_law_k","_law_many","_law_at"] ["_law_number","_law_k","_law_many"] (a0f a6l):=⟨rfl,rfl,rfl,by decide+kernel,rfl,by decide+kernel,by decide+kernel⟩
noncomputable abbrev a46:Stmt:=top 43
theorem sc_law_rows:FnScope ["_law_cells","_law_start","_law_wheels","_law_joins","_law_speeds","_law_kinds","_law_k","_law_way","_law_rest","_law_kind","_law_many","_law_at","_law_by_here","_law_to"] ["_law_cells","_law_start"] (a0f a46):=⟨rfl,rfl,rfl,by decide+kernel,rfl,by decide+kernel,by decide+kernel⟩
noncomputable abbrev a38:Stmt:=top 44
theorem sc_law_train:FnScope ["_law_wheels","_law_joins","_law_train_here","_law_name_here","_law_teeth_here","_law_kind","_law_one","_law_other"] ["_law_wheels","_law_joins"] (a0f a38):=⟨rfl,rfl,rfl,by decide+kernel,rfl,by decide+kernel,by decide+kernel⟩
noncomputable abbrev a5b:Stmt:=top 45
theorem sc_law_hung:FnScope ["_law_many","_law_joins","_law_start","_law_hung_here","_law_again","_law_kind","_law_one","_law_other"] ["_law_many","_law_joins","_law_start"] (a0f a5b):=⟨rfl,rfl,rfl,by decide+kernel,rfl,by decide+kernel,by decide+kernel⟩
noncomputable abbrev a5d:Stmt:=top 46
theorem sc_law_deed:FnScope ["_law_cell","_law_k","_law_state","_law_following","_law_rest","_law_many","_law_numbers_here","_law_at","_law_to","_law_some"] ["_law_cell","_law_k","_law_state","_law_following"] (a0f a5d):=⟨rfl,rfl,rfl,by decide+kernel,rfl,by decide+kernel,by decide+kernel⟩
noncomputable abbrev a8i:Stmt:=top 47
theorem sc_law_do:FnScope ["_law_train_here","_law_state","_law_deed_here","_law_number"] ["_law_train_here","_law_state","_law_deed_here"] (a0f a8i):=⟨rfl,rfl,rfl,by decide+kernel,rfl,by decide+kernel,by decide+kernel⟩
noncomputable abbrev a45:Stmt:=top 48
theorem b0l:FnScope ["_law_train_here","_law_name_here"] ["_law_train_here","_law_name_here"] (a0f a45):=⟨rfl,rfl,rfl,by decide+kernel,rfl,by decide+kernel,by decide+kernel⟩
noncomputable abbrev a49:Stmt:=top 49
theorem sc_law_look:FnScope ["_law_train_here","_law_name_here","_law_told_here","_law_jams"] ["_law_train_here","_law_name_here"] (a0f a49):=⟨rfl,rfl,rfl,by decide+kernel,rfl,by decide+kernel,by decide+kernel⟩
noncomputable abbrev a27:Stmt:=top 50
theorem sc_law_numbers:FnScope ["_law_way","_law_numbers_here","_law_step"] ["_law_way"] (a0f a27):=⟨rfl,rfl,rfl,by decide+kernel,rfl,by decide+kernel,by decide+kernel⟩
noncomputable abbrev a3a:Stmt:=top 51
theorem sc_law_as_much:FnScope ["_law_found","_law_one","_law_by_here","_law_other","_law_top","_law_bottom"] ["_law_found","_law_one","_law_by_here","_law_other"] (a0f a3a):=⟨rfl,rfl,rfl,by decide+kernel,rfl,by decide+kernel,by decide+kernel⟩
noncomputable abbrev a3k:Stmt:=top 52
theorem sc_law_joined:FnScope ["_law_before","_law_beside_here","_law_behind","_law_near","_law_by_here","_law_k"] ["_law_before","_law_beside_here","_law_behind","_law_near","_law_by_here"] (a0f a3k):=⟨rfl,rfl,rfl,by decide+kernel,rfl,by decide+kernel,by decide+kernel⟩
noncomputable abbrev a5a:Stmt:=top 53
theorem sc_law_less:FnScope ["_law_before","_law_behind","_law_hung_here","_law_k"] ["_law_before","_law_behind","_law_hung_here"] (a0f a5a):=⟨rfl,rfl,rfl,by decide+kernel,rfl,by decide+kernel,by decide+kernel⟩
noncomputable abbrev a48:Stmt:=top 54
theorem sc_law_more:FnScope ["_law_deed_here","_law_before","_law_beside_here","_law_behind","_law_numbers_here","_law_number","_law_hung_here","_law_wheels","_law_one","_law_other","_law_near","_law_far"] ["_law_deed_here","_law_before","_law_beside_here","_law_behind","_law_numbers_here","_law_number","_law_hung_here","_law_wheels"] (a0f a48):=⟨rfl,rfl,rfl,by decide+kernel,rfl,by decide+kernel,by decide+kernel⟩
noncomputable abbrev a3l:Stmt:=top 55
theorem a8h:FnScope ["_law_train_here","_law_deed_here","_law_hung_here","_law_wheels"] ["_law_train_here","_law_deed_here","_law_hung_here","_law_wheels"] (a0f a3l):=⟨rfl,rfl,rfl,by decide+kernel,rfl,by decide+kernel,by decide+kernel⟩
noncomputable abbrev a4a:Stmt:=top 56
theorem sc_law_asked:FnScope ["_law_train_here","_law_state","_law_deed_here","_law_drawn","_law_name_here","_law_held","_law_hung_here","_law_before","_law_beside_here","_law_number","_law_behind","_law_way","_law_numbers_here"] ["_law_train_here","_law_state","_law_deed_here","_law_drawn","_law_name_here","_law_held"] (a0f a4a):=⟨rfl,rfl,rfl,by decide+kernel,rfl,by decide+kernel,by decide+kernel⟩
noncomputable abbrev a8k:Stmt:=top 57
theorem sc_law:FnScope ["_law_script","_law_start","_law_cells","_law_half","_law_wheels","_law_joins","_law_speeds","_law_train_here","_law_state","_law_k","_law_drawn","_law_name_here","_law_many","_law_held","_law_deed_here","_law_told_here","_law_kept","_law_names","_law_left","_law_number","_law_row"] ["_law_script"] (a0f a8k):=⟨rfl,rfl,rfl,by decide+kernel,rfl,by decide+kernel,by decide+kernel⟩
section
variable {P:Program}{w:World}{K:PySem.W.Frag}{mg:Str->Option Value}{base:Heap}
theorem a6p{X:Cx}{F0:Hp}{pos:Pos}(T:Txt X.K X.mg)(hg:Gl X "LONGEST_NAME":=by rfl):PEA X F0 (.Name "LONGEST_NAME" pos) (aC (.int 8)):=by
 obtain⟨t,h⟩:=T.LONGEST_NAME
 exact paC (a5e (v:= .int 8) hg h ⟨t,rfl⟩) fun _=> .int _
theorem a7d{X:Cx}{F0:Hp}{pos:Pos}(T:Txt X.K X.mg)(hg:Gl X "TEETH_BOUND":=by rfl):PEA X F0 (.Name "TEETH_BOUND" pos) (aC (.int 1000000000)):=by
 obtain⟨t,h⟩:=T.TEETH_BOUND
 exact paC (a5e (v:= .int 1000000000) hg h ⟨t,rfl⟩) fun _=> .int _
theorem a7e{X:Cx}{F0:Hp}{pos:Pos}(T:Txt X.K X.mg)(hg:Gl X "MOST_WHEELS":=by rfl):PEA X F0 (.Name "MOST_WHEELS" pos) (aC (.int 100)):=by
 obtain⟨t,h⟩:=T.MOST_WHEELS
 exact paC (a5e (v:= .int 100) hg h ⟨t,rfl⟩) fun _=> .int _
theorem a8q{X:Cx}{F0:Hp}{pos:Pos}(T:Txt X.K X.mg)(hg:Gl X "MOST_JOINS":=by rfl):PEA X F0 (.Name "MOST_JOINS" pos) (aC (.int 200)):=by
 obtain⟨t,h⟩:=T.MOST_JOINS
 exact paC (a5e (v:= .int 200) hg h ⟨t,rfl⟩) fun _=> .int _
theorem b3g{X:Cx}{F0:Hp}{pos:Pos}(T:Txt X.K X.mg)(hg:Gl X "LETTERS":=by rfl):PEA X F0 (.Name "LETTERS" pos) (aC (.str "abcdefghijklmnopqrstuvwxyz")):=by
 obtain⟨t,h⟩:=T.LETTERS
 exact paC (a5e (v:= .str "abcdefghijklmnopqrstuvwxyz") hg h ⟨t,rfl⟩) fun _=> .str _
theorem b7s{X:Cx}{F0:Hp}{pos:Pos}(T:Txt X.K X.mg)(hg:Gl X "KINDS":=by rfl):PEA X F0 (.Name "KINDS" pos) (aC (.ctp [.str "mesh",.str "pin",.str "band",.str "cross"])):=by
 obtain⟨a,h,hs⟩:=T.KINDS
 exact paC (a5e (v:= .ref a) hg h rfl) fun _=> .ctp (hs _) (.cons (.str _) (.cons (.str _) (.cons (.str _) (.cons (.str _) .nil))))
noncomputable def cell(ns:List Int)(k:Int):Int:=(ns[k.toNat]?).getD 0
def b4d:SpA:=fun ds M Q _=> ∃(ns:List Int) (k:Int),ds=[.scr (ns.map D.int),.int k]/\0<=k/\Q (.int (cell ns k)) M
theorem ok_cell{f:Addr}{fd:FuncData}(Fn:Fun K "_law_cell_at" "_law_cell_at" a29 f fd)(T:Txt K mg):FnOk P w K mg base (CXE P w) 1 f fd ["_law_script","_law_k"] (a0m K b4d):=by
 refine Fn.okA a7a (fun ds M Q E h=> ?_) ?_
 . obtain⟨a,b,rfl,_⟩:=h;rfl
 intro cdv A outer s H E F0 ds M Q Ea hr ct hsp
 obtain⟨ns,k,rfl,hk,q⟩:=hsp
 refine⟨_,(a0b (sIf (a0r a7f lLt (paV (pv 1)) (a0w a0q lLen (by rfl) T.len PySem.boot_len (a0a (paV (pv 0)) a0i)) (a0k _))
       (a0j (sRet (paIx a0d lIx (paV (pv 0)) (paV (pv 1)) (fun _ _=>rfl))))
       a0t)
     (a0j (sRet paI))),?_⟩
 simp! only[List.length_map]
 obtain⟨n,rfl⟩:=Int.eq_ofNat_of_zero_le hk
 refine ite2 (fun h=> ?_) fun h=> ?_
 . have h:=of_decide_eq_true h
   have hn:n<ns.length:=by omega
   rw[a3s (v:=D.int ns[n]) (by simp[List.getElem?_eq_getElem hn])]
   have e:cell ns (n:Int)=ns[n]:=by simp[cell,List.getElem?_eq_getElem hn]
   rw[e]at q
   exact .now q
 . have hn: ¬ n<ns.length:=fun z=>h (decide_eq_true (by omega))
   have e:cell ns (n:Int)=0:=by simp[cell,List.getElem?_eq_none (Nat.le_of_not_lt hn)]
   rw[e]at q
   exact .now q
theorem b8g{X:Cx}{scope:Scope}{Nc:List Str}{n:Nat}(clos:closureFor scope X.env=pure []:=by rfl)(cell: ∀y∈scope.names,y.2≠ .cell:=by decide+kernel)(kind:scope.kind= .function:=by rfl)
   (names : ∀ x ∈ scope.names, x.2 = .local -> scope.names.lookup x.1 = some .local := by decide +kernel) (nof : ∀ y ∈ scope.names, y.2 ≠ .free := by decide +kernel) (rl : (relabel scope X.env).names = scope.names := by rfl) (len : n = Nc.length := by rfl) : CompOk X scope [] Nc (jsOf n []) := by
 have look: ∀{x:Str}{k:NameKind},scope.names.lookup x=some k-> ∃y∈scope.names,y.2=k:=by
   intro x k
   generalize scope.names=l
   intro h
   induction l with
   |nil=>cases h
   |cons a l ih=>
     rw[List.lookup_cons]at h
     split at h
     . cases h;exact⟨a,List.mem_cons_self,rfl⟩
     . obtain⟨y,h1,h2⟩:=ih h;exact⟨y,List.mem_cons_of_mem _ h1,h2⟩
 refine⟨clos,(fun _ _ h=>by cases h),cell,kind,names,fun x h=> ?_,by simp[jsOf,len],fun k j h=> ?_⟩
 . rw[rl]at h
   rcases h with h |h
   . obtain⟨y,h1,h2⟩:=look h;exact absurd h2 (cell y h1)
   . obtain⟨y,h1,h2⟩:=look h;exact absurd h2 (nof y h1)
 . unfold jsOf at h
   simp only[List.map_nil,List.append_nil,List.getElem?_replicate]at h
   split at h<;>cases h
theorem b2d(f:Nat->D)(n:Nat):outs (fun i=>some (f i)) n=(List.range n).map f:=by
 unfold outs
 induction List.range n with
 |nil=>rfl
 |cons a l ih=>simp only[List.filterMap_cons,List.map_cons,ih]
theorem all_cps(x:Str)(q:Nat->Bool):((List.range x.cps.size).map fun i=>q (x.cps.getD i 0)).all id=x.cps.toList.all q:=by
 rw[Bool.eq_iff_iff,List.all_eq_true,List.all_eq_true]
 constructor
 . intro h c hc
   obtain⟨i,hi,rfl⟩:=List.getElem_of_mem hc
   have hi':i<x.cps.size:=by simpa using hi
   have:=h _ (List.mem_map.mpr ⟨i,List.mem_range.mpr hi',rfl⟩)
   simpa[Array.getD,hi']using this
 . intro h b hb
   obtain⟨i,hi,rfl⟩:=List.mem_map.mp hb
   have hi':=List.mem_range.mp hi
   have:=h (x.cps.toList[i]'(by simpa using hi')) (List.getElem_mem _)
   simpa[Array.getD,hi']using this
theorem own1{own:G}(h:own.length=1): ∃o,own=[o]:=by
 cases own with
 |nil=>cases h
 |cons o l=>cases l with
   |nil=>exact⟨o,rfl⟩
   |cons _ _=>simp at h
def a8e:SpA:=fun ds M Q _=> ∃x:Str,ds=[.str x]/\x.length<=1000/\Q (.bl (a2s x)) M
theorem b3l{f:Addr}{fd:FuncData}(Fn:Fun K "is_name" "is_name" a6m f fd)(T:Txt K mg):FnOk P w K mg base (CXE P w) 1 f fd ["text"] (a0m K a8e):=by
 refine Fn.okA b3f (fun ds M Q E h=> ?_) ?_
 . obtain⟨x,rfl,_⟩:=h;rfl
 intro cdv A outer s H E F0 ds M Q Ea hr ct hsp
 obtain⟨x,rfl,hx,q⟩:=hsp
 refine⟨_,(a0b (sIf ((pwOr (a0r a7f lLt (a0w a0q lLen (by rfl) T.len PySem.boot_len (a0a (paV (pv 0)) a0i)) paI (a0k _)) (a6o (a0r b3h lGt (a0w a0q lLen (by rfl) T.len PySem.boot_len (a0a (paV (pv 0)) a0i)) (a6p T) (a0k _))))).pt
       (a0j (sRet paB))
       a0t)
     (a0j (sRet (paAll (by rfl) T.all rfl (a0a (paFz (b0q (Nc:=["sign"]) (n:=1) (fs:=[]) b8g rfl (iStr' (paV (pv 0))) (fun _ _ _ _ _=>(a0v (i:=0) (show List.Nodup (["sign"]:List Str)by decide+kernel) rfl (Or.inl rfl))) (fun _ _ _ _ _=>b6j) (fun _ _ _ _ _=>(a2n b43 lIn (paV (pv 0)) (b3g T) (by with_unfolding_all rfl))))) a0i))))),?_⟩
 have hl:x.length<=sizeLine:=a92 hx
 simp! only[]
 refine⟨hl,ite2 (fun h1=> ?_) (fun h1=>⟨hl,ite2 (fun h2=> ?_) (fun h2=> ?_)⟩)⟩
 . have h1:=of_decide_eq_true h1
   have e:a2s x=false:=by
     unfold a2s
     rw[decide_eq_true (show x.length<1 by omega)];rfl
   rw[e]at q
   exact .now q
 . have h2:=of_decide_eq_true h2
   have e:a2s x=false:=by
     unfold a2s
     rw[decide_eq_true (show 8<x.length by omega),Bool.or_true];rfl
   rw[e]at q
   exact .now q
 . have h1: ¬ (x.length<1):=fun z=>h1 (decide_eq_true (by omega))
   have h2: ¬ (8<x.length):=fun z=>h2 (decide_eq_true (by omega))
   have e:a2s x=x.cps.toList.all fun c=>decide (c∈letters):=by
     unfold a2s
     rw[decide_eq_false h1,decide_eq_false h2];rfl
   rw[e,<-all_cps]at q
   simp! only[aFz,a3t,frG,oIn]
   refine⟨fun i=>some (.bl (decide (x.cps.getD i 0∈letters))),by show x.cps.size<=1000;exact hx,fun M' _ i hi own ho=> ?_,fun p hp=> ?_⟩
   . obtain⟨o,rfl⟩:=own1 ho
     refine⟨⟨[some _],rfl,rfl⟩,?_⟩
     simp! only[]
     exact(congrArg (fun b=>some (D.bl b)) (PySem.StrLaws.found_one ("abcdefghijklmnopqrstuvwxyz":Str) (x.cps.getD i 0)).symm)
   . simp only[a0e,a2l hp,oAll,L2.dr]
     refine⟨_,?_,.now q⟩
     rw[b2d,List.map_map];rfl
theorem a5i{d1 d2:Addr}{n:Int}:(fsT d1 d2 n).lookup ("teeth_of":Str)=some (.obj d1):=rfl
theorem a6v{d1 d2:Addr}{n:Int}:(fsT d1 d2 n).lookup ("join_of":Str)=some (.obj d2):=rfl
theorem b5j{d1 d2:Addr}{n:Int}:(fsT d1 d2 n).lookup ("next_number":Str)=some (.int n):=rfl
def b12(C:Addr):SpA:=fun ds M Q _=> ∃p,ds=[.obj p]/\M p=some (.ins C [])/\ ∀d1 d2,M d1=none->M d2=none->d1≠d2->d1≠p->d2≠p->Q .non (put (put (put M d1 (.dic [])) d2 (.dic [])) p (.ins C (fsT d1 d2 0)))
theorem ok_init{f C:Addr}{fd:FuncData}(Fn:Fun K "__init__" "Train.__init__" a1g f fd)(pl_teeth_of:Pln K C "teeth_of")(pl_join_of:Pln K C "join_of")(pl_next_number:Pln K C "next_number"):
   FnOk P w K mg base (CXE P w) 1 f fd ["self"] (a0m K (b12 C)):=by
 refine Fn.okA a44 (fun ds M Q E h=> ?_) ?_
 . obtain⟨x,rfl,_⟩:=h;rfl
 intro cdv A outer s H E F0 ds M Q Ea hr ct hsp
 obtain⟨p,rfl,hp,q⟩:=hsp
 refine⟨_,(a0b (b7b pl_teeth_of (paV (pv 0)) b2c rfl)
     (a0b (b7b pl_join_of (paV (pv 0)) b2c rfl)
     (a0j (b7b pl_next_number (paV (pv 0)) paI rfl)))),?_⟩
 simp! only[]
 intro d1 h1
 have n1:p≠d1:=by rintro rfl;rw[hp]at h1;cases h1
 simp only[a0g n1,hp,a25,a0e]
 refine⟨by decide,fun d2 h2=> ?_⟩
 have n2:p≠d2:=by rintro rfl;rw[a0e]at h2;cases h2
 rw[a0g n2.symm]at h2
 have n3:d1≠d2:=by rintro rfl;rw[a0e]at h2;cases h2
 rw[a0g n3.symm]at h2
 simp only[a0g n2,a25,a0e]
 refine⟨by show 1<1000;decide,by show 2<1000;decide,?_⟩
 rw[a1o,a3w n2,a1o]
 exact .now (q d1 d2 h1 h2 n3 n1.symm n2.symm)
structure ExK(K:PySem.W.Frag)(mg:Str->Option Value)(EC:Rk->Addr):Prop where
 noName:ExCls K mg "NoName" (EC .noName)
 twice:ExCls K mg "Twice" (EC .twice)
 noTeeth:ExCls K mg "NoTeeth" (EC .noTeeth)
 full:ExCls K mg "Full" (EC .full)
 noWheel:ExCls K mg "NoWheel" (EC .noWheel)
 noJoin:ExCls K mg "NoJoin" (EC .noJoin)
def a7s(C:Addr)(EC:Rk->Addr):SpA:=fun ds M Q E=> ∃p d1 d2 S n t,ds=[.obj p,.str n,.int t]/\Tr C M p d1 d2 S/\n.length<=1000/\
 match refW S n t with |some r=>E (.ref (EC r)) M |none=>Q .non (put M d1 (.dic (dW (S.ws++[(n,t)]))))
theorem a9n{f C:Addr}{fd:FuncData}{EC:Rk->Addr}(Fn:Fun K "put_wheel" "Train.put_wheel" a1c f fd)(T:Txt K mg)(XK:ExK K mg EC)(pl_teeth_of:Pln K C "teeth_of")
   (h_is_name:Has P w K mg base (CXE P w) 1 "is_name" ["text"] (a0m K a8e)):FnOk P w K mg base (CXE P w) 2 f fd ["self","name","teeth"] (a0m K (a7s C EC)):=by
 refine Fn.okA a4m (fun ds M Q E h=> ?_) ?_
 . obtain⟨p,d1,d2,S,n,t,rfl,_⟩:=h;rfl
 intro cdv A outer s H E F0 ds M Q Ea hr ct hsp
 obtain⟨p,d1,d2,S,n,t,rfl,tr,hn,q⟩:=hsp
 have hu:=hu_of hr
 have X_NoName:=XK.noName
 have X_Twice:=XK.twice
 have X_NoTeeth:=XK.noTeeth
 have X_Full:=XK.full
 refine⟨_,(a0b (sIf (a9g (ptV (a01 h_is_name (hr.mono (by decide)) (by rfl) ct (a0a (paV (pv 1)) a0i))))
       (a0j (a3g ct X_NoName (by rfl) (a0a paS a0i)))
       a0t)
     (a0b (sIf (ptPC (pcDIn (un1 ct) (paV (pv 1)) (a51 pl_teeth_of (paV (pv 0)) rfl)))
       (a0j (a3g ct X_Twice (by rfl) (a0a paS a0i)))
       a0t)
     (a0b (sIf ((pwOr (a0r a7f lLt (paV (pv 2)) paI (a0k _)) (a6o (a0r op_ge lGe (paV (pv 2)) (a7d T) (a0k _))))).pt
       (a0j (a3g ct X_NoTeeth (by rfl) (a0a paS a0i)))
       a0t)
     (a0b (sIf (a0r op_ge lGe (a0w a0q lLen (by rfl) T.len PySem.boot_len (a0a (a51 pl_teeth_of (paV (pv 0)) rfl) a0i)) (a7e T) (a0k _))
       (a0j (a3g ct X_Full (by rfl) (a0a paS a0i)))
       a0t)
     (a0j (b0n (un1 ct) (a51 pl_teeth_of (paV (pv 0)) rfl) (paV (pv 1)) (paV (pv 2)) rfl)))))),?_⟩
 simp! only[a8e]
 refine⟨n,rfl,hn,?_⟩
 simp! only[tr.self,a5i,tr.teeth,b1g]
 have hh:(S.ws.any fun w=>decide (w.1=n))=S.has n:=rfl
 rw[hh]
 cases h1:a2s n with
 |false=>simpa[refW,h1]using q
 |true=>
   cases h2:S.has n with
   |true=>simpa[refW,h1,h2]using q
   |false=>
     by_cases h3:t<1
     . simpa[refW,h1,h2,h3]using q
     . by_cases h4:1000000000<=t
       . simpa[refW,h1,h2,h3,h4]using q
       . by_cases h5:100<=S.ws.length
         . have e5:(100:Int)<=((dW S.ws).length:Nat):=by simp[dW];omega
           simpa[refW,h1,h2,h3,h4,h5,e5]using q
         . have e5: ¬ (100:Int)<=((dW S.ws).length:Nat):=by simp[dW];omega
           have e6:a50 (dW S.ws) (Sum.inr n) (.int t)=dW (S.ws++[(n,t)]):=by
             rw[a22 (by rw[b1g];exact h2)]
             simp[dW]
           have e7:(dW S.ws).length<1000:=by simp[dW];omega
           simp[h3,h4,e5,e7,e6]
           simp[refW,h1,h2,h3,h4,h5]at q
           exact .now q
theorem a79(a k:Str):(a==k)=decide (k=a):=by
 rw[<-b1n]
 by_cases h:a=k
 . subst h;rw[decide_eq_true rfl,decide_eq_true rfl]
 . rw[decide_eq_false fun z=>h (V.str.inj z),decide_eq_false fun z=>h z.symm]
theorem b75(k:Str):inD (.str k) [.str "mesh",.str "pin",.str "band",.str "cross"]=a2a k:=by
 unfold inD a2a
 simp only[List.any_cons,List.any_nil,eqF,Bool.or_false]
 rw[a79,a79,a79,a79]
 simp only[Bool.or_assoc]
theorem kindsB(k:Str):(if(flD (.str k)&&([.str "mesh",.str "pin",.str "band",.str "cross"]:List D).all flD)=true then some (inD (.str k) [.str "mesh",.str "pin",.str "band",.str "cross"])else none)=some (a2a k):=by
 rw[if_pos (show(flD (.str k)&&([.str "mesh",.str "pin",.str "band",.str "cross"]:List D).all flD)=true from rfl),b75]
def a7t(C:Addr)(EC:Rk->Addr):SpA:=fun ds M Q E=> ∃p d1 d2 S k a b,ds=[.obj p,.str k,.str a,.str b]/\Tr C M p d1 d2 S/\
 match refJ S k a b with |some r=>E (.ref (EC r)) M |none=>Q (.int S.nx) (put (put M d2 (.dic (dJ (S.js++[(S.nx,k,a,b)])))) p (.ins C (fsT d1 d2 (S.nx+1))))
theorem b0r{f C:Addr}{fd:FuncData}{EC:Rk->Addr}(Fn:Fun K "put_join" "Train.put_join" a1f f fd)(T:Txt K mg)(XK:ExK K mg EC)(pl_teeth_of:Pln K C "teeth_of")(pl_join_of:Pln K C "join_of")(pl_next_number:Pln K C "next_number"):
   FnOk P w K mg base (CXE P w) 2 f fd ["self","kind","one","other"] (a0m K (a7t C EC)):=by
 refine Fn.okA sc_Train_put_join (fun ds M Q E h=> ?_) ?_
 . obtain⟨p,d1,d2,S,k,a,b,rfl,_⟩:=h;rfl
 intro cdv A outer s H E F0 ds M Q Ea hr ct hsp
 obtain⟨p,d1,d2,S,k,a,b,rfl,tr,q⟩:=hsp
 have hu:=hu_of hr
 have hu64:=hr.units
 have X_NoJoin:=XK.noJoin
 have X_NoWheel:=XK.noWheel
 have X_Full:=XK.full
 refine⟨_,(a0b (sIf (a0r a6q b5s (paV (pv 1)) (b7s T) (by with_unfolding_all rfl))
       (a0j (a3g ct X_NoJoin (by rfl) (a0a paS a0i)))
       a0t)
     (a0b (sIf ((pwOr (ptPC (a4p (un1 ct) (paV (pv 2)) (a51 pl_teeth_of (paV (pv 0)) rfl))) (a6o (ptPC (a4p (un1 ct) (paV (pv 3)) (a51 pl_teeth_of (paV (pv 0)) rfl)))))).pt
       (a0j (a3g ct X_NoWheel (by rfl) (a0a paS a0i)))
       a0t)
     (a0b (sIf (a0r (a03 (un64 ct)) lEq (paV (pv 2)) (paV (pv 3)) (a0k _))
       (a0j (a3g ct X_NoJoin (by rfl) (a0a paS a0i)))
       a0t)
     (a0b (sIf (a0r op_ge lGe (a0w a0q lLen (by rfl) T.len PySem.boot_len (a0a (a51 pl_join_of (paV (pv 0)) rfl) a0i)) (a8q T) (a0k _))
       (a0j (a3g ct X_Full (by rfl) (a0a paS a0i)))
       a0t)
     (a0b (sSet (i:=4) sc_Train_put_join.nd rfl (Or.inl rfl) (a51 pl_next_number (paV (pv 0)) rfl))
     (a0b (b0n (un1 ct) (a51 pl_join_of (paV (pv 0)) rfl) (paV (pv 4)) (a1w (a0a (paV (pv 4)) (a0a (paV (pv 1)) (a0a (paV (pv 2)) (a0a (paV (pv 3)) a0i))))) rfl)
     (a0b (b7b pl_next_number (paV (pv 0)) (paOp a08 lAdd (paV (pv 4)) paI) rfl)
     (a0j (sRet (paV (pv 4))))))))))),?_⟩
 simp! only[kindsB]
 have n1:p≠d2:=by rintro rfl;have:=tr.self;rw[tr.join]at this;cases this
 simp! only[tr.self,a5i,a6v,b5j,tr.teeth,tr.join,b1g,a0g n1]
 have ha:(S.ws.any fun w=>decide (w.1=a))=S.has a:=rfl
 have hb:(S.ws.any fun w=>decide (w.1=b))=S.has b:=rfl
 rw[ha,hb]
 cases h1:a2a k with
 |false=>simpa[refJ,h1]using q
 |true=>
   cases h2:S.has a with
   |false=>simpa[refJ,h1,h2]using q
   |true=>
     cases h3:S.has b with
     |false=>simpa[refJ,h1,h2,h3]using q
     |true=>
       by_cases h4:a=b
       . subst h4
         simpa[refJ,h1,h2,h3]using q
       . by_cases h5:200<=S.js.length
         . have e5:(200:Int)<=((dJ S.js).length:Nat):=by simp[dJ];omega
           simpa[refJ,h1,h2,h3,h4,h5,e5]using q
         . have e5: ¬ (200:Int)<=((dJ S.js).length:Nat):=by simp[dJ];omega
           have e7:(dJ S.js).length<1000:=by simp[dJ];omega
           have e8:(getK (dJ S.js) (Sum.inl S.nx)).isSome=false:=by
             rw[b1h]
             rw[List.any_eq_false]
             intro j hj
             have:=tr.lt j hj
             simp;omega
           have e6:a50 (dJ S.js) (Sum.inl S.nx) (.tup [.int S.nx,.str k,.str a,.str b])=dJ (S.js++[(S.nx,k,a,b)]):=by
             rw[a22 e8]
             simp[dJ,eJ]
           simp[h4,e5,e7,e6]
           simp[refJ,h1,h2,h3,h4,h5]at q
           exact⟨by show 3<1000;decide,.now q⟩
def a8b(C:Addr)(EC:Rk->Addr):SpA:=fun ds M Q E=> ∃p d1 d2 S n,ds=[.obj p,.int n]/\Tr C M p d1 d2 S/\
 match refL S n with |some r=>E (.ref (EC r)) M |none=>Q .non (put M d2 (.dic (dJ (S.js.filter fun j=>decide (j.1≠n)))))
theorem a9m{f C:Addr}{fd:FuncData}{EC:Rk->Addr}(Fn:Fun K "take_join" "Train.take_join" a1b f fd)(XK:ExK K mg EC)(pl_join_of:Pln K C "join_of"):
   FnOk P w K mg base (CXE P w) 2 f fd ["self","number"] (a0m K (a8b C EC)):=by
 refine Fn.okA a4l (fun ds M Q E h=> ?_) ?_
 . obtain⟨p,d1,d2,S,n,rfl,_⟩:=h;rfl
 intro cdv A outer s H E F0 ds M Q Ea hr ct hsp
 obtain⟨p,d1,d2,S,n,rfl,tr,q⟩:=hsp
 have hu:=hu_of hr
 have X_NoJoin:=XK.noJoin
 refine⟨_,(a0b (sIf (ptPC (a4p (un1 ct) (paV (pv 1)) (a51 pl_join_of (paV (pv 0)) rfl)))
       (a0j (a3g ct X_NoJoin (by rfl) (a0a paS a0i)))
       a0t)
     (a0j (a2i (paDPop (a51 pl_join_of (paV (pv 0)) rfl) (paV (pv 1)) ⟨by rfl,by rfl,by rfl,by rfl⟩)))),?_⟩
 simp! only[tr.self,a6v,tr.join,b1h]
 have ha:(S.js.any fun j=>decide (j.1=n))=S.hasJ n:=rfl
 rw[ha]
 cases h1:S.hasJ n with
 |false=>simpa[refL,h1]using q
 |true=>
   have e:(getK (dJ S.js) (Sum.inl n)).isSome=true:=by rw[b1h];exact h1
   obtain⟨d,hd⟩:=Option.isSome_iff_exists.mp e
   simp[hd,a1j,b6m]
   simp[refL,h1]at q
   exact .now q
def a2o(C:Addr):SpA:=fun ds M Q _=> ∃p d1 d2 S,ds=[.obj p]/\Tr C M p d1 d2 S/\ ∀l,M l=none->Q (.obj l) (put M l (.lst (S.ws.map eW)))
theorem b45{f C:Addr}{fd:FuncData}(Fn:Fun K "wheels" "Train.wheels" a1n f fd)(T:Txt K mg)(pl_teeth_of:Pln K C "teeth_of"):FnOk P w K mg base (CXE P w) 1 f fd ["self"] (a0m K (a2o C)):=by
 refine Fn.okA a6j (fun ds M Q E h=> ?_) ?_
 . obtain⟨p,d1,d2,S,rfl,_⟩:=h;rfl
 intro cdv A outer s H E F0 ds M Q Ea hr ct hsp
 obtain⟨p,d1,d2,S,rfl,tr,q⟩:=hsp
 refine⟨_,a0j (sRet (paItems T.list rfl (by rfl) (a51 pl_teeth_of (paV (pv 0)) rfl))),?_⟩
 simp! only[aItems,tr.self,a5i,tr.teeth]
 intro l hl
 have e:(dW S.ws).map (fun kv=>D.tup [keyOf kv.1,kv.2])=S.ws.map eW:=by
   unfold dW;rw[List.map_map];rfl
 rw[e]
 exact .now (q l hl)
def a36(C:Addr):SpA:=fun ds M Q _=> ∃p d1 d2 S,ds=[.obj p]/\Tr C M p d1 d2 S/\ ∀l,M l=none->Q (.obj l) (put M l (.lst (S.js.map eJ)))
theorem b7v{f C:Addr}{fd:FuncData}(Fn:Fun K "joins" "Train.joins" a1q f fd)(T:Txt K mg)(pl_join_of:Pln K C "join_of"):FnOk P w K mg base (CXE P w) 1 f fd ["self"] (a0m K (a36 C)):=by
 refine Fn.okA a7b (fun ds M Q E h=> ?_) ?_
 . obtain⟨p,d1,d2,S,rfl,_⟩:=h;rfl
 intro cdv A outer s H E F0 ds M Q Ea hr ct hsp
 obtain⟨p,d1,d2,S,rfl,tr,q⟩:=hsp
 refine⟨_,a0j (sRet (b40 T.list rfl (by rfl) (a51 pl_join_of (paV (pv 0)) rfl))),?_⟩
 simp! only[aVals,tr.self,a6v,tr.join]
 intro l hl
 have e:(dJ S.js).map (fun kv=>kv.2)=S.js.map eJ:=by
   unfold dJ;rw[List.map_map];rfl
 rw[e]
 exact .now (q l hl)
theorem seqV{i:Nat}{te:AE}{rest:AS}{E:AEnds}{Γ:G}{M:Mem}(d:D)(M1:Mem)(hte: ∀R:AK,R d M1->te Γ M R)(h:rest E (Γ.set i (some d)) M1):aSeq (aSet i te) rest E Γ M:=hte _ h
theorem b1l{te:AE}{rest:AS}{E:AEnds}{Γ:G}{M:Mem}(d:D)(M1:Mem)(hte: ∀R:AK,R d M1->te Γ M R)(h:rest E Γ M1):aSeq (b1s te) rest E Γ M:=hte _ h
theorem b6n{te:AE}{E:AEnds}{Γ:G}{M:Mem}(d:D)(M1:Mem)(hte: ∀R:AK,R d M1->te Γ M R)(h:E.nx Γ M1):b1s te E Γ M:=hte _ h
theorem retV{te:AE}{E:AEnds}{Γ:G}{M:Mem}(d:D)(M1:Mem)(hte: ∀R:AK,R d M1->te Γ M R)(h:E.rt d M1):aRet te E Γ M:=hte _ h
theorem ifV{c:AT}{t u:AS}{E:AEnds}{Γ:G}{M:Mem}(b:Bool)(hc: ∀R:Bool->Mem->Prop,R b M->c Γ M R)(h:if b=true then t E Γ M else u E Γ M):aIf c t u E Γ M:=hc _ h
theorem cut1{t rest:AS}{E:AEnds}{Γ:G}{M:Mem}(R:G->Mem->Prop)(hr: ∀Γ M,R Γ M->rest E Γ M)(h: ∀rest':AS,(∀Γ M,R Γ M->rest' E Γ M)->aSeq t rest' E Γ M):aSeq t rest E Γ M:=h rest hr
theorem cut2{t1 t2 rest:AS}{E:AEnds}{Γ:G}{M:Mem}(R:G->Mem->Prop)(hr: ∀Γ M,R Γ M->rest E Γ M)(h: ∀rest':AS,(∀Γ M,R Γ M->rest' E Γ M)->aSeq t1 (aSeq t2 rest') E Γ M):aSeq t1 (aSeq t2 rest) E Γ M:=h rest hr
theorem LoopP.by2{S:Src}{gt:AGt}{tb:AS}{E:AEnds}{Γ:G}{M:Mem}(W:Nat->G->Mem->Prop)(h0:W 0 Γ M)(hl: ∀i Γ M,W i Γ M->S.held M)
   (step: ∀(E':AEnds) i Γ M,E'.rt=E.rt->i<S.n->(∀Γ' M',W (i+1) Γ' M'->E'.nx Γ' M')->W i Γ M->gt (S.item i) Γ M fun Γ2 M2=>tb E' Γ2 M2) (done: ∀Γ M,W S.n Γ M->E.nx Γ M):LoopP S gt tb E Γ M:=
 LoopP.by W h0 hl (fun i Γ M hi w=>step _ i Γ M rfl hi (fun _ _ h=>⟨hi,h⟩) w) done
theorem cT{c:AT}{Γ:G}{M:Mem}{A B:Mem->Prop}(hc: ∀R:Bool->Mem->Prop,R true M->c Γ M R)(h:A M):c Γ M fun b M1=>if b=true then A M1 else B M1:=hc _ (by rw[if_pos rfl];exact h)
theorem cF{c:AT}{Γ:G}{M:Mem}{A B:Mem->Prop}(hc: ∀R:Bool->Mem->Prop,R false M->c Γ M R)(h:B M):c Γ M fun b M1=>if b=true then A M1 else B M1:=hc _ (by rw[if_neg Bool.false_ne_true];exact h)
theorem seqIfB{c:AT}{t u rest:AS}{E:AEnds}{Γ:G}{M:Mem}(b:Bool)(hc: ∀R:Bool->Mem->Prop,R b M->c Γ M R)(h:if b=true then t {E with nx:=rest E} Γ M else u {E with nx:=rest E} Γ M):aSeq (aIf c t u) rest E Γ M:=hc _ h
theorem forLs{tl:AE}{gt:AGt}{tb rest:AS}{E:AEnds}{Γ:G}{M:Mem}{d:D}{ds:List D}(htl: ∀R:AK,R d M->tl Γ M R)(hd:dr M d=some ds)(h:LoopP ⟨ds.length,fun i=>ds.getD i .non,fun M=>dr M d=some ds⟩ gt tb {E with nx:=rest E} Γ M):aSeq (aFor (iaL tl) gt tb) rest E Γ M:=
 htl _ (by dsimp only;rw[hd];exact h)
theorem comp1{X:Cx}{scope:Scope}{Nc:List Str}{n j:Nat}{x:Str}{c:Addr}(clos:closureFor scope X.env=pure [(x,c)]:=by rfl)(hc:X.env.cells.lookup x=some c:=by rfl)(cell: ∀y∈scope.names,y.2≠ .cell:=by decide+kernel)(kind:scope.kind= .function:=by rfl)
   (names: ∀x∈scope.names,x.2= .local->scope.names.lookup x.1=some .local:=by decide+kernel) (nof: ∀y∈scope.names,y.2= .free->y.1=x:=by decide+kernel)
   (hx : (relabel scope X.env).names.lookup x = some .cell := by rfl) (hd : X.env.scope.names.lookup x = some .cell := by rfl) (hN : X.N[j]? = some x := by rfl) (hNc : Nc[n]? = some x := by rfl) (len : n + 1 = Nc.length := by rfl) : CompOk X scope [(x, c)] Nc (jsOf n [j]) := by
 have look: ∀{l:List (Str×NameKind)}{z:Str}{k:NameKind},l.lookup z=some k->(z,k)∈l:=by
   intro l z k h
   induction l with
   |nil=>cases h
   |cons a l ih=>
     rw[List.lookup_cons]at h
     split at h
     . rename_i e
       cases h
       have e:z=a.1:=by simpa using e
       rw[e];exact List.mem_cons_self
     . exact List.mem_cons_of_mem _ (ih h)
 have one: ∀{z:Str}{d:Addr},([(x,c)]:List (Str×Addr)).lookup z=some d->z=x/\d=c:=by
   intro z d h
   rw[List.lookup_cons]at h
   split at h
   . rename_i e
     cases h
     exact⟨by simpa using e,rfl⟩
   . cases h
 have self:([(x,c)]:List (Str×Addr)).lookup x=some c:=by simp[List.lookup_cons]
 refine⟨clos,fun z d h=> ?_,cell,kind,names,fun z h=> ?_,by simp[jsOf,len],fun k j' h=> ?_⟩
 . obtain⟨rfl,rfl⟩:=one h;exact hc
 . have key : ∀ k', (z, k') ∈ (relabel scope X.env).names -> (k' = .cell \/ k' = .free) -> z = x := fun k' hm hk => by
     obtain⟨⟨n',k⟩,h1,h2⟩:=List.mem_map.mp (show(z,k')∈scope.names.map _ from hm)
     dsimp only at h2
     split at h2
     . rename_i hf
       simp only[Bool.and_eq_true,beq_iff_eq]at hf
       cases h2
       exact nof _ h1 hf.1.1
     . cases h2
       rcases hk with rfl |rfl
       . exact absurd rfl (cell _ h1)
       . exact nof _ h1 rfl
   have:z=x:=by
     rcases h with h |h
     . exact key _ (look h) (.inl rfl)
     . exact key _ (look h) (.inr rfl)
   subst this
   exact⟨c,self⟩
 . unfold jsOf at h
   by_cases hk:k<n
   . rw[List.getElem?_append_left (by simpa using hk),List.getElem?_replicate,if_pos hk]at h
     cases h
   . rw[List.getElem?_append_right (by simp;omega)]at h
     simp only[List.length_replicate,List.map_cons,List.map_nil]at h
     have hk0:k- n=0:=by
       cases hh:k- n with
       |zero=>rfl
       |succ m=>rw[hh]at h;simp at h
     rw[hk0]at h
     have h:j=j':=by simpa using h
     subst h
     have:k=n:=by omega
     subst this
     exact⟨x,c,hNc,hN,hd,self,hx⟩
def spGcd:SpA:=fun ds M Q _=> ∃a b:Int,ds=[.int a,.int b]/\Q (.int ((Int.gcd a b:Nat):Int)) M
theorem ok_gcd{f:Addr}{fd:FuncData}(Fn:Fun K "greatest_divisor" "greatest_divisor" a1u f fd)(T:Txt K mg):FnOk P w K mg base (CXE P w) 1 f fd ["one","other"] (a0m K spGcd):=by
 refine Fn.okA sc_greatest_divisor (fun ds M Q E h=> ?_) ?_
 . obtain⟨a,b,rfl,_⟩:=h;rfl
 intro cdv A outer s H E F0 ds M Q Ea hr ct hsp
 obtain⟨a,b,rfl,q⟩:=hsp
 refine⟨_,(a0b (sSet (i:=2) sc_greatest_divisor.nd rfl (Or.inl rfl) (a0w b23 lAbs (by rfl) T.abs boot_abs (a0a (paV (pv 0)) a0i)))
     (a0b (sSet (i:=3) sc_greatest_divisor.nd rfl (Or.inl rfl) (a0w b23 lAbs (by rfl) T.abs boot_abs (a0a (paV (pv 1)) a0i)))
     (a0b (b17 ct (a0r (a2j (un64 ct)) lNe (paV (pv 3)) paI (a0k _))
       (a0b (sSet (i:=4) sc_greatest_divisor.nd rfl (Or.inl rfl) (paOp a04 lMod (paV (pv 2)) (paV (pv 3))))
       (a0b (sSet (i:=2) sc_greatest_divisor.nd rfl (Or.inl rfl) (paV (pv 3)))
       (a0j (sSet (i:=3) sc_greatest_divisor.nd rfl (Or.inl rfl) (paV (pv 4)))))))
     (a0j (sRet (paV (pv 2))))))),?_⟩
 simp! only[oAbs,absE]
 refine⟨fun m Γ M'=>M'=M/\ ∃(d r:Nat) (lo:Option D),r=m/\Γ=[some (.int a),some (.int b),some (.int d),some (.int r),lo]/\Nat.gcd d r=Int.gcd a b,⟨b.natAbs,rfl,a.natAbs,b.natAbs,none,rfl,rfl,rfl⟩,?_⟩
 rintro m Γ M' ⟨rfl,d,r,lo,rfl,rfl,hg⟩
 by_cases hr0:r=0
 . subst hr0
   refine cF (fun R h=> ?_) ?_
   . simp! only[Int.natCast_zero,decide_true,Bool.not_true];exact h
   . rw[<-hg,Nat.gcd_zero_right]at q
     exact .now q
 . refine cT (fun R h=> ?_) ?_
   . simp! only[decide_eq_false (show ¬ (r:Int)=0 by omega),Bool.not_false];exact h
   . simp! only[]
     exact⟨by omega,d % r,Nat.mod_lt _ (by omega),r,d % r,some (.int ((d:Int) % (r:Int))),rfl,by rw[Int.natCast_emod],gcd_step.trans hg⟩
noncomputable def eF(x:Fr):D:= .tup [.int x.1,.int x.2]
def b3a:SpA:=fun ds M Q _=> ∃a b:Int,ds=[.int a,.int b]/\b≠0/\Q (eF (lowT a b,lowB a b)) M
theorem ok_low{f:Addr}{fd:FuncData}(Fn:Fun K "lowest" "lowest" a4n f fd)(hs:base.NoSeer)(ht:P.given.tree=none)(h_greatest_divisor:Has P w K mg base (CXE P w) 1 "greatest_divisor" ["one","other"] (a0m K spGcd)):
   FnOk P w K mg base (CXE P w) 41 f fd ["top","bottom"] (a0m K b3a):=by
 refine Fn.okA sc_lowest (fun ds M Q E h=> ?_) ?_
 . obtain⟨a,b,rfl,_⟩:=h;rfl
 intro cdv A outer s H E F0 ds M Q Ea hr ct hsp
 obtain⟨a,b,rfl,hb,q⟩:=hsp
 have bd:BigDiv ((cxOf (CXE P w) P w K mg base ["top","bottom","divisor"] "lowest" (a0f a4n) f cdv A outer s H E).by (rE E)):=⟨hs,ht,rfl,rfl,rfl,by have:=hr.dp;show A.depth+1+100<_;have e:(A.deeper (envOfC "lowest" (a0f a4n) s.heap.objs.size f cdv)).depth=A.depth+1:=rfl;rw[e]at this;omega⟩
 refine⟨_,(a0b (sSet (i:=2) sc_lowest.nd rfl (Or.inl rfl) (a01 h_greatest_divisor (hr.mono (by decide)) (by rfl) ct (a0a (paV (pv 0)) (a0a (paV (pv 1)) a0i))))
     (a0b (sIf (a0r a7f lLt (paV (pv 1)) paI (a0k _))
       (a0j (sSet (i:=2) sc_lowest.nd rfl (Or.inl rfl) (paUn b1t lNeg (paV (pv 2)))))
       a0t)
     (a0j (sRet (a1w (a0a (paOp (b2e bd) lDivB (paV (pv 0)) (paV (pv 2))) (a0a (paOp (b2e bd) lDivB (paV (pv 1)) (paV (pv 2))) a0i))))))),?_⟩
 simp! only[spGcd]
 refine⟨a,b,rfl,?_⟩
 have hn:=b5e (t:=a) hb
 by_cases h0:b<0
 . have e:low a b= -((Int.gcd a b:Nat):Int):=if_pos h0
   simp only[decide_eq_true h0,if_true,<-e]
   exact⟨hn,hn,by decide,.now q⟩
 . have e:low a b=((Int.gcd a b:Nat):Int):=if_neg h0
   simp only[decide_eq_false h0,Bool.false_eq_true,if_false,<-e]
   exact⟨hn,hn,by decide,.now q⟩
def a6g:SpA:=fun ds M Q _=> ∃x y:Fr,ds=[eF x,eF y]/\1<=x.2/\Small 1 y/\Q (eF (mulF x y)) M
theorem b3b{y:Fr}(h:Small 1 y):Builtin.Int.intBits y.1<=64/\Builtin.Int.intBits y.2<=64:=by
 obtain⟨h1,h2,h3⟩:=h
 have e:(2:Nat)^(30 *1)=1073741824:=by decide
 have e':(2:Int)^(30 *1)=1073741824:=by decide
 have e64:(2:Nat)^64=18446744073709551616:=by decide
 rw[e']at h2
 rw[e]at h3
 refine⟨intBits_le_iff.mpr ?_,intBits_le_iff.mpr ?_⟩
 . rw[e64];omega
 . rw[e64];omega
theorem b7u{f:Addr}{fd:FuncData}(Fn:Fun K "times" "times" b0m f fd)(h_lowest:Has P w K mg base (CXE P w) 41 "lowest" ["top","bottom"] (a0m K b3a)):FnOk P w K mg base (CXE P w) 42 f fd ["one","other"] (a0m K a6g):=by
 refine Fn.okA b7a (fun ds M Q E h=> ?_) ?_
 . obtain⟨a,b,rfl,_⟩:=h;rfl
 intro cdv A outer s H E F0 ds M Q Ea hr ct hsp
 obtain⟨x,y,rfl,hx,hy,q⟩:=hsp
 refine⟨_,(a0j (sRet (a01 h_lowest (hr.mono (by decide)) (by rfl) ct (a0a (paOp a1p lMul (paIx a0d lIx (paV (pv 0)) paI (fun _ _=>rfl)) (paIx a0d lIx (paV (pv 1)) paI (fun _ _=>rfl))) (a0a (paOp a1p lMul (paIx a0d lIx (paV (pv 0)) paI (fun _ _=>rfl)) (paIx a0d lIx (paV (pv 1)) paI (fun _ _=>rfl))) a0i))))),?_⟩
 obtain⟨b1,b2⟩:=b3b hy
 have hb:x.2 *y.2≠0:=by
   have:=Int.mul_pos (show 0<x.2 by omega) (show 0<y.2 by have:=hy.1;omega)
   omega
 simp! only[eF,b3a]
 exact⟨.of_right b1,.of_right b2,_,_,rfl,hb,.now q⟩
def a4i:SpA:=fun ds M Q _=> ∃(k:Str) (a b:Int),ds=[.str k,.int a,.int b]/\1<=b/\Q (eF (fac k a b)) M
theorem b48{f:Addr}{fd:FuncData}(Fn:Fun K "factor" "factor" a8l f fd)(h_lowest:Has P w K mg base (CXE P w) 41 "lowest" ["top","bottom"] (a0m K b3a)):FnOk P w K mg base (CXE P w) 42 f fd ["kind","one","other"] (a0m K a4i):=by
 refine Fn.okA b4h (fun ds M Q E h=> ?_) ?_
 . obtain⟨a,b,c,rfl,_⟩:=h;rfl
 intro cdv A outer s H E F0 ds M Q Ea hr ct hsp
 obtain⟨k,a,b,rfl,hb,q⟩:=hsp
 refine⟨_,(a0b (sIf (a0r (a03 (un64 ct)) lEq (paV (pv 0)) paS (a0k _))
       (a0j (sRet (a1w (a0a paI (a0a paI a0i)))))
       a0t)
     (a0b (sIf (a0r (a03 (un64 ct)) lEq (paV (pv 0)) paS (a0k _))
       (a0j (sRet (a01 h_lowest (hr.mono (by decide)) (by rfl) ct (a0a (paV (pv 1)) (a0a (paV (pv 2)) a0i)))))
       a0t)
     (a0j (sRet (a01 h_lowest (hr.mono (by decide)) (by rfl) ct (a0a (paUn b1t lNeg (paV (pv 1))) (a0a (paV (pv 2)) a0i))))))),?_⟩
 have hb0:b≠0:=by omega
 unfold fac at q
 by_cases h1:k="pin"
 . rw[if_pos h1]at q
   refine a1a (fun R h=>by simp! only[decide_eq_true h1];exact h) ?_
   simp! only[]
   exact⟨by decide,.now q⟩
 . rw[if_neg h1]at q
   refine a0x (fun R h=>by simp! only[decide_eq_false h1];exact h) ?_
   by_cases h2:k="band"
   . rw[if_pos h2]at q
     refine a1a (fun R h=>by simp! only[decide_eq_true h2];exact h) ?_
     simp! only[b3a]
     exact⟨a,b,rfl,hb0,.now q⟩
   . rw[if_neg h2]at q
     refine a0x (fun R h=>by simp! only[decide_eq_false h2];exact h) ?_
     simp! only[b3a]
     exact⟨-a,b,rfl,hb0,.now q⟩
def a8c(EC:Rk->Addr):SpA:=fun ds M Q E=> ∃(ns:List Str) (n:Str),ds=[.lst (ns.map D.str),.str n]/\if n∈ns then Q .non M else E (.ref (EC .noWheel)) M
theorem b78(ns:List Str)(n:Str):inD (.str n) (ns.map D.str)=decide (n∈ns):=by
 unfold inD
 induction ns with
 |nil=>rfl
 |cons a ns ih=>
   simp only[List.map_cons,List.any_cons,List.mem_cons,Bool.decide_or]
   rw[ih]
   congr 1
   by_cases h:a=n
   . subst h;simp[eqF]
   . have h': ¬ n=a:=fun z=>h z.symm
     simp[eqF,h,h']
theorem a5h{f:Addr}{fd:FuncData}{EC:Rk->Addr}(Fn:Fun K "refuse_unknown" "refuse_unknown" a2e f fd)(XK:ExK K mg EC):FnOk P w K mg base (CXE P w) 1 f fd ["names","name"] (a0m K (a8c EC)):=by
 refine Fn.okA a42 (fun ds M Q E h=> ?_) ?_
 . obtain⟨a,b,rfl,_⟩:=h;rfl
 intro cdv A outer s H E F0 ds M Q Ea hr ct hsp
 obtain⟨ns,n,rfl,q⟩:=hsp
 have X_NoWheel:=XK.noWheel
 refine⟨_,(a0j (sIf (a0r a6q b5s (paV (pv 1)) (paV (pv 0)) (by with_unfolding_all rfl))
       (a0j (a3g ct X_NoWheel (by rfl) (a0a paS a0i)))
       a0t)),?_⟩
 have e1:(flD (D.str n)&&(ns.map D.str).all flD)=true:=by
   rw[Bool.and_eq_true];exact⟨rfl,List.all_eq_true.mpr fun d hd=>by obtain⟨x,_,rfl⟩:=List.mem_map.mp hd;rfl⟩
 simp! only[e1,b78]
 split at q
 . rename_i h
   rw[decide_eq_true h]
   exact .now q
 . rename_i h
   rw[decide_eq_false h]
   exact⟨by decide,q⟩
theorem a2t{α:Type}(l:List α)(f:α->D)(i:Nat)(h:i<l.length):(l.map f).getD i .non=f l[i]:=by simp[List.getD,List.getElem?_eq_getElem h]
def spLead:SpA:=fun ds M Q _=> ∃(js:List Jn) (n:Str),ds=[.lst (js.map eJ),.str n]/\js.length<=300/\Q (.lst ((lead js n).map eL)) M
theorem a8u{f:Addr}{fd:FuncData}(Fn:Fun K "joins_from" "joins_from" a3m f fd):FnOk P w K mg base (CXE P w) 1 f fd ["joins","here"] (a0m K spLead):=by
 refine Fn.okA sc_joins_from (fun ds M Q E h=> ?_) ?_
 . obtain⟨a,b,rfl,_⟩:=h;rfl
 intro cdv A outer s H E F0 ds M Q Ea hr ct hsp
 obtain⟨js,n,rfl,hl,q⟩:=hsp
 refine⟨_,(a0b (sSet (i:=2) sc_joins_from.nd rfl (Or.inl rfl) (a4q a0i))
     (a0b (sFor ct (a3h (paV (pv 0))) (a69 rfl (a00 (a0v (i:=3) sc_joins_from.nd rfl (Or.inl rfl)) (a00 (a0v (i:=4) sc_joins_from.nd rfl (Or.inl rfl)) (a00 (a0v (i:=5) sc_joins_from.nd rfl (Or.inl rfl)) (a00 (a0v (i:=6) sc_joins_from.nd rfl (Or.inl rfl)) a3i)))))
       (a0b (sIf (a0r (a03 (un64 ct)) lEq (paV (pv 5)) (paV (pv 1)) (a0k _))
         (a0j (a2i (paBM PySem.F.plainAttrs_list PySem.F.slot_list_append PySem.F.type_list_append a1e a1x (paV (pv 2)) (a0a (a1w (a0a (paV (pv 3)) (a0a (paV (pv 4)) (a0a (paV (pv 6)) a0i)))) a0i))))
         a0t)
       (a0j (sIf (a0r (a03 (un64 ct)) lEq (paV (pv 6)) (paV (pv 1)) (a0k _))
         (a0j (a2i (paBM PySem.F.plainAttrs_list PySem.F.slot_list_append PySem.F.type_list_append a1e a1x (paV (pv 2)) (a0a (a1w (a0a (paV (pv 3)) (a0a (paV (pv 4)) (a0a (paV (pv 5)) a0i)))) a0i))))
         a0t))))
     (a0j (sRet (paV (pv 2)))))),?_⟩
 simp! only[]
 refine⟨Nat.le_of_ble_eq_true rfl,fun p hp=> ?_⟩
 refine LoopP.by (fun i Γ M'=>M'=put M p (.lst ((lead (js.take i) n).map eL))/\ ∃a b c d,Γ=[some (.lst (js.map eJ)),some (.str n),some (.obj p),a,b,c,d]) ⟨rfl,_,_,_,_,rfl⟩ (fun _ _ _ _=>trivial) ?_ ?_
 . rintro i Γ M' hi ⟨rfl,a,b,c,d,rfl⟩
   dsimp only at hi
   have hi':i<js.length:=by simpa using hi
   have hll:=b2o (js.take i) n
   rw[List.length_take]at hll
   have hl2:((lead (js.take i) n).map eL).length<=600:=by rw[List.length_map];omega
   have et:lead (js.take (i+1)) n=lead (js.take i) n++a7l n js[i]:=by
     unfold lead
     rw[List.take_succ_eq_append_getElem hi',List.flatMap_append];simp
   simp! only[a2t js eJ i hi',eJ,a52,a32,gaNil,aBM,a3e,a0e,oAppend,a1o]
   refine⟨rfl,?_⟩
   rw[et]
   generalize (lead (js.take i) n)=L at hl2 et |-
   unfold a7l
   have h3: ∀x:D,(L.map eL++[x]).length<1000:=fun x=>by rw[List.length_append];simp only[List.length_cons,List.length_nil];omega
   by_cases h1:js[i].2.2.1=n<;>by_cases h2:js[i].2.2.2=n<;>simp only[h1,h2,decide_true,decide_false,if_true,if_false,Bool.false_eq_true]
   . exact⟨by decide,by omega,by decide,h3 _,hi,by simp[eL],_,_,_,_,rfl⟩
   . exact⟨by decide,by omega,hi,by simp[eL],_,_,_,_,rfl⟩
   . exact⟨by decide,by omega,hi,by simp[eL],_,_,_,_,rfl⟩
   . exact⟨hi,by simp[eL],_,_,_,_,rfl⟩
 . rintro Γ M' ⟨rfl,a,b,c,d,rfl⟩
   refine .fz hp ?_
   have e:(js.map eJ).length=js.length:=List.length_map ..
   dsimp only
   rw[e,List.take_length]
   exact q
theorem b7f{M:Mem}{p r:Addr}{a b c:MO}(h:r≠p):put (put (put M p a) r b) p c=put (put M p c) r b:=by
 funext x
 by_cases hx:x=p
 . subst hx;rw[a0e,a0g h.symm,a0e]
 . rw[a0g hx]
   by_cases hr:x=r
   . subst hr;rw[a0e,a0e]
   . rw[a0g hr,a0g hr,a0g hx,a0g hx]
noncomputable abbrev MT(M:Mem)(p r:Addr)(t:TT)(ws:List Str):Mem:=put (put M p (.dic (encT t))) r (.lst (ws.map D.str))
def b1y:SpA:=fun ds M Q _=> ∃(js:List Jn) (n:Str),ds=[.lst (js.map eJ),.str n]/\js.length<=300/\ ∀t,IsTree js n t->Grown js n t->Closed js t->t.length<=2 *js.length+1-> ∀p,M p=none->Q (.obj p) (put M p (.dic (encT t)))
theorem a9l{f:Addr}{fd:FuncData}(Fn:Fun K "tree_from" "tree_from" a37 f fd)(T:Txt K mg)(h_joins_from:Has P w K mg base (CXE P w) 1 "joins_from" ["joins","here"] (a0m K spLead)):FnOk P w K mg base (CXE P w) 2 f fd ["joins","start"] (a0m K b1y):=by
 refine Fn.okA sc_tree_from (fun ds M Q E h=> ?_) ?_
 . obtain⟨a,b,rfl,_⟩:=h;rfl
 intro cdv A outer s H E F0 ds M Q Ea hr ct hsp
 obtain⟨js,n,rfl,hl,q⟩:=hsp
 refine⟨_,(a0b (sSet (i:=2) sc_tree_from.nd rfl (Or.inl rfl) (paDict1 (paV (pv 1)) paN))
     (a0b (sSet (i:=3) sc_tree_from.nd rfl (Or.inl rfl) (a4q (a0a (paV (pv 1)) a0i)))
     (a0b (b17 ct (a0r b3h lGt (a0w a0q lLen (by rfl) T.len PySem.boot_len (a0a (paV (pv 3)) a0i)) paI (a0k _))
       (a0b (sSet (i:=4) sc_tree_from.nd rfl (Or.inl rfl) (paBM PySem.F.plainAttrs_list PySem.F.slot_list_pop PySem.F.type_list_pop b7y lPop0 (paV (pv 3)) (a0a paI a0i)))
       (a0j (sFor ct (a3h (a01 h_joins_from (hr.mono (by decide)) (by rfl) ct (a0a (paV (pv 0)) (a0a (paV (pv 4)) a0i)))) (a69 rfl (a00 (a0v (i:=5) sc_tree_from.nd rfl (Or.inl rfl)) (a00 (a0v (i:=6) sc_tree_from.nd rfl (Or.inl rfl)) (a00 (a0v (i:=7) sc_tree_from.nd rfl (Or.inl rfl)) a3i))))
         (a0j (sIf (ptPC (a4p (un1 ct) (paV (pv 7)) (paV (pv 2))))
           (a0b (b0n (un1 ct) (paV (pv 2)) (paV (pv 7)) (a1w (a0a (paV (pv 5)) (a0a (paV (pv 6)) (a0a (paV (pv 4)) a0i)))) rfl)
           (a0j (a2i (paBM PySem.F.plainAttrs_list PySem.F.slot_list_append PySem.F.type_list_append a1e a1x (paV (pv 3)) (a0a (paV (pv 7)) a0i)))))
           a0t))))))
     (a0j (sRet (paV (pv 2))))))),?_⟩
 simp! only[aDict1]
 intro p hp
 refine⟨a0e,?_⟩
 rw[a1o]
 refine⟨Nat.le_of_ble_eq_true rfl,fun r hr'=> ?_⟩
 have nrp:r≠p:=by rintro rfl;rw[a0e]at hr';cases hr'
 rw[a0g nrp]at hr'
 have hu:a4g js [(n,none)]<=2 *js.length:=by
   have:=List.length_filter_le (fun m=>decide (m∉names [(n,none)])) (ends js)
   rw[b8d]at this
   exact this
 refine⟨fun m Γ M'=> ∃t ws o4 o5 o6 o7,Γ=[some (.lst (js.map eJ)),some (.str n),some (.obj p),some (.obj r),o4,o5,o6,o7]/\M'=MT M p r t ws/\Grown js n t/\(∀x∈ws,x∈names t)/\(∀x∈names t,x∈ws\/ ∀l∈lead js x,l.2.2∈names t)/\ws.length+a4g js t<=m/\m<=2 *js.length+1/\t.length+a4g js t<=2 *js.length+1/\ ∃k,b1a js k ([(n,none)],[n])=(t,ws),
   ⟨1+a4g js [(n,none)],[(n,none)],[n],none,none,none,none,rfl,rfl,.root,fun x hx=>hx,fun x hx=> .inl hx,Nat.le_refl _,by omega,by simp only[List.length_cons,List.length_nil];omega,0,rfl⟩,?_⟩
 rintro m Γ M' ⟨t,ws,o4,o5,o6,o7,rfl,rfl,gr,hw,hc,hm,hm2,ht,kk,hkk⟩
 have e1: ∀ws:List Str,lenF (MT M p r t ws) (.obj r)=some ws.length:=by
   intro ws
   simp only[lenF,MT,L2.dd,L2.dq,a0e,Option.map_some,List.length_map]
 simp only[aT,aOp,b61,b0e,aNil,aV,aC,oLen,lenC,List.getElem?_cons_zero,List.getElem?_cons_succ,a1j,e1,true_and,oGt,oI]
 cases ws with
 |nil=>
   simp only[List.length_nil,Int.natCast_zero,gt_iff_lt,Int.lt_irrefl,decide_false,Bool.false_eq_true,if_false,aRet,aV,List.getElem?_cons_zero,List.getElem?_cons_succ,a1j]
   refine .sub (.put (by rw[a0g nrp];exact hr')) (q t ⟨kk,hkk⟩ gr (fun x hx l hl'=> ?_) (by omega) p hp)
   rcases hc x hx with h |h
   . cases h
   . exact h l hl'
 |cons x ws=>
   have hpos:decide ((0:Int)< ((x::ws).length:Int))=true:=decide_eq_true (by simp only[List.length_cons];omega)
   simp only[hpos,if_true]
   have hx:x∈names t:=hw x List.mem_cons_self
   simp only[aSeq,aSet,aBM,aV,aC,b0e,aNil,a3e,MT,a0e,oPop0,List.map_cons,a1o,true_and,aFor,iaL,aFun,List.set_cons_zero,List.set_cons_succ,List.getElem?_cons_zero,List.getElem?_cons_succ,a1j]
   refine⟨js,x,rfl,hl,?_⟩
   simp only[L2.dr]
   have hll:=b2o js x
   simp only[List.length_cons]at hm
   refine LoopP.by (fun i Γ M'=> ∃t' ws2 o5 o6 o7,Γ=[some (.lst (js.map eJ)),some (.str n),some (.obj p),some (.obj r),some (.str x),o5,o6,o7]/\M'=MT M p r t' ws2/\Grown js n t'/\x∈names t'/\(∀y∈ws2,y∈names t')/\(∀y∈names t',y∈ws2\/y=x\/ ∀l∈lead js y,l.2.2∈names t')/\(∀(k:Nat) (h:k< (lead js x).length),k<i->(lead js x)[k].2.2∈names t')/\ws2.length+a4g js t'+1<=m/\t'.length+a4g js t'<=2 *js.length+1/\(t',ws2)=((lead js x).take i).foldl (addW x) (t,ws))
     ⟨t,ws,o5,o6,o7,rfl,rfl,gr,hx,fun y hy=>hw y (List.mem_cons_of_mem _ hy),fun y hy=> ?_,fun k _ hk=>absurd hk (Nat.not_lt_zero _),by omega,ht,rfl⟩ (fun _ _ _ _=>trivial) ?_ ?_
   . rcases hc y hy with h |h
     . rcases List.mem_cons.mp h with h |h
       . exact .inr (.inl h)
       . exact .inl h
     . exact .inr (.inr h)
   . clear hc hw ht hx gr o4 o5 o6 o7 hpos
     rintro i Γ M' hi ⟨t',ws2,o5,o6,o7,rfl,rfl,gr,hx,hw,hc,hd,hm,ht,hfo⟩
     have hi':i< (lead js x).length:=by simpa using hi
     have hmem:(lead js x)[i]∈lead js x:=List.getElem_mem hi'
     have hend:=b5p hmem
     simp only[a2t _ _ _ hi']
     have step: ∀k (h:k< (lead js x).length),k<i+1->k<i\/(lead js x)[k]=(lead js x)[i]:=fun k h hk=>by
       by_cases e:k=i
       . subst e;exact .inr rfl
       . exact .inl (by omega)
     have hfo2:((lead js x).take (i+1)).foldl (addW x) (t,ws)=addW x (t',ws2) (lead js x)[i]:=by rw[List.take_succ_eq_append_getElem hi',List.foldl_append,<-hfo];rfl
     generalize (lead js x)[i]=l at hmem hend step hfo2 |-
     simp only[eL,a52,a32,gaNil,gaN,aIf,aT,aOp,aV,oDIn,L2.dq,L2.dd,keyD,a2m,MT,a0e,a0g nrp.symm,a5p,List.set_cons_zero,List.set_cons_succ,List.getElem?_cons_zero,List.getElem?_cons_succ,a1j,if_true]
     refine⟨rfl,trivial,?_⟩
     by_cases hin:l.2.2∈names t'
     . simp only[hin,decide_true,Bool.not_true,Bool.false_eq_true,if_false,aNext]
       refine⟨hi,t',ws2,_,_,_,rfl,rfl,gr,hx,hw,hc,fun k h hk=> ?_,hm,ht,by rw[hfo2];unfold addW;rw[if_pos hin]⟩
       rcases step k h hk with h' |h'
       . exact hd k h h'
       . rw[h'];exact hin
     . have hless:=b0g (e:=some (l.1,l.2.1,x)) hend hin
       simp only[hin,decide_false,Bool.not_false,if_true,aSeq,aDPut,aTup,b0e,aNil,aV,L2.dd,keyD,a2m,a0e,a0g nrp.symm,List.getElem?_cons_zero,List.getElem?_cons_succ,a1j]
       have e2:a50 (encT t') (Sum.inr l.2.2) (.tup [.int l.1,.str l.2.1,.str x])=encT (t'++[(l.2.2,some (l.1,l.2.1,x))]):=b4r (l:=(l.1,l.2.1,x)) hin
       rw[e2,b7f nrp]
       have hlen:(encT t').length=t'.length:=List.length_map ..
       refine⟨Nat.le_of_ble_eq_true rfl,by rw[hlen];omega,?_⟩
       simp only[b1s,aBM,aV,b0e,aNil,a3e,a0e,oAppend,a1o,true_and,List.length_map,List.getElem?_cons_zero,List.getElem?_cons_succ,a1j]
       have nm:=a0y t' l.2.2 (some (l.1,l.2.1,x))
       refine⟨by omega,hi',t'++[(l.2.2,some (l.1,l.2.1,x))],ws2++[l.2.2],_,_,_,rfl,by simp[MT],.more t' l.2.2 (l.1,l.2.1,x) gr hin hx hmem,?_,?_,?_,?_,?_,?_,by rw[hfo2];unfold addW;rw[if_neg hin]⟩
       . rw[nm];exact List.mem_append_left _ hx
       . intro y hy
         rw[nm]
         rcases List.mem_append.mp hy with hy |hy
         . exact List.mem_append_left _ (hw y hy)
         . exact List.mem_append_right _ hy
       . intro y hy
         rw[nm]at hy |-
         rcases List.mem_append.mp hy with hy |hy
         . rcases hc y hy with h |h |h
           . exact .inl (List.mem_append_left _ h)
           . exact .inr (.inl h)
           . exact .inr (.inr fun l' hl'=>List.mem_append_left _ (h l' hl'))
         . exact .inl (List.mem_append_right _ hy)
       . intro k h hk
         rw[nm]
         rcases step k h hk with h' |h'
         . exact List.mem_append_left _ (hd k h h')
         . rw[h'];exact List.mem_append_right _ (by simp)
       . rw[List.length_append];simp only[List.length_cons,List.length_nil];omega
       . rw[List.length_append];simp only[List.length_cons,List.length_nil];omega
   . rintro Γ M' ⟨t',ws2,o5,o6,o7,rfl,rfl,gr,hx,hw,hc,hd,hm',ht,hfo⟩
     refine⟨m- 1,by omega,t',ws2,_,o5,o6,o7,rfl,rfl,gr,hw,fun y hy=> ?_,by omega,by omega,ht,kk+1,?_⟩
     . rcases hc y hy with h |h |h
       . exact .inl h
       . subst h
         refine .inr fun l hl'=> ?_
         obtain⟨k,hk,e⟩:=List.getElem_of_mem hl'
         rw[<-e]
         exact hd k hk (by simpa using hk)
       . exact .inr h
     . show stepT js (b1a js kk _)=_
       rw[hkk]
       have el:((lead js x).map eL).length=(lead js x).length:=List.length_map ..
       dsimp only at hfo
       rw[el,List.take_length]at hfo
       exact hfo.symm
theorem b5a{d1 d2:Addr}{n:Int}:(fsT d1 d2 n).lookup ("wheels":Str)=none:=rfl
theorem b7w{d1 d2:Addr}{n:Int}:(fsT d1 d2 n).lookup ("joins":Str)=none:=rfl
theorem a2z{C:Addr}{M:Mem}{p d1 d2:Addr}{S:TS}{R:AX}{Γ:G}{Q:AK}{t_o:AE}(tr:Tr C M p d1 d2 S)(hto: ∀R:AK,R (.obj p) M->t_o Γ M R)(q:Q (.lst (S.ws.map eW)) M):aFz (b6z C "wheels" (a2o C) R t_o aNil) Γ M Q:=by
 refine hto _ ?_
 dsimp only
 rw[tr.self,a25]
 refine⟨b5a,p,d1,d2,S,rfl,tr,fun l hl=> ?_⟩
 dsimp only
 rw[a0e]
 dsimp only
 rw[a2l hl];exact q
theorem a3v{C:Addr}{M:Mem}{p d1 d2:Addr}{S:TS}{R:AX}{Γ:G}{Q:AK}{t_o:AE}(tr:Tr C M p d1 d2 S)(hto: ∀R:AK,R (.obj p) M->t_o Γ M R)(q:Q (.lst (S.js.map eJ)) M):aFz (b6z C "joins" (a36 C) R t_o aNil) Γ M Q:=by
 refine hto _ ?_
 dsimp only
 rw[tr.self,a25]
 refine⟨b7w,p,d1,d2,S,rfl,tr,fun l hl=> ?_⟩
 dsimp only
 rw[a0e]
 dsimp only
 rw[a2l hl];exact q
noncomputable def row0:D->D
 | .tup (d::_)=>d
 |d=>d
theorem b2h(S:TS):(S.ws.map eW).map row0=(S.ws.map Prod.fst).map D.str:=by
 rw[List.map_map,List.map_map];rfl
theorem a4c{M:Mem}{a b:Addr}{o:MO}(h:M a=some o)(h':M b=none):b≠a:=by rintro rfl;rw[h]at h';cases h'
theorem none_of{M:Mem}{a b:Addr}{o:MO}(h:put M a o b=none):b≠a/\M b=none:=by
 have n:b≠a:=by rintro rfl;rw[a0e]at h;cases h
 exact⟨n,by rw[a0g n]at h;exact h⟩
theorem Tr.sub{C:Addr}{M M':Mem}{p d1 d2:Addr}{S:TS}(tr:Tr C M p d1 d2 S)(h:L2.Sub M M'):Tr C M' p d1 d2 S:=
 ⟨h _ _ tr.self,h _ _ tr.teeth,h _ _ tr.join,tr.ne,tr.lt⟩
structure Fit(S:TS):Prop where
 nd:(S.ws.map Prod.fst).Nodup
 teeth:a2b S.ws
 ends: ∀j∈S.js,j.2.2.1∈S.ws.map Prod.fst/\j.2.2.2∈S.ws.map Prod.fst
 w:S.ws.length<=100
 j:S.js.length<=200
noncomputable def encN:Option Str->D |none=> .non |some x=> .str x
noncomputable def meant(S:TS):Option Str->Option Str |none=>(S.ws.map Prod.fst).head? |some x=>if x∈S.ws.map Prod.fst then some x else none
def b0j(C:Addr)(EC:Rk->Addr):SpA:=fun ds M Q E=> ∃(p d1 d2:Addr) (S:TS) (o:Option Str),ds=[.obj p,encN o]/\Tr C M p d1 d2 S/\S.ws.length<=100/\match meant S o with |some n=>Q (.str n) M |none=>E (.ref (EC .noWheel)) M
theorem a7g{f C:Addr}{fd:FuncData}{EC:Rk->Addr}(Fn:Fun K "wheel_meant" "wheel_meant" a26 f fd)(T:Txt K mg)(XK:ExK K mg EC)(h_wheels:HasM P w K mg base (CXE P w) 1 C "wheels" ["self"] (a0m K (a2o C)))
   (h_refuse_unknown:Has P w K mg base (CXE P w) 1 "refuse_unknown" ["names","name"] (a0m K (a8c EC))):FnOk P w K mg base (CXE P w) 2 f fd ["train","name"] (a0m K (b0j C EC)):=by
 refine Fn.okA sc_wheel_meant (fun ds M Q E h=> ?_) ?_
 . obtain⟨_,_,_,_,_,rfl,_⟩:=h;rfl
 intro cdv A outer s H E F0 ds M Q Ea hr ct hsp
 obtain⟨p,d1,d2,S,o,rfl,tr,hw,q⟩:=hsp
 have X_NoWheel:=XK.noWheel
 refine⟨_,(a0b (b4i (i:=2) sc_wheel_meant.nd rfl rfl (Nc:=["wheel"]) (n:=1) (fs:=[]) b8g rfl (a3h (paFz (a2f h_wheels (hr.mono (by decide)) ct (paV (pv 0))))) (fun _ _ _ _ _=>(a0v (i:=0) (show List.Nodup (["wheel"]:List Str)by decide+kernel) rfl (Or.inl rfl))) (fun _ _ _ _ _=>b6j) (fun _ _ _ _ _=>(paIx a0d lIx (paV (pv 0)) paI (fun _ _=>rfl))) (by rfl))
     (a0b (sIf (a0r a13 lIs (paV (pv 1)) paN (a0k _))
       (a0b (sIf (a0r (a03 (un64 ct)) lEq (a0w a0q lLen (by rfl) T.len PySem.boot_len (a0a (paV (pv 2)) a0i)) paI (a0k _))
         (a0j (a3g ct X_NoWheel (by rfl) (a0a paS a0i)))
         a0t)
       (a0j (sRet (paIx a0d lIx (paV (pv 2)) paI (fun _ _=>rfl)))))
       a0t)
     (a0b (a2i (a01 h_refuse_unknown (hr.mono (by decide)) (by rfl) ct (a0a (paV (pv 2)) (a0a (paV (pv 1)) a0i))))
     (a0j (sRet (paV (pv 1))))))),?_⟩
 refine seqV (.lst ((S.ws.map Prod.fst).map D.str)) M (fun R h=>compL (S.ws.map eW) row0 (fun R h=>a2z tr (fun R h=>h) h) (by rw[List.length_map];omega) (fun x hx M' R h=>by
   obtain⟨w',_,rfl⟩:=List.mem_map.mp hx
   exact⟨trivial,h⟩) (by rw[b2h S];exact h)) ?_
 cases o with
 |none=>
   refine a1a (fun R h=>h) ?_
   unfold meant at q
   cases hws:S.ws with
   |nil=>
     rw[hws]at q
     refine a1a (fun R h=> ?_) ?_
     . simp! only[];exact h
     . exact⟨Nat.le_of_ble_eq_true rfl,q⟩
   |cons w0 ws=>
     rw[hws]at q
     refine a0x (fun R h=> ?_) ?_
     . have e:decide (((((w0::ws).map Prod.fst).map D.str).length:Int)=0)=false:=decide_eq_false (by simp only[List.length_map,List.length_cons];omega)
       simp! only[]at e |-
       rw[e];exact h
     . simp! only[]
       exact .now q
 |some x=>
   refine a0x (fun R h=>h) ?_
   simp! only[a8c,encN]
   refine⟨_,x,rfl,?_⟩
   unfold meant at q
   dsimp only at q
   by_cases hx:x∈S.ws.map Prod.fst
   . rw[if_pos hx]at q |-
     exact .now q
   . rw[if_neg hx]at q |-
     exact q
theorem b2b(ws:List (Str×Int)):a7w (ws.map eW)=some (dW ws):=by
 induction ws with
 |nil=>rfl
 |cons w ws ih=>
   show(match keyD (.str w.1),a7w (ws.map eW)with |some k',some r'=>some ((k',D.int w.2)::r') |_,_=>none)=_
   rw[ih];rfl
theorem b6t{ws:List (Str×Int)}(h:(ws.map Prod.fst).Nodup):((dW ws).map (·.1)).Nodup:=by
 have e:(dW ws).map (·.1)=(ws.map Prod.fst).map Sum.inr:=by unfold dW;rw[List.map_map,List.map_map];rfl
 rw[e]
 exact List.pairwise_map.mpr (h.imp fun hne z=>hne (Sum.inr.inj z))
theorem a3z{ws:List (Str×Int)}{n:Str}(h:n∈ws.map Prod.fst):getK (dW ws) (Sum.inr n)=some (.int (a0h ws n)):=by
 induction ws with
 |nil=>cases h
 |cons w ws ih=>
   unfold dW getK a0h at ih |-
   simp only[List.map_cons,List.find?_cons,Sum.inr.injEq]
   by_cases e:w.1=n
   . simp[e]
   . rw[decide_eq_false e]
     have hn:n∈ws.map Prod.fst:=by
       rcases List.mem_cons.mp h with h |h
       . exact absurd h.symm e
       . exact h
     exact ih hn
noncomputable def a2y(sh:Sh):List (Key×D):=sh.map fun e=>(Sum.inr e.1,eF e.2)
theorem a5o{sh:Sh}{n:Str}(h:n∈sh.map Prod.fst):getK (a2y sh) (Sum.inr n)=some (eF (lk sh n)):=by
 induction sh with
 |nil=>cases h
 |cons w ws ih=>
   unfold a2y getK lk at ih |-
   simp only[List.map_cons,List.find?_cons,Sum.inr.injEq]
   by_cases e:w.1=n
   . simp[e]
   . rw[decide_eq_false e]
     have hn:n∈ws.map Prod.fst:=by
       rcases List.mem_cons.mp h with h |h
       . exact absurd h.symm e
       . exact h
     exact ih hn
theorem a5n{sh:Sh}{n:Str}(h:n∉sh.map Prod.fst):getK (a2y sh) (Sum.inr n)=none:=by
 induction sh with
 |nil=>rfl
 |cons w ws ih=>
   rw[List.map_cons,List.mem_cons,not_or]at h
   unfold a2y getK at ih |-
   simp only[List.map_cons,List.find?_cons,Sum.inr.injEq]
   rw[decide_eq_false (fun e=>h.1 e.symm)]
   exact ih h.2
theorem put_sh{sh:Sh}{n:Str}{x:Fr}(h:n∉sh.map Prod.fst):a50 (a2y sh) (Sum.inr n) (eF x)=a2y (sh++[(n,x)]):=by
 rw[a22 (by rw[a5n h];rfl)]
 simp[a2y]
theorem Grown.at{js:List Jn}{s:Str}{t:TT}(g:Grown js s t): ∀(i:Nat) (h:i<t.length),(t[i]).1∉names (t.take i)/\ ∀l,(t[i]).2=some l->l.2.2∈names (t.take i):=by
 induction g with
 |root=>
   intro i h
   have:i=0:=by simpa using h
   subst this
   exact⟨fun z=>by simp[names]at z,fun l z=>by cases z⟩
 |more t n e g new old by_ ih=>
   intro i h
   rw[List.length_append]at h
   by_cases hi:i<t.length
   . rw[List.getElem_append_left hi,List.take_append_of_le_length (by omega)]
     exact ih i hi
   . have hi2:i=t.length:=by simp at h;omega
     subst hi2
     rw[List.getElem_append_right (by omega),List.take_left]
     simp only[Nat.sub_self,List.getElem_cons_zero]
     exact⟨new,fun l z=>by cases z;exact old⟩
theorem Grown.inn{js:List Jn}{s:Str}{t:TT}(g:Grown js s t){ns:List Str}(hs:s∈ns)(he: ∀j∈js,j.2.2.1∈ns/\j.2.2.2∈ns): ∀n∈names t,n∈ns:=by
 induction g with
 | root => intro n hn; have : n = s := by simpa [names] using hn
           rw[this];exact hs
 |more t n e g new old by_ ih=>
   intro m hm
   rw[a0y]at hm
   rcases List.mem_append.mp hm with hm |hm
   . exact ih m hm
   . rw[List.mem_singleton.mp hm]
     obtain⟨j,hj,_,h2⟩:=b70 by_
     rcases h2 with⟨_,h3⟩ | ⟨_,h3⟩
     . rw[<-show j.2.2.2=n from h3];exact(he j hj).2
     . rw[<-show j.2.2.1=n from h3];exact(he j hj).1
theorem a9r{α:Type}[DecidableEq α]: ∀{l l':List α},l.Nodup->(∀x∈l,x∈l')->l.length<=l'.length
 | [],_,_,_=>Nat.zero_le _
 |a::l,l',nd,h=>by
   obtain⟨h1,h2⟩:=List.nodup_cons.mp nd
   have ha:=h a List.mem_cons_self
   have ih:=a9r (l:=l) (l':=l'.erase a) h2 fun x hx=>(List.mem_erase_of_ne (fun e=>h1 (by rw[<-e];exact hx))).mpr (h x (List.mem_cons_of_mem _ hx))
   rw[List.length_erase_of_mem ha]at ih
   have:0<l'.length:=List.length_pos_of_mem ha
   simp only[List.length_cons];omega
theorem b3c(ws:List (Str×Int))(a b:TT): ∀e∈a0c ws a,e∈a0c ws (a++b):=by
 intro e he
 unfold a0c at he |-
 rw[List.foldl_append]
 generalize a.foldl (fun sh e=>sh++[(e.1,a30 ws sh e)]) []=sh at he |-
 induction b generalizing sh with
 |nil=>exact he
 |cons x b ih=>exact ih _ (List.mem_append_left _ he)
theorem forIk{td:AE}{gt:AGt}{tb rest:AS}{E:AEnds}{Γ:G}{M:Mem}{p:Addr}{kvs:List (Key×D)}(htd: ∀R:AK,R (.obj p) M->td Γ M R)(hp:M p=some (.dic kvs))(h: ∀u,LoopP ⟨kvs.length,itemAt kvs,fun M=>M p=some (.raw u)⟩ gt tb {E with nx:=fun Γ' M'=>M' p=some (.raw u)/\rest E Γ' (put M' p (.dic kvs))} Γ (put M p (.raw u))):aSeq (aForI td gt tb) rest E Γ M:=
 htd _ (by dsimp only;rw[hp];exact h)
theorem b4q{M:Mem}{p r s:Addr}{a b c:MO}(h1:r≠p)(h2:s≠p):put (put (put M r a) s b) p c=put (put (put M p c) r a) s b:=by
 rw[a3w h2,a3w h1]
def a4h(C:Addr):SpA:=fun ds M Q _=> ∃(p d1 d2 q:Addr) (S:TS) (t:TT) (n:Str),ds=[.obj p,.obj q]/\Tr C M p d1 d2 S/\Fit S/\M q=some (.dic (encT t))/\Grown S.js n t/\n∈S.ws.map Prod.fst/\t.length<=500/\ ∀r,M r=none->Q (.obj r) (put M r (.dic (a2y (a0c S.ws t))))
theorem a6r{f C:Addr}{fd:FuncData}(Fn:Fun K "shares_along" "shares_along" a2u f fd)(T:Txt K mg)(h_wheels:HasM P w K mg base (CXE P w) 1 C "wheels" ["self"] (a0m K (a2o C)))
   (h_times:Has P w K mg base (CXE P w) 42 "times" ["one","other"] (a0m K a6g)) (h_factor:Has P w K mg base (CXE P w) 42 "factor" ["kind","one","other"] (a0m K a4i)):FnOk P w K mg base (CXE P w) 43 f fd ["train","tree"] (a0m K (a4h C)):=by
 refine Fn.okA sc_shares_along (fun ds M Q E h=> ?_) ?_
 . obtain⟨_,_,_,_,_,_,_,rfl,_⟩:=h;rfl
 intro cdv A outer s H E F0 ds M Q Ea hr ct hsp
 obtain⟨p,d1,d2,q',S,t,n,rfl,tr,fit,hq,gr,hn,hl,q⟩:=hsp
 refine⟨_,(a0b (sSet (i:=2) sc_shares_along.nd rfl (Or.inl rfl) (a8r (a5z ct.calm) b5t (by rfl) T.dict boot_dict (a0a (paFz (a2f h_wheels (hr.mono (by decide)) ct (paV (pv 0)))) a0i)))
     (a0b (sSet (i:=3) sc_shares_along.nd rfl (Or.inl rfl) b2c)
     (a0b (sForI ct (paV (pv 1)) (a69 rfl (a00 (a0v (i:=4) sc_shares_along.nd rfl (Or.inl rfl)) (a00 (a0v (i:=5) sc_shares_along.nd rfl (Or.inl rfl)) a3i)))
       (a0j (sIf (a0r a13 lIs (paV (pv 5)) paN (a0k _))
         (a0j (b0n (un1 ct) (paV (pv 3)) (paV (pv 4)) (a1w (a0a paI (a0a paI a0i))) rfl))
         (a0b (sSet (i:=6) sc_shares_along.nd rfl (Or.inl rfl) (paIx a0d lIx (paV (pv 5)) paI (fun _ _=>rfl)))
         (a0j (b0n (un1 ct) (paV (pv 3)) (paV (pv 4)) (a01 h_times (hr.mono (by decide)) (by rfl) ct (a0a (a5t (un1 ct) (paV (pv 3)) (paV (pv 6)) (fun _ _=>rfl)) (a0a (a01 h_factor (hr.mono (by decide)) (by rfl) ct (a0a (paIx a0d lIx (paV (pv 5)) paI (fun _ _=>rfl)) (a0a (a5t (un1 ct) (paV (pv 2)) (paV (pv 6)) (fun _ _=>rfl)) (a0a (a5t (un1 ct) (paV (pv 2)) (paV (pv 4)) (fun _ _=>rfl)) a0i)))) a0i))) rfl))))))
     (a0j (sRet (paV (pv 3))))))),?_⟩
 have hin:=gr.inn hn fit.ends
 have hsm:=a2p fit.teeth gr
 refine cut2 (fun Γ' M2=> ∃r1 r2,M r1=none/\M r2=none/\r1≠r2/\Γ'=[some (.obj p),some (.obj q'),some (.obj r1),some (.obj r2),none,none,none]/\M2=put (put M r1 (.dic (dW S.ws))) r2 (.dic [])) ?_ ?_
 . rintro Γ' M2 ⟨r1,r2,h1,h2,n12,rfl,rfl⟩
   have n1:=a4c hq h1
   have n2:=a4c hq h2
   refine forIk (p:=q') (kvs:=encT t) (fun R h=>h) (by rw[a0g n2.symm,a0g n1.symm];exact hq) fun u=> ?_
   rw[b4q n1 n2]
   have hu: ∀{a b:MO},put (put (put M q' (.raw u)) r1 a) r2 b q'=some (.raw u):=fun {a b}=>by rw[a0g n2.symm,a0g n1.symm,a0e]
   refine LoopP.by2 (fun i Γ M'=> ∃o4 o5 o6,Γ=[some (.obj p),some (.obj q'),some (.obj r1),some (.obj r2),o4,o5,o6]/\M'=put (put (put M q' (.raw u)) r1 (.dic (dW S.ws))) r2 (.dic (a2y (a0c S.ws (t.take i))))) ⟨_,_,_,rfl,rfl⟩ (fun _ _ _ ⟨_,_,_,_,e⟩=>by rw[e];exact hu) ?_ ?_
   . rintro E' i Γ M' hrt hi hnx ⟨o4,o5,o6,rfl,rfl⟩
     dsimp only at hi
     have hi':i<t.length:=by simpa[encT]using hi
     obtain⟨g1,g2⟩:=gr.at i hi'
     have eit:L2.itemAt (encT t) i= .tup [.str (t[i]).1,eE (t[i]).2]:=by
       unfold L2.itemAt encT
       rw[List.getElem?_map,List.getElem?_eq_getElem hi'];rfl
     have hws:(t[i]).1∈S.ws.map Prod.fst:=hin _ (List.mem_map.mpr ⟨_,List.getElem_mem hi',rfl⟩)
     have hsn:=a1d S.ws (t.take i) t[i]
     rw[<-List.take_succ_eq_append_getElem hi']at hsn
     have hnm:=a0o S.ws (t.take i)
     have hle:(a2y (a0c S.ws (t.take i))).length<1000:=by unfold a2y;rw[List.length_map,b3d,List.length_take];omega
     have hsub: ∀m∈names (t.take i),m∈S.ws.map Prod.fst:=fun m hm=>hin m (by
       unfold names at hm |-
       obtain⟨x,hx,e⟩:=List.mem_map.mp hm
       exact List.mem_map.mpr ⟨x,List.mem_of_mem_take hx,e⟩)
     have hsm': ∀e∈a0c S.ws (t.take i),1<=e.2.2:=fun e he=>(hsm e (by
       have:t=t.take i++t.drop i:=(List.take_append_drop ..).symm
       rw[this]
       exact b3c _ _ _ e he)).1
     show a52 _ _ (L2.itemAt (encT t) i) _ _ _
     rw[eit]
     generalize t[i]=en at g1 g2 hws hsn
     obtain⟨m,e⟩:=en
     dsimp only at g1 g2 hws hsn
     have hnew:m∉(a0c S.ws (t.take i)).map Prod.fst:=by rw[hnm];exact g1
     cases e with
     |none=>
       refine⟨rfl,rfl,ifV true (fun R h=>h) ?_⟩
       rw[if_pos rfl]
       simp! only[a0e,a1o]
       refine⟨by decide,hle,?_⟩
       rw[show D.tup [.int 1,.int 1]=eF (1,1)from rfl,put_sh hnew]
       exact hnx _ _ ⟨_,_,_,rfl,by rw[hsn];rfl⟩
     |some l=>
       have hpar:=g2 l rfl
       have t1:=a0l fit.teeth l.2.2
       have t2:=a0l fit.teeth m
       obtain⟨ex,hex,_,elk⟩:=b2l (sh:=a0c S.ws (t.take i)) (n:=l.2.2) (by rw[hnm];exact hpar)
       have hlk:1<=(lk (a0c S.ws (t.take i)) l.2.2).2:=by rw[elk];exact hsm' ex hex
       refine⟨rfl,rfl,ifV false (fun R h=>h) ?_⟩
       rw[if_neg Bool.false_ne_true]
       refine seqV (.str l.2.2) _ (fun R h=>⟨trivial,h⟩) ?_
       simp! only[eE,eL,a0e,a0g n12,a5o (show l.2.2∈(a0c S.ws (t.take i)).map Prod.fst by rw[hnm];exact hpar),a3z (hsub _ hpar),a3z hws,a4i,a6g]
       refine⟨l.2.1,_,_,rfl,t2.1,lk (a0c S.ws (t.take i)) l.2.2,fac l.2.1 (a0h S.ws l.2.2) (a0h S.ws m),rfl,hlk,a61 t1.1 t1.2 t2.1 t2.2,?_⟩
       refine⟨hle,?_⟩
       rw[put_sh hnew,a1o]
       exact hnx _ _ ⟨_,_,_,rfl,by rw[hsn];rfl⟩
   . rintro Γ M' ⟨o4,o5,o6,rfl,rfl⟩
     have el:(encT t).length=t.length:=List.length_map ..
     dsimp only
     rw[el,List.take_length]
     refine⟨hu,.sub (fun x o h=> ?_) (q r2 h2)⟩
     by_cases hq2:x=q'
     . rw[hq2]at h |-
       rw[a0g n2.symm,hq]at h
       rw[a0e];exact h
     . rw[a0g hq2]
       by_cases hx:x=r2
       . rw[hx]at h |-;rw[a0e]at h |-;exact h
       . rw[a0g hx]at h |-
         rw[a0g (fun z=>by rw[z,h1]at h;cases h),a0g hq2];exact h
 . intro rest hrest
   simp! only[]
   refine a2z tr (fun R h=>h) ?_
   refine⟨by rw[List.length_map];have:=fit.w;omega,?_⟩
   rw[b2b]
   refine⟨b6t fit.nd,fun r1 h1 r2 h2=> ?_⟩
   obtain⟨n12,h2'⟩:=none_of h2
   exact hrest _ _ ⟨r1,r2,h1,h2',n12.symm,rfl,rfl⟩
noncomputable def a1s(ws:List (Str×Int))(sh:Sh)(j:Jn):Bool:=decide (j.2.2.1∈sh.map Prod.fst)&& !eqD (eF (mulF (lk sh j.2.2.1) (fac j.2.1 (a0h ws j.2.2.1) (a0h ws j.2.2.2)))) (eF (lk sh j.2.2.2))
noncomputable def a93(S:TS)(sh:Sh):D:=match S.js.find? (a1s S.ws sh)with |some j=>eJ j |none=> .non
theorem gd_f(x:Fr):Gd 1 (eF x):= .tup _ _ fun d hd=>by
 simp only[List.mem_cons,List.not_mem_nil,or_false]at hd
 rcases hd with rfl |rfl
 . exact .int _ _
 . exact .int _ _
theorem nes_f{x y:Fr}{M:Mem}{Q:AK}(h:Q (.bl (!eqD (eF x) (eF y))) M):oEq true (eF x) (eF y) M Q:=⟨.inr ⟨(gd_f x).sh,(gd_f y).sh⟩,h⟩
def b4a(C:Addr):SpA:=fun ds M Q _=> ∃(p d1 d2 r:Addr) (S:TS) (sh:Sh),ds=[.obj p,.obj r]/\Tr C M p d1 d2 S/\Fit S/\M r=some (.dic (a2y sh))/\(∀e∈sh,1<=e.2.2)/\(∀j∈S.js,j.2.2.1∈sh.map Prod.fst->j.2.2.2∈sh.map Prod.fst)/\Q (a93 S sh) M
theorem b6i{α:Type}{f:α->Bool}{l:List α}{i:Nat}(h:i<l.length)(hn:(l.take i).find? f=none)(hi:f l[i]=true):l.find? f=some l[i]:=by
 have e:l=l.take i++(l[i]::l.drop (i+1)):=by rw[<-List.drop_eq_getElem_cons h,List.take_append_drop]
 conv=>lhs;rw[e]
 rw[List.find?_append,hn,List.find?_cons,hi];rfl
theorem a6s{f C:Addr}{fd:FuncData}(Fn:Fun K "jamming_join" "jamming_join" a2v f fd)(T:Txt K mg)(h_wheels:HasM P w K mg base (CXE P w) 1 C "wheels" ["self"] (a0m K (a2o C)))(h_joins:HasM P w K mg base (CXE P w) 1 C "joins" ["self"] (a0m K (a36 C)))
   (h_times:Has P w K mg base (CXE P w) 42 "times" ["one","other"] (a0m K a6g)) (h_factor:Has P w K mg base (CXE P w) 42 "factor" ["kind","one","other"] (a0m K a4i)):FnOk P w K mg base (CXE P w) 43 f fd ["train","shares"] (a0m K (b4a C)):=by
 refine Fn.okA sc_jamming_join (fun ds M Q E h=> ?_) ?_
 . obtain⟨_,_,_,_,_,_,rfl,_⟩:=h;rfl
 intro cdv A outer s H E F0 ds M Q Ea hr ct hsp
 obtain⟨p,d1,d2,r,S,sh,rfl,tr,fit,hrr,h1,hcl,q⟩:=hsp
 refine⟨_,(a0b (sSet (i:=2) sc_jamming_join.nd rfl (Or.inl rfl) (a8r (a5z ct.calm) b5t (by rfl) T.dict boot_dict (a0a (paFz (a2f h_wheels (hr.mono (by decide)) ct (paV (pv 0)))) a0i)))
     (a0b (sFor ct (a3h (paFz (a2f h_joins (hr.mono (by decide)) ct (paV (pv 0))))) (a0v (i:=3) sc_jamming_join.nd rfl (Or.inl rfl))
       (a0b (sSet (i:=4) sc_jamming_join.nd rfl (Or.inl rfl) (paIx a0d lIx (paV (pv 3)) paI (fun _ _=>rfl)))
       (a0b (sSet (i:=5) sc_jamming_join.nd rfl (Or.inl rfl) (paIx a0d lIx (paV (pv 3)) paI (fun _ _=>rfl)))
       (a0j (sIf (ptPC (pcDIn (un1 ct) (paV (pv 4)) (paV (pv 1))))
         (a0b (sSet (i:=6) sc_jamming_join.nd rfl (Or.inl rfl) (a01 h_times (hr.mono (by decide)) (by rfl) ct (a0a (a5t (un1 ct) (paV (pv 1)) (paV (pv 4)) (fun _ _=>rfl)) (a0a (a01 h_factor (hr.mono (by decide)) (by rfl) ct (a0a (paIx a0d lIx (paV (pv 3)) paI (fun _ _=>rfl)) (a0a (a5t (un1 ct) (paV (pv 2)) (paV (pv 4)) (fun _ _=>rfl)) (a0a (a5t (un1 ct) (paV (pv 2)) (paV (pv 5)) (fun _ _=>rfl)) a0i)))) a0i))))
         (a0j (sIf (a0r (a2j (un64 ct)) lNe (paV (pv 6)) (a5t (un1 ct) (paV (pv 1)) (paV (pv 5)) (fun _ _=>rfl)) (a0k _))
           (a0j (sRet (paV (pv 3))))
           a0t)))
         a0t)))))
     (a0j (sRet paN)))),?_⟩
 refine cut1 (fun Γ' M2=> ∃r1,M r1=none/\Γ'=[some (.obj p),some (.obj r),some (.obj r1),none,none,none,none]/\M2=put M r1 (.dic (dW S.ws))) ?_ ?_
 . rintro Γ' M2 ⟨r1,hr1,rfl,rfl⟩
   have nr:=a4c hrr hr1
   have hr2:put M r1 (.dic (dW S.ws)) r=some (.dic (a2y sh)):=by rw[a0g nr.symm];exact hrr
   refine forLs (d:= .lst (S.js.map eJ)) (fun R h=>a3v (tr.sub (.put hr1)) (fun R h=>h) h) rfl ?_
   refine LoopP.by2 (fun i Γ M'=>M'=put M r1 (.dic (dW S.ws))/\(S.js.take i).find? (a1s S.ws sh)=none/\ ∃o3 o4 o5 o6,Γ=[some (.obj p),some (.obj r),some (.obj r1),o3,o4,o5,o6]) ⟨rfl,rfl,_,_,_,_,rfl⟩ (fun _ _ _ _=>rfl) ?_ ?_
   . rintro E' i Γ M' hrt hi hnx ⟨rfl,hno,o3,o4,o5,o6,rfl⟩
     dsimp only at hi
     have hi':i<S.js.length:=by simpa using hi
     have hft:=b6i (f:=a1s S.ws sh) hi' hno
     have hmem:=List.getElem_mem hi'
     obtain⟨e1,e2⟩:=fit.ends _ hmem
     have hc2:=hcl _ hmem
     have hsn:(S.js.take (i+1)).find? (a1s S.ws sh)=if a1s S.ws sh S.js[i]=true then some S.js[i]else none:=by
       rw[List.take_succ_eq_append_getElem hi',List.find?_append,hno]
       simp[List.find?_cons]
       split<;>simp_all
     simp only[a2t S.js eJ i hi',gaN,List.set_cons_zero,List.set_cons_succ]
     generalize S.js[i]=j at hft e1 e2 hc2 hsn
     have t1:=a0l fit.teeth j.2.2.1
     have t2:=a0l fit.teeth j.2.2.2
     refine seqV (.str j.2.2.1) _ (fun R h=>⟨trivial,h⟩) (seqV (.str j.2.2.2) _ (fun R h=>⟨trivial,h⟩) ?_)
     simp only[List.set_cons_zero,List.set_cons_succ]
     by_cases hin:j.2.2.1∈sh.map Prod.fst
     . have hin2:=hc2 hin
       obtain⟨ex,hex,_,elk⟩:=b2l hin
       have hlk:1<=(lk sh j.2.2.1).2:=by rw[elk];exact h1 ex hex
       refine ifV true (fun R h=>by
         simp! only[hr2,a5o hin,Option.isSome_some]
         exact h) ?_
       rw[if_pos rfl]
       refine seqV (eF (mulF (lk sh j.2.2.1) (fac j.2.1 (a0h S.ws j.2.2.1) (a0h S.ws j.2.2.2)))) (put M r1 (.dic (dW S.ws))) (fun R h=>by
         simp! only[eJ,hr2,a0e,a5o hin,a3z e1,a3z e2,a4i,a6g]
         exact⟨_,_,_,rfl,t2.1,_,_,rfl,hlk,a61 t1.1 t1.2 t2.1 t2.2,h⟩) ?_
       simp only[List.set_cons_zero,List.set_cons_succ]
       cases hj:a1s S.ws sh j with
       |true=>
         have ev:(!eqD (eF (mulF (lk sh j.2.2.1) (fac j.2.1 (a0h S.ws j.2.2.1) (a0h S.ws j.2.2.2)))) (eF (lk sh j.2.2.2)))=true:=by
           unfold a1s at hj;rw[Bool.and_eq_true]at hj;exact hj.2
         refine ifV true (fun R h=>by
           simp! only[hr2,a5o hin2]
           refine nes_f ?_
           rw[ev];exact h) ?_
         rw[if_pos rfl]
         refine retV (eJ j) _ (fun R h=>h) ?_
         rw[hrt]
         have e:a93 S sh=eJ j:=by unfold a93;rw[hft hj]
         rw[e]at q
         exact .sub (.put hr1) q
       |false=>
         have ev:(!eqD (eF (mulF (lk sh j.2.2.1) (fac j.2.1 (a0h S.ws j.2.2.1) (a0h S.ws j.2.2.2)))) (eF (lk sh j.2.2.2)))=false:=by
           unfold a1s at hj;rw[decide_eq_true hin,Bool.true_and]at hj;exact hj
         refine ifV false (fun R h=>by
           simp! only[hr2,a5o hin2]
           refine nes_f ?_
           rw[ev];exact h) ?_
         rw[if_neg Bool.false_ne_true]
         exact hnx _ _ ⟨rfl,by rw[hsn,hj];rfl,_,_,_,_,rfl⟩
     . have hj:a1s S.ws sh j=false:=by unfold a1s;rw[decide_eq_false hin];rfl
       refine ifV false (fun R h=>by
         simp! only[hr2,a5n hin,Option.isSome_none]
         exact h) ?_
       rw[if_neg Bool.false_ne_true]
       exact hnx _ _ ⟨rfl,by rw[hsn,hj];rfl,_,_,_,_,rfl⟩
   . rintro Γ M' ⟨rfl,hno,o3,o4,o5,o6,rfl⟩
     have el:(S.js.map eJ).length=S.js.length:=List.length_map ..
     dsimp only at hno
     rw[el,List.take_length]at hno
     have e:a93 S sh= .non:=by unfold a93;rw[hno]
     rw[e]at q
     exact .sub (.put hr1) q
 . intro rest hrest
   simp! only[]
   refine a2z tr (fun R h=>h) ?_
   refine⟨by rw[List.length_map];have:=fit.w;omega,?_⟩
   rw[b2b]
   exact⟨b6t fit.nd,fun r1 h1=>hrest _ _ ⟨r1,h1,rfl,rfl⟩⟩
def spFree(C:Addr)(EC:Rk->Addr)(EJ:Addr):SpA:=fun ds M Q E=> ∃(p d1 d2:Addr) (S:TS) (o:Option Str),ds=[.obj p,encN o]/\Tr C M p d1 d2 S/\Fit S/\match meant S o with
 |none=>E (.ref (EC .noWheel)) M
 |some n=> ∀t,IsTree S.js n t->Grown S.js n t->Closed S.js t->t.length<=100->match S.js.find? (a1s S.ws (a0c S.ws t))with
   |some _=> ∀M',L2.Sub M M'->E (.ref EJ) M'
   |none=> ∀r,M r=none->Q (.obj r) (put M r (.dic (a2y (a0c S.ws t))))
theorem b2j{S:TS}{o:Option Str}{n:Str}(h:meant S o=some n):n∈S.ws.map Prod.fst:=by
 cases o with
 |none=>exact List.mem_of_mem_head? h
 |some x=>
   unfold meant at h
   dsimp only at h
   split at h
   . cases h;assumption
   . cases h
theorem a8z{js:List Jn}{j:Jn}(h:j∈js):(j.1,j.2.1,j.2.2.2)∈lead js j.2.2.1:=by
 unfold lead
 refine List.mem_flatMap.mpr ⟨j,h,?_⟩
 unfold a7l
 rw[if_pos rfl]
 exact List.mem_append_left _ List.mem_cons_self
theorem Grown.short{S:TS}{n:Str}{t:TT}(g:Grown S.js n t)(fit:Fit S)(hn:n∈S.ws.map Prod.fst):t.length<=100:=by
 have h:=a9r g.nodup (g.inn hn fit.ends)
 rw[List.length_map]at h
 have e:(names t).length=t.length:=by simp[names]
 have:=fit.w
 omega
theorem a7k{f C EJ:Addr}{fd:FuncData}{EC:Rk->Addr}(Fn:Fun K "free_shares" "free_shares" a3b f fd)(X_Jams:ExCls K mg "Jams" EJ)(h_joins:HasM P w K mg base (CXE P w) 1 C "joins" ["self"] (a0m K (a36 C)))
   (h_wheel_meant:Has P w K mg base (CXE P w) 2 "wheel_meant" ["train","name"] (a0m K (b0j C EC))) (h_tree_from:Has P w K mg base (CXE P w) 2 "tree_from" ["joins","start"] (a0m K b1y))
   (h_shares_along:Has P w K mg base (CXE P w) 43 "shares_along" ["train","tree"] (a0m K (a4h C))) (h_jamming_join:Has P w K mg base (CXE P w) 43 "jamming_join" ["train","shares"] (a0m K (b4a C))):FnOk P w K mg base (CXE P w) 44 f fd ["train","name"] (a0m K (spFree C EC EJ)):=by
 refine Fn.okA sc_free_shares (fun ds M Q E h=> ?_) ?_
 . obtain⟨_,_,_,_,_,rfl,_⟩:=h;rfl
 intro cdv A outer s H E F0 ds M Q Ea hr ct hsp
 obtain⟨p,d1,d2,S,o,rfl,tr,fit,q⟩:=hsp
 refine⟨_,(a0b (sSet (i:=2) sc_free_shares.nd rfl (Or.inl rfl) (a01 h_tree_from (hr.mono (by decide)) (by rfl) ct (a0a (paFz (a2f h_joins (hr.mono (by decide)) ct (paV (pv 0)))) (a0a (a01 h_wheel_meant (hr.mono (by decide)) (by rfl) ct (a0a (paV (pv 0)) (a0a (paV (pv 1)) a0i))) a0i))))
     (a0b (sSet (i:=3) sc_free_shares.nd rfl (Or.inl rfl) (a01 h_shares_along (hr.mono (by decide)) (by rfl) ct (a0a (paV (pv 0)) (a0a (paV (pv 2)) a0i))))
     (a0b (sIf (a0r a3c a4w (a01 h_jamming_join (hr.mono (by decide)) (by rfl) ct (a0a (paV (pv 0)) (a0a (paV (pv 3)) a0i))) paN (a0k _))
       (a0j (a3g ct X_Jams (by rfl) (a0a paS a0i)))
       a0t)
     (a0j (sRet (paV (pv 3))))))),?_⟩
 have hjl:S.js.length<=300:=by have:=fit.j;omega
 refine cut1 (fun Γ' M2=> ∃(n:Str) (t:TT) (r0:Addr),meant S o=some n/\IsTree S.js n t/\Grown S.js n t/\Closed S.js t/\M r0=none/\Γ'=[some (.obj p),some (encN o),some (.obj r0),none]/\M2=put M r0 (.dic (encT t))) ?_ ?_
 . rintro Γ' M2 ⟨n,t,r0,hm,ist,gr,cl,h0,rfl,rfl⟩
   have hn:=b2j hm
   have hsh:=gr.short fit hn
   have hsm:=a2p fit.teeth gr
   rw[hm]at q
   have q:=q t ist gr cl hsh
   have hnm:=a0o S.ws t
   refine cut1 (fun Γ' M2=> ∃(r:Addr),M r=none/\r≠r0/\Γ'=[some (.obj p),some (encN o),some (.obj r0),some (.obj r)]/\M2=put (put M r0 (.dic (encT t))) r (.dic (a2y (a0c S.ws t)))) ?_ ?_
   . rintro Γ' M2 ⟨r,hr0,nr0,rfl,rfl⟩
     have hr9:put M r0 (.dic (encT t)) r=none:=by rw[a0g nr0];exact hr0
     have sb9:L2.Sub M (put (put M r0 (.dic (encT t))) r (.dic (a2y (a0c S.ws t)))):=L2.Sub.trans (.put h0) (.put hr9)
     refine seqIfB (S.js.find? (a1s S.ws (a0c S.ws t))).isSome (fun R h=> ?_) ?_
     . simp! only[b4a]
       refine⟨p,d1,d2,r,S,a0c S.ws t,rfl,tr.sub sb9,fit,a0e,fun e he=>(hsm e he).1,fun j hj=> ?_,?_⟩
       . rw[hnm]
         intro h1
         exact cl _ h1 (j.1,j.2.1,j.2.2.2) (a8z hj)
       . unfold a93
         cases hf:S.js.find? (a1s S.ws (a0c S.ws t))with
         |none=>rw[hf]at h;exact h
         |some j=>rw[hf]at h;exact h
     . cases hf:S.js.find? (a1s S.ws (a0c S.ws t))with
       |none=>
         rw[hf]at q
         rw[if_neg (by decide)]
         refine .sub (fun x o h=> ?_) (q r hr0)
         by_cases hx:x=r
         . rw[hx]at h |-;rw[a0e]at h |-;exact h
         . rw[a0g hx]at h |-
           rw[a0g (fun z=>by rw[z,h0]at h;cases h)];exact h
       |some j=>
         rw[hf]at q
         rw[if_pos (by rfl)]
         exact⟨Nat.le_of_ble_eq_true rfl,q _ sb9⟩
   . intro rest hrest
     simp! only[a4h]
     refine⟨p,d1,d2,r0,S,t,n,rfl,tr.sub (.put h0),fit,a0e,gr,hn,by omega,fun r h=> ?_⟩
     obtain⟨n1,h2⟩:=none_of h
     exact hrest _ _ ⟨r,h2,n1,rfl,rfl⟩
 . intro rest hrest
   simp! only[]
   refine a3v tr (fun R h=>h) ?_
   refine⟨p,d1,d2,S,o,rfl,tr,fit.w,?_⟩
   cases hm:meant S o with
   |none=>rw[hm]at q;exact q
   |some n=>
     exact⟨S.js,n,rfl,hjl,fun t ist gr cl _ r0 h0=>hrest _ _ ⟨n,t,r0,hm,ist,gr,cl,h0,rfl,rfl⟩⟩
theorem compLO{fs:List Nat}{tl te:AE}{Γ:G}{M:Mem}{Q:AK}(ds:List D)(f:D->D)(htl: ∀R:AK,R (.lst ds) M->tl Γ M R)(hn:ds.length<=1000)(he: ∀x∈ds,∀(M':Mem),L2.Sub M M'-> ∀(R:AK),R (f x) M'->te (some x::frG fs Γ) M' R)
   (q: ∀p,M p=none->Q (.obj p) (put M p (.lst (ds.map f)))):a3t 1 fs (iaL tl) (gaN 0) aYes te Γ M Q:=by
 refine htl _ ?_
 refine⟨fun i=>some (f (ds.getD i .non)),hn,fun M' hs=>⟨rfl,fun i hi own ho=> ?_⟩,fun p hp=> ?_⟩
 . obtain⟨o,rfl⟩: ∃o,own=[o]:=by
     cases own with
     |nil=>cases ho
     |cons o l=>cases l with
       |nil=>exact⟨o,rfl⟩
       |cons _ _=>simp at ho
   refine⟨rfl,⟨[some _],rfl,rfl⟩,rfl,?_⟩
   rw[if_pos rfl]
   have hi':i<ds.length:=hi
   have e:ds.getD i .non=ds[i]:=by simp[List.getD,List.getElem?_eq_getElem hi']
   show te (some (ds.getD i .non)::frG fs Γ) M' _
   rw[e]
   exact he _ (List.getElem_mem hi') M' hs _ ⟨rfl,by dsimp only;rw[e]⟩
 . have e:outs (fun i=>some (f (ds.getD i .non))) ds.length=ds.map f:=by
     apply List.ext_getElem?
     intro i
     have:outs (fun i=>some (f (ds.getD i .non))) ds.length=(List.range ds.length).map fun i=>f (ds.getD i .non):=by
       unfold outs
       induction List.range ds.length with
       |nil=>rfl
       |cons a l ih=>simp only[List.filterMap_cons,List.map_cons,ih]
     rw[this]
     simp only[List.getElem?_map]
     by_cases hi:i<ds.length
     . simp[List.getElem?_range hi,List.getElem?_eq_getElem hi,List.getD]
     . simp[List.getElem?_eq_none (show(List.range ds.length).length<=i by simp;omega),List.getElem?_eq_none (show ds.length<=i by omega)]
   rw[e]
   exact q p hp
noncomputable def told1(sh:Sh):D->D | .tup (.str n::_)=>(getK (a2y sh) (Sum.inr n)).getD .non |d=>d
noncomputable def told(ws:List (Str×Int))(sh:Sh):List D:=(ws.map eW).map (told1 sh)
def a8a(C:Addr)(EC:Rk->Addr)(EJ:Addr):SpA:=fun ds M Q E=> ∃(p d1 d2:Addr) (S:TS) (o:Option Str),ds=[.obj p,encN o]/\Tr C M p d1 d2 S/\Fit S/\match meant S o with
 |none=>E (.ref (EC .noWheel)) M
 |some n=> ∀t,IsTree S.js n t->Grown S.js n t->Closed S.js t->t.length<=100->match S.js.find? (a1s S.ws (a0c S.ws t))with
   |some _=> ∀M',L2.Sub M M'->E (.ref EJ) M'
   |none=> ∀q,M q=none->Q (.obj q) (put M q (.lst (told S.ws (a0c S.ws t))))
theorem b7t{f C EJ:Addr}{fd:FuncData}{EC:Rk->Addr}(Fn:FunD K "turns" "turns" a2c f fd)(T:Txt K mg)(h_wheels:HasM P w K mg base (CXE P w) 1 C "wheels" ["self"] (a0m K (a2o C)))
   (h_free_shares:Has P w K mg base (CXE P w) 44 "free_shares" ["train","name"] (a0m K (spFree C EC EJ))):FnOk P w K mg base (CXE P w) 45 f fd ["train","name"] (a0m K (a8a C EC EJ)):=by
 refine Fn.okA sc_turns (fun ds M Q E h=> ?_) ?_
 . obtain⟨_,_,_,_,_,rfl,_⟩:=h;rfl
 intro cdv A outer s H E F0 ds M Q Ea hr ct hsp
 obtain⟨p,d1,d2,S,o,rfl,tr,fit,q⟩:=hsp
 have hu1:=un1 ct
 refine⟨_,(a0b (sSet (i:=2) sc_turns.nd rfl (Or.inr rfl) (a01 h_free_shares (hr.mono (by decide)) (by rfl) ct (a0a (paV (pv 0)) (a0a (paV (pv 1)) a0i))))
     (a0j (sRet (b0q (Nc:=["wheel","shares"]) (n:=1) (fs:=[2]) comp1 rfl (a3h (paFz (a2f h_wheels (hr.mono (by decide)) ct (paV (pv 0))))) (fun _ _ _ _ _=>(a0v (i:=0) (show List.Nodup (["wheel","shares"]:List Str)by decide+kernel) rfl (Or.inl rfl))) (fun _ _ _ _ _=>b6j) (fun _ _ _ _ _=>(paDGet1 hu1 (paV (pv 1)) (paIx a0d lIx (paV (pv 0)) paI (fun _ _=>rfl)) ⟨by rfl,by rfl,by rfl,by rfl⟩)))))),?_⟩
 refine⟨p,d1,d2,S,o,rfl,tr,fit,?_⟩
 cases hm:meant S o with
 |none=>rw[hm]at q;exact q
 |some n=>
   rw[hm]at q
   intro t ist gr cl hl
   have q:=q t ist gr cl hl
   cases hf:S.js.find? (a1s S.ws (a0c S.ws t))with
   |some j=>rw[hf]at q;exact q
   |none=>
     rw[hf]at q
     intro r hr0
     dsimp only
     refine compLO (S.ws.map eW) (told1 (a0c S.ws t)) (fun R h=>a2z (tr.sub (.put hr0)) (fun R h=>h) h) (by rw[List.length_map];have:=fit.w;omega) (fun x hx M' hs R h=> ?_) fun p' hp'=> ?_
     rotate_left
     . obtain⟨n1,h2⟩:=none_of hp'
       refine Rt.sub (fun x o h=> ?_) (q p' h2)
       by_cases hx:x=p'
       . rw[hx]at h |-;rw[a0e]at h |-;exact h
       . rw[a0g hx]at h |-
         rw[a0g (fun z=>by rw[z,hr0]at h;cases h)];exact h
     obtain⟨w',_,rfl⟩:=List.mem_map.mp hx
     have hr1:=hs _ _ (a0e (M:=M) (p:=r) (o:= .dic (a2y (a0c S.ws t))))
     simp! only[frG,Option.join_some,hr1,eW]
     exact⟨rfl,h⟩
noncomputable def eSt(s:Int×Str):D:= .tup [.int s.1,.str s.2]
def b1z:SpA:=fun ds M Q _=> ∃(js:List Jn) (a b:Str),ds=[.lst (js.map eJ),.str a,.str b]/\js.length<=300/\(¬ Reach js a b->Q .non M)/\
 ∀st,Way js a st b->(a::st.map Prod.snd).Nodup->st.length<=2 *js.length-> ∀p,M p=none->Q (.obj p) (put M p (.lst (st.map eSt)))
theorem b3j{f:Addr}{fd:FuncData}(Fn:Fun K "road_by" "road_by" a6k f fd)(h_tree_from:Has P w K mg base (CXE P w) 2 "tree_from" ["joins","start"] (a0m K b1y)):FnOk P w K mg base (CXE P w) 3 f fd ["joins","one","other"] (a0m K b1z):=by
 refine Fn.okA sc_road_by (fun ds M Q E h=> ?_) ?_
 . obtain⟨a,b,c,rfl,_⟩:=h;rfl
 intro cdv A outer s H E F0 ds M Q Ea hr ct hsp
 obtain⟨js,a,b,rfl,hl,qn,q⟩:=hsp
 refine⟨_,(a0b (sSet (i:=3) sc_road_by.nd rfl (Or.inl rfl) (a01 h_tree_from (hr.mono (by decide)) (by rfl) ct (a0a (paV (pv 0)) (a0a (paV (pv 1)) a0i))))
     (a0b (sIf (ptPC (a4p (un1 ct) (paV (pv 2)) (paV (pv 3))))
       (a0j (sRet paN))
       a0t)
     (a0b (sSet (i:=4) sc_road_by.nd rfl (Or.inl rfl) (a4q a0i))
     (a0b (sSet (i:=5) sc_road_by.nd rfl (Or.inl rfl) (paV (pv 2)))
     (a0b (b17 ct (a0r (a2j (un64 ct)) lNe (paV (pv 5)) (paV (pv 1)) (a0k _))
       (a0b (sSet (i:=6) sc_road_by.nd rfl (Or.inl rfl) (a5t (un1 ct) (paV (pv 3)) (paV (pv 5)) (fun _ _=>rfl)))
       (a0b (a2i (paBM PySem.F.plainAttrs_list PySem.F.slot_list_append PySem.F.type_list_append a1e a1x (paV (pv 4)) (a0a (a1w (a0a (paIx a0d lIx (paV (pv 6)) paI (fun _ _=>rfl)) (a0a (paV (pv 5)) a0i))) a0i)))
       (a0j (sSet (i:=5) sc_road_by.nd rfl (Or.inl rfl) (paIx a0d lIx (paV (pv 6)) paI (fun _ _=>rfl)))))))
     (a0b (a2i (paBM0 PySem.F.plainAttrs_list PySem.F.slot_list_reverse PySem.F.type_list_reverse b3n b73 (paV (pv 4))))
     (a0j (sRet (paV (pv 4)))))))))),?_⟩
 simp only[aSeq,aSet,aFun,b0e,aNil,aV,a7r,List.map_cons,List.map_nil,List.length_cons,List.length_nil,List.replicate,List.cons_append,List.nil_append,Nat.reduceAdd,Nat.reduceSub,List.set_cons_zero,List.set_cons_succ,List.getElem?_cons_zero,List.getElem?_cons_succ,a1j]
 refine⟨js,a,rfl,hl,fun t _ gr cl hlen p hp=> ?_⟩
 simp only[aIf,aT,aOp,aV,oDIn,L2.dd,keyD,a2m,a0e,a5p,if_true,List.getElem?_cons_zero,List.getElem?_cons_succ,a1j]
 by_cases hin:b∈names t
 . simp only[hin,decide_true,Bool.not_true,Bool.false_eq_true,if_false,aNext,aSeq,aSet,aLstM,aNil,aV,List.length_nil,List.set_cons_zero,List.set_cons_succ,List.getElem?_cons_zero,List.getElem?_cons_succ,a1j]
   refine⟨Nat.zero_le _,fun r hr'=> ?_⟩
   have nrp:r≠p:=by rintro rfl;rw[a0e]at hr';cases hr'
   rw[a0g nrp]at hr'
   refine⟨fun m Γ M'=> ∃(x:Str) (acc:List (Int×Str)) (t1 t2:TT) (o6:Option D),Γ=[some (.lst (js.map eJ)),some (.str a),some (.str b),some (.obj p),some (.obj r),some (.str x),o6]/\M'=put (put M p (.dic (encT t))) r (.lst (acc.reverse.map eSt))/\t=t1++t2/\Grown js a t1/\x∈names t1/\t1.length<=m/\acc.length+t1.length<=t.length/\Way js x acc b/\(acc.map Prod.snd).Nodup/\ ∀y∈acc.map Prod.snd,y∉names t1,
     ⟨t.length,b,[],t,[],none,rfl,rfl,by simp,gr,hin,Nat.le_refl _,by simp,.nil b,by simp,fun y hy=>(List.not_mem_nil hy).elim⟩,?_⟩
   rintro m Γ M' ⟨x,acc,t1,t2,o6,rfl,rfl,et,g1,hx,hm,hb,wy,nd,dj⟩
   simp only[aT,aOp,aV,b5b,List.getElem?_cons_zero,List.getElem?_cons_succ,a1j]
   by_cases hxa:x=a
   . subst hxa
     simp only[decide_true,Bool.not_true,Bool.false_eq_true,if_false]
     have hpos:0<t1.length:=by cases t1 with |nil=>cases hx |cons _ _=>simp
     simp only[aSeq,b1s,aBM0,aV,a3e,a0e,oReverse,a1o,true_and,aRet,List.getElem?_cons_zero,List.getElem?_cons_succ,a1j,<-List.map_reverse,List.reverse_reverse]
     rw[a3w nrp.symm]
     have npr:(put M r (.lst (acc.map eSt))) p=none:=by rw[a0g nrp.symm];exact hp
     exact .sub (.put npr) (q acc wy (List.nodup_cons.mpr ⟨fun z=>dj x z hx,nd⟩) (by omega) r hr')
   . simp only[hxa,decide_false,Bool.not_false,if_true]
     obtain⟨t0,e,t3,g0,e1,h1,h2,h3⟩:=g1.came hx hxa
     have eg:getK (encT t) (Sum.inr x)=some (eL e):=by
       have e2:t=t0++(x,some e)::(t3++t2):=by rw[et,e1];simp
       rw[e2];exact b6d t0 _ x (some e) h1
     have l1:t1.length=t0.length+1+t3.length:=by rw[e1];simp;omega
     simp only[aSeq,aSet,aDGet,aV,L2.dd,keyD,a2m,a0e,a0g nrp.symm,eg,a1j,List.set_cons_zero,List.set_cons_succ,List.getElem?_cons_zero,List.getElem?_cons_succ]
     simp only[eL,b1s,aBM,aV,aC,aTup,b0e,aNil,aOp,oIx,ixC,ixF,L2.dq,at0,at2,a3e,a0e,oAppend,a1o,true_and,aSet,Option.bind_some,a1j,List.length_map,List.length_reverse,List.set_cons_zero,List.set_cons_succ,List.getElem?_cons_zero,List.getElem?_cons_succ]
     refine⟨Nat.le_of_ble_eq_true rfl,by omega,t0.length,by omega,e.2.2,(e.1,x)::acc,t0,(x,some e)::(t3++t2),_,rfl,by simp[eSt],by rw[et,e1];simp,g0,h2,Nat.le_refl _,by simp only[List.length_cons];omega,.cons (l:=(e.1,e.2.1,x)) h3 wy,?_,?_⟩
     . simp only[List.map_cons]
       exact List.nodup_cons.mpr ⟨fun z=>dj x z hx,nd⟩
     . intro y hy hy0
       simp only[List.map_cons]at hy
       rcases List.mem_cons.mp hy with h |h
       . subst h;exact h1 hy0
       . refine dj y h ?_
         rw[e1]
         unfold names at hy0 |-
         rw[List.map_append]
         exact List.mem_append_left _ hy0
 . simp only[hin,decide_false,Bool.not_false,if_true,aRet,aC]
   exact .sub (.put hp) (qn fun z=>hin (gr.all cl z))
theorem b79(ns:List Int)(n:Int):inD (.int n) (ns.map D.int)=decide (n∈ns):=by
 unfold inD
 induction ns with
 |nil=>rfl
 |cons a ns ih=>
   simp only[List.map_cons,List.any_cons,List.mem_cons,Bool.decide_or]
   rw[ih]
   congr 1
   by_cases h:a=n
   . subst h;simp[eqF]
   . have h': ¬ n=a:=fun z=>h z.symm
     simp[eqF,h,h']
theorem eqD_f(x y:Fr):eqD (eF x) (eF y)=decide (x=y):=by
 obtain⟨a,b⟩:=x
 obtain⟨c,d⟩:=y
 have e:eqD (eF (a,b)) (eF (c,d))=(a==c&&(b==d&&true)):=rfl
 rw[e,Bool.and_true,Bool.eq_iff_iff,Bool.and_eq_true,beq_iff_eq,beq_iff_eq,decide_eq_true_eq,Prod.mk.injEq]
theorem compV{fs:List Nat}{td te:AE}{ti:AT}{Γ:G}{M:Mem}{Q:AK}{p:Addr}{kvs:List (Key×D)}(g:D->Option D)(htd: ∀R:AK,R (.obj p) M->td Γ M R)(hp:M p=some (.dic kvs))(hn:kvs.length<=1000)
   (hi: ∀kv∈kvs,∀(M':Mem) (R:Bool->Mem->Prop),R (g kv.2).isSome M'->ti (some kv.2::frG fs Γ) M' R) (he: ∀kv∈kvs,∀y,g kv.2=some y-> ∀(M':Mem) (R:AK),R y M'->te (some kv.2::frG fs Γ) M' R)
   (q:Q (.lst (kvs.filterMap fun kv=>g kv.2)) (del M p)):aFz (a3t 1 fs (iaV td) (gaN 0) ti te) Γ M Q:=by
 refine htd _ ?_
 dsimp only
 rw[hp]
 have hv: ∀i (h:i<kvs.length),L2.valAt kvs i=(kvs[i]).2:=fun i h=>by unfold L2.valAt;rw[List.getElem?_eq_getElem h]
 refine⟨fun i=>g (L2.valAt kvs i),hn,fun M' _=>⟨trivial,fun i hi' own ho=> ?_⟩,fun l hl=> ?_⟩
 . obtain⟨o,rfl⟩: ∃o,own=[o]:=by
     cases own with
     |nil=>cases ho
     |cons o l=>cases l with
       |nil=>exact⟨o,rfl⟩
       |cons _ _=>simp at ho
   refine⟨rfl,⟨[some _],rfl,rfl⟩,?_⟩
   have hi'':i<kvs.length:=hi'
   show ti (some (L2.valAt kvs i)::frG fs Γ) M' _
   rw[hv i hi'']
   refine hi _ (List.getElem_mem hi'') M' _ ⟨rfl,?_⟩
   cases hg:g (kvs[i]).2 with
   |some y=>
     rw[Option.isSome_some,if_pos rfl]
     refine he _ (List.getElem_mem hi'') y hg M' _ ⟨rfl,?_⟩
     dsimp only
     rw[hv i hi'',hg]
   |none=>
     rw[Option.isSome_none,if_neg Bool.false_ne_true]
     dsimp only
     rw[hv i hi'',hg]
 . rw[a0e]
   dsimp only
   rw[a2l hl]
   have e: ∀n,n<=kvs.length->outs (fun i=>g (L2.valAt kvs i)) n=(kvs.take n).filterMap fun kv=>g kv.2:=by
     intro n
     induction n with
     |zero=>intro _;rfl
     |succ n ih=>
       intro hn'
       have hlt:n<kvs.length:=by omega
       rw[a4r,ih (by omega),List.take_succ_eq_append_getElem hlt,List.filterMap_append,hv n hlt]
       cases hg:g (kvs[n]).2<;>simp[hg]
   rw[e kvs.length (Nat.le_refl _),List.take_length]
   exact q
noncomputable def num0:D->Option D
 | .tup (d::_)=>some d
 |_=>none
theorem nums_of(t:TT):(encT t).filterMap (fun kv=>num0 kv.2)=(nums t).map D.int:=by
 unfold encT nums
 rw[List.filterMap_map,List.map_filterMap]
 congr 1
 funext e
 obtain⟨n,e⟩:=e
 cases e<;>rfl
def b14:SpA:=fun ds M Q _=> ∃(q:Addr) (js:List Jn) (j:Jn) (t:TT) (x:Str),ds=[eJ j,.lst (js.map eJ),.obj q]/\M q=some (.dic (encT t))/\js.length<=300/\t.length<=500/\Grown js x t/\j.2.2.1∈names t/\j.2.2.2∈names t/\
 ∀st,Way (a2g js t) j.2.2.1 st j.2.2.2->(j.2.2.1::st.map Prod.snd).Nodup->st.length<=2 *js.length-> ∀r,del M q r=none->Q (.obj r) (put (del M q) r (.lst ((st++[(j.1,j.2.2.1)]).map eSt)))
theorem tree_js(js:List Jn)(t:TT):(js.map eJ).filter (fun d=>inD (row0 d) ((nums t).map D.int))=(a2g js t).map eJ:=by
 unfold a2g
 rw[List.filter_map]
 congr 1
 apply List.filter_congr
 intro j _
 exact b79 (nums t) j.1
theorem a5g{f:Addr}{fd:FuncData}(Fn:Fun K "ring_closed_by" "ring_closed_by" a2d f fd)(h_road_by:Has P w K mg base (CXE P w) 3 "road_by" ["joins","one","other"] (a0m K b1z)):FnOk P w K mg base (CXE P w) 4 f fd ["join","joins","tree"] (a0m K b14):=by
 refine Fn.okA sc_ring_closed_by (fun ds M Q E h=> ?_) ?_
 . obtain⟨_,_,_,_,_,rfl,_⟩:=h;rfl
 intro cdv A outer s H E F0 ds M Q Ea hr ct hsp
 obtain⟨q',js,j,t,x,rfl,hq,hjl,htl,gr,h1,h2,q⟩:=hsp
 refine⟨_,(a0b (sSet (i:=3) sc_ring_closed_by.nd rfl (Or.inr rfl) (paFz (b0q (Nc:=["entry"]) (n:=1) (fs:=[]) b8g rfl (iValues (paV (pv 2))) (fun _ _ _ _ _=>(a0v (i:=0) (show List.Nodup (["entry"]:List Str)by decide+kernel) rfl (Or.inl rfl))) (fun _ _ _ _ _=>(fiOne (a0r a3c a4w (paV (pv 0)) paN (a0k _)))) (fun _ _ _ _ _=>(paIx a0d lIx (paV (pv 0)) paI (fun _ _=>rfl))))))
     (a0b (b4i (i:=4) sc_ring_closed_by.nd rfl rfl (Nc:=["standing","numbers"]) (n:=1) (fs:=[3]) comp1 rfl (a3h (paV (pv 1))) (fun _ _ _ _ _=>(a0v (i:=0) (show List.Nodup (["standing","numbers"]:List Str)by decide+kernel) rfl (Or.inl rfl))) (fun _ _ _ _ _=>(fiOne (a0r b43 lIn (paIx a0d lIx (paV (pv 0)) paI (fun _ _=>rfl)) (paV (pv 1)) (by with_unfolding_all rfl)))) (fun _ _ _ _ _=>(paV (pv 0))) (by rfl))
     (a0b (sSet (i:=5) sc_ring_closed_by.nd rfl (Or.inl rfl) (a01 h_road_by (hr.mono (by decide)) (by rfl) ct (a0a (paV (pv 4)) (a0a (paIx a0d lIx (paV (pv 0)) paI (fun _ _=>rfl)) (a0a (paIx a0d lIx (paV (pv 0)) paI (fun _ _=>rfl)) a0i)))))
     (a0b (a2i (paBM PySem.F.plainAttrs_list PySem.F.slot_list_append PySem.F.type_list_append a1e a1x (paV (pv 5)) (a0a (a1w (a0a (paIx a0d lIx (paV (pv 0)) paI (fun _ _=>rfl)) (a0a (paIx a0d lIx (paV (pv 0)) paI (fun _ _=>rfl)) a0i))) a0i)))
     (a0j (sRet (paV (pv 5)))))))),?_⟩
 have htj:(a2g js t).length<=js.length:=List.length_filter_le ..
 refine seqV (.lst ((nums t).map D.int)) (del M q') (fun R h=> ?_) ?_
 . rw[<-nums_of]at h
   refine compV (p:=q') (kvs:=encT t) num0 (fun R h=>h) hq (by unfold encT;rw[List.length_map];omega) (fun kv hkv M' R h=> ?_) (fun kv hkv y hy M' R h=> ?_) h
   . obtain⟨e,_,rfl⟩:=List.mem_map.mp hkv
     obtain⟨n,e⟩:=e
     cases e with
     |none=>exact h
     |some l=>exact h
   . obtain⟨e,_,rfl⟩:=List.mem_map.mp hkv
     obtain⟨n,e⟩:=e
     cases e with
     |none=>cases hy
     |some l=>
       cases hy
       exact⟨trivial,h⟩
 refine seqV (.lst ((a2g js t).map eJ)) (del M q') (fun R h=> ?_) ?_
 . rw[<-tree_js]at h
   refine compF (js.map eJ) (fun d=>inD (row0 d) ((nums t).map D.int)) (fun R h=>h) (by rw[List.length_map];omega) (fun y hy M' R h=> ?_) h
   obtain⟨i,_,rfl⟩:=List.mem_map.mp hy
   simp! only[eJ,frG,Option.join_some]
   have ef:(flD (D.int i.1)&&((nums t).map D.int).all flD)=true:=by rw[List.all_map];exact List.all_eq_true.mpr fun _ _=>rfl
   rw[if_pos ef]
   exact h
 refine⟨trivial,trivial,a2g js t,j.2.2.1,j.2.2.2,rfl,by omega,fun hn=>absurd (b29 gr h1 h2) hn,fun st wy nd hl r hr'=> ?_⟩
 dsimp only
 refine b1l .non (put (del M q') r (.lst ((st++[(j.1,j.2.2.1)]).map eSt))) (fun R h=> ?_) ?_
 . simp! only[eJ,aBM,a3e,a0e,oAppend,a1o,List.length_map]
   rw[List.map_append]at h
   exact⟨by decide,by omega,h⟩
 . exact .now (q st wy nd (by omega) r hr')
def b10(C:Addr)(EC:Rk->Addr):SpA:=fun ds M Q E=> ∃(p d1 d2:Addr) (S:TS) (o:Option Str),ds=[.obj p,encN o]/\Tr C M p d1 d2 S/\Fit S/\(S.js.map Prod.fst).Nodup/\(∀j∈S.js,j.2.2.1≠j.2.2.2)/\match meant S o with
 |none=>E (.ref (EC .noWheel)) M
 |some n=> ∀t,IsTree S.js n t->Grown S.js n t->Closed S.js t->t.length<=100->match S.js.find? (a1s S.ws (a0c S.ws t))with
   |some _=> ∀a rs,Ring S.ws S.js n a rs->rs.length<=500-> ∀r,M r=none->Q (.obj r) (put M r (.lst (rs.map eSt)))
   |none=>Q .non M
theorem b2r{ws:List (Str×Int)}{sh:Sh}{j:Jn}(h:a1s ws sh j=true):j.2.2.1∈sh.map Prod.fst/\ ¬ mulF (lk sh j.2.2.1) (fac j.2.1 (a0h ws j.2.2.1) (a0h ws j.2.2.2))=lk sh j.2.2.2:=by
 unfold a1s at h
 rw[Bool.and_eq_true]at h
 refine⟨of_decide_eq_true h.1,fun e=> ?_⟩
 have h2:=h.2
 rw[e]at h2
 rw[eqD_f,decide_eq_true rfl]at h2
 cases h2
theorem ok_ring{f C:Addr}{fd:FuncData}{EC:Rk->Addr}(Fn:FunD K "ring" "ring" a3f f fd)(h_joins:HasM P w K mg base (CXE P w) 1 C "joins" ["self"] (a0m K (a36 C)))
   (h_wheel_meant:Has P w K mg base (CXE P w) 2 "wheel_meant" ["train","name"] (a0m K (b0j C EC))) (h_tree_from:Has P w K mg base (CXE P w) 2 "tree_from" ["joins","start"] (a0m K b1y))
   (h_shares_along:Has P w K mg base (CXE P w) 43 "shares_along" ["train","tree"] (a0m K (a4h C))) (h_jamming_join:Has P w K mg base (CXE P w) 43 "jamming_join" ["train","shares"] (a0m K (b4a C)))
   (h_ring_closed_by:Has P w K mg base (CXE P w) 4 "ring_closed_by" ["join","joins","tree"] (a0m K b14)):FnOk P w K mg base (CXE P w) 44 f fd ["train","name"] (a0m K (b10 C EC)):=by
 refine Fn.okA sc_ring (fun ds M Q E h=> ?_) ?_
 . obtain⟨_,_,_,_,_,rfl,_⟩:=h;rfl
 intro cdv A outer s H E F0 ds M Q Ea hr ct hsp
 obtain⟨p,d1,d2,S,o,rfl,tr,fit,nd,une,q⟩:=hsp
 refine⟨_,(a0b (sSet (i:=2) sc_ring.nd rfl (Or.inl rfl) (a01 h_tree_from (hr.mono (by decide)) (by rfl) ct (a0a (paFz (a2f h_joins (hr.mono (by decide)) ct (paV (pv 0)))) (a0a (a01 h_wheel_meant (hr.mono (by decide)) (by rfl) ct (a0a (paV (pv 0)) (a0a (paV (pv 1)) a0i))) a0i))))
     (a0b (sSet (i:=3) sc_ring.nd rfl (Or.inl rfl) (a01 h_jamming_join (hr.mono (by decide)) (by rfl) ct (a0a (paV (pv 0)) (a0a (a01 h_shares_along (hr.mono (by decide)) (by rfl) ct (a0a (paV (pv 0)) (a0a (paV (pv 2)) a0i))) a0i))))
     (a0b (sIf (a0r a13 lIs (paV (pv 3)) paN (a0k _))
       (a0j (sRet paN))
       a0t)
     (a0j (sRet (a01 h_ring_closed_by (hr.mono (by decide)) (by rfl) ct (a0a (paV (pv 3)) (a0a (paFz (a2f h_joins (hr.mono (by decide)) ct (paV (pv 0)))) (a0a (paV (pv 2)) a0i))))))))),?_⟩
 have hjl:S.js.length<=300:=by have:=fit.j;omega
 have hjl2:=fit.j
 refine cut1 (fun Γ' M2=> ∃(n:Str) (t:TT) (r0:Addr),meant S o=some n/\IsTree S.js n t/\Grown S.js n t/\Closed S.js t/\M r0=none/\Γ'=[some (.obj p),some (encN o),some (.obj r0),none]/\M2=put M r0 (.dic (encT t))) ?_ ?_
 . rintro Γ' M2 ⟨n,t,r0,hm,ist,gr,cl,h0,rfl,rfl⟩
   have hn:=b2j hm
   have hsh:=gr.short fit hn
   have hsm:=a2p fit.teeth gr
   rw[hm]at q
   have q:=q t ist gr cl hsh
   have hnm:=a0o S.ws t
   refine cut1 (fun Γ' M2=> ∃(r:Addr),M r=none/\r≠r0/\Γ'=[some (.obj p),some (encN o),some (.obj r0),some (a93 S (a0c S.ws t))]/\M2=put (put M r0 (.dic (encT t))) r (.dic (a2y (a0c S.ws t)))) ?_ ?_
   . rintro Γ' M2 ⟨r,hr0,nr0,rfl,rfl⟩
     have hr9:put M r0 (.dic (encT t)) r=none:=by rw[a0g nr0];exact hr0
     have sb9:L2.Sub M (put (put M r0 (.dic (encT t))) r (.dic (a2y (a0c S.ws t)))):=L2.Sub.trans (.put h0) (.put hr9)
     unfold a93
     cases hf:S.js.find? (a1s S.ws (a0c S.ws t))with
     |none=>
       rw[hf]at q
       refine a1a (fun R h=>h) (retV .non _ (fun R h=>h) (.sub sb9 q))
     |some j=>
       rw[hf]at q
       have hj:=List.mem_of_find?_eq_some hf
       obtain⟨j1,jam⟩:=b2r (List.find?_some hf)
       rw[hnm]at j1
       have j2:=cl _ j1 (j.1,j.2.1,j.2.2.2) (a8z hj)
       refine a0x (fun R h=>h) ?_
       simp! only[]
       refine a3v (tr.sub sb9) (fun R h=>h) ?_
       refine⟨r0,S.js,j,t,n,rfl,by rw[a0g nr0.symm,a0e],hjl,by omega,gr,j1,j2,fun st wy nds hl r' hr'=> ?_⟩
       have rg:=ring_ok fit.teeth nd gr hj j1 j2 (une j hj) jam wy nds
       have nq:r'≠r/\M r'=none:=by
         by_cases hz:r'=r
         . rw[hz,a63 nr0,a0e]at hr';cases hr'
         . refine⟨hz,?_⟩
           by_cases hz0:r'=r0
           . rw[hz0];exact h0
           . rw[a63 hz0,a0g hz,a0g hz0]at hr';exact hr'
       refine .sub (fun x o h=> ?_) (q j.2.2.1 _ rg (by rw[List.length_append];simp;omega) r' nq.2)
       by_cases hx:x=r'
       . rw[hx]at h |-;rw[a0e]at h |-;exact h
       . rw[a0g hx]at h |-
         have x0:x≠r0:=fun z=>by rw[z,h0]at h;cases h
         have x1:x≠r:=fun z=>by rw[z,hr0]at h;cases h
         rw[a63 x0,a0g x1,a0g x0];exact h
   . intro rest hrest
     simp! only[a4h,b4a]
     refine⟨p,d1,d2,r0,S,t,n,rfl,tr.sub (.put h0),fit,a0e,gr,hn,by omega,fun r h=> ?_⟩
     obtain⟨n1,h2⟩:=none_of h
     refine⟨p,d1,d2,r,S,a0c S.ws t,rfl,tr.sub (L2.Sub.trans (.put h0) (.put h)),fit,a0e,fun e he=>(hsm e he).1,fun j hj=> ?_,hrest _ _ ⟨r,h2,n1,rfl,rfl⟩⟩
     rw[hnm]
     intro h1
     exact cl _ h1 (j.1,j.2.1,j.2.2.2) (a8z hj)
 . intro rest hrest
   simp! only[]
   refine a3v tr (fun R h=>h) ?_
   refine⟨p,d1,d2,S,o,rfl,tr,fit.w,?_⟩
   cases hm:meant S o with
   |none=>rw[hm]at q;exact q
   |some n=>
     exact⟨S.js,n,rfl,hjl,fun t ist gr cl _ r0 h0=>hrest _ _ ⟨n,t,r0,hm,ist,gr,cl,h0,rfl,rfl⟩⟩
theorem b32(a b:Str):(a++b).length=a.length+b.length:=PySem.Str.length_append a b
theorem a87(l m:List Nat):(⟨l.toArray⟩:Str)++⟨m.toArray⟩=⟨(l++m).toArray⟩:=by
 show Str.mk (l.toArray++m.toArray)=_
 simp
theorem a3d(c:Nat):(⟨#[c]⟩:Str).length=1:=rfl
theorem a4t(k:Nat)(h:k<26):atI ("abcdefghijklmnopqrstuvwxyz":Str).cps.toList (k:Int)=some (97+k):=by
 have e: ∀k,k<26->("abcdefghijklmnopqrstuvwxyz":Str).cps.toList[k]? =some (97+k):=by decide+kernel
 exact a3s (e k h)
theorem sl_a(j:Nat)(h:j<7):Txt.slice "aaaaaa" none (some (j:Int))=⟨(List.replicate j 97).toArray⟩:=by
 have: ∀j:Nat,j<7->Txt.slice "aaaaaa" none (some (j:Int))=⟨(List.replicate j 97).toArray⟩:=by decide+kernel
 exact this j h
theorem sl_q(j:Nat)(h:j<7):Txt.slice "qqqqqq" none (some (j:Int))=⟨(List.replicate j 113).toArray⟩:=by
 have: ∀j:Nat,j<7->Txt.slice "qqqqqq" none (some (j:Int))=⟨(List.replicate j 113).toArray⟩:=by decide+kernel
 exact this j h
def a9d:SpA:=fun ds M Q _=> ∃k s:Nat,ds=[.int k,.int s]/\Q (.str (a1l s k)) M
theorem b0u{f:Addr}{fd:FuncData}(Fn:Fun K "_law_name" "_law_name" a47 f fd):FnOk P w K mg base (CXE P w) 1 f fd ["_law_k","_law_spin"] (a0m K a9d):=by
 refine Fn.okA sc_law_name (fun ds M Q E h=> ?_) ?_
 . obtain⟨a,b,rfl,_⟩:=h;rfl
 intro cdv A outer s H E F0 ds M Q Ea hr ct hsp
 obtain⟨k,sp,rfl,q⟩:=hsp
 refine⟨_,(a0b (sSet (i:=2) sc_law_name.nd rfl (Or.inl rfl) paS)
     (a0b (sSet (i:=3) sc_law_name.nd rfl (Or.inl rfl) (paIx a0d lIx (paV (pv 2)) (paOp a04 lMod (paOp a08 lAdd (paOp a2k lDiv (paV (pv 0)) paI) (paV (pv 1))) paI) (fun _ _=>rfl)))
     (a0b (sSet (i:=4) sc_law_name.nd rfl (Or.inl rfl) (paIx a0d lIx (paV (pv 2)) (paOp a04 lMod (paOp a08 lAdd (paV (pv 0)) (paV (pv 1))) paI) (fun _ _=>rfl)))
     (a0b (sIf ((a7c (a0r (a03 (un64 ct)) lEq (paOp a04 lMod (paV (pv 1)) paI) paI (a0k _)) (a31 (a0r a7f lLt (paV (pv 0)) paI (a0k _))))).pt
       (a0j (sRet (paV (pv 4))))
       a0t)
     (a0b (sIf (a0r (a03 (un64 ct)) lEq (paOp a04 lMod (paV (pv 1)) paI) paI (a0k _))
       (a0j (sRet (paOp a08 lAdd (paV (pv 3)) (paV (pv 4)))))
       a0t)
     (a0b (sIf (a0r (a03 (un64 ct)) lEq (paOp a04 lMod (paV (pv 1)) paI) paI (a0k _))
       (a0j (sRet (paOp a08 lAdd (paOp a08 lAdd (paSl b15 lSl paS poN (poS (paOp a04 lMod (paV (pv 1)) paI))) (paV (pv 3))) (paV (pv 4)))))
       a0t)
     (a0j (sRet (paOp a08 lAdd (paOp a08 lAdd (paV (pv 3)) (paV (pv 4))) (paSl b15 lSl paS poN (poS (paOp a04 lMod (paOp a08 lAdd (paV (pv 1)) (paV (pv 0))) paI)))))))))))),?_⟩
 have e1:((k:Int)/26+(sp:Int)) % 26=(((k/26+sp) % 26:Nat):Int):=by omega
 have e2:((k:Int)+(sp:Int)) % 26=(((k+sp) % 26:Nat):Int):=by omega
 have e3:(sp:Int) % 7=((sp % 7:Nat):Int):=by omega
 have e4:((sp:Int)+(k:Int)) % 7=(((sp+k) % 7:Nat):Int):=by omega
 have hl: ∀n,n<=100->n<=sizeLine:=fun n h=>a92 (by omega)
 have h26:("abcdefghijklmnopqrstuvwxyz":Str).length<=sizeLine:=by decide+kernel
 have ha:("aaaaaa":Str).length<=sizeLine:=by decide+kernel
 have hq:("qqqqqq":Str).length<=sizeLine:=by decide+kernel
 by_cases h0:sp % 3=0
 . have d0:decide ((sp:Int) % 3=0)=true:=decide_eq_true (by omega)
   by_cases hk:k<26
   . have dk:decide ((k:Int)<26)=true:=decide_eq_true (by omega)
     simp! only[e1,e2,a4t _ (Nat.mod_lt _ (show 0<26 by decide)),d0,dk]
     have e:a1l sp k=⟨#[97+(k+sp) % 26]⟩:=by unfold a1l a11 chL;rw[if_pos h0,if_pos hk]
     rw[e]at q
     exact⟨⟨by decide,by decide⟩,by decide,h26,by decide,h26,by decide,.now q⟩
   . have dk:decide ((k:Int)<26)=false:=decide_eq_false (by omega)
     simp! only[e1,e2,a4t _ (Nat.mod_lt _ (show 0<26 by decide)),d0,dk]
     have e:a1l sp k=⟨#[97+(k/26+sp) % 26]⟩++⟨#[97+(k+sp) % 26]⟩:=by unfold a1l a11 chL chF;rw[if_pos h0,if_neg hk];rfl
     rw[e]at q
     exact⟨⟨by decide,by decide⟩,by decide,h26,by decide,h26,by decide,by decide,by rw[a3d,a3d];exact hl _ (by decide),.now q⟩
 . have d0:decide ((sp:Int) % 3=0)=false:=decide_eq_false (by omega)
   by_cases h1:sp % 3=1
   . have d1:decide ((sp:Int) % 3=1)=true:=decide_eq_true (by omega)
     simp! only[e1,e2,e3,a4t _ (Nat.mod_lt _ (show 0<26 by decide)),sl_a _ (Nat.mod_lt _ (show 0<7 by decide)),d0,d1]
     have e:a1l sp k=⟨(List.replicate (sp % 7) 97).toArray⟩++⟨#[97+(k/26+sp) % 26]⟩++⟨#[97+(k+sp) % 26]⟩:=by
       unfold a1l a11 chL chF;rw[if_neg h0,if_pos h1,a87,a87,List.append_assoc];rfl
     rw[e]at q
     have hr1:(⟨(List.replicate (sp % 7) 97).toArray⟩:Str).length=sp % 7:=by simp[Str.length]
     exact⟨⟨by decide,by decide⟩,by decide,h26,by decide,h26,by decide,by decide,by decide,by decide,ha,by rw[a3d,hr1];exact hl _ (by omega),by rw[b32,a3d,hr1,a3d];exact hl _ (by omega),.now q⟩
   . have d1:decide ((sp:Int) % 3=1)=false:=decide_eq_false (by omega)
     simp! only[e1,e2,e4,a4t _ (Nat.mod_lt _ (show 0<26 by decide)),sl_q _ (Nat.mod_lt _ (show 0<7 by decide)),d0,d1]
     have e:a1l sp k=⟨#[97+(k/26+sp) % 26]⟩++⟨#[97+(k+sp) % 26]⟩++⟨(List.replicate ((sp+k) % 7) 113).toArray⟩:=by
       unfold a1l a11 chL chF;rw[if_neg h0,if_neg h1,a87,a87];rfl
     rw[e]at q
     have hr1:(⟨(List.replicate ((sp+k) % 7) 113).toArray⟩:Str).length=(sp+k) % 7:=by simp[Str.length]
     exact⟨⟨by decide,by decide⟩,by decide,h26,by decide,h26,by decide,by decide,by decide,by rw[a3d,a3d];exact hl _ (by decide),by decide,hq,by rw[b32,a3d,a3d,hr1];exact hl _ (by omega),.now q⟩
def a6h:SpA:=fun ds M Q _=> ∃a b:Int,ds=[.int a,.int b]/\ ∀t:Int,1<=t->t<1000000000->Q (.int t) M
theorem a9p{f:Addr}{fd:FuncData}(Fn:Fun K "_law_teeth" "_law_teeth" a39 f fd):FnOk P w K mg base (CXE P w) 1 f fd ["_law_number","_law_way"] (a0m K a6h):=by
 refine Fn.okA a9f (fun ds M Q E h=> ?_) ?_
 . obtain⟨a,b,rfl,_⟩:=h;rfl
 intro cdv A outer s H E F0 ds M Q Ea hr ct hsp
 obtain⟨a,b,rfl,q⟩:=hsp
 refine⟨_,(a0b (sIf (a0r (a03 (un64 ct)) lEq (paV (pv 1)) paI (a0k _))
       (a0j (sRet (paOp a08 lAdd paI (paOp a04 lMod (paOp a1p lMul (paV (pv 0)) paI) paI))))
       a0t)
     (a0b (sIf (a0r (a03 (un64 ct)) lEq (paV (pv 1)) paI (a0k _))
       (a0j (sRet (paOp a08 lAdd paI (paOp a04 lMod (paOp a04 lMod (paOp a1p lMul (paV (pv 0)) paI) paI) paI))))
       a0t)
     (a0b (sIf (a0r (a03 (un64 ct)) lEq (paV (pv 1)) paI (a0k _))
       (a0j (sRet (paOp a08 lAdd paI (paOp a04 lMod (paV (pv 0)) (paOp op_sub lSub (paOp op_pow lPow paI paI) paI)))))
       a0t)
     (a0j (sRet (paOp a08 lAdd paI (paOp a04 lMod (paV (pv 0)) paI))))))),?_⟩
 have e9:(10:Int)^Int.toNat 9- 1=999999999:=by decide
 simp! only[e9]
 exact ite2 (fun _=>⟨CMul.ok (.inr ⟨by decide,by decide⟩),by decide,.now (q _ (by omega) (by omega))⟩) fun _=>ite2 (fun _=>⟨CMul.ok (.inr ⟨by decide,by decide⟩),by decide,by decide,.now (q _ (by omega) (by omega))⟩) fun _=>
   ite2 (fun _=>⟨⟨by decide,by decide,by decide⟩,by decide,.now (q _ (by omega) (by omega))⟩) fun _=>⟨by decide,.now (q _ (by omega) (by omega))⟩
theorem b07(x:Int): ∃kd:Str,atI [D.str "mesh",.str "pin",.str "band",.str "cross"] (x % 4)=some (.str kd)/\a2a kd=true:=by
 have h1:=Int.emod_nonneg x (show(4:Int)≠0 by decide)
 have h2:=Int.emod_lt_of_pos x (show(0:Int)<4 by decide)
 obtain⟨t,ht,hm⟩:=at_map D.str ["mesh","pin","band","cross"] (x % 4) h1 (by simpa using h2)
 refine⟨t,ht,?_⟩
 simp only[List.mem_cons,List.not_mem_nil,or_false]at hm
 rcases hm with rfl |rfl |rfl |rfl<;>decide+kernel
theorem a35(l:List D)(i:Nat)(h:i<l.length):atI l (i:Int)=some l[i]:=a3s (List.getElem?_eq_getElem h)
noncomputable def eK(j:Str×Nat×Nat):D:= .tup [.str j.1,.int j.2.1,.int j.2.2]
theorem a8x(l:List (Str×Nat×Nat))(x:Str×Nat×Nat):(l++[x]).map eK=l.map eK++[eK x]:=by rw[List.map_append];rfl
def Bg(n:Nat)(x:Int):Prop:=x.natAbs<2^n
theorem Bg.mul{m n:Nat}{x y:Int}(hx:Bg m x)(hy:Bg n y):Bg (m+n) (x *y):=by
 unfold Bg at *
 rw[Int.natAbs_mul,Nat.pow_add]
 exact Nat.mul_lt_mul'' hx hy
theorem Bg.up{m n:Nat}{x:Int}(h:Bg m x)(hm:m<=n):Bg n x:=Nat.lt_of_lt_of_le h (Nat.pow_le_pow_right (by decide) hm)
theorem Bg.ok{m n:Nat}{x y:Int}(hx:Bg m x)(hy:Bg n y)(hm:m<=10000)(hn:n<=10000):IntMulOk x y:=
 IntMulOk.of_bits (intBits_le_iff.mpr (hx.up (Nat.le_trans hm (by decide)))) (intBits_le_iff.mpr (hy.up (Nat.le_trans hn (by decide))))
theorem b6y{k:Str}{a b:Int}(ha:1<=a)(ha2:a<1000000000)(hb:1<=b)(hb2:b<1000000000):Bg 30 (byF k a b).1/\Bg 30 (byF k a b).2:=by
 have e30:(2:Nat)^30=1073741824:=by decide
 unfold Bg byF
 rw[e30]
 split
 . exact⟨by decide,by decide⟩
 . split
   . exact⟨by show a.natAbs<_;omega,by show b.natAbs<_;omega⟩
   . exact⟨by show(-a).natAbs<_;omega,by show b.natAbs<_;omega⟩
def spBy:SpA:=fun ds M Q _=> ∃(k:Str) (a b:Int),ds=[.str k,.int a,.int b]/\Q (eF (byF k a b)) M
theorem b47{f:Addr}{fd:FuncData}(Fn:Fun K "_law_by" "_law_by" a8j f fd):FnOk P w K mg base (CXE P w) 1 f fd ["_law_kind","_law_one","_law_other"] (a0m K spBy):=by
 refine Fn.okA b4g (fun ds M Q E h=> ?_) ?_
 . obtain⟨a,b,c,rfl,_⟩:=h;rfl
 intro cdv A outer s H E F0 ds M Q Ea hr ct hsp
 obtain⟨k,a,b,rfl,q⟩:=hsp
 refine⟨_,(a0b (sIf (a0r (a03 (un64 ct)) lEq (paV (pv 0)) paS (a0k _))
       (a0j (sRet (a1w (a0a paI (a0a paI a0i)))))
       a0t)
     (a0b (sIf (a0r (a03 (un64 ct)) lEq (paV (pv 0)) paS (a0k _))
       (a0j (sRet (a1w (a0a (paV (pv 1)) (a0a (paV (pv 2)) a0i)))))
       a0t)
     (a0j (sRet (a1w (a0a (paUn b1t lNeg (paV (pv 1))) (a0a (paV (pv 2)) a0i))))))),?_⟩
 unfold byF at q
 by_cases h1:k="pin"
 . rw[if_pos h1]at q
   refine a1a (fun R h=>by simp! only[decide_eq_true h1];exact h) ?_
   simp! only[]
   exact⟨by decide,.now q⟩
 . rw[if_neg h1]at q
   refine a0x (fun R h=>by simp! only[decide_eq_false h1];exact h) ?_
   by_cases h2:k="band"
   . rw[if_pos h2]at q
     refine a1a (fun R h=>by simp! only[decide_eq_true h2];exact h) ?_
     simp! only[]
     exact⟨by decide,.now q⟩
   . rw[if_neg h2]at q
     refine a0x (fun R h=>by simp! only[decide_eq_false h2];exact h) ?_
     simp! only[]
     exact⟨by decide,.now q⟩
noncomputable abbrev Sp:=Nat×Int×Int
noncomputable def eSp(s:Sp):D:= .tup [.int s.1,.int s.2.1,.int s.2.2]
theorem sp_at{sp:List Sp}{i:Nat}(h:i<sp.length):atI (sp.map eSp) (i:Int)=some (eSp sp[i]):=by rw[a35 _ _ (by simpa using h),List.getElem_map]
theorem w_at{ws:List (Str×Int)}{i:Nat}(h:i<ws.length):atI (ws.map eW) (i:Int)=some (eW ws[i]):=by rw[a35 _ _ (by simpa using h),List.getElem_map]
def b4b:SpA:=fun ds M Q _=> ∃(k:Str) (a b:Nat) (p r:Addr) (ws:List (Str×Int)) (sp:List Sp),ds=[.str k,.int a,.int b,.obj p,.obj r]/\M p=some (.lst (ws.map eW))/\M r=some (.lst (sp.map eSp))/\a<ws.length/\b<ws.length/\a<sp.length/\b<sp.length/\a2b ws/\(∀s∈sp,Bg 4000 s.2.1/\Bg 4000 s.2.2)/\ ∀v,Q (.bl v) M
theorem b0z{f:Addr}{fd:FuncData}(Fn:Fun K "_law_goes" "_law_goes" a5c f fd)(h_law_by:Has P w K mg base (CXE P w) 1 "_law_by" ["_law_kind","_law_one","_law_other"] (a0m K spBy)):FnOk P w K mg base (CXE P w) 2 f fd ["_law_kind","_law_one","_law_other","_law_wheels","_law_speeds"] (a0m K b4b):=by
 refine Fn.okA sc_law_goes (fun ds M Q E h=> ?_) ?_
 . obtain⟨_,_,_,_,_,_,_,rfl,_⟩:=h;rfl
 intro cdv A outer s H E F0 ds M Q Ea hr ct hsp
 obtain⟨k,a,b,p,r,ws,sp,rfl,hp,hr1,ha,hb,ha',hb',ht,hs,q⟩:=hsp
 refine⟨_,(a0b (sSet (i:=5) sc_law_goes.nd rfl (Or.inl rfl) (a01 h_law_by (hr.mono (by decide)) (by rfl) ct (a0a (paV (pv 0)) (a0a (paIx a0d lIx (paIx a0d lIx (paV (pv 3)) (paV (pv 1)) (fun _ _=>rfl)) paI (fun _ _=>rfl)) (a0a (paIx a0d lIx (paIx a0d lIx (paV (pv 3)) (paV (pv 2)) (fun _ _=>rfl)) paI (fun _ _=>rfl)) a0i)))))
     (a0b (sIf (a0r (a2j (un64 ct)) lNe (paIx a0d lIx (paIx a0d lIx (paV (pv 4)) (paV (pv 1)) (fun _ _=>rfl)) paI (fun _ _=>rfl)) (paIx a0d lIx (paIx a0d lIx (paV (pv 4)) (paV (pv 2)) (fun _ _=>rfl)) paI (fun _ _=>rfl)) (a0k _))
       (a0j (sRet paB))
       a0t)
     (a0b (sSet (i:=6) sc_law_goes.nd rfl (Or.inl rfl) (paIx a0d lIx (paV (pv 4)) (paV (pv 1)) (fun _ _=>rfl)))
     (a0b (sSet (i:=7) sc_law_goes.nd rfl (Or.inl rfl) (paIx a0d lIx (paV (pv 4)) (paV (pv 2)) (fun _ _=>rfl)))
     (a0j (sRet (a2n (a03 (un64 ct)) lEq (paOp a1p lMul (paOp a1p lMul (paIx a0d lIx (paV (pv 6)) paI (fun _ _=>rfl)) (paIx a0d lIx (paV (pv 5)) paI (fun _ _=>rfl))) (paIx a0d lIx (paV (pv 7)) paI (fun _ _=>rfl))) (paOp a1p lMul (paOp a1p lMul (paIx a0d lIx (paV (pv 7)) paI (fun _ _=>rfl)) (paIx a0d lIx (paV (pv 6)) paI (fun _ _=>rfl))) (paIx a0d lIx (paV (pv 5)) paI (fun _ _=>rfl))) (a0k _)))))))),?_⟩
 have e1:=w_at ha
 have e2:=w_at hb
 have e3:=sp_at ha'
 have e4:=sp_at hb'
 have t1:=ht _ (List.getElem_mem ha)
 have t2:=ht _ (List.getElem_mem hb)
 have s1:=hs _ (List.getElem_mem ha')
 have s2:=hs _ (List.getElem_mem hb')
 generalize ws[a]=wa at *
 generalize ws[b]=wb at *
 generalize sp[a]=sa at *
 generalize sp[b]=sb at *
 obtain⟨y1,y2⟩:=b6y (k:=k) t1.1 t1.2 t2.1 t2.2
 refine seqV (eF (byF k wa.2 wb.2)) M (fun R h=>by
   simp! only[hp,e1,e2,eW,spBy]
   exact⟨k,_,_,rfl,h⟩) ?_
 generalize byF k wa.2 wb.2=y at *
 by_cases hs:sa.1=sb.1
 . refine a0x (fun R h=>by
     simp! only[hr1,e3,e4,eSp,decide_eq_true (show(sa.1:Int)=(sb.1:Int)by omega),Bool.not_true]
     exact h) ?_
   refine seqV (eSp sa) M (fun R h=>by simp! only[hr1,e3];exact h) (seqV (eSp sb) M (fun R h=>by simp! only[hr1,e4];exact h) ?_)
   simp! only[eSp,eF]
   exact⟨s1.1.ok y1 (by decide) (by decide),(s1.1.mul y1).ok s2.2 (by decide) (by decide),s2.1.ok s1.2 (by decide) (by decide),(s2.1.mul s1.2).ok y2 (by decide) (by decide),.now (q _)⟩
 . refine a1a (fun R h=>by
     simp! only[hr1,e3,e4,eSp,decide_eq_false (show ¬ (sa.1:Int)=(sb.1:Int)by omega),Bool.not_false]
     exact h) ?_
   simp! only[]
   exact .now (q _)
def a3j:SpA:=fun ds M Q _=> ∃(x:Int) (a b:Nat) (p r:Addr) (ws:List (Str×Int)) (sp:List Sp),ds=[.int x,.int a,.int b,.obj p,.obj r]/\M p=some (.lst (ws.map eW))/\M r=some (.lst (sp.map eSp))/\a<ws.length/\b<ws.length/\a<sp.length/\b<sp.length/\a2b ws/\(∀s∈sp,Bg 4000 s.2.1/\Bg 4000 s.2.2)/\
 Q (.lst []) M/\ ∀kd,a2a kd=true->Q (.lst [eK (kd,a,b)]) M
theorem a7i{f:Addr}{fd:FuncData}(Fn:Fun K "_law_closing" "_law_closing" a28 f fd)(T:Txt K mg)(h_law_goes:Has P w K mg base (CXE P w) 2 "_law_goes" ["_law_kind","_law_one","_law_other","_law_wheels","_law_speeds"] (a0m K b4b)):FnOk P w K mg base (CXE P w) 3 f fd ["_law_kind","_law_one","_law_other","_law_wheels","_law_speeds"] (a0m K a3j):=by
 refine Fn.okA sc_law_closing (fun ds M Q E h=> ?_) ?_
 . obtain⟨_,_,_,_,_,_,_,rfl,_⟩:=h;rfl
 intro cdv A outer s H E F0 ds M Q Ea hr ct hsp
 obtain⟨x,a,b,p,r,ws,sp,rfl,hp,hr1,ha,hb,ha',hb',ht,hs,q0,q⟩:=hsp
 refine⟨_,(a0b (sSet (i:=5) sc_law_closing.nd rfl (Or.inl rfl) (a4b (a0a paS (a0a paS (a0a paS (a0a paS a0i))))))
     (a0b (sFor ct (a5l rfl T.range (a0a paI a0i)) (a0v (i:=6) sc_law_closing.nd rfl (Or.inl rfl))
       (a0b (sSet (i:=7) sc_law_closing.nd rfl (Or.inl rfl) (paIx a0d lIx (paV (pv 5)) (paOp a04 lMod (paOp a08 lAdd (paV (pv 0)) (paV (pv 6))) paI) (fun _ _=>rfl)))
       (a0j (sIf (ptV (a01 h_law_goes (hr.mono (by decide)) (by rfl) ct (a0a (paV (pv 7)) (a0a (paV (pv 1)) (a0a (paV (pv 2)) (a0a (paV (pv 3)) (a0a (paV (pv 4)) a0i)))))))
         (a0j (sRet (a4b (a0a (a1w (a0a (paV (pv 7)) (a0a (paV (pv 1)) (a0a (paV (pv 2)) a0i)))) a0i))))
         a0t))))
     (a0j (sRet (a4b a0i))))),?_⟩
 simp! only[]
 refine⟨by decide,by decide,by decide,?_⟩
 refine LoopP.by2 (fun i Γ M'=>M'=M/\ ∃o6 o7,Γ=[some (.int x),some (.int a),some (.int b),some (.obj p),some (.obj r),some (.lst [.str "mesh",.str "pin",.str "band",.str "cross"]),o6,o7]) ⟨rfl,_,_,rfl⟩ (fun _ _ _ _=>trivial) ?_ ?_
 . rintro E' i Γ M' hrt hi hnx ⟨rfl,o6,o7,rfl⟩
   obtain⟨kd,hkd,hkd2⟩:=b07 (x+(i:Int))
   refine seqV (.str kd) _ (fun R h=>by simp! only[hkd];exact⟨by decide,h⟩) ?_
   simp! only[b4b]
   refine⟨kd,a,b,p,r,ws,sp,rfl,hp,hr1,ha,hb,ha',hb',ht,hs,fun v=> ?_⟩
   cases v with
   |true=>
     rw[if_pos rfl,hrt]
     exact⟨by decide,by decide,.now (q kd hkd2)⟩
   |false=>
     rw[if_neg Bool.false_ne_true]
     exact hnx _ _ ⟨rfl,_,_,rfl⟩
 . rintro Γ M' ⟨rfl,o6,o7,rfl⟩
   exact⟨by decide,.now q0⟩
theorem two_ok{many:Nat}(h2:2<=many)(x k:Int): ∃a b:Nat,a<many/\b<many/\a≠b/\x % (many:Int)=a/\((a:Int)+1+(x/(many:Int)+k) % ((many:Int)- 1)) % (many:Int)=b:=by
 obtain⟨a,ha⟩:=Int.eq_ofNat_of_zero_le (Int.emod_nonneg x (show(many:Int)≠0 by omega))
 have ha2:=Int.emod_lt_of_pos x (show(0:Int)< (many:Int)by omega)
 obtain⟨u,hu⟩:=Int.eq_ofNat_of_zero_le (Int.emod_nonneg (x/(many:Int)+k) (show(many:Int)- 1≠0 by omega))
 have hu2:=Int.emod_lt_of_pos (x/(many:Int)+k) (show(0:Int)< (many:Int)- 1 by omega)
 rw[ha]at ha2
 rw[hu]at hu2
 refine⟨a,(a+1+u) % many,by omega,Nat.mod_lt _ (by omega),?_,ha,?_⟩
 . intro z
   by_cases hlt:a+1+u<many
   . rw[Nat.mod_eq_of_lt hlt]at z;omega
   . rw[Nat.mod_eq_sub_mod (by omega),Nat.mod_eq_of_lt (by omega)]at z;omega
 . rw[hu,Int.natCast_emod];rfl
def b34:SpA:=fun ds M Q _=> ∃(x k:Int) (many:Nat),ds=[.int x,.int k,.int many]/\2<=many/\many<=200/\ ∀a b:Nat,a<many->b<many->a≠b->Q (.tup [.int a,.int b]) M
theorem b3k{f:Addr}{fd:FuncData}(Fn:Fun K "_law_two" "_law_two" a6l f fd):FnOk P w K mg base (CXE P w) 1 f fd ["_law_number","_law_k","_law_many"] (a0m K b34):=by
 refine Fn.okA sc_law_two (fun ds M Q E h=> ?_) ?_
 . obtain⟨_,_,_,rfl,_⟩:=h;rfl
 intro cdv A outer s H E F0 ds M Q Ea hr ct hsp
 obtain⟨x,k,many,rfl,h2,h200,q⟩:=hsp
 refine⟨_,(a0b (sSet (i:=3) sc_law_two.nd rfl (Or.inl rfl) (paOp a04 lMod (paV (pv 0)) (paV (pv 2))))
     (a0j (sRet (a1w (a0a (paV (pv 3)) (a0a (paOp a04 lMod (paOp a08 lAdd (paOp a08 lAdd (paV (pv 3)) paI) (paOp a04 lMod (paOp a08 lAdd (paOp a2k lDiv (paV (pv 0)) (paV (pv 2))) (paV (pv 1))) (paOp op_sub lSub (paV (pv 2)) paI))) (paV (pv 2))) a0i)))))),?_⟩
 obtain⟨a,b,h3,h4,h5,h6,h7⟩:=two_ok h2 x k
 refine seqV (.int (a:Int)) _ (fun R h=>by simp! only[h6];exact⟨by omega,h⟩) ?_
 simp! only[h7]
 exact⟨⟨by omega,by omega⟩,by omega,by omega,by decide,.now (q a b h3 h4 h5)⟩
theorem a78{M M':Mem}(h:L2.Sub M M'){p:Addr}(hp:M p=none){o:MO}:L2.Sub M (put M' p o):=fun x u e=>by
 rw[a0g (by rintro rfl;rw[hp]at e;cases e)];exact h x u e
structure Rows(M M':Mem)(p r z:Addr)(ws:List (Str×Int))(js:List (Str×Nat×Nat))(sp:List Sp):Prop where
 p1:M' p=some (.lst (ws.map eW))
 r1:M' r=some (.lst (js.map eK))
 z1:M' z=some (.lst (sp.map eSp))
 pr:p≠r
 pz:p≠z
 rz:r≠z
 sub:L2.Sub M M'
 p0:M p=none
 r0:M r=none
 z0:M z=none
section
variable {M M':Mem}{p r z:Addr}{ws:List (Str×Int)}{js:List (Str×Nat×Nat)}{sp:List Sp}
theorem Rows.sw(R:Rows M M' p r z ws js sp)(ws':List (Str×Int)):Rows M (put M' p (.lst (ws'.map eW))) p r z ws' js sp:=
 ⟨a0e,by rw[a0g R.pr.symm];exact R.r1,by rw[a0g R.pz.symm];exact R.z1,R.pr,R.pz,R.rz,a78 R.sub R.p0,R.p0,R.r0,R.z0⟩
theorem Rows.sr(R:Rows M M' p r z ws js sp)(js':List (Str×Nat×Nat)):Rows M (put M' r (.lst (js'.map eK))) p r z ws js' sp:=
 ⟨by rw[a0g R.pr];exact R.p1,a0e,by rw[a0g R.rz.symm];exact R.z1,R.pr,R.pz,R.rz,a78 R.sub R.r0,R.p0,R.r0,R.z0⟩
theorem Rows.sz(R:Rows M M' p r z ws js sp)(sp':List Sp):Rows M (put M' z (.lst (sp'.map eSp))) p r z ws js sp':=
 ⟨by rw[a0g R.pz];exact R.p1,by rw[a0g R.rz];exact R.r1,a0e,R.pr,R.pz,R.rz,a78 R.sub R.z0,R.p0,R.r0,R.z0⟩
theorem Rows.nr(R:Rows M M' p r z ws js sp){r':Addr}(h:M' r'=none)(js':List (Str×Nat×Nat)):Rows M (put M' r' (.lst (js'.map eK))) p r' z ws js' sp:=by
 have n1:p≠r':=by rintro rfl;rw[R.p1]at h;cases h
 have n2:r'≠z:=by rintro rfl;rw[R.z1]at h;cases h
 have h0:M r'=none:=by
   cases e:M r' with
   |none=>rfl
   |some o=>have:=R.sub _ _ e;rw[h]at this;cases this
 exact⟨by rw[a0g n1];exact R.p1,a0e,by rw[a0g n2.symm];exact R.z1,n1,R.pz,n2,a78 R.sub h0,R.p0,h0,R.z0⟩
end
def SpOk(n:Nat)(sp:List Sp):Prop:= ∀s∈sp,Bg n s.2.1/\Bg n s.2.2
theorem SpOk.up{m n:Nat}{sp:List Sp}(h:SpOk m sp)(hm:m<=n):SpOk n sp:=fun s hs=>⟨(h s hs).1.up hm,(h s hs).2.up hm⟩
theorem SpOk.snoc{n:Nat}{sp:List Sp}(h:SpOk n sp){s:Sp}(hs:Bg n s.2.1/\Bg n s.2.2):SpOk n (sp++[s]):=fun x hx=>by
 rcases List.mem_append.mp hx with hx |hx
 . exact h x hx
 . rw[List.mem_singleton.mp hx];exact hs
theorem SpOk.set{n:Nat}{sp:List Sp}(h:SpOk n sp){s:Sp}(hs:Bg n s.2.1/\Bg n s.2.2)(i:Nat):SpOk n (sp.set i s):=fun x hx=>by
 rcases List.mem_or_eq_of_mem_set hx with hx |hx
 . exact h x hx
 . rw[hx];exact hs
theorem b2f(n:Nat)(hn:1<=n):Bg n 1:=Nat.lt_of_lt_of_le (show(1:Int).natAbs<2^1 by decide) (Nat.pow_le_pow_right (by decide) hn)
theorem set_sp(sp:List Sp)(s:Sp)(i:Nat):(sp.map eSp).set i (eSp s)=(sp.set i s).map eSp:=by rw[List.map_set]
theorem a81(n i:Nat)(h:i<n):ixN n (i:Int)=some i:=by
 unfold ixN
 simp
 omega
def b36:SpA:=fun ds M Q _=> ∃(ns:List Int) (st:Int),ds=[.lst (ns.map D.int),.int st]/\ns.length<=40/\ ∀spn ws js sp,st/3 % 78=((spn:Nat):Int)->Rw spn ws js->ws.length<=ns.length->js.length<=ns.length->sp.length=ws.length->SpOk (30 * (ns.length+1)) sp-> ∀M' p r z,Rows M M' p r z ws js sp->Q (.lst [.obj p,.obj r,.obj z]) M'
theorem b0t{f:Addr}{fd:FuncData}(Fn:Fun K "_law_rows" "_law_rows" a46 f fd)(T:Txt K mg)(h_law_two:Has P w K mg base (CXE P w) 1 "_law_two" ["_law_number","_law_k","_law_many"] (a0m K b34))
   (h_law_name:Has P w K mg base (CXE P w) 1 "_law_name" ["_law_k","_law_spin"] (a0m K a9d)) (h_law_teeth:Has P w K mg base (CXE P w) 1 "_law_teeth" ["_law_number","_law_way"] (a0m K a6h))
   (h_law_by:Has P w K mg base (CXE P w) 1 "_law_by" ["_law_kind","_law_one","_law_other"] (a0m K spBy)) (h_law_closing:Has P w K mg base (CXE P w) 3 "_law_closing" ["_law_kind","_law_one","_law_other","_law_wheels","_law_speeds"] (a0m K a3j)):
   FnOk P w K mg base (CXE P w) 4 f fd ["_law_cells","_law_start"] (a0m K b36):=by
 refine Fn.okA sc_law_rows (fun ds M Q E h=> ?_) ?_
 . obtain⟨_,_,rfl,_⟩:=h;rfl
 intro cdv A outer s H E F0 ds M Q Ea hr ct hsp
 obtain⟨ns,st,rfl,hns,q⟩:=hsp
 refine⟨_,(a0b (sSet (i:=2) sc_law_rows.nd rfl (Or.inl rfl) (a4q a0i))
     (a0b (sSet (i:=3) sc_law_rows.nd rfl (Or.inl rfl) (a4q a0i))
     (a0b (sSet (i:=4) sc_law_rows.nd rfl (Or.inl rfl) (a4q a0i))
     (a0b (sSet (i:=5) sc_law_rows.nd rfl (Or.inl rfl) (a4b (a0a paS (a0a paS (a0a paS (a0a paS a0i))))))
     (a0b (sFor ct (a5l rfl T.range (a0a (a0w a0q lLen (by rfl) T.len PySem.boot_len (a0a (paV (pv 0)) a0i)) a0i)) (a0v (i:=6) sc_law_rows.nd rfl (Or.inl rfl))
       (a0b (sSet (i:=7) sc_law_rows.nd rfl (Or.inl rfl) (paOp a04 lMod (paIx a0d lIx (paV (pv 0)) (paV (pv 6)) (fun _ _=>rfl)) paI))
       (a0b (sSet (i:=8) sc_law_rows.nd rfl (Or.inl rfl) (paOp a2k lDiv (paIx a0d lIx (paV (pv 0)) (paV (pv 6)) (fun _ _=>rfl)) paI))
       (a0b (sSet (i:=9) sc_law_rows.nd rfl (Or.inl rfl) (paOp a04 lMod (paOp a08 lAdd (paIx a0d lIx (paV (pv 0)) (paV (pv 6)) (fun _ _=>rfl)) (paV (pv 6))) paI))
       (a0b (sSet (i:=10) sc_law_rows.nd rfl (Or.inl rfl) (a0w a0q lLen (by rfl) T.len PySem.boot_len (a0a (paV (pv 2)) a0i)))
       (a0j (sIf ((pwOr (a0r a7f lLt (paV (pv 10)) paI (a0k _)) (a6o (a0r a7f lLt (paV (pv 7)) paI (a0k _))))).pt
         (a0b (a2i (paBM PySem.F.plainAttrs_list PySem.F.slot_list_append PySem.F.type_list_append a1e a1x (paV (pv 2)) (a0a (a1w (a0a (a01 h_law_name (hr.mono (by decide)) (by rfl) ct (a0a (paV (pv 10)) (a0a (paOp a04 lMod (paOp a2k lDiv (paV (pv 1)) paI) paI) a0i))) (a0a (a01 h_law_teeth (hr.mono (by decide)) (by rfl) ct (a0a (paV (pv 8)) (a0a (paOp a04 lMod (paOp a2k lDiv (paV (pv 1)) paI) paI) a0i))) a0i))) a0i)))
         (a0b (a2i (paBM PySem.F.plainAttrs_list PySem.F.slot_list_append PySem.F.type_list_append a1e a1x (paV (pv 4)) (a0a (a1w (a0a (paV (pv 10)) (a0a paI (a0a paI a0i)))) a0i)))
         (a0b (sSet (i:=11) sc_law_rows.nd rfl (Or.inl rfl) (paOp a04 lMod (paOp a08 lAdd (paV (pv 8)) (paOp a1p lMul (paV (pv 6)) (paV (pv 6)))) (a0w (b6w rfl) lMax (by rfl) T.max boot_max (a0a paI (a0a (paV (pv 10)) a0i)))))
         (a0j (sIf ((a7c (a0r b3h lGt (paV (pv 10)) paI (a0k _)) (a31 (a0r a7f lLt (paV (pv 7)) paI (a0k _))))).pt
           (a0b (sSet (i:=12) sc_law_rows.nd rfl (Or.inl rfl) (a01 h_law_by (hr.mono (by decide)) (by rfl) ct (a0a (paIx a0d lIx (paV (pv 5)) (paV (pv 9)) (fun _ _=>rfl)) (a0a (paIx a0d lIx (paIx a0d lIx (paV (pv 2)) (paV (pv 11)) (fun _ _=>rfl)) paI (fun _ _=>rfl)) (a0a (paIx a0d lIx (paIx a0d lIx (paV (pv 2)) (paV (pv 10)) (fun _ _=>rfl)) paI (fun _ _=>rfl)) a0i)))))
           (a0b (sAsg (a1w (a0a (paIx a0d lIx (paIx a0d lIx (paV (pv 4)) (paV (pv 11)) (fun _ _=>rfl)) paI (fun _ _=>rfl)) (a0a (paOp a1p lMul (paIx a0d lIx (paIx a0d lIx (paV (pv 4)) (paV (pv 11)) (fun _ _=>rfl)) paI (fun _ _=>rfl)) (paIx a0d lIx (paV (pv 12)) paI (fun _ _=>rfl))) (a0a (paOp a1p lMul (paIx a0d lIx (paIx a0d lIx (paV (pv 4)) (paV (pv 11)) (fun _ _=>rfl)) paI (fun _ _=>rfl)) (paIx a0d lIx (paV (pv 12)) paI (fun _ _=>rfl))) a0i)))) (tgSub (paV (pv 4)) (paV (pv 10))))
           (a0j (a2i (paBM PySem.F.plainAttrs_list PySem.F.slot_list_append PySem.F.type_list_append a1e a1x (paV (pv 3)) (a0a (paIx a0d lIx (a4b (a0a (a1w (a0a (paIx a0d lIx (paV (pv 5)) (paV (pv 9)) (fun _ _=>rfl)) (a0a (paV (pv 11)) (a0a (paV (pv 10)) a0i)))) (a0a (a1w (a0a (paIx a0d lIx (paV (pv 5)) (paV (pv 9)) (fun _ _=>rfl)) (a0a (paV (pv 10)) (a0a (paV (pv 11)) a0i)))) a0i))) (paOp a04 lMod (paV (pv 8)) paI) (fun _ _=>rfl)) a0i))))))
           a0t)))))
         (a0b (sAsg (a01 h_law_two (hr.mono (by decide)) (by rfl) ct (a0a (paV (pv 8)) (a0a (paV (pv 6)) (a0a (paV (pv 10)) a0i)))) (a69 rfl (a00 (a0v (i:=11) sc_law_rows.nd rfl (Or.inl rfl)) (a00 (a0v (i:=13) sc_law_rows.nd rfl (Or.inl rfl)) a3i))))
         (a0j (sIf (a0r b3h lGt (paOp a04 lMod (paV (pv 1)) paI) paI (a0k _))
           (a0j (sSet (i:=3) sc_law_rows.nd rfl (Or.inl rfl) (paOp op_cat lCatM (paV (pv 3)) (a01 h_law_closing (hr.mono (by decide)) (by rfl) ct (a0a (paV (pv 9)) (a0a (paV (pv 11)) (a0a (paV (pv 13)) (a0a (paV (pv 2)) (a0a (paV (pv 4)) a0i)))))))))
           (a0j (a2i (paBM PySem.F.plainAttrs_list PySem.F.slot_list_append PySem.F.type_list_append a1e a1x (paV (pv 3)) (a0a (a1w (a0a (paIx a0d lIx (paV (pv 5)) (paV (pv 9)) (fun _ _=>rfl)) (a0a (paV (pv 11)) (a0a (paV (pv 13)) a0i)))) a0i))))))))))))))
     (a0j (sRet (a4b (a0a (paV (pv 2)) (a0a (paV (pv 3)) (a0a (paV (pv 4)) a0i))))))))))),?_⟩
 simp! only[]
 refine⟨Nat.zero_le _,fun p hp=>⟨Nat.zero_le _,fun r hr'=>⟨Nat.zero_le _,fun z hz=> ?_⟩⟩⟩
 obtain⟨nrp,hr2⟩:=none_of hr'
 obtain⟨nzr,hz2⟩:=none_of hz
 obtain⟨nzp,hz3⟩:=none_of hz2
 have R0:Rows M (put (put (put M p (.lst [])) r (.lst [])) z (.lst [])) p r z [] [] []:=
   ⟨by rw[a0g nzp.symm,a0g nrp.symm,a0e];rfl,by rw[a0g nzr.symm,a0e];rfl,by rw[a0e];rfl,nrp.symm,nzp.symm,nzr.symm,L2.Sub.trans (.put hp) (L2.Sub.trans (.put hr') (.put hz)),hp,hr2,hz3⟩
 generalize put (put (put M p (.lst [])) r (.lst [])) z (.lst [])=M0 at R0
 obtain⟨spn,hspn⟩:=Int.eq_ofNat_of_zero_le (Int.emod_nonneg (st/3) (show(78:Int)≠0 by decide))
 simp only[List.length_map]
 refine⟨by decide,by omega,by omega,?_⟩
 refine LoopP.by2 (fun i Γ M'=> ∃(r:Addr) (ws:List (Str×Int)) (js:List (Str×Nat×Nat)) (sp:List Sp) (o6 o7 o8 o9 o10 o11 o12 o13:Option D),Γ=[some (.lst (ns.map D.int)),some (.int st),some (.obj p),some (.obj r),some (.obj z),some (.lst [.str "mesh",.str "pin",.str "band",.str "cross"]),o6,o7,o8,o9,o10,o11,o12,o13]/\Rows M M' p r z ws js sp/\Rw spn ws js/\SpOk (30 * (i+1)) sp/\sp.length=ws.length/\ws.length<=i/\js.length<=i)
   ⟨r,[],[],[],_,_,_,_,_,_,_,_,rfl,R0,Rw.nil spn,fun _ h=>(List.not_mem_nil h).elim,rfl,Nat.zero_le _,Nat.zero_le _⟩ (fun _ _ _ _=>trivial) ?_ ?_
 . rintro E' i Γ M' hrt hi hnx ⟨r,ws,js,sp,o6,o7,o8,o9,o10,o11,o12,o13,rfl,R,rw',hso,hsl,hw,hj⟩
   dsimp only at hi
   have hi2:i<ns.length:=by simpa using hi
   have ex: ∃x,atI (ns.map D.int) (i:Int)=some (.int x):=by
     rw[a35 _ _ (by simpa using hi2)]
     exact⟨_,by rw[List.getElem_map]⟩
   obtain⟨x,ex⟩:=ex
   obtain⟨kd,hkd,hkd2⟩:=b07 (x+(i:Int))
   refine seqV (.int (x % 12)) _ (fun R h=>by simp! only[ex];exact⟨by decide,h⟩) (seqV (.int (x/12)) _ (fun R h=>by simp! only[ex];exact⟨⟨by decide,by decide⟩,h⟩) (seqV (.int ((x+(i:Int)) % 4)) _ (fun R h=>by simp! only[ex];exact⟨by decide,h⟩) (seqV (.int ws.length) _ (fun R' h=>by simp! only[R.p1,List.length_map];exact h) ?_)))
   simp only[List.set_cons_zero,List.set_cons_succ]
   generalize hkx:(x+(i:Int)) % 4=kx at hkd
   by_cases hc:ws.length<2\/x % 12<9
   . refine ifV true (fun R h=> ?_) ?_
     . simp! only[]
       refine ite2 (fun _=>h) fun h1=> ?_
       rw[decide_eq_true (hc.resolve_left fun z=>h1 (decide_eq_true (by omega)))];exact h
     rw[if_pos rfl]
     refine cut1 (fun Γ' M1=>Γ'=[some (.lst (ns.map D.int)),some (.int st),some (.obj p),some (.obj r),some (.obj z),some (.lst [.str "mesh",.str "pin",.str "band",.str "cross"]),some (.int (i:Int)),some (.int (x % 12)),some (.int (x/12)),some (.int kx),some (.int ws.length),o11,o12,o13]/\ ∃t,Rows M M1 p r z (ws++[(a1l spn ws.length,t)]) js sp/\Rw spn (ws++[(a1l spn ws.length,t)]) js) ?_ ?_
     . rintro Γ M1 ⟨rfl,t,R1,rw2⟩
       have hlen:(ws++[(a1l spn ws.length,t)]).length=ws.length+1:=by simp
       generalize hww:ws++[(a1l spn ws.length,t)]=ww at *
       have hsl2:(sp++[(ws.length,1,1)]).length=ws.length+1:=by simp[hsl]
       refine b1l .non (put M1 z (.lst ((sp++[(ws.length,1,1)]).map eSp))) (fun R' h=>by
         simp! only[aBM,a3e,R1.z1,oAppend,List.length_map]
         rw[List.map_append]at h
         exact⟨by decide,by omega,h⟩) ?_
       have R2:=R1.sz (sp++[(ws.length,1,1)])
       have hso2:SpOk (30 * (i+1)) (sp++[(ws.length,1,1)]):=hso.snoc ⟨b2f _ (by omega),b2f _ (by omega)⟩
       generalize put M1 z (.lst ((sp++[(ws.length,1,1)]).map eSp))=M2 at R2 |-
       generalize sp++[(ws.length,1,1)]=sp2 at R2 hso2 hsl2
       have hmx: ∃m:Nat,(if(ws.length:Int)>1 then(ws.length:Int)else 1)=(m:Int)/\0<m/\(0<ws.length->m=ws.length):=by
         by_cases h:ws.length<=1
         . exact⟨1,by rw[if_neg (by omega)];rfl,by decide,fun _=>by omega⟩
         . exact⟨ws.length,by rw[if_pos (by omega)],by omega,fun _=>rfl⟩
       obtain⟨mx,emx,mx0,mx1⟩:=hmx
       obtain⟨at',hat⟩:=Int.eq_ofNat_of_zero_le (Int.emod_nonneg (x/12+(i:Int) * (i:Int)) (show(mx:Int)≠0 by omega))
       have hat2:=Int.emod_lt_of_pos (x/12+(i:Int) * (i:Int)) (show(0:Int)< (mx:Int)by omega)
       rw[hat]at hat2
       refine seqV (.int (at':Int)) _ (fun R h=>by
         simp! only[oMax,emx,hat]
         exact⟨CMul.ok (.inr ⟨by omega,by omega⟩),by omega,h⟩) ?_
       simp only[List.set_cons_zero,List.set_cons_succ]
       by_cases hj2:0<ws.length/\x % 12<7
       . refine ifV true (fun R h=> ?_) ?_
         . simp! only[decide_eq_true (show(0:Int)< (ws.length:Int)by omega),decide_eq_true hj2.2]
           exact h
         rw[if_pos rfl]
         have h1:at'<ww.length:=by omega
         have h2:ws.length<ww.length:=by omega
         have e1:=w_at h1
         have e2:=w_at h2
         have t1:=rw2.teeth _ (List.getElem_mem h1)
         have t2:=rw2.teeth _ (List.getElem_mem h2)
         obtain⟨y1,y2⟩:=b6y (k:=kd) t1.1 t1.2 t2.1 t2.2
         refine seqV (eF (byF kd (ww[at']).2 (ww[ws.length]).2)) M2 (fun R h=>by
           simp! only[hkd,R2.p1,e1,e2,eW,spBy]
           exact⟨kd,_,_,rfl,h⟩) ?_
         generalize byF kd (ww[at']).2 (ww[ws.length]).2=y at *
         have h3:at'<sp2.length:=by omega
         have h4:ws.length<sp2.length:=by omega
         have e3:=sp_at h3
         have s1:=hso2 _ (List.getElem_mem h3)
         generalize sp2[at']=sa at *
         have hso3:SpOk (30 * (i+1+1)) (sp2.set ws.length (sa.1,sa.2.1 *y.1,sa.2.2 *y.2)):=(hso2.up (by omega)).set ⟨(s1.1.mul y1).up (by omega),(s1.2.mul y2).up (by omega)⟩ _
         have R3:=R2.sz (sp2.set ws.length (sa.1,sa.2.1 *y.1,sa.2.2 *y.2))
         simp only[List.set_cons_zero,List.set_cons_succ]
         refine cut1 (fun Γ' M3=>Γ'=[some (.lst (ns.map D.int)),some (.int st),some (.obj p),some (.obj r),some (.obj z),some (.lst [.str "mesh",.str "pin",.str "band",.str "cross"]),some (.int (i:Int)),some (.int (x % 12)),some (.int (x/12)),some (.int kx),some (.int ws.length),some (.int (at':Int)),some (eF y),o13]/\M3=put M2 z (.lst ((sp2.set ws.length (sa.1,sa.2.1 *y.1,sa.2.2 *y.2)).map eSp))) ?_ ?_
         . rintro Γ M3 ⟨rfl,rfl⟩
           have hk: ∃j:Str×Nat×Nat,atI [D.tup [.str kd,.int (at':Int),.int (ws.length:Int)],.tup [.str kd,.int (ws.length:Int),.int (at':Int)]] (x/12 % 2)=some (eK j)/\Rw spn ww (js++[j]):=by
             rcases Int.emod_two_eq (x/12)with h0 |h0
             . exact⟨(kd,at',ws.length),by rw[h0];exact at0,rw2.join hkd2 (by omega) (by omega) (by omega)⟩
             . exact⟨(kd,ws.length,at'),by rw[h0];exact at1,rw2.join hkd2 (by omega) (by omega) (by omega)⟩
           obtain⟨j,ej,rj⟩:=hk
           refine b6n .non _ (fun R' h=> ?_) (hnx _ _ ⟨_,_,_,_,_,_,_,_,_,_,_,_,rfl,R3.sr (js++[j]),rj,hso3,by rw[List.length_set];omega,by omega,by rw[List.length_append];simp;omega⟩)
           simp! only[aBM,a3e,R3.r1,oAppend,hkd,ej,List.length_map]
           refine⟨by decide,by decide,by decide,by decide,by omega,?_⟩
           rw[a8x]at h;exact h
         . intro rest hrest
           simp! only[R2.z1,e3,eSp,eF,gaSub,List.length_map,a81 _ _ h4]
           refine⟨s1.1.ok y1 (by omega) (by decide),s1.2.ok y2 (by omega) (by decide),by decide,?_⟩
           exact hrest _ _ ⟨rfl,by rw[<-set_sp];rfl⟩
       . refine ifV false (fun R h=> ?_) ?_
         . simp! only[]
           refine ite2 (fun h1=> ?_) fun _=>h
           have h1:=of_decide_eq_true h1
           rw[decide_eq_false fun z=>hj2 ⟨by omega,z⟩];exact h
         rw[if_neg Bool.false_ne_true]
         exact hnx _ _ ⟨_,_,_,_,_,_,_,_,_,_,_,_,rfl,R2,rw2,hso2.up (by omega),by omega,by omega,by omega⟩
     . intro rest hrest
       simp! only[aBM,a3e,R.p1,oAppend,a9d,a6h]
       refine⟨⟨by decide,by decide⟩,by decide,ws.length,spn,by rw[hspn],⟨by decide,by decide⟩,by decide,_,_,rfl,fun t h1 h2=>⟨by decide,by rw[List.length_map];omega,hrest _ _ ⟨rfl,t,?_,rw'.wheel h1 h2⟩⟩⟩
       have:=R.sw (ws++[(a1l spn ws.length,t)])
       rw[List.map_append]at this;exact this
   . have hc1:2<=ws.length:=Nat.le_of_not_lt fun z=>hc (.inl z)
     refine ifV false (fun R h=> ?_) ?_
     . simp! only[decide_eq_false (show ¬ (ws.length:Int)<2 by omega),decide_eq_false fun z=>hc (.inr z)]
       exact h
     rw[if_neg Bool.false_ne_true]
     refine cut1 (fun Γ' M1=> ∃at' to':Nat,at'<ws.length/\to'<ws.length/\at'≠to'/\M1=M'/\Γ'=[some (.lst (ns.map D.int)),some (.int st),some (.obj p),some (.obj r),some (.obj z),some (.lst [.str "mesh",.str "pin",.str "band",.str "cross"]),some (.int (i:Int)),some (.int (x % 12)),some (.int (x/12)),some (.int kx),some (.int ws.length),some (.int at'),o12,some (.int to')]) ?_ ?_
     rotate_left
     . intro rest hrest
       simp! only[b34]
       refine⟨_,_,ws.length,rfl,hc1,by omega,fun a b h1 h2 h3=> ?_⟩
       simp! only[a52,a32,gaNil]
       exact⟨rfl,hrest _ _ ⟨a,b,h1,h2,h3,rfl,rfl⟩⟩
     rintro Γ M1 ⟨at',to',hat2,hlt,hne,rfl,rfl⟩
     have hso9:SpOk (30 * (i+1+1)) sp:=hso.up (by omega)
     by_cases h0:st % 3>0
     . refine ifV true (fun R h=>by simp! only[decide_eq_true h0];exact⟨by decide,h⟩) ?_
       rw[if_pos rfl]
       simp! only[a3j]
       refine⟨kx,at',to',p,z,ws,sp,rfl,R.p1,R.z1,by omega,hlt,by omega,by omega,rw'.teeth,fun s hs=>⟨(hso s hs).1.up (by omega),(hso s hs).2.up (by omega)⟩,?_,fun k' hk'=> ?_⟩
       . simp only[R.r1,a2m,List.length_map,List.length_nil]
         refine⟨by omega,fun r' hr'=> ?_⟩
         rw[List.append_nil]
         exact hnx _ _ ⟨r',ws,js,sp,_,_,_,_,_,_,_,_,rfl,R.nr hr' js,rw',hso9,hsl,by omega,by omega⟩
       . simp only[R.r1,a2m,List.length_map,List.length_cons,List.length_nil]
         refine⟨by omega,fun r' hr'=> ?_⟩
         rw[<-a8x]
         exact hnx _ _ ⟨r',ws,js++[(k',at',to')],sp,_,_,_,_,_,_,_,_,rfl,R.nr hr' _,rw'.join hk' (by omega) hlt hne,hso9,hsl,by omega,by rw[List.length_append];simp;omega⟩
     . refine ifV false (fun R h=>by simp! only[decide_eq_false h0];exact⟨by decide,h⟩) ?_
       rw[if_neg Bool.false_ne_true]
       refine b6n .non _ (fun R' h=> ?_) (hnx _ _ ⟨r,ws,_,sp,_,_,_,_,_,_,_,_,rfl,R.sr (js++[(kd,at',to')]),rw'.join hkd2 (by omega) hlt hne,hso9,hsl,by omega,by rw[List.length_append];simp;omega⟩)
       simp! only[aBM,a3e,R.r1,oAppend,hkd,List.length_map]
       refine⟨by decide,by omega,?_⟩
       rw[a8x]at h;exact h
 . rintro Γ M' ⟨r,ws,js,sp,o6,o7,o8,o9,o10,o11,o12,o13,rfl,R,rw',hso,hsl,hw,hj⟩
   simp! only[]
   simp only[List.length_map]at hw hj hso
   exact⟨by decide,.now (q spn ws js sp hspn rw' hw hj hsl hso _ p r z R)⟩
theorem Tr.n1{C:Addr}{M:Mem}{p d1 d2:Addr}{S:TS}(tr:Tr C M p d1 d2 S):p≠d1:=by rintro rfl;have:=tr.self;rw[tr.teeth]at this;cases this
theorem Tr.n2{C:Addr}{M:Mem}{p d1 d2:Addr}{S:TS}(tr:Tr C M p d1 d2 S):p≠d2:=by rintro rfl;have:=tr.self;rw[tr.join]at this;cases this
theorem Tr.wheel{C:Addr}{M:Mem}{p d1 d2:Addr}{ws:List (Str×Int)}{js:List Jn}{nx:Int}(tr:Tr C M p d1 d2 ⟨ws,js,nx⟩)(w':Str×Int):Tr C (put M d1 (.dic (dW (ws++[w'])))) p d1 d2 ⟨ws++[w'],js,nx⟩:=
 ⟨by rw[a0g tr.n1];exact tr.self,a0e,by rw[a0g tr.ne.symm];exact tr.join,tr.ne,tr.lt⟩
theorem Tr.pin{C:Addr}{M:Mem}{p d1 d2:Addr}{S:TS}(tr:Tr C M p d1 d2 S)(k a b:Str):Tr C (put (put M d2 (.dic (dJ (S.js++[(S.nx,k,a,b)])))) p (.ins C (fsT d1 d2 (S.nx+1)))) p d1 d2 ⟨S.ws,S.js++[(S.nx,k,a,b)],S.nx+1⟩:=
 ⟨a0e,by rw[a0g tr.n1.symm,a0g tr.ne];exact tr.teeth,by rw[a0g tr.n2.symm,a0e],tr.ne,fun j hj=>by
   rcases List.mem_append.mp hj with hj |hj
   . have:=tr.lt j hj
     show j.1<S.nx+1
     omega
   . rw[List.mem_singleton.mp hj]
     show S.nx<S.nx+1
     omega⟩
theorem a5u{d1 d2:Addr}{n:Int}:(fsT d1 d2 n).lookup ("put_wheel":Str)=none:=rfl
theorem a6t{d1 d2:Addr}{n:Int}:(fsT d1 d2 n).lookup ("put_join":Str)=none:=rfl
theorem b1e(S:TS)(n:Str):S.has n=decide (n∈S.ws.map Prod.fst):=by
 unfold TS.has
 rw[Bool.eq_iff_iff,List.any_eq_true,decide_eq_true_eq,List.mem_map]
 constructor
 . rintro⟨x,hx,e⟩;exact⟨x,hx,of_decide_eq_true e⟩
 . rintro⟨x,hx,e⟩;exact⟨x,hx,decide_eq_true e⟩
theorem b4k{S:TS}{n:Str}{t:Int}(h1:a2s n=true)(h2:n∉S.ws.map Prod.fst)(h3:1<=t)(h4:t<1000000000)(h5:S.ws.length<100):refW S n t=none:=by
 unfold refW
 rw[b1e,decide_eq_false h2,h1,if_neg (by decide),if_neg (by decide),if_neg (by omega),if_neg (by omega)]
theorem b4l{S:TS}{k a b:Str}(h1:a2a k=true)(h2:a∈S.ws.map Prod.fst)(h3:b∈S.ws.map Prod.fst)(h4:a≠b)(h5:S.js.length<200):refJ S k a b=none:=by
 unfold refJ
 rw[b1e,b1e,decide_eq_true h2,decide_eq_true h3,h1,if_neg (by decide),if_neg (by decide),if_neg h4,if_neg (by omega)]
theorem a3r{ns:List Str}{i:Nat}(h:i<ns.length):at_ ns i∈ns:=by
 unfold at_;rw[List.getD_eq_getElem?_getD,List.getElem?_eq_getElem h];exact List.getElem_mem h
noncomputable def tsOf(ws:List (Str×Int))(js:List (Str×Nat×Nat)):TS:=⟨ws,b09 (ws.map Prod.fst) js,js.length⟩
theorem a6n{ws:List (Str×Int)}{i:Nat}(h:i<ws.length):atI (ws.map eW) (i:Int)=some (.tup [.str (at_ (ws.map Prod.fst) i),.int (ws[i]).2]):=by
 rw[a35 _ _ (by simpa using h),List.getElem_map]
 unfold at_ eW
 rw[List.getD_eq_getElem?_getD,List.getElem?_map,List.getElem?_eq_getElem h];rfl
def b0i(C:Addr):SpA:=fun ds M Q _=> ∃(u v:Addr) (s:Nat) (ws:List (Str×Int)) (js:List (Str×Nat×Nat)),ds=[.obj u,.obj v]/\M u=some (.lst (ws.map eW))/\M v=some (.lst (js.map eK))/\Rw s ws js/\ws.length<=80/\js.length<=80/\ ∀p d1 d2 M',L2.Sub M M'->Tr C M' p d1 d2 (tsOf ws js)->Q (.obj p) M'
theorem a9o{f C:Addr}{fd:FuncData}{EC:Rk->Addr}(Fn:Fun K "_law_train" "_law_train" a38 f fd)(h_Train:HasC P w K mg base 1 "Train" C (b12 C))
   (h_put_wheel:HasM P w K mg base (CXE P w) 2 C "put_wheel" ["self","name","teeth"] (a0m K (a7s C EC))) (h_put_join:HasM P w K mg base (CXE P w) 2 C "put_join" ["self","kind","one","other"] (a0m K (a7t C EC))):
   FnOk P w K mg base (CXE P w) 3 f fd ["_law_wheels","_law_joins"] (a0m K (b0i C)):=by
 refine Fn.okA sc_law_train (fun ds M Q E h=> ?_) ?_
 . obtain⟨_,_,_,_,_,rfl,_⟩:=h;rfl
 intro cdv A outer s H E F0 ds M Q Ea hr ct hsp
 obtain⟨u,v,sp,ws,js,rfl,hU,hV,rw',hw,hj,q⟩:=hsp
 refine⟨_,(a0b (sSet (i:=2) sc_law_train.nd rfl (Or.inl rfl) (paMake h_Train (hr.mono (by decide)) (by rfl)))
     (a0b (sFor ct (a3h (paV (pv 0))) (a69 rfl (a00 (a0v (i:=3) sc_law_train.nd rfl (Or.inl rfl)) (a00 (a0v (i:=4) sc_law_train.nd rfl (Or.inl rfl)) a3i)))
       (a0j (a2i (a9j h_put_wheel (hr.mono (by decide)) ct (paV (pv 2)) (a0a (paV (pv 3)) (a0a (paV (pv 4)) a0i))))))
     (a0b (sFor ct (a3h (paV (pv 1))) (a69 rfl (a00 (a0v (i:=5) sc_law_train.nd rfl (Or.inl rfl)) (a00 (a0v (i:=6) sc_law_train.nd rfl (Or.inl rfl)) (a00 (a0v (i:=7) sc_law_train.nd rfl (Or.inl rfl)) a3i))))
       (a0j (a2i (a9j h_put_join (hr.mono (by decide)) ct (paV (pv 2)) (a0a (paV (pv 5)) (a0a (paIx a0d lIx (paIx a0d lIx (paV (pv 0)) (paV (pv 6)) (fun _ _=>rfl)) paI (fun _ _=>rfl)) (a0a (paIx a0d lIx (paIx a0d lIx (paV (pv 0)) (paV (pv 7)) (fun _ _=>rfl)) paI (fun _ _=>rfl)) a0i)))))))
     (a0j (sRet (paV (pv 2))))))),?_⟩
 have nd:=rw'.nodup (by omega)
 simp! only[aMake,b12]
 intro p hp
 refine⟨p,rfl,a0e,fun d1 d2 h1 h2 n12 n1 n2=> ?_⟩
 rw[a0g n1]at h1
 rw[a0g n2]at h2
 have em:put (put (put (put M p (.ins C [])) d1 (.dic [])) d2 (.dic [])) p (.ins C (fsT d1 d2 0))=put (put (put M d1 (.dic [])) d2 (.dic [])) p (.ins C (fsT d1 d2 0)):=by
   funext x
   by_cases hx:x=p
   . subst hx;rw[a0e,a0e]
   . rw[a0g hx,a0g hx]
     by_cases hx2:x=d2
     . subst hx2;rw[a0e,a0e]
     . rw[a0g hx2,a0g hx2]
       by_cases hx1:x=d1
       . subst hx1;rw[a0e,a0e]
       . rw[a0g hx1,a0g hx1,a0g hx]
 rw[em]
 generalize hM0:put (put (put M d1 (.dic [])) d2 (.dic [])) p (.ins C (fsT d1 d2 0))=M0
 have tr0:Tr C M0 p d1 d2 ⟨[],[],0⟩:=by
   subst hM0
   exact⟨a0e,by rw[a0g n1,a0g n12,a0e];rfl,by rw[a0g n2,a0e];rfl,n12,fun _ h=>(List.not_mem_nil h).elim⟩
 have far: ∀x o,M x=some o->x≠p/\x≠d1/\x≠d2:=by
   intro x o h
   refine⟨fun z=> ?_,fun z=> ?_,fun z=> ?_⟩
   . rw[z,hp]at h;cases h
   . rw[z,h1]at h;cases h
   . rw[z,h2]at h;cases h
 have sb0:L2.Sub M M0:=by
   subst hM0
   intro x o h
   obtain⟨a,b,c⟩:=far x o h
   rw[a0g a,a0g c,a0g b];exact h
 have sbW: ∀{M1:Mem}{o:MO},L2.Sub M M1->L2.Sub M (put M1 d1 o):=fun sb x o h=>by rw[a0g (far x o h).2.1];exact sb x o h
 have sbJ: ∀{M1:Mem}{o o':MO},L2.Sub M M1->L2.Sub M (put (put M1 d2 o) p o'):=fun sb x o h=>by rw[a0g (far x o h).1,a0g (far x o h).2.2];exact sb x o h
 have eU:=sb0 _ _ hU
 simp only[eU]
 refine LoopP.by (fun i Γ M'=> ∃a b c d e,Γ=[some (.obj u),some (.obj v),some (.obj p),a,b,c,d,e]/\L2.Sub M M'/\Tr C M' p d1 d2 ⟨ws.take i,[],0⟩) ⟨_,_,_,_,_,rfl,sb0,tr0⟩ (by rintro _ _ M' ⟨_,_,_,_,_,_,sb,_⟩;dsimp only;rw[sb _ _ hU]) ?_ ?_
 . rintro i Γ M' hi ⟨a,b,c,d,e,rfl,sb,tr⟩
   dsimp only at hi
   have hi':i<ws.length:=by simpa using hi
   have eU:=sb _ _ hU
   simp! only[a2t ws eW i hi',eW,a52,a32,gaNil,tr.self,a5u,a7s]
   refine⟨rfl,p,d1,d2,_,(ws[i]).1,(ws[i]).2,rfl,tr,?_,?_⟩
   . have:=rw'.name (List.mem_map.mpr ⟨_,List.getElem_mem hi',rfl⟩)
     obtain⟨k,_,e⟩:=this
     rw[e]
     have:=(a41 sp k).2
     show(a11 sp k).length<=1000
     omega
   . obtain⟨k,hk,ek⟩:=rw'.name (List.mem_map.mpr ⟨_,List.getElem_mem hi',rfl⟩)
     have hn:(ws[i]).1∉(ws.take i).map Prod.fst:=by
       intro z
       obtain⟨x,hx,ex⟩:=List.mem_map.mp z
       obtain⟨j,hj',ej⟩:=List.getElem_of_mem hx
       rw[List.length_take]at hj'
       rw[List.getElem_take]at ej
       have P1:=List.pairwise_iff_getElem.mp nd j i (by simp;omega) (by simpa using hi') (by omega)
       rw[List.getElem_map,List.getElem_map]at P1
       exact P1 (by rw[ej,ex])
     have ht:=rw'.teeth _ (List.getElem_mem hi')
     rw[b4k (by rw[ek];exact a2r sp k) hn ht.1 ht.2 (by show(ws.take i).length<100;rw[List.length_take];omega)]
     refine⟨hi,_,_,_,_,_,rfl,sbW sb,?_⟩
     rw[List.take_succ_eq_append_getElem hi']
     exact tr.wheel _
 . rintro Γ M' ⟨a,b,c,d,e,rfl,sb,tr⟩
   have el:(ws.map eW).length=ws.length:=List.length_map ..
   dsimp only at tr
   rw[el,List.take_length]at tr
   have eV:=sb _ _ hV
   simp! only[eV]
   refine LoopP.by (fun i Γ M'=> ∃a b c d e,Γ=[some (.obj u),some (.obj v),some (.obj p),a,b,c,d,e]/\L2.Sub M M'/\Tr C M' p d1 d2 (tsOf ws (js.take i))) ⟨_,_,_,_,_,rfl,sb,tr⟩ (by rintro _ _ M' ⟨_,_,_,_,_,_,sb,_⟩;dsimp only;rw[sb _ _ hV]) ?_ ?_
   . rintro i Γ M' hi ⟨a,b,c,d,e,rfl,sb,tr⟩
     dsimp only at hi
     have hi':i<js.length:=by simpa using hi
     obtain⟨k1,k2,k3,k4⟩:=rw'.kinds _ (List.getElem_mem hi')
     have eU:=sb _ _ hU
     simp! only[a2t js eK i hi',eK,a52,a32,gaNil,tr.self,a6t,a7t,eU,a6n k2,a6n k3]
     refine⟨rfl,p,d1,d2,_,_,_,_,rfl,tr,?_⟩
     have hl:(ws.map Prod.fst).length=ws.length:=List.length_map ..
     have m1:at_ (ws.map Prod.fst) (js[i]).2.1∈(tsOf ws (js.take i)).ws.map Prod.fst:=by show _∈ws.map Prod.fst;exact a3r (by rw[hl];exact k2)
     have m2:at_ (ws.map Prod.fst) (js[i]).2.2∈(tsOf ws (js.take i)).ws.map Prod.fst:=by show _∈ws.map Prod.fst;exact a3r (by rw[hl];exact k3)
     rw[b4l k1 m1 m2 (fun z=>k4 (a76 nd (by rw[hl];exact k2) (by rw[hl];exact k3) z)) (by show(b09 _ (js.take i)).length<200;unfold b09;rw[List.length_mapIdx,List.length_take];omega)]
     refine⟨hi,_,_,_,_,_,rfl,sbJ sb,?_⟩
     have e1:tsOf ws (js.take (i+1))=⟨(tsOf ws (js.take i)).ws,(tsOf ws (js.take i)).js++[((tsOf ws (js.take i)).nx,(js[i]).1,at_ (ws.map Prod.fst) (js[i]).2.1,at_ (ws.map Prod.fst) (js[i]).2.2)],(tsOf ws (js.take i)).nx+1⟩:=by
       unfold tsOf
       rw[List.take_succ_eq_append_getElem hi',b52]
       simp[jsRow]
       omega
     rw[e1]
     exact tr.pin _ _ _
   . rintro Γ M' ⟨a,b,c,d,e,rfl,sb,tr⟩
     have el:(js.map eK).length=js.length:=List.length_map ..
     dsimp only at tr
     rw[el,List.take_length]at tr
     exact .now (q p d1 d2 M' sb tr)
theorem a86(bs:List Bool)(i:Nat)(h:i<bs.length):atI (bs.map D.bl) (i:Int)=some (.bl (bs.getD i false)):=by
 rw[a35 _ _ (by simpa using h),List.getElem_map,List.getD_eq_getElem?_getD,List.getElem?_eq_getElem h];rfl
theorem set_bl(bs:List Bool)(i:Nat):(bs.map D.bl).set i (.bl true)=(bs.set i true).map D.bl:=by rw[List.map_set]
noncomputable def ent(j:Str×Nat×Nat):En:=(0,j.2.1,j.2.2)
theorem Hung.of{es es':List En}(h: ∀e∈es,∃e'∈es',e'.2=e.2){a b:Nat}(hb:Hung es a b):Hung es' a b:=by
 induction hb with
 |refl=>exact .refl
 |to _ he ih=>
   obtain⟨e',h1,h2⟩:=h _ he
   rw[<-h2]at ih |-;exact .to ih h1
 |fro _ he ih=>
   obtain⟨e',h1,h2⟩:=h _ he
   rw[<-h2]at ih |-;exact .fro ih h1
theorem b1d(js:List (Str×Nat×Nat))(a b:Nat):Hung (js.map ent) a b↔Hung (esOf js) a b:=by
 constructor
 . refine Hung.of fun e he=> ?_
   obtain⟨j,hj,rfl⟩:=List.mem_map.mp he
   obtain⟨k,hk,rfl⟩:=List.getElem_of_mem hj
   exact⟨esRow k js[k],by unfold esOf;exact List.mem_mapIdx.mpr ⟨k,hk,rfl⟩,rfl⟩
 . refine Hung.of fun e he=> ?_
   unfold esOf at he
   obtain⟨k,hk,rfl⟩:=List.mem_mapIdx.mp he
   exact⟨ent js[k],List.mem_map.mpr ⟨_,List.getElem_mem hk,rfl⟩,rfl⟩
def b13:SpA:=fun ds M Q _=> ∃(n:Nat) (js:List (Str×Nat×Nat)) (a:Nat),ds=[.int n,.lst (js.map eK),.int a]/\n<=1000/\a<n/\(∀j∈js,j.2.1<n/\j.2.2<n)/\
 ∀bs:List Bool,bs.length=n->(∀b,bs.getD b false=true↔Hung (esOf js) a b)->Q (.lst (bs.map D.bl)) M
theorem b0y{f:Addr}{fd:FuncData}(Fn:Fun K "_law_hung" "_law_hung" a5b f fd)(T:Txt K mg):FnOk P w K mg base (CXE P w) 1 f fd ["_law_many","_law_joins","_law_start"] (a0m K b13):=by
 refine Fn.okA sc_law_hung (fun ds M Q E h=> ?_) ?_
 . obtain⟨_,_,_,rfl,_⟩:=h;rfl
 intro cdv A outer s H E F0 ds M Q Ea hr ct hsp
 obtain⟨n,js,a,rfl,hn,ha,he,q⟩:=hsp
 have hu64:=un64 ct
 refine⟨_,(a0b (sCompM (i:=3) sc_law_hung.nd rfl rfl (Nc:=["_law_k","_law_start"]) (n:=1) (fs:=[2]) comp1 rfl (a5l rfl T.range (a0a (paV (pv 0)) a0i)) (fun _ _ _ _ _=>(a0v (i:=0) (show List.Nodup (["_law_k","_law_start"]:List Str)by decide+kernel) rfl (Or.inl rfl))) (fun _ _ _ _ _=>b6j) (fun _ _ _ _ _=>(a2n (a03 hu64) lEq (paV (pv 0)) (paV (pv 1)) (a0k _))) (by rfl))
     (a0b (sSet (i:=4) sc_law_hung.nd rfl (Or.inl rfl) paB)
     (a0b (b17 ct (ptV (paV (pv 4)))
       (a0b (sSet (i:=4) sc_law_hung.nd rfl (Or.inl rfl) paB)
       (a0j (sFor ct (a3h (paV (pv 1))) (a69 rfl (a00 (a0v (i:=5) sc_law_hung.nd rfl (Or.inl rfl)) (a00 (a0v (i:=6) sc_law_hung.nd rfl (Or.inl rfl)) (a00 (a0v (i:=7) sc_law_hung.nd rfl (Or.inl rfl)) a3i))))
         (a0j (sIf (a0r (a2j (un64 ct)) lNe (paIx a0d lIx (paV (pv 3)) (paV (pv 6)) (fun _ _=>rfl)) (paIx a0d lIx (paV (pv 3)) (paV (pv 7)) (fun _ _=>rfl)) (a0k _))
           (a0b (sAsg paB (tgSub (paV (pv 3)) (paV (pv 6))))
           (a0b (sAsg paB (tgSub (paV (pv 3)) (paV (pv 7))))
           (a0j (sSet (i:=4) sc_law_hung.nd rfl (Or.inl rfl) paB))))
           a0t))))))
     (a0j (sRet (paV (pv 3))))))),?_⟩
 simp! only[a3t,frG]
 refine⟨by omega,by omega,fun i=>some (.bl (decide ((i:Int)=(a:Int)))),by omega,fun M' _ i hi own ho=> ?_,fun p hp=> ?_⟩
 . obtain⟨o,rfl⟩:=own1 ho
   refine⟨⟨[some _],rfl,rfl⟩,?_⟩
   show oEq false (.int i) (.int a) M' _
   rw[b6k]
   exact⟨rfl,rfl⟩
 have e0:outs (fun i=>some (.bl (decide ((i:Int)=(a:Int))))) (n:Int).toNat=((List.range n).map fun i=>decide (i=a)).map D.bl:=by
   rw[b2d,List.map_map]
   show(List.range n).map _=_
   congr 1
   funext i
   have e:((i:Int)=(a:Int))↔i=a:=by omega
   simp[e]
 rw[e0]
 have g0: ∀b,((List.range n).map fun i=>decide (i=a)).getD b false=decide (b<n/\b=a):=by
   intro b
   rw[List.getD_eq_getElem?_getD,List.getElem?_map]
   by_cases h:b<n
   . rw[List.getElem?_range h];simp[h]
   . rw[List.getElem?_eq_none (by simpa using h)];simp[h]
 have hg0:Hg (js.map ent) a n ((List.range n).map fun i=>decide (i=a)):=by
   refine⟨by simp,fun b hb=> ?_,?_⟩
   . rw[g0]at hb
     have hb:=of_decide_eq_true hb
     rw[hb.2];exact .refl
   . rw[g0];exact decide_eq_true ⟨ha,rfl⟩
 generalize ((List.range n).map fun i=>decide (i=a))=bs0 at hg0
 refine⟨fun m Γ M'=> ∃(bs:List Bool) (ag:Bool) (o5 o6 o7:Option D),Γ=[some (.int n),some (.lst (js.map eK)),some (.int a),some (.obj p),some (.bl ag),o5,o6,o7]/\M'=put M p (.lst (bs.map D.bl))/\Hg (js.map ent) a n bs/\(ag=false-> ∀e∈js,bs.getD e.2.1 false=bs.getD e.2.2 false)/\a24 bs+(if ag=true then 1 else 0)<=m,
   ⟨_,bs0,true,none,none,none,rfl,rfl,hg0,fun h=>(by cases h),Nat.le_refl _⟩,?_⟩
 rintro m Γ M' ⟨bs,ag,o5,o6,o7,rfl,rfl,hg,hcl,hm⟩
 cases ag with
 |false=>
   refine Rt.fz hp (q bs hg.len fun b=>⟨(fun h=>(b1d js a b).mp (hg.sound b h)),fun h=>hg.all (fun e he'=>by obtain⟨j,hj,rfl⟩:=List.mem_map.mp he';exact hcl rfl j hj) ((b1d js a b).mpr h)⟩)
 |true=>
   rw[if_pos rfl]at hm
   refine cT (fun R h=>h) (seqV (.bl false) (put M p (.lst (bs.map D.bl))) (fun R h=>h) ?_)
   refine LoopP.by2 (fun i Γ M'=> ∃(bs':List Bool) (ag':Bool) (o5 o6 o7:Option D),Γ=[some (.int n),some (.lst (js.map eK)),some (.int a),some (.obj p),some (.bl ag'),o5,o6,o7]/\M'=put M p (.lst (bs'.map D.bl))/\Hg (js.map ent) a n bs'/\(ag'=true->a24 bs'<a24 bs)/\(ag'=false->bs'=bs/\ ∀(k:Nat) (h:k<js.length),k<i->bs.getD (js[k]).2.1 false=bs.getD (js[k]).2.2 false))
     ⟨bs,false,o5,o6,o7,rfl,rfl,hg,fun h=>(by cases h),fun _=>⟨rfl,fun k _ hk=>absurd hk (Nat.not_lt_zero _)⟩⟩ (fun _ _ _ _=>rfl) ?_ ?_
   . rintro E' i Γ M' hrt hi hnx ⟨bs',ag',o5,o6,o7,rfl,rfl,hg',ht,hf⟩
     dsimp only at hi
     have hi':i<js.length:=by simpa using hi
     obtain⟨j1,j2⟩:=he _ (List.getElem_mem hi')
     have hmem:ent js[i]∈js.map ent:=List.mem_map.mpr ⟨_,List.getElem_mem hi',rfl⟩
     have last: ∀k (h:k<js.length),k<i+1->k<i\/js[k]=js[i]:=fun k h hk=>by
       by_cases e:k=i
       . subst e;exact .inr rfl
       . exact .inl (by omega)
     simp only[a2t js eK i hi']
     generalize js[i]=e at j1 j2 hmem last |-
     simp only[eK,a52,a32,gaNil,gaN,List.set_cons_zero,List.set_cons_succ,true_and]
     refine⟨rfl,?_⟩
     have l1:e.2.1<bs'.length:=by rw[hg'.len];exact j1
     have l2:e.2.2<bs'.length:=by rw[hg'.len];exact j2
     by_cases hd:bs'.getD e.2.1 false=bs'.getD e.2.2 false
     . refine ifV false (fun R h=>by
         simp! only[a0e,a86 _ _ l1,a86 _ _ l2,hd,decide_true,Bool.not_true]
         exact h) ?_
       rw[if_neg Bool.false_ne_true]
       refine hnx _ _ ⟨bs',ag',_,_,_,rfl,rfl,hg',ht,fun h=> ?_⟩
       obtain⟨rfl,hk⟩:=hf h
       refine⟨rfl,fun k hk1 hk2=> ?_⟩
       rcases last k hk1 hk2 with h' |h'
       . exact hk k hk1 h'
       . rw[h'];exact hd
     . refine ifV true (fun R h=>by
         simp! only[a0e,a86 _ _ l1,a86 _ _ l2,decide_eq_false hd,Bool.not_false]
         exact h) ?_
       rw[if_pos rfl]
       have l2':e.2.2< (bs'.set e.2.1 true).length:=by simpa using l2
       simp! only[gaSub,a0e,a1o,List.length_map,a81 _ _ l1,a81 _ _ l2',set_bl]
       obtain⟨hg2,hl⟩:=hg'.edge hmem j1 j2 hd
       have hl:a24 ((bs'.set e.2.1 true).set e.2.2 true)+1=a24 bs':=hl
       refine hnx _ _ ⟨_,true,_,_,_,rfl,rfl,hg2,fun _=> ?_,fun h=>(by cases h)⟩
       cases ag' with
       |true=>have:=ht rfl;omega
       |false=>obtain⟨rfl,_⟩:=hf rfl;omega
   . rintro Γ M' ⟨bs',ag',o5,o6,o7,rfl,rfl,hg',ht,hf⟩
     refine⟨a24 bs'+(if ag'=true then 1 else 0),?_,bs',ag',_,_,_,rfl,rfl,hg',fun h e he'=> ?_,Nat.le_refl _⟩
     . cases ag' with
       |true=>have:=ht rfl;rw[if_pos rfl];omega
       |false=>obtain⟨rfl,_⟩:=hf rfl;rw[if_neg Bool.false_ne_true];omega
     . obtain⟨rfl,hk⟩:=hf h
       obtain⟨k,hk1,rfl⟩:=List.getElem_of_mem he'
       exact hk k hk1 (by simpa using hk1)
structure Sound(S:TS):Prop where
 fit:Fit S
 nd:(S.js.map Prod.fst).Nodup
 une: ∀j∈S.js,j.2.2.1≠j.2.2.2
def b35(C EJ:Addr):SpA:=fun ds M Q E=> ∃(p d1 d2:Addr) (S:TS) (x:Str) (o:Option Str),ds=[.obj p,encN o]/\Tr C M p d1 d2 S/\Sound S/\meant S o=some x/\ ∀t,IsTree S.js x t->Grown S.js x t->Closed S.js t->t.length<=100->match S.js.find? (a1s S.ws (a0c S.ws t))with
   |some _=> ∀M',L2.Sub M M'->E (.ref EJ) M'
   |none=>Q (.lst (told S.ws (a0c S.ws t))) M
theorem b0s{f C EJ:Addr}{fd:FuncData}{EC:Rk->Addr}(Fn:Fun K "_law_told" "_law_told" a45 f fd)(h_turns:HasD P w K mg base 45 "turns" ["train","name"] (a0m K (a8a C EC EJ))):
   FnOk P w K mg base (CXE P w) 46 f fd ["_law_train_here","_law_name_here"] (a0m K (b35 C EJ)):=by
 refine Fn.okA b0l (fun ds M Q E h=> ?_) ?_
 . obtain⟨_,_,_,_,_,_,rfl,_⟩:=h;rfl
 intro cdv A outer s H E F0 ds M Q Ea hr ct hsp
 obtain⟨p,d1,d2,S,x,o,rfl,tr,snd,ho,q⟩:=hsp
 refine⟨_,(a0b (sIf (a0r a13 lIs (paV (pv 1)) paN (a0k _))
       (a0j (sRet (paFunD h_turns (hr.mono (by decide)) (by rfl) ct (a0a (paV (pv 0)) a0i))))
       a0t)
     (a0j (sRet (a01 h_turns.all (hr.mono (by decide)) (by rfl) ct (a0a (paV (pv 0)) (a0a (paV (pv 1)) a0i)))))),?_⟩
 have key:a8a C EC EJ [.obj p,encN o] M (Rt Q) fun cls M'=>Ea cls M':=by
   refine⟨p,d1,d2,S,o,rfl,tr,snd.fit,?_⟩
   rw[ho]
   intro t ist gr cl hl
   have q:=q t ist gr cl hl
   revert q
   cases S.js.find? (a1s S.ws (a0c S.ws t))with
   |none=>exact fun q r hr'=> .fz hr' q
   |some _=>exact fun q=>q
 cases o with
 |none=>
   refine a1a (fun R h=>h) ?_
   exact key
 |some y=>
   refine a0x (fun R h=>h) ?_
   exact key
def b11(C:Addr):SpA:=fun ds M Q _=> ∃(p d1 d2:Addr) (S:TS) (x:Str) (o:Option Str),ds=[.obj p,encN o]/\Tr C M p d1 d2 S/\Sound S/\meant S o=some x/\ ∀t,IsTree S.js x t->Grown S.js x t->Closed S.js t->t.length<=100-> ∀M',L2.Sub M M'->match S.js.find? (a1s S.ws (a0c S.ws t))with
   |some _=>Q .non M'
   |none=>Q (.lst (told S.ws (a0c S.ws t))) M'
theorem b0w{f C EJ:Addr}{fd:FuncData}(Fn:Fun K "_law_look" "_law_look" a49 f fd)(xm:PySem.W.exmOne K (.ref EJ) (.ref EJ)=some true)(bJ:mg "Jams"=some (.ref EJ))
   (h_law_told:Has P w K mg base (CXE P w) 46 "_law_told" ["_law_train_here","_law_name_here"] (a0m K (b35 C EJ))):FnOk P w K mg base (CXE P w) 47 f fd ["_law_train_here","_law_name_here"] (a0m K (b11 C)):=by
 refine Fn.okA sc_law_look (fun ds M Q E h=> ?_) ?_
 . obtain⟨_,_,_,_,_,_,rfl,_⟩:=h;rfl
 intro cdv A outer s H E F0 ds M Q Ea hr ct hsp
 obtain⟨p,d1,d2,S,x,o,rfl,tr,snd,ho,q⟩:=hsp
 refine⟨_,(a0b (sSet (i:=2) sc_law_look.nd rfl (Or.inl rfl) paN)
     (a0b (sSet (i:=3) sc_law_look.nd rfl (Or.inl rfl) paB)
     (a0b (sTry ct (fun _ _ _ ct=>(a0j (sSet (i:=2) sc_law_look.nd rfl (Or.inl rfl) (a01 h_law_told (hr.mono (by decide)) (by rfl) ct (a0a (paV (pv 0)) (a0a (paV (pv 1)) a0i))))))
       (fun pn=>(haCons (K':=K) rfl (ct.pl.pin pn) bJ (by rfl) (fun _=>(a0j (sSet (i:=3) sc_law_look.nd rfl (Or.inl rfl) paB))) (haNil ct rfl pn))) a0t)
     (a0b (sIf (ptV (paV (pv 3)))
       (a0j (sRet paN))
       a0t)
     (a0j (sRet (paV (pv 2)))))))),?_⟩
 refine seqV .non M (fun R h=>h) (seqV (.bl false) M (fun R h=>h) ?_)
 refine⟨p,d1,d2,S,x,o,rfl,tr,snd,ho,fun t ist gr cl hl=> ?_⟩
 have q:=q t ist gr cl hl
 revert q
 cases S.js.find? (a1s S.ws (a0c S.ws t))with
 |none=>
   intro q
   dsimp only at q |-
   unfold aNext
   dsimp only
   refine a0x (fun R h=>h) ?_
   exact .now (q M (fun _ _ h=>h))
 |some _=>
   intro q M' sb
   dsimp only at q
   refine⟨true,xm,?_⟩
   rw[if_pos rfl]
   intro a
   exact .now (q M' sb)
noncomputable def eO:Option Fr->D |none=> .non |some x=>eF x
noncomputable def tsO(ws:List (Str×Int))(sh:Sh):List (Option Fr):=ws.map fun w=>if w.1∈sh.map Prod.fst then some (lk sh w.1)else none
theorem told_eq(ws:List (Str×Int))(sh:Sh):told ws sh=(tsO ws sh).map eO:=by
 unfold told tsO
 rw[List.map_map,List.map_map]
 refine List.map_congr_left fun w _=> ?_
 show(getK (a2y sh) (Sum.inr w.1)).getD .non=eO (if w.1∈sh.map Prod.fst then some (lk sh w.1)else none)
 by_cases h:w.1∈sh.map Prod.fst
 . rw[a5o h,if_pos h];rfl
 . rw[a5n h,if_neg h];rfl
theorem o_at{ts:List (Option Fr)}{i:Nat}(h:i<ts.length):atI (ts.map eO) (i:Int)=some (eO (ts.getD i none)):=by
 rw[a35 _ _ (by simpa using h),List.getElem_map,List.getD_eq_getElem?_getD,List.getElem?_eq_getElem h];rfl
noncomputable def encL:Option (List (Option Fr))->D |none=> .non |some l=> .lst (l.map eO)
theorem gd_o(o:Option Fr):Gd 1 (eO o):=by
 cases o with
 |none=>exact .non _
 |some x=>exact gd_f x
theorem gd_os(l:List (Option Fr)):Gd 2 (.lst (l.map eO)):= .lst _ _ fun d hd=>by
 obtain⟨o,_,rfl⟩:=List.mem_map.mp hd
 exact gd_o o
noncomputable def encR:Option (List (Int×Str))->D |none=> .non |some rs=> .lst (rs.map eSt)
noncomputable def iI(k:Int):D:= .int k
def a6i:SpA:=fun ds M Q _=> ∃(o:Option (List (Int×Str))),ds=[encR o]/\(∀rs,o=some rs->rs.length<=500)/\Q (.lst (((o.getD []).map Prod.fst).map iI)) M
theorem a7h{f:Addr}{fd:FuncData}(Fn:Fun K "_law_numbers" "_law_numbers" a27 f fd)(T:Txt K mg):FnOk P w K mg base (CXE P w) 1 f fd ["_law_way"] (a0m K a6i):=by
 refine Fn.okA sc_law_numbers (fun ds M Q E h=> ?_) ?_
 . obtain⟨_,rfl,_⟩:=h;rfl
 intro cdv A outer s H E F0 ds M Q Ea hr ct hsp
 obtain⟨o,rfl,hl,q⟩:=hsp
 refine⟨_,(a0b (sSet (i:=1) sc_law_numbers.nd rfl (Or.inl rfl) (a4q a0i))
     (a0b (sIf (a9g (ptV (b41 (T:="list") (x:="list") (by decide) (by rfl) T.isinstance (by rfl) T.list boot_list (paV (pv 0)))))
       (a0j (sRet (paV (pv 1))))
       a0t)
     (a0b (sFor ct (a3h (paV (pv 0))) (a0v (i:=2) sc_law_numbers.nd rfl (Or.inl rfl))
       (a0j (sIf ((a7c (ptV (b41 (T:="tuple") (x:="tuple") (by decide) (by rfl) T.isinstance (by rfl) T.tuple boot_tuple (paV (pv 2)))) (a31 (a0r (a03 (un64 ct)) lEq (a0w a0q lLen (by rfl) T.len PySem.boot_len (a0a (paV (pv 2)) a0i)) paI (a0k _))))).pt
         (a0j (a2i (paBM PySem.F.plainAttrs_list PySem.F.slot_list_append PySem.F.type_list_append a1e a1x (paV (pv 1)) (a0a (paIx a0d lIx (paV (pv 2)) paI (fun _ _=>rfl)) a0i))))
         a0t)))
     (a0j (sRet (paV (pv 1))))))),?_⟩
 refine cut1 (fun Γ' M1=> ∃x,M x=none/\Γ'=[some (encR o),some (.obj x),none]/\M1=put M x (.lst [])) ?_ ?_
 rotate_left
 . intro rest hrest
   simp! only[]
   exact⟨Nat.zero_le _,fun x hx=>hrest _ _ ⟨x,hx,rfl,rfl⟩⟩
 rintro Γ' M1 ⟨x,hx,rfl,rfl⟩
 cases o with
 |none=>
   have e0:(!("NoneType":String)== "list")=true:=by decide
   refine a1a (fun R h=>by
     simp! only[encR,b60,b1b,a5w,e0]
     exact h) ?_
   exact .fz hx q
 |some rs=>
   have hl:=hl rs rfl
   have e0:(!("list":String)== "list")=false:=by decide
   refine a0x (fun R h=>by
     simp! only[encR,b60,b1b,a5w,e0]
     exact h) ?_
   refine forLs (d:= .lst (rs.map eSt)) (ds:=rs.map eSt) (fun R h=>h) rfl ?_
   refine LoopP.by2 (fun i Γ M'=> ∃o2:Option D,Γ=[some (.lst (rs.map eSt)),some (.obj x),o2]/\M'=put M x (.lst (((rs.take i).map Prod.fst).map iI))) ⟨_,rfl,rfl⟩ (fun _ _ _ _=>rfl) ?_ ?_
   . rintro E' i Γ M' hrt hi hnx ⟨o2,rfl,rfl⟩
     dsimp only at hi
     have hi':i<rs.length:=by simpa using hi
     have e1:("tuple":String)== "tuple":=by decide
     simp only[a2t rs eSt i hi',gaN,List.set_cons_zero,List.set_cons_succ]
     refine ifV true (fun R h=>by
       simp! only[eSt,b60,b1b,a5w]
       exact h) ?_
     rw[if_pos rfl]
     refine b6n .non _ (fun R' h=> ?_) (hnx _ _ ⟨_,rfl,rfl⟩)
     simp! only[aBM,a3e,eSt,a0e,a1o,oAppend,List.length_map,List.length_take]
     refine⟨by omega,?_⟩
     rw[List.take_succ_eq_append_getElem hi',List.map_append,List.map_append]at h
     exact h
   . rintro Γ M' ⟨o2,rfl,rfl⟩
     dsimp only
     rw[show(rs.map eSt).length=rs.length from List.length_map ..,List.take_length]
     exact .fz hx q
def b37:SpA:=fun ds M Q _=> ∃x a b c:Fr,ds=[eF x,eF a,eF b,eF c]/\(Bg 3000 x.1/\Bg 3000 x.2)/\(Bg 3000 a.1/\Bg 3000 a.2)/\(Bg 3000 b.1/\Bg 3000 b.2)/\(Bg 3000 c.1/\Bg 3000 c.2)/\x.1 * (a.2 *b.2 *c.2)=x.2 * (a.1 *b.1 *c.1)/\Q (.bl true) M
theorem a7j{f:Addr}{fd:FuncData}(Fn:Fun K "_law_as_much" "_law_as_much" a3a f fd)(T:Txt K mg):FnOk P w K mg base (CXE P w) 1 f fd ["_law_found","_law_one","_law_by_here","_law_other"] (a0m K b37):=by
 refine Fn.okA sc_law_as_much (fun ds M Q E h=> ?_) ?_
 . obtain⟨_,_,_,_,rfl,_⟩:=h;rfl
 intro cdv A outer s H E F0 ds M Q Ea hr ct hsp
 obtain⟨x,a,b,c,rfl,hx,ha,hb,hc,e,q⟩:=hsp
 refine⟨_,(a0b (sIf ((pwOr (a9g (ptV (b41 (T:="tuple") (x:="tuple") (by decide) (by rfl) T.isinstance (by rfl) T.tuple boot_tuple (paV (pv 0))))) (a6o (a0r (a2j (un64 ct)) lNe (a0w a0q lLen (by rfl) T.len PySem.boot_len (a0a (paV (pv 0)) a0i)) paI (a0k _))))).pt
       (a0j (sRet paB))
       a0t)
     (a0b (sSet (i:=4) sc_law_as_much.nd rfl (Or.inl rfl) (paOp a1p lMul (paOp a1p lMul (paIx a0d lIx (paV (pv 1)) paI (fun _ _=>rfl)) (paIx a0d lIx (paV (pv 2)) paI (fun _ _=>rfl))) (paIx a0d lIx (paV (pv 3)) paI (fun _ _=>rfl))))
     (a0b (sSet (i:=5) sc_law_as_much.nd rfl (Or.inl rfl) (paOp a1p lMul (paOp a1p lMul (paIx a0d lIx (paV (pv 1)) paI (fun _ _=>rfl)) (paIx a0d lIx (paV (pv 2)) paI (fun _ _=>rfl))) (paIx a0d lIx (paV (pv 3)) paI (fun _ _=>rfl))))
     (a0j (sRet (a2n (a03 (un64 ct)) lEq (paOp a1p lMul (paIx a0d lIx (paV (pv 0)) paI (fun _ _=>rfl)) (paV (pv 5))) (paOp a1p lMul (paIx a0d lIx (paV (pv 0)) paI (fun _ _=>rfl)) (paV (pv 4))) (a0k _))))))),?_⟩
 have e3:(!("tuple":String)== "tuple")=false:=by decide
 have e5:(!decide ((2:Int)=2))=false:=by decide
 refine a0x (fun R h=>by
   simp! only[b60,b1b,a5w,eF,e3,e5]
   exact h) ?_
 have h1:=(ha.1.mul hb.1)
 have h2:=h1.mul hc.1
 have h3:=(ha.2.mul hb.2)
 have h4:=h3.mul hc.2
 refine seqV (.int (a.1 *b.1 *c.1)) M (fun R h=>by
   simp! only[eF]
   exact⟨ha.1.ok hb.1 (by decide) (by decide),h1.ok hc.1 (by decide) (by decide),h⟩) (seqV (.int (a.2 *b.2 *c.2)) M (fun R h=>by
   simp! only[eF]
   exact⟨ha.2.ok hb.2 (by decide) (by decide),h3.ok hc.2 (by decide) (by decide),h⟩) ?_)
 simp! only[eF,e,decide_true]
 exact⟨hx.1.ok h4 (by decide) (by decide),hx.2.ok h2 (by decide) (by decide),.now q⟩
theorem o_sh(M:Mem)(o:Option Fr):shD (drf M (eO o))=true:=by
 cases o with
 |none=>exact(Gd.non 0).sh
 |some x=>exact(gd_f x).sh
def b39:SpA:=fun ds M Q _=> ∃(ts us:List (Option Fr)) (bs:List Bool),ds=[.lst (ts.map eO),.lst (us.map eO),.lst (bs.map D.bl)]/\ts.length<=200/\us.length=ts.length/\bs.length=ts.length/\(∀k,k<ts.length->us.getD k none=if bs.getD k false=true then ts.getD k none else none)/\Q (.bl true) M
theorem b0x{f:Addr}{fd:FuncData}(Fn:Fun K "_law_less" "_law_less" a5a f fd)(T:Txt K mg):FnOk P w K mg base (CXE P w) 1 f fd ["_law_before","_law_behind","_law_hung_here"] (a0m K b39):=by
 refine Fn.okA sc_law_less (fun ds M Q E h=> ?_) ?_
 . obtain⟨_,_,_,rfl,_⟩:=h;rfl
 intro cdv A outer s H E F0 ds M Q Ea hr ct hsp
 obtain⟨ts,us,bs,rfl,hl,l1,l2,hb,q⟩:=hsp
 refine⟨_,(a0b (sIf ((pwOr (a0r a13 lIs (paV (pv 1)) paN (a0k _)) (a6o (a0r (a2j (un64 ct)) lNe (a0w a0q lLen (by rfl) T.len PySem.boot_len (a0a (paV (pv 1)) a0i)) (a0w a0q lLen (by rfl) T.len PySem.boot_len (a0a (paV (pv 0)) a0i)) (a0k _))))).pt
       (a0j (sRet paB))
       a0t)
     (a0b (sFor ct (a5l rfl T.range (a0a (a0w a0q lLen (by rfl) T.len PySem.boot_len (a0a (paV (pv 0)) a0i)) a0i)) (a0v (i:=3) sc_law_less.nd rfl (Or.inl rfl))
       (a0j (sIf ((pwOr ((a7c (ptV (paIx a0d lIx (paV (pv 2)) (paV (pv 3)) (fun _ _=>rfl))) (a31 (a0r (a2j (un64 ct)) lNe (paIx a0d lIx (paV (pv 1)) (paV (pv 3)) (fun _ _=>rfl)) (paIx a0d lIx (paV (pv 0)) (paV (pv 3)) (fun _ _=>rfl)) (a0k _))))).pt (a6o ((a7c (a9g (ptV (paIx a0d lIx (paV (pv 2)) (paV (pv 3)) (fun _ _=>rfl)))) (a31 (a0r a3c a4w (paIx a0d lIx (paV (pv 1)) (paV (pv 3)) (fun _ _=>rfl)) paN (a0k _))))).pt))).pt
         (a0j (sRet paB))
         a0t)))
     (a0j (sRet paB)))),?_⟩
 refine a0x (fun R h=>by
   simp! only[List.length_map,l1,decide_true,Bool.not_true]
   exact h) ?_
 simp! only[List.length_map]
 refine⟨by omega,by omega,?_⟩
 refine LoopP.by2 (fun i Γ M'=>M'=M/\ ∃o3,Γ=[some (.lst (ts.map eO)),some (.lst (us.map eO)),some (.lst (bs.map D.bl)),o3]) ⟨rfl,_,rfl⟩ (fun _ _ _ _=>trivial) ?_ ?_
 . rintro E' i Γ M' hrt hi hnx ⟨rfl,o3,rfl⟩
   dsimp only at hi
   have hi':i<ts.length:=by simpa using hi
   have e1:=o_at (ts:=ts) (i:=i) hi'
   have e2:=o_at (ts:=us) (i:=i) (by omega)
   have e3:=a86 bs i (by omega)
   have h1:=hb i hi'
   simp only[gaN,List.set_cons_zero,List.set_cons_succ]
   refine ifV false (fun R h=> ?_) (by rw[if_neg Bool.false_ne_true];exact hnx _ _ ⟨rfl,_,rfl⟩)
   simp! only[e1,e2,e3]
   cases hbv:bs.getD i false with
   |true=>
     rw[hbv,if_pos rfl]at h1
     rw[h1]
     rw[if_pos rfl]
     exact a59 (o_sh _ _) h
   |false=>
     rw[hbv,if_neg Bool.false_ne_true]at h1
     rw[h1]
     exact h
 . rintro Γ M' ⟨rfl,o3,rfl⟩
   exact .now q
def a8d:SpA:=fun ds M Q _=> ∃(ts:List (Option Fr)) (vs us:Option (List (Option Fr))) (nr:Nat) (b n:Fr),ds=[.lst (ts.map eO),encL vs,encL us,.int nr,eF b]/\ts.length<=200/\nr<ts.length/\ts.getD nr none=some n/\(Bg 3000 b.1/\Bg 3000 b.2)/\(Bg 3000 n.1/\Bg 3000 n.2)/\
 ((vs=none/\us=none)\/ ∃v u,vs=some v/\us=some u/\v.length=ts.length/\u.length=ts.length/\ ∀k,k<ts.length->(∀x,ts.getD k none=some x->u.getD k none=some x)/\(ts.getD k none=none->v.getD k none=none->u.getD k none=none)/\ ∀y,ts.getD k none=none->v.getD k none=some y-> ∃x,u.getD k none=some x/\(Bg 3000 x.1/\Bg 3000 x.2)/\(Bg 3000 y.1/\Bg 3000 y.2)/\x.1 * (n.2 *b.2 *y.2)=x.2 * (n.1 *b.1 *y.1))/\Q (.bl true) M
theorem a8s{f:Addr}{fd:FuncData}(Fn:Fun K "_law_joined" "_law_joined" a3k f fd)(T:Txt K mg)(h_law_as_much:Has P w K mg base (CXE P w) 1 "_law_as_much" ["_law_found","_law_one","_law_by_here","_law_other"] (a0m K b37)):FnOk P w K mg base (CXE P w) 2 f fd ["_law_before","_law_beside_here","_law_behind","_law_near","_law_by_here"] (a0m K a8d):=by
 refine Fn.okA sc_law_joined (fun ds M Q E h=> ?_) ?_
 . obtain⟨_,_,_,_,_,_,rfl,_⟩:=h;rfl
 intro cdv A outer s H E F0 ds M Q Ea hr ct hsp
 obtain⟨ts,vs,us,nr,b,n,rfl,hl,hnr,hn,bb,bn,hc,q⟩:=hsp
 refine⟨_,(a0b (sIf ((pwOr (a0r a13 lIs (paV (pv 1)) paN (a0k _)) (a6o (a0r a13 lIs (paV (pv 2)) paN (a0k _))))).pt
       (a0j (sRet (b42 (a2n a13 lIs (paV (pv 1)) paN (a0k _)) (b0p (a2n a13 lIs (paV (pv 2)) paN (a0k _))))))
       a0t)
     (a0b (sIf ((pwOr (a0r (a2j (un64 ct)) lNe (a0w a0q lLen (by rfl) T.len PySem.boot_len (a0a (paV (pv 2)) a0i)) (a0w a0q lLen (by rfl) T.len PySem.boot_len (a0a (paV (pv 0)) a0i)) (a0k _)) (a6o (a0r (a2j (un64 ct)) lNe (a0w a0q lLen (by rfl) T.len PySem.boot_len (a0a (paV (pv 1)) a0i)) (a0w a0q lLen (by rfl) T.len PySem.boot_len (a0a (paV (pv 0)) a0i)) (a0k _))))).pt
       (a0j (sRet paB))
       a0t)
     (a0b (sFor ct (a5l rfl T.range (a0a (a0w a0q lLen (by rfl) T.len PySem.boot_len (a0a (paV (pv 0)) a0i)) a0i)) (a0v (i:=5) sc_law_joined.nd rfl (Or.inl rfl))
       (a0j (sIf (a0r a3c a4w (paIx a0d lIx (paV (pv 0)) (paV (pv 5)) (fun _ _=>rfl)) paN (a0k _))
         (a0j (sIf (a0r (a2j (un64 ct)) lNe (paIx a0d lIx (paV (pv 2)) (paV (pv 5)) (fun _ _=>rfl)) (paIx a0d lIx (paV (pv 0)) (paV (pv 5)) (fun _ _=>rfl)) (a0k _))
           (a0j (sRet paB))
           a0t))
         (a0j (sIf (a0r a13 lIs (paIx a0d lIx (paV (pv 1)) (paV (pv 5)) (fun _ _=>rfl)) paN (a0k _))
           (a0j (sIf (a0r a3c a4w (paIx a0d lIx (paV (pv 2)) (paV (pv 5)) (fun _ _=>rfl)) paN (a0k _))
             (a0j (sRet paB))
             a0t))
           (a0j (sIf (a9g (ptV (a01 h_law_as_much (hr.mono (by decide)) (by rfl) ct (a0a (paIx a0d lIx (paV (pv 2)) (paV (pv 5)) (fun _ _=>rfl)) (a0a (paIx a0d lIx (paV (pv 0)) (paV (pv 3)) (fun _ _=>rfl)) (a0a (paV (pv 4)) (a0a (paIx a0d lIx (paV (pv 1)) (paV (pv 5)) (fun _ _=>rfl)) a0i)))))))
             (a0j (sRet paB))
             a0t)))))))
     (a0j (sRet paB))))),?_⟩
 rcases hc with⟨rfl,rfl⟩ | ⟨v,u,rfl,rfl,l1,l2,hk⟩
 . refine a1a (fun R h=>h) ?_
   simp! only[encL]
   exact .now q
 . refine a0x (fun R h=>by
     simp! only[encL]
     exact h) ?_
   refine a0x (fun R h=>by
     simp! only[encL,List.length_map,l1,l2,decide_true,Bool.not_true]
     exact h) ?_
   simp! only[encL,List.length_map]
   refine⟨by omega,by omega,?_⟩
   refine LoopP.by2 (fun i Γ M'=>M'=M/\ ∃o5,Γ=[some (.lst (ts.map eO)),some (.lst (v.map eO)),some (.lst (u.map eO)),some (.int nr),some (eF b),o5]) ⟨rfl,_,rfl⟩ (fun _ _ _ _=>trivial) ?_ ?_
   . rintro E' i Γ M' hrt hi hnx ⟨rfl,o5,rfl⟩
     dsimp only at hi
     have hi':i<ts.length:=by simpa using hi
     have e1:=o_at (ts:=ts) (i:=i) hi'
     have e2:=o_at (ts:=v) (i:=i) (by omega)
     have e3:=o_at (ts:=u) (i:=i) (by omega)
     have e4:=o_at (ts:=ts) (i:=nr) hnr
     rw[hn]at e4
     obtain⟨h1,h2,h3⟩:=hk i hi'
     simp only[gaN,List.set_cons_zero,List.set_cons_succ]
     cases ht:ts.getD i none with
     |some x=>
       rw[ht]at e1
       rw[h1 x ht]at e3
       refine ifV true (fun R h=>by simp! only[e1,eO];exact h) ?_
       rw[if_pos rfl]
       refine ifV false (fun R h=>by
         simp! only[e1,e3]
         exact a59 (o_sh _ (some x)) h) ?_
       rw[if_neg Bool.false_ne_true]
       exact hnx _ _ ⟨rfl,_,rfl⟩
     |none=>
       rw[ht]at e1
       refine ifV false (fun R h=>by simp! only[e1,eO];exact h) ?_
       rw[if_neg Bool.false_ne_true]
       cases hv:v.getD i none with
       |none=>
         rw[hv]at e2
         rw[h2 ht hv]at e3
         refine ifV true (fun R h=>by simp! only[e2,eO];exact h) ?_
         rw[if_pos rfl]
         refine ifV false (fun R h=>by simp! only[e3,eO];exact h) ?_
         rw[if_neg Bool.false_ne_true]
         exact hnx _ _ ⟨rfl,_,rfl⟩
       |some y=>
         rw[hv]at e2
         obtain⟨x,hx,bx,by',eq⟩:=h3 y ht hv
         rw[hx]at e3
         refine ifV false (fun R h=>by simp! only[e2,eO];exact h) ?_
         rw[if_neg Bool.false_ne_true]
         refine ifV false (fun R h=>by
           simp! only[e2,e3,e4,eO,b37]
           exact⟨x,n,b,y,rfl,bx,bn,bb,by',eq,h⟩) ?_
         rw[if_neg Bool.false_ne_true]
         exact hnx _ _ ⟨rfl,_,rfl⟩
   . rintro Γ M' ⟨rfl,o5,rfl⟩
     exact .now q
theorem b3s: ∀c∈letters,c<128:=by decide+kernel
theorem b5c{x:Str}(h:a2s x=true):PySem.PyData.strOk x=true:=by
 unfold a2s at h
 rw[Bool.and_eq_true]at h
 have h2:=List.all_eq_true.mp h.2
 unfold PySem.PyData.strOk
 rw[<-Array.all_toList]
 refine List.all_eq_true.mpr fun c hc=> ?_
 have h3:=b3s c (of_decide_eq_true (h2 c hc))
 exact decide_eq_true (by omega)
theorem b5w{k:Str}(h:a2a k=true):PySem.PyData.strOk k=true:=by
 unfold a2a at h
 simp only[Bool.or_eq_true,decide_eq_true_eq]at h
 rcases h with((rfl |rfl) |rfl) |rfl<;>decide+kernel
noncomputable abbrev Kn:=Int×Str×Nat×Nat
noncomputable def eKn(k:Kn):Key×D:=(Sum.inl k.1,eK k.2)
theorem gd_k{j:Str×Nat×Nat}(h:a2a j.1=true):Gd 1 (eK j):= .tup _ _ fun d hd=>by
 simp only[List.mem_cons,List.not_mem_nil,or_false]at hd
 rcases hd with rfl |rfl |rfl
 . exact .str _ _ (b5w h)
 . exact .int _ _
 . exact .int _ _
def b4c:SpA:=fun ds M Q _=> ∃(c k:Int) (pw pd pz:Addr) (spn:Nat) (y:Int) (ws:List (Str×Int)) (ks:List Kn) (sp:List Sp),ds=[.int c,.int k,.lst [.obj pw,.obj pd,.obj pz],.lst [.int spn,.int y]]/\M pw=some (.lst (ws.map eW))/\M pd=some (.dic (ks.map eKn))/\M pz=some (.lst (sp.map eSp))/\sp.length=ws.length/\ws.length<=200/\ks.length<=200/\a2b ws/\SpOk 4000 sp/\
 (∀j∈ks,Q (.tup [.str "less",.int j.1]) M)/\(∀t:Int,1<=t->t<1000000000->Q (.tup [.str "wheel",.str (a1l spn ws.length),.int t]) M)/\ ∀kd (a b:Nat),a2a kd=true->a<ws.length->b<ws.length->a≠b->Q (.tup [.str "join",.str kd,.int a,.int b]) M
theorem rd_keys{M:Mem}{q:Addr}{kvs:List (Key×D)}{Γ:G}{Q:AK}{t:AE}(hto: ∀R:AK,R (.obj q) M->t Γ M R)(hq:M q=some (.dic kvs))(h:Q (.lst (kvs.map fun kv=>keyOf kv.1)) M):aFz (aKeys t) Γ M Q:=by
 refine hto _ ?_
 have e:dd M (.obj q)=some kvs:=by simp only[dd,hq]
 dsimp only
 rw[e]
 intro p hp
 simp only[a0e,a2l hp]
 exact h
theorem b4m{M:Mem}{q:Addr}{kvs:List (Key×D)}{Γ:G}{Q:AK}{t:AE}(hto: ∀R:AK,R (.obj q) M->t Γ M R)(hq:M q=some (.dic kvs))(h:Q (.lst (kvs.map fun kv=>kv.2)) M):aFz (aVals t) Γ M Q:=by
 refine hto _ ?_
 have e:dd M (.obj q)=some kvs:=by simp only[dd,hq]
 dsimp only
 rw[e]
 intro p hp
 simp only[a0e,a2l hp]
 exact h
theorem b00{f:Addr}{fd:FuncData}(Fn:Fun K "_law_deed" "_law_deed" a5d f fd)(T:Txt K mg)(h_law_name:Has P w K mg base (CXE P w) 1 "_law_name" ["_law_k","_law_spin"] (a0m K a9d))(h_law_teeth:Has P w K mg base (CXE P w) 1 "_law_teeth" ["_law_number","_law_way"] (a0m K a6h))
   (h_law_two:Has P w K mg base (CXE P w) 1 "_law_two" ["_law_number","_law_k","_law_many"] (a0m K b34)) (h_law_closing:Has P w K mg base (CXE P w) 3 "_law_closing" ["_law_kind","_law_one","_law_other","_law_wheels","_law_speeds"] (a0m K a3j)):FnOk P w K mg base (CXE P w) 4 f fd ["_law_cell","_law_k","_law_state","_law_following"] (a0m K b4c):=by
 refine Fn.okA sc_law_deed (fun ds M Q E h=> ?_) ?_
 . obtain⟨_,_,_,_,_,_,_,_,_,_,rfl,_⟩:=h;rfl
 intro cdv A outer s H E F0 ds M Q Ea hr ct hsp
 obtain⟨c,k,pw,pd,pz,spn,y,ws,ks,sp,rfl,h1,h2,h3,l1,l2,l3,ht,hs,q1,q2,q3⟩:=hsp
 refine⟨_,(a0b (sSet (i:=4) sc_law_deed.nd rfl (Or.inl rfl) (paOp a2k lDiv (paV (pv 0)) paI))
     (a0b (sSet (i:=5) sc_law_deed.nd rfl (Or.inl rfl) (a0w a0q lLen (by rfl) T.len PySem.boot_len (a0a (paIx a0d lIx (paV (pv 2)) paI (fun _ _=>rfl)) a0i)))
     (a0b (sIf ((a7c (a0r b3h lGt (paOp a04 lMod (paV (pv 0)) paI) paI (a0k _)) (a31 (a0r b3h lGt (a0w a0q lLen (by rfl) T.len PySem.boot_len (a0a (paIx a0d lIx (paV (pv 2)) paI (fun _ _=>rfl)) a0i)) paI (a0k _))))).pt
       (a0b (sSet (i:=6) sc_law_deed.nd rfl (Or.inl rfl) (paFz (paKeys T.list rfl (by rfl) (paIx a0d lIx (paV (pv 2)) paI (fun _ _=>rfl)))))
       (a0j (sRet (a1w (a0a paS (a0a (paIx a0d lIx (paV (pv 6)) (paOp a04 lMod (paV (pv 4)) (a0w a0q lLen (by rfl) T.len PySem.boot_len (a0a (paV (pv 6)) a0i))) (fun _ _=>rfl)) a0i))))))
       a0t)
     (a0b (sIf ((pwOr (a0r (a03 (un64 ct)) lEq (paOp a04 lMod (paV (pv 0)) paI) paI (a0k _)) (a6o (a0r a7f lLt (paV (pv 5)) paI (a0k _))))).pt
       (a0j (sRet (a1w (a0a paS (a0a (a01 h_law_name (hr.mono (by decide)) (by rfl) ct (a0a (paV (pv 5)) (a0a (paIx a0d lIx (paV (pv 3)) paI (fun _ _=>rfl)) a0i))) (a0a (a01 h_law_teeth (hr.mono (by decide)) (by rfl) ct (a0a (paV (pv 4)) (a0a (paIx a0d lIx (paV (pv 3)) paI (fun _ _=>rfl)) a0i))) a0i))))))
       a0t)
     (a0b (sAsg (a01 h_law_two (hr.mono (by decide)) (by rfl) ct (a0a (paV (pv 4)) (a0a (paV (pv 1)) (a0a (paV (pv 5)) a0i)))) (a69 rfl (a00 (a0v (i:=7) sc_law_deed.nd rfl (Or.inl rfl)) (a00 (a0v (i:=8) sc_law_deed.nd rfl (Or.inl rfl)) a3i))))
     (a0b (sSet (i:=9) sc_law_deed.nd rfl (Or.inl rfl) (a4b a0i))
     (a0b (sIf (a0r (a03 (un64 ct)) lEq (paOp a04 lMod (paV (pv 4)) paI) paI (a0k _))
       (a0j (sSet (i:=9) sc_law_deed.nd rfl (Or.inl rfl) (a01 h_law_closing (hr.mono (by decide)) (by rfl) ct (a0a (paOp a04 lMod (paOp a08 lAdd (paV (pv 0)) (paV (pv 1))) paI) (a0a (paV (pv 7)) (a0a (paV (pv 8)) (a0a (paIx a0d lIx (paV (pv 2)) paI (fun _ _=>rfl)) (a0a (paIx a0d lIx (paV (pv 2)) paI (fun _ _=>rfl)) a0i))))))))
       a0t)
     (a0b (sIf (a0r (a2j (un64 ct)) lNe (paV (pv 9)) (a4b a0i) (a0k _))
       (a0j (sRet (a1w (a0a paS (a0a (paIx a0d lIx (paIx a0d lIx (paV (pv 9)) paI (fun _ _=>rfl)) paI (fun _ _=>rfl)) (a0a (paV (pv 7)) (a0a (paV (pv 8)) a0i)))))))
       a0t)
     (a0j (sRet (a1w (a0a paS (a0a (paIx a0d lIx (a4b (a0a paS (a0a paS (a0a paS (a0a paS a0i))))) (paOp a04 lMod (paOp a08 lAdd (paV (pv 0)) (paV (pv 1))) paI) (fun _ _=>rfl)) (a0a (paV (pv 7)) (a0a (paV (pv 8)) a0i))))))))))))))),?_⟩
 refine seqV (.int (c/6)) M (fun R h=>by simp! only[];exact⟨⟨by decide,by decide⟩,h⟩) (seqV (.int ws.length) M (fun R h=>by simp! only[h1,List.length_map];exact h) ?_)
 by_cases hc:c % 6>3/\0<ks.length
 . refine a1a (fun R h=>by
     simp! only[h2,List.length_map,decide_eq_true hc.1,decide_eq_true (show(ks.length:Int)>0 by omega)]
     exact⟨by decide,h⟩) ?_
   have ek:(ks.map eKn).map (fun kv=>keyOf kv.1)=ks.map fun k=>D.int k.1:=by rw[List.map_map];rfl
   refine seqV (.lst (ks.map fun k=>D.int k.1)) M (fun R h=> ?_) ?_
   . exact rd_keys (fun R h=>by simp! only[];exact h) h2 (by rw[ek];exact h)
   obtain⟨i,hi⟩:=Int.eq_ofNat_of_zero_le (Int.emod_nonneg (c/6) (show(ks.length:Int)≠0 by omega))
   have hi2:=Int.emod_lt_of_pos (c/6) (show(0:Int)< (ks.length:Int)by omega)
   rw[hi]at hi2
   have hi3:i<ks.length:=by omega
   have e1:atI (ks.map fun k=>D.int k.1) (i:Int)=some (.int (ks[i]).1):=by rw[a35 _ _ (by simpa using hi3),List.getElem_map]
   simp! only[List.length_map,hi,e1]
   exact⟨by omega,by decide,.now (q1 _ (List.getElem_mem hi3))⟩
 . refine a0x (fun R h=> ?_) ?_
   . simp! only[h2,List.length_map]
     refine⟨by decide,ite2 (fun z=> ?_) fun _=>h⟩
     have z:=of_decide_eq_true z
     rw[decide_eq_false (show ¬ (ks.length:Int)>0 from fun y=>hc ⟨z,by omega⟩)]
     exact h
   by_cases hw:c % 6=0\/ws.length<2
   . refine a1a (fun R h=> ?_) ?_
     . simp! only[]
       refine⟨by decide,ite2 (fun _=>h) fun z=> ?_⟩
       have z: ¬ c % 6=0:=fun u=>z (decide_eq_true u)
       rw[decide_eq_true (show(ws.length:Int)<2 by have:=hw.resolve_left z;omega)]
       exact h
     simp! only[a9d,a6h]
     exact⟨_,spn,rfl,_,_,rfl,fun t t1 t2=>⟨by decide,.now (q2 t t1 t2)⟩⟩
   . refine a0x (fun R h=> ?_) ?_
     . simp! only[]
       rw[decide_eq_false (fun z=>hw (.inl z)),if_neg Bool.false_ne_true,decide_eq_false (show ¬ (ws.length:Int)<2 from fun z=>hw (.inr (by omega)))]
       exact⟨by decide,h⟩
     have hw2:2<=ws.length:=Nat.le_of_not_lt fun z=>hw (.inr z)
     refine cut1 (fun Γ' M1=> ∃a b:Nat,a<ws.length/\b<ws.length/\a≠b/\M1=M/\ ∃o6 o9,Γ'=[some (.int c),some (.int k),some (.lst [.obj pw,.obj pd,.obj pz]),some (.lst [.int spn,.int y]),some (.int (c/6)),some (.int ws.length),o6,some (.int a),some (.int b),o9]) ?_ ?_
     rotate_left
     . intro rest hrest
       simp! only[b34]
       refine⟨_,_,ws.length,rfl,hw2,by omega,fun a b z1 z2 z3=> ?_⟩
       simp! only[a52,a32,gaNil]
       exact⟨rfl,hrest _ _ ⟨a,b,z1,z2,z3,rfl,_,_,rfl⟩⟩
     rintro Γ' M1 ⟨a,b,ha,hb,ne,rfl,o6,o9,rfl⟩
     obtain⟨kd,hkd,hkd2⟩:=b07 (c+k)
     refine seqV (.lst []) M1 (fun R h=>⟨Nat.zero_le _,h⟩) ?_
     refine cut1 (fun Γ' M2=>M2=M1/\ ∃l:List D,(l=[]\/ ∃kd,a2a kd=true/\l=[eK (kd,a,b)])/\Γ'=[some (.int c),some (.int k),some (.lst [.obj pw,.obj pd,.obj pz]),some (.lst [.int spn,.int y]),some (.int (c/6)),some (.int ws.length),o6,some (.int a),some (.int b),some (.lst l)]) ?_ ?_
     rotate_left
     . intro rest hrest
       by_cases h0:c/6 % 2=0
       . refine ifV true (fun R h=>by simp! only[decide_eq_true h0];exact⟨by decide,h⟩) ?_
         rw[if_pos rfl]
         simp! only[a3j]
         refine⟨by decide,_,a,b,pw,pz,ws,sp,rfl,h1,h3,ha,hb,by omega,by omega,ht,hs,?_,fun kd z=> ?_⟩
         . exact hrest _ _ ⟨rfl,_,.inl rfl,rfl⟩
         . exact hrest _ _ ⟨rfl,_,.inr ⟨kd,z,rfl⟩,rfl⟩
       . refine ifV false (fun R h=>by simp! only[decide_eq_false h0];exact⟨by decide,h⟩) ?_
         rw[if_neg Bool.false_ne_true]
         exact hrest _ _ ⟨rfl,_,.inl rfl,rfl⟩
     rintro Γ' M2 ⟨rfl,l,hl,rfl⟩
     have gl:Gd 2 (.lst l):= .lst _ _ fun d hd=>by
       rcases hl with rfl | ⟨kd,z,rfl⟩
       . cases hd
       . rw[List.mem_singleton.mp hd];exact gd_k z
     rcases hl with rfl | ⟨kd',z,rfl⟩
     . refine a0x (fun R h=>by
         simp! only[]
         exact⟨by decide,a59 gl.sh h⟩) ?_
       simp! only[hkd]
       exact⟨by decide,by decide,by decide,.now (q3 kd a b hkd2 ha hb ne)⟩
     . refine a1a (fun R h=>by
         simp! only[]
         have g0:Gd 1 (.lst []):= .lst 0 _ fun d hd=>by cases hd
         have e0:eqB M2 (.lst [eK (kd',a,b)]) (.lst [])=false:=by
           unfold eqB
           rw[if_neg (by simp[a4k])]
           rfl
         exact⟨by decide,.inr ⟨gl.sh,g0.sh⟩,by rw[e0];exact h⟩) ?_
       simp! only[eK]
       exact⟨by decide,.now (q3 kd' a b z ha hb ne)⟩
noncomputable def jnK(ns:List Str)(k:Kn):Jn:=(k.1,k.2.1,at_ ns k.2.2.1,at_ ns k.2.2.2)
noncomputable def tsK(ws:List (Str×Int))(ks:List Kn)(nx:Int):TS:=⟨ws,ks.map (jnK (ws.map Prod.fst)),nx⟩
structure Sta(C:Addr)(M:Mem)(p d1 d2 pw pd pz:Addr)(spn:Nat)(ws:List (Str×Int))(ks:List Kn)(nx:Int)(sp:List Sp)(n:Nat):Prop where
 tr:Tr C M p d1 d2 (tsK ws ks nx)
 w1:M pw=some (.lst (ws.map eW))
 k1:M pd=some (.dic (ks.map eKn))
 z1:M pz=some (.lst (sp.map eSp))
 wz:pw≠pz
 kd1:pd≠d1
 kd2:pd≠d2
 rw':Rw spn ws (ks.map Prod.snd)
 nd:(ks.map Prod.fst).Nodup
 sl:sp.length=ws.length
 so:SpOk 4000 sp
 wl:ws.length<=n
 kl:ks.length<=n
theorem b25{ns:List Str}{x:Str}{i:Nat}(h:i<ns.length):at_ (ns++[x]) i=at_ ns i:=by
 unfold at_
 rw[List.getD_eq_getElem?_getD,List.getD_eq_getElem?_getD,List.getElem?_append_left h]
section
variable {C:Addr}{M:Mem}{p d1 d2 pw pd pz:Addr}{spn:Nat}{ws:List (Str×Int)}{ks:List Kn}{nx:Int}{sp:List Sp}{n:Nat}
theorem Sta.ne(S:Sta C M p d1 d2 pw pd pz spn ws ks nx sp n):(p≠d1/\p≠d2/\d1≠d2)/\(pw≠p/\pw≠d1/\pw≠d2/\pw≠pd)/\(pd≠p/\pd≠pz)/\pz≠p/\pz≠d1/\pz≠d2:=by
 have a:=S.tr.self
 have b:=S.tr.teeth
 have c:=S.tr.join
 have d:=S.w1
 have e:=S.k1
 have f:=S.z1
 refine⟨⟨?_,?_,S.tr.ne⟩,⟨?_,?_,?_,?_⟩,⟨?_,?_⟩,?_,?_,?_⟩
 . rintro rfl;rw[a]at b;cases b
 . rintro rfl;rw[a]at c;cases c
 . rintro rfl;rw[d]at a;cases a
 . rintro rfl;rw[d]at b;cases b
 . rintro rfl;rw[d]at c;cases c
 . rintro rfl;rw[d]at e;cases e
 . rintro rfl;rw[e]at a;cases a
 . rintro rfl;rw[e]at f;cases f
 . rintro rfl;rw[f]at a;cases a
 . rintro rfl;rw[f]at b;cases b
 . rintro rfl;rw[f]at c;cases c
theorem a9b(r:Rw spn ws (ks.map Prod.snd))(w':Str×Int):tsK (ws++[w']) ks nx=⟨ws++[w'],ks.map (jnK (ws.map Prod.fst)),nx⟩:=by
 unfold tsK
 congr 1
 refine List.map_congr_left fun k hk=> ?_
 obtain⟨_,h1,h2,_⟩:=r.kinds k.2 (List.mem_map.mpr ⟨k,hk,rfl⟩)
 unfold jnK
 rw[List.map_append]
 have hl:(ws.map Prod.fst).length=ws.length:=List.length_map ..
 rw[List.map_cons,List.map_nil,b25 (by rw[hl];exact h1),b25 (by rw[hl];exact h2)]
theorem Sta.wheel(S:Sta C M p d1 d2 pw pd pz spn ws ks nx sp n){t:Int}(h1:1<=t)(h2:t<1000000000):
   Sta C (put (put (put M d1 (.dic (dW (ws++[(a1l spn ws.length,t)])))) pz (.lst ((sp++[(ws.length,1,1)]).map eSp))) pw (.lst ((ws++[(a1l spn ws.length,t)]).map eW))) p d1 d2 pw pd pz spn (ws++[(a1l spn ws.length,t)]) ks nx (sp++[(ws.length,1,1)]) (n+1):=by
 obtain⟨⟨a1,a2,a3⟩,⟨b1,b2,b3,b4⟩,⟨c1,c2⟩,e1,e2,e3⟩:=S.ne
 have hn:=S.wl
 have hk:=S.kl
 have hs:=S.sl
 have T:=S.tr.wheel (a1l spn ws.length,t)
 refine⟨?_,a0e,?_,?_,S.wz,S.kd1,S.kd2,S.rw'.wheel h1 h2,S.nd,?_,S.so.snoc ⟨b2f _ (by decide),b2f _ (by decide)⟩,?_,by omega⟩
 . rw[a9b S.rw']
   exact⟨by rw[a0g b1.symm,a0g e1.symm];exact T.self,by rw[a0g b2.symm,a0g e2.symm];exact T.teeth,by rw[a0g b3.symm,a0g e3.symm];exact T.join,T.ne,T.lt⟩
 . rw[a0g b4.symm,a0g c2,a0g S.kd1];exact S.k1
 . rw[a0g S.wz.symm,a0e]
 . rw[List.length_append,List.length_append,hs];rfl
 . rw[List.length_append];exact Nat.succ_le_succ hn
theorem Sta.less(S:Sta C M p d1 d2 pw pd pz spn ws ks nx sp n)(i:Int):
   Sta C (put (put M d2 (.dic (dJ ((tsK ws ks nx).js.filter fun j=>decide (j.1≠i))))) pd (.dic ((ks.filter fun k=>decide (k.1≠i)).map eKn))) p d1 d2 pw pd pz spn ws (ks.filter fun k=>decide (k.1≠i)) nx sp n:=by
 obtain⟨⟨a1,a2,a3⟩,⟨b1,b2,b3,b4⟩,⟨c1,c2⟩,e1,e2,e3⟩:=S.ne
 have ej:(tsK ws ks nx).js.filter (fun j=>decide (j.1≠i))=(tsK ws (ks.filter fun k=>decide (k.1≠i)) nx).js:=by
   unfold tsK
   show(ks.map _).filter _=_
   rw[List.filter_map];rfl
 have sub: ∀k∈ks.filter (fun k=>decide (k.1≠i)),k∈ks:=fun k hk=>(List.mem_filter.mp hk).1
 refine⟨?_,?_,a0e,?_,S.wz,S.kd1,S.kd2,⟨S.rw'.names,S.rw'.teeth,fun j hj=> ?_⟩,?_,S.sl,S.so,S.wl,Nat.le_trans (List.length_filter_le _ _) S.kl⟩
 . refine⟨by rw[a0g c1.symm,a0g a2];exact S.tr.self,by rw[a0g S.kd1.symm,a0g a3];exact S.tr.teeth,by rw[a0g S.kd2.symm,a0e,ej],S.tr.ne,fun j hj=> ?_⟩
   obtain⟨k,hk,rfl⟩:=List.mem_map.mp hj
   exact S.tr.lt _ (List.mem_map.mpr ⟨k,sub k hk,rfl⟩)
 . rw[a0g b4,a0g b3];exact S.w1
 . rw[a0g c2.symm,a0g e3];exact S.z1
 . obtain⟨k,hk,rfl⟩:=List.mem_map.mp hj
   exact S.rw'.kinds _ (List.mem_map.mpr ⟨k,sub k hk,rfl⟩)
 . exact List.Nodup.sublist (List.Sublist.map _ (List.filter_sublist ..)) S.nd
theorem Sta.join(S:Sta C M p d1 d2 pw pd pz spn ws ks nx sp n){kd:Str}{a b:Nat}(hk:a2a kd=true)(ha:a<ws.length)(hb:b<ws.length)(ne:a≠b):
   Sta C (put (put (put M d2 (.dic (dJ ((tsK ws ks nx).js++[(nx,kd,at_ (ws.map Prod.fst) a,at_ (ws.map Prod.fst) b)])))) p (.ins C (fsT d1 d2 (nx+1)))) pd (.dic ((ks++[(nx,kd,a,b)]).map eKn))) p d1 d2 pw pd pz spn ws (ks++[(nx,kd,a,b)]) (nx+1) sp (n+1):=by
 obtain⟨⟨a1,a2,a3⟩,⟨b1,b2,b3,b4⟩,⟨c1,c2⟩,e1,e2,e3⟩:=S.ne
 have hw:=S.wl
 have hl:=S.kl
 have T:=S.tr.pin kd (at_ (ws.map Prod.fst) a) (at_ (ws.map Prod.fst) b)
 have ej:tsK ws (ks++[(nx,kd,a,b)]) (nx+1)=⟨ws,(tsK ws ks nx).js++[(nx,kd,at_ (ws.map Prod.fst) a,at_ (ws.map Prod.fst) b)],nx+1⟩:=by
   unfold tsK
   rw[List.map_append];rfl
 refine⟨?_,?_,a0e,?_,S.wz,S.kd1,S.kd2,?_,?_,S.sl,S.so,by omega,by rw[List.length_append];exact Nat.succ_le_succ hl⟩
 . rw[ej]
   exact⟨by rw[a0g c1.symm];exact T.self,by rw[a0g S.kd1.symm];exact T.teeth,by rw[a0g S.kd2.symm];exact T.join,T.ne,T.lt⟩
 . rw[a0g b4,a0g b1,a0g b3];exact S.w1
 . rw[a0g c2.symm,a0g e1,a0g e3];exact S.z1
 . rw[List.map_append];exact S.rw'.join hk ha hb ne
 . rw[List.map_append,List.nodup_append]
   refine⟨S.nd,by simp,fun x hx y hy=> ?_⟩
   obtain⟨k,hk',rfl⟩:=List.mem_map.mp hx
   have:y=nx:=by simpa using hy
   subst this
   have:=S.tr.lt (jnK (ws.map Prod.fst) k) (List.mem_map.mpr ⟨k,hk',rfl⟩)
   have:k.1<y:=this
   omega
end
inductive Dd where
 |wheel (t:Int)
 |less (i:Int)
 |join (kd:Str) (a b:Nat)
noncomputable def eDd(spn:Nat)(m:Nat):Dd->D
 | .wheel t=> .tup [.str "wheel",.str (a1l spn m),.int t]
 | .less i=> .tup [.str "less",.int i]
 | .join kd a b=> .tup [.str "join",.str kd,.int a,.int b]
def Dd.ok(ws:List (Str×Int))(ks:List Kn):Dd->Prop
 | .wheel t=>1<=t/\t<1000000000
 | .less i=>i∈ks.map Prod.fst
 | .join kd a b=>a2a kd=true/\a<ws.length/\b<ws.length/\a≠b
noncomputable def Dd.ws(spn:Nat)(d:Dd)(ws:List (Str×Int)):List (Str×Int):=match d with | .wheel t=>ws++[(a1l spn ws.length,t)] |_=>ws
noncomputable def Dd.sp(d:Dd)(sp:List Sp):List Sp:=match d with | .wheel _=>sp++[(sp.length,1,1)] |_=>sp
noncomputable def Dd.ks(nx:Int)(d:Dd)(ks:List Kn):List Kn:=match d with | .wheel _=>ks | .less i=>ks.filter fun k=>decide (k.1≠i) | .join kd a b=>ks++[(nx,kd,a,b)]
noncomputable def Dd.nx(d:Dd)(nx:Int):Int:=match d with | .join _ _ _=>nx+1 |_=>nx
noncomputable def Dd.told(nx:Int):Dd->Int | .wheel _=> -1 | .less i=>i | .join _ _ _=>nx
def Six(p d1 d2 pw pd pz:Addr)(M M':Mem):Prop:= ∀x,x≠p->x≠d1->x≠d2->x≠pw->x≠pd->x≠pz->M' x=M x
theorem b1f(ks:List Kn)(i:Int):(getK (ks.map eKn) (Sum.inl i)).isSome=decide (i∈ks.map Prod.fst):=by
 induction ks with
 |nil=>rfl
 |cons k ks ih=>
   unfold getK at ih |-
   simp only[List.map_cons,List.find?_cons,eKn,Sum.inl.injEq,List.mem_cons]
   by_cases h:k.1=i
   . simp[h]
   . have h': ¬ i=k.1:=fun z=>h z.symm
     simp only[h,h',decide_false,false_or];exact ih
theorem b6l(ks:List Kn)(i:Int):a5y (ks.map eKn) (Sum.inl i)=(ks.filter fun k=>decide (k.1≠i)).map eKn:=by
 unfold a5y
 rw[List.filter_map]
 congr 1
 apply List.filter_congr
 intro j _
 simp[Function.comp,eKn]
theorem b3w(s k:Nat):(a1l s k).length<=1000:=by
 have:=(a41 s k).2
 show(a11 s k).length<=1000
 omega
theorem a9s{d1 d2:Addr}{n:Int}:(fsT d1 d2 n).lookup ("take_join":Str)=none:=rfl
theorem hasJ_ks{ws:List (Str×Int)}{ks:List Kn}{nx i:Int}(h:i∈ks.map Prod.fst):(tsK ws ks nx).hasJ i=true:=by
 obtain⟨k,hk,rfl⟩:=List.mem_map.mp h
 exact List.any_eq_true.mpr ⟨_,List.mem_map.mpr ⟨k,hk,rfl⟩,decide_eq_true rfl⟩
def spDo(C:Addr):SpA:=fun ds M Q _=> ∃(p d1 d2 pw pd pz:Addr) (spn:Nat) (ws:List (Str×Int)) (ks:List Kn) (nx:Int) (sp:List Sp) (n:Nat) (d:Dd),ds=[.obj p,.lst [.obj pw,.obj pd,.obj pz],eDd spn ws.length d]/\Sta C M p d1 d2 pw pd pz spn ws ks nx sp n/\n<90/\d.ok ws ks/\
 ∀M',Six p d1 d2 pw pd pz M M'->Sta C M' p d1 d2 pw pd pz spn (d.ws spn ws) (d.ks nx ks) (d.nx nx) (d.sp sp) (n+1)->Q (.int (d.told nx)) M'
theorem b46{f C:Addr}{fd:FuncData}{EC:Rk->Addr}(Fn:Fun K "_law_do" "_law_do" a8i f fd)(T:Txt K mg)
   (h_put_wheel:HasM P w K mg base (CXE P w) 2 C "put_wheel" ["self","name","teeth"] (a0m K (a7s C EC))) (h_put_join:HasM P w K mg base (CXE P w) 2 C "put_join" ["self","kind","one","other"] (a0m K (a7t C EC)))
   (h_take_join:HasM P w K mg base (CXE P w) 2 C "take_join" ["self","number"] (a0m K (a8b C EC))):
   FnOk P w K mg base (CXE P w) 3 f fd ["_law_train_here","_law_state","_law_deed_here"] (a0m K (spDo C)):=by
 refine Fn.okA sc_law_do (fun ds M Q E h=> ?_) ?_
 . obtain⟨_,_,_,_,_,_,_,_,_,_,_,_,_,rfl,_⟩:=h;rfl
 intro cdv A outer s H E F0 ds M Q Ea hr ct hsp
 obtain⟨p,d1,d2,pw,pd,pz,spn,ws,ks,nx,sp,n,d,rfl,S,hn,ok,q⟩:=hsp
 obtain⟨⟨a1,a2,a3⟩,⟨b1,b2,b3,b4⟩,⟨c1,c2⟩,f1,f2,f3⟩:=S.ne
 have nd:=S.rw'.nodup (by have:=S.wl;omega)
 have hwl:=S.wl
 have hkl:=S.kl
 have hsl:=S.sl
 refine⟨_,(a0b (sIf (a0r (a03 (un64 ct)) lEq (paIx a0d lIx (paV (pv 2)) paI (fun _ _=>rfl)) paS (a0k _))
       (a0b (a2i (a9j h_put_wheel (hr.mono (by decide)) ct (paV (pv 0)) (a0a (paIx a0d lIx (paV (pv 2)) paI (fun _ _=>rfl)) (a0a (paIx a0d lIx (paV (pv 2)) paI (fun _ _=>rfl)) a0i))))
       (a0b (a2i (paBM PySem.F.plainAttrs_list PySem.F.slot_list_append PySem.F.type_list_append a1e a1x (paIx a0d lIx (paV (pv 1)) paI (fun _ _=>rfl)) (a0a (a1w (a0a (a0w a0q lLen (by rfl) T.len PySem.boot_len (a0a (paIx a0d lIx (paV (pv 1)) paI (fun _ _=>rfl)) a0i)) (a0a paI (a0a paI a0i)))) a0i)))
       (a0b (a2i (paBM PySem.F.plainAttrs_list PySem.F.slot_list_append PySem.F.type_list_append a1e a1x (paIx a0d lIx (paV (pv 1)) paI (fun _ _=>rfl)) (a0a (a1w (a0a (paIx a0d lIx (paV (pv 2)) paI (fun _ _=>rfl)) (a0a (paIx a0d lIx (paV (pv 2)) paI (fun _ _=>rfl)) a0i))) a0i)))
       (a0j (sRet (paUn b1t lNeg paI))))))
       a0t)
     (a0b (sIf (a0r (a03 (un64 ct)) lEq (paIx a0d lIx (paV (pv 2)) paI (fun _ _=>rfl)) paS (a0k _))
       (a0b (a2i (a9j h_take_join (hr.mono (by decide)) ct (paV (pv 0)) (a0a (paIx a0d lIx (paV (pv 2)) paI (fun _ _=>rfl)) a0i)))
       (a0b (a2i (paDPop (paIx a0d lIx (paV (pv 1)) paI (fun _ _=>rfl)) (paIx a0d lIx (paV (pv 2)) paI (fun _ _=>rfl)) ⟨by rfl,by rfl,by rfl,by rfl⟩))
       (a0j (sRet (paIx a0d lIx (paV (pv 2)) paI (fun _ _=>rfl))))))
       a0t)
     (a0b (sSet (i:=3) sc_law_do.nd rfl (Or.inl rfl) (a9j h_put_join (hr.mono (by decide)) ct (paV (pv 0)) (a0a (paIx a0d lIx (paV (pv 2)) paI (fun _ _=>rfl)) (a0a (paIx a0d lIx (paIx a0d lIx (paIx a0d lIx (paV (pv 1)) paI (fun _ _=>rfl)) (paIx a0d lIx (paV (pv 2)) paI (fun _ _=>rfl)) (fun _ _=>rfl)) paI (fun _ _=>rfl)) (a0a (paIx a0d lIx (paIx a0d lIx (paIx a0d lIx (paV (pv 1)) paI (fun _ _=>rfl)) (paIx a0d lIx (paV (pv 2)) paI (fun _ _=>rfl)) (fun _ _=>rfl)) paI (fun _ _=>rfl)) a0i)))))
     (a0b (b0n (un1 ct) (paIx a0d lIx (paV (pv 1)) paI (fun _ _=>rfl)) (paV (pv 3)) (a1w (a0a (paIx a0d lIx (paV (pv 2)) paI (fun _ _=>rfl)) (a0a (paIx a0d lIx (paV (pv 2)) paI (fun _ _=>rfl)) (a0a (paIx a0d lIx (paV (pv 2)) paI (fun _ _=>rfl)) a0i)))) rfl)
     (a0j (sRet (paV (pv 3)))))))),?_⟩
 have en:(ws.map Prod.fst)=(List.range ws.length).map (a1l spn):=S.rw'.names
 cases d with
 |wheel t=>
   obtain⟨t1,t2⟩:=ok
   refine a1a (fun R h=>by simp! only[eDd];exact h) ?_
   have hnew:a1l spn ws.length∉ws.map Prod.fst:=by
     have:=(S.rw'.wheel t1 t2).nodup (by rw[List.length_append];simp;omega)
     rw[List.map_append,List.nodup_append]at this
     exact fun z=>this.2.2 _ z _ (by simp) rfl
   refine b1l .non (put M d1 (.dic (dW (ws++[(a1l spn ws.length,t)])))) (fun R h=>by
     simp! only[eDd,S.tr.self,a5u,a7s]
     refine⟨p,d1,d2,_,_,_,rfl,S.tr,b3w _ _,?_⟩
     rw[b4k (a2r _ _) hnew t1 t2 (by show ws.length<100;omega)]
     exact h) ?_
   refine b1l .non (put (put M d1 (.dic (dW (ws++[(a1l spn ws.length,t)])))) pz (.lst ((sp++[(sp.length,1,1)]).map eSp))) (fun R h=>by
     simp! only[aBM,a3e,a0g f2,a0g b2,S.w1,S.z1,oAppend,List.length_map]
     rw[List.map_append,hsl]at h
     exact⟨by decide,by omega,h⟩) ?_
   refine b1l .non (put (put (put M d1 (.dic (dW (ws++[(a1l spn ws.length,t)])))) pz (.lst ((sp++[(sp.length,1,1)]).map eSp))) pw (.lst ((ws++[(a1l spn ws.length,t)]).map eW))) (fun R h=>by
     simp! only[aBM,a3e,eDd,a0g S.wz,a0g b2,S.w1,oAppend,List.length_map]
     rw[List.map_append (l₁:=ws)]at h
     exact⟨by decide,by omega,h⟩) ?_
   simp! only[]
   refine .now (q _ (fun x x1 x2 x3 x4 x5 x6=>by rw[a0g x4,a0g x6,a0g x2]) ?_)
   have:=S.wheel t1 t2
   rw[<-hsl]at this
   show Sta C _ p d1 d2 pw pd pz spn (ws++[(a1l spn ws.length,t)]) ks nx (sp++[(sp.length,1,1)]) (n+1)
   rw[hsl]at this |-
   exact this
 |less i=>
   refine a0x (fun R h=>by simp! only[eDd];exact h) ?_
   refine a1a (fun R h=>by simp! only[eDd];exact h) ?_
   have ok:i∈ks.map Prod.fst:=ok
   refine b1l .non (put M d2 (.dic (dJ ((tsK ws ks nx).js.filter fun j=>decide (j.1≠i))))) (fun R h=>by
     simp! only[eDd,S.tr.self,a9s,a8b]
     refine⟨p,d1,d2,_,_,rfl,S.tr,?_⟩
     rw[show refL (tsK ws ks nx) i=none by unfold refL;rw[hasJ_ks ok];rfl]
     exact h) ?_
   obtain⟨dv,hdv⟩:=Option.isSome_iff_exists.mp ((b1f ks i).trans (decide_eq_true ok))
   refine b1l dv (put (put M d2 (.dic (dJ ((tsK ws ks nx).js.filter fun j=>decide (j.1≠i))))) pd (.dic ((ks.filter fun k=>decide (k.1≠i)).map eKn))) (fun R h=>by
     simp! only[eDd,a0g S.kd2,S.k1,hdv,b6l]
     exact⟨rfl,h⟩) ?_
   simp! only[eDd]
   have S':=S.less i
   exact .now (q _ (fun x x1 x2 x3 x4 x5 x6=>by rw[a0g x5,a0g x3]) ⟨S'.tr,S'.w1,S'.k1,S'.z1,S'.wz,S'.kd1,S'.kd2,S'.rw',S'.nd,S'.sl,S'.so,Nat.le_succ_of_le S'.wl,Nat.le_succ_of_le S'.kl⟩)
 |join kd a b=>
   obtain⟨hk,ha,hb,ne⟩:=ok
   refine a0x (fun R h=>by simp! only[eDd];exact h) ?_
   refine a0x (fun R h=>by simp! only[eDd];exact h) ?_
   have hl:(ws.map Prod.fst).length=ws.length:=List.length_map ..
   refine seqV (.int nx) (put (put M d2 (.dic (dJ ((tsK ws ks nx).js++[(nx,kd,at_ (ws.map Prod.fst) a,at_ (ws.map Prod.fst) b)])))) p (.ins C (fsT d1 d2 (nx+1)))) (fun R h=>by
     simp! only[eDd,S.w1,a6n ha,a6n hb,S.tr.self,a6t,a7t]
     refine⟨p,d1,d2,_,_,_,_,rfl,S.tr,?_⟩
     rw[show refJ (tsK ws ks nx) kd (at_ (ws.map Prod.fst) a) (at_ (ws.map Prod.fst) b)=none from b4l (S:=tsK ws ks nx) hk (a3r (show a< (ws.map Prod.fst).length by rw[hl];exact ha)) (a3r (show b< (ws.map Prod.fst).length by rw[hl];exact hb)) (fun z=>ne (a76 nd (by rw[hl];exact ha) (by rw[hl];exact hb) z)) (by show(ks.map _).length<200;rw[List.length_map];omega)]
     exact h) ?_
   have hno:(getK (ks.map eKn) (Sum.inl nx)).isSome=false:=by
     rw[b1f]
     refine decide_eq_false fun z=> ?_
     obtain⟨k,hk',e⟩:=List.mem_map.mp z
     have:=S.tr.lt (jnK (ws.map Prod.fst) k) (List.mem_map.mpr ⟨k,hk',rfl⟩)
     have:k.1<nx:=this
     omega
   simp! only[eDd,a0g c1,a0g S.kd2,S.k1,a22 hno]
   have S':=S.join hk ha hb ne
   rw[List.map_append (l₁:=ks)]at S'
   exact⟨by decide,by rw[List.length_map];omega,.now (q _ (fun x x1 x2 x3 x4 x5 x6=>by rw[a0g x5,a0g x1,a0g x3]) S')⟩
def JOk(ts:List (Option Fr))(vs us:Option (List (Option Fr)))(nr:Nat)(b:Fr):Prop:= ∃n:Fr,nr<ts.length/\ts.getD nr none=some n/\(Bg 3000 b.1/\Bg 3000 b.2)/\(Bg 3000 n.1/\Bg 3000 n.2)/\
 ((vs=none/\us=none)\/ ∃v u,vs=some v/\us=some u/\v.length=ts.length/\u.length=ts.length/\ ∀k,k<ts.length->(∀x,ts.getD k none=some x->u.getD k none=some x)/\(ts.getD k none=none->v.getD k none=none->u.getD k none=none)/\ ∀y,ts.getD k none=none->v.getD k none=some y-> ∃x,u.getD k none=some x/\(Bg 3000 x.1/\Bg 3000 x.2)/\(Bg 3000 y.1/\Bg 3000 y.2)/\x.1 * (n.2 *b.2 *y.2)=x.2 * (n.1 *b.1 *y.1))
theorem JOk.sp{ts:List (Option Fr)}{vs us:Option (List (Option Fr))}{nr:Nat}{b:Fr}(h:JOk ts vs us nr b)(hl:ts.length<=200){M:Mem}{Q:AK}{E:Value->Mem->Prop}(q:Q (.bl true) M):a8d [.lst (ts.map eO),encL vs,encL us,.int nr,eF b] M Q E:=by
 obtain⟨n,h1,h2,h3,h4,h5⟩:=h
 exact⟨ts,vs,us,nr,b,n,rfl,hl,h1,h2,h3,h4,h5,q⟩
theorem b59(ns:List Int)(k:Int):inD (.int k) (ns.map iI)=decide (k∈ns):=by
 unfold inD
 induction ns with
 |nil=>rfl
 |cons a ns ih=>
   simp only[List.map_cons,List.any_cons,List.mem_cons,Bool.decide_or]
   rw[ih]
   congr 1
   by_cases h:a=k
   . subst h;simp[eqF,iI]
   . have h': ¬ k=a:=fun z=>h z.symm
     simp[eqF,iI,h,h']
theorem b2v(ns:List Int):(ns.map iI).all flD=true:=by
 rw[List.all_map,List.all_eq_true];intros;rfl
def b64(ws:List (Str×Int))(kd:Str)(a b:Nat)(ts:List (Option Fr))(vs us:Option (List (Option Fr)))(nums:List Int)(number:Int)(bs:List Bool):Prop:=
 (bs.getD a false=true->bs.getD b false=true->(us=none->number∈nums)/\ ∀u,us=some u->u=ts)/\(bs.getD a false=false->bs.getD b false=false->us=some ts)/\
 (∀(ha:a<ws.length) (hb:b<ws.length),bs.getD a false=true->bs.getD b false=false->JOk ts vs us a (byF kd (ws[a]).2 (ws[b]).2))/\ ∀(ha:a<ws.length) (hb:b<ws.length),bs.getD b false=true->bs.getD a false=false->JOk ts vs us b (byF kd (ws[b]).2 (ws[a]).2)
def b38:SpA:=fun ds M Q _=> ∃(kd:Str) (a b:Nat) (ts:List (Option Fr)) (vs us:Option (List (Option Fr))) (nums:List Int) (number:Int) (bs:List Bool) (pw:Addr) (ws:List (Str×Int)),ds=[.tup [.str "join",.str kd,.int a,.int b],.lst (ts.map eO),encL vs,encL us,.lst (nums.map iI),.int number,.lst (bs.map D.bl),.obj pw]/\M pw=some (.lst (ws.map eW))/\ts.length<=200/\a<ws.length/\b<ws.length/\bs.length=ws.length/\nums.length<=500/\b64 ws kd a b ts vs us nums number bs/\Q (.bl true) M
theorem b0v{f:Addr}{fd:FuncData}(Fn:Fun K "_law_more" "_law_more" a48 f fd)(T:Txt K mg)(h_law_by:Has P w K mg base (CXE P w) 1 "_law_by" ["_law_kind","_law_one","_law_other"] (a0m K spBy))
   (h_law_joined:Has P w K mg base (CXE P w) 2 "_law_joined" ["_law_before","_law_beside_here","_law_behind","_law_near","_law_by_here"] (a0m K a8d)):FnOk P w K mg base (CXE P w) 3 f fd ["_law_deed_here","_law_before","_law_beside_here","_law_behind","_law_numbers_here","_law_number","_law_hung_here","_law_wheels"] (a0m K b38):=by
 refine Fn.okA sc_law_more (fun ds M Q E h=> ?_) ?_
 . obtain⟨_,_,_,_,_,_,_,_,_,_,_,rfl,_⟩:=h;rfl
 intro cdv A outer s H E F0 ds M Q Ea hr ct hsp
 obtain⟨kd,a,b,ts,vs,us,nums,number,bs,pw,ws,rfl,hpw,hl,ha,hb,hbl,hnl,⟨m1,m2,m3,m4⟩,q⟩:=hsp
 refine⟨_,(a0b (sSet (i:=8) sc_law_more.nd rfl (Or.inl rfl) (paIx a0d lIx (paV (pv 0)) paI (fun _ _=>rfl)))
     (a0b (sSet (i:=9) sc_law_more.nd rfl (Or.inl rfl) (paIx a0d lIx (paV (pv 0)) paI (fun _ _=>rfl)))
     (a0b (sIf ((a7c (ptV (paIx a0d lIx (paV (pv 6)) (paV (pv 8)) (fun _ _=>rfl))) (a31 (ptV (paIx a0d lIx (paV (pv 6)) (paV (pv 9)) (fun _ _=>rfl)))))).pt
       (a0b (sIf (a0r a13 lIs (paV (pv 3)) paN (a0k _))
         (a0j (sRet (a2n b43 lIn (paV (pv 5)) (paV (pv 4)) (by with_unfolding_all rfl))))
         a0t)
       (a0j (sRet (a2n (a03 (un64 ct)) lEq (paV (pv 3)) (paV (pv 1)) (a0k _)))))
       a0t)
     (a0b (sIf ((a7c (a9g (ptV (paIx a0d lIx (paV (pv 6)) (paV (pv 8)) (fun _ _=>rfl)))) (a31 (a9g (ptV (paIx a0d lIx (paV (pv 6)) (paV (pv 9)) (fun _ _=>rfl))))))).pt
       (a0j (sRet (a2n (a03 (un64 ct)) lEq (paV (pv 3)) (paV (pv 1)) (a0k _))))
       a0t)
     (a0b (sSet (i:=10) sc_law_more.nd rfl (Or.inl rfl) (paV (pv 8)))
     (a0b (sSet (i:=11) sc_law_more.nd rfl (Or.inl rfl) (paV (pv 9)))
     (a0b (sIf (ptV (paIx a0d lIx (paV (pv 6)) (paV (pv 9)) (fun _ _=>rfl)))
       (a0b (sSet (i:=10) sc_law_more.nd rfl (Or.inl rfl) (paV (pv 9)))
       (a0j (sSet (i:=11) sc_law_more.nd rfl (Or.inl rfl) (paV (pv 8)))))
       a0t)
     (a0j (sRet (a01 h_law_joined (hr.mono (by decide)) (by rfl) ct (a0a (paV (pv 1)) (a0a (paV (pv 2)) (a0a (paV (pv 3)) (a0a (paV (pv 10)) (a0a (a01 h_law_by (hr.mono (by decide)) (by rfl) ct (a0a (paIx a0d lIx (paV (pv 0)) paI (fun _ _=>rfl)) (a0a (paIx a0d lIx (paIx a0d lIx (paV (pv 7)) (paV (pv 10)) (fun _ _=>rfl)) paI (fun _ _=>rfl)) (a0a (paIx a0d lIx (paIx a0d lIx (paV (pv 7)) (paV (pv 11)) (fun _ _=>rfl)) paI (fun _ _=>rfl)) a0i)))) a0i))))))))))))))),?_⟩
 refine cut1 (fun Γ' M1=>M1=M/\Γ'=[some (.tup [.str "join",.str kd,.int a,.int b]),some (.lst (ts.map eO)),some (encL vs),some (encL us),some (.lst (nums.map iI)),some (.int number),some (.lst (bs.map D.bl)),some (.obj pw),some (.int a),none,none,none]) ?_ ?_
 rotate_left
 . intro rest hrest
   simp! only[]
   exact hrest _ _ ⟨rfl,rfl⟩
 rintro Γ' M1 ⟨rfl,rfl⟩
 refine cut1 (fun Γ' M2=>M2=M1/\Γ'=[some (.tup [.str "join",.str kd,.int a,.int b]),some (.lst (ts.map eO)),some (encL vs),some (encL us),some (.lst (nums.map iI)),some (.int number),some (.lst (bs.map D.bl)),some (.obj pw),some (.int a),some (.int b),none,none]) ?_ ?_
 rotate_left
 . intro rest hrest
   simp! only[]
   exact hrest _ _ ⟨rfl,rfl⟩
 rintro Γ' M2 ⟨rfl,rfl⟩
 have e1:=a86 bs a (by omega)
 have e2:=a86 bs b (by omega)
 have e3:=w_at ha
 have e4:=w_at hb
 have m3:=m3 ha hb
 have m4:=m4 ha hb
 generalize ws[a]=wa at *
 generalize ws[b]=wb at *
 have gts: ∀M:Mem,shD (drf M (.lst (ts.map eO)))=true:=fun M=>(gd_os ts).sh
 cases hA:bs.getD a false with
 |true=>
   rw[hA]at e1
   cases hB:bs.getD b false with
   |true=>
     rw[hB]at e2
     refine a1a (fun R h=>by simp! only[e1,e2];exact h) ?_
     obtain⟨k1,k2⟩:=m1 hA hB
     cases us with
     |none=>
       refine a1a (fun R h=>by simp! only[encL];exact h) ?_
       simp! only[b59,b2v,decide_eq_true (k1 rfl)]
       exact .now q
     |some u=>
       obtain rfl:=k2 u rfl
       refine a0x (fun R h=>by simp! only[encL];exact h) ?_
       simp! only[encL]
       exact a4z (gts _) (.now q)
   |false=>
     rw[hB]at e2
     have m3:=m3 hA hB
     refine a0x (fun R h=>by simp! only[e1,e2];exact h) ?_
     refine a0x (fun R h=>by simp! only[e1,e2];exact h) ?_
     refine seqV (.int (a:Int)) _ (fun R h=>by simp! only[];exact h) (seqV (.int (b:Int)) _ (fun R h=>by simp! only[];exact h) ?_)
     simp only[List.set_cons_zero,List.set_cons_succ]
     refine a0x (fun R h=>by simp! only[e2];exact h) ?_
     simp! only[hpw,e3,e4,eW,spBy]
     exact⟨_,_,_,rfl,m3.sp hl (.now q)⟩
 |false=>
   rw[hA]at e1
   cases hB:bs.getD b false with
   |true=>
     rw[hB]at e2
     have m4:=m4 hB hA
     refine a0x (fun R h=>by simp! only[e1,e2];exact h) ?_
     refine a0x (fun R h=>by simp! only[e1,e2];exact h) ?_
     refine seqV (.int (a:Int)) _ (fun R h=>by simp! only[];exact h) (seqV (.int (b:Int)) _ (fun R h=>by simp! only[];exact h) ?_)
     simp only[List.set_cons_zero,List.set_cons_succ]
     refine a1a (fun R h=>by simp! only[e2];exact h) ?_
     simp! only[hpw,e3,e4,eW,spBy]
     exact⟨_,_,_,rfl,m4.sp hl (.now q)⟩
   |false=>
     rw[hB]at e2
     have m2:=m2 hA hB
     refine a0x (fun R h=>by simp! only[e1,e2];exact h) ?_
     refine a1a (fun R h=>by simp! only[e1,e2];exact h) ?_
     subst m2
     simp! only[encL]
     exact a4z (gts _) (.now q)
noncomputable def a2x(S:TS)(t:TT):Option (List (Option Fr)):=match S.js.find? (a1s S.ws (a0c S.ws t))with |some _=>none |none=>some (tsO S.ws (a0c S.ws t))
theorem a8y{C:Addr}{M:Mem}{Q:AK}{E:Value->Mem->Prop}{p d1 d2:Addr}{S:TS}{x:Str}{o:Option Str}(tr:Tr C M p d1 d2 S)(sd:Sound S)(ho:meant S o=some x)(q: ∀t,IsTree S.js x t->Grown S.js x t->Closed S.js t->t.length<=100-> ∀M',L2.Sub M M'->Q (encL (a2x S t)) M'):
   b11 C [.obj p,encN o] M Q E:=by
 refine⟨p,d1,d2,S,x,o,rfl,tr,sd,ho,fun t h1 h2 h3 h4 M' sb=> ?_⟩
 have q:=q t h1 h2 h3 h4 M' sb
 unfold a2x at q
 revert q
 cases S.js.find? (a1s S.ws (a0c S.ws t))with
 |none=>intro q;dsimp only at q |-;rw[told_eq];exact q
 |some _=>exact fun q=>q
section
variable {C:Addr}{M:Mem}{p d1 d2 pw pd pz:Addr}{spn:Nat}{ws:List (Str×Int)}{ks:List Kn}{nx:Int}{sp:List Sp}{n:Nat}
theorem Sta.sound(S:Sta C M p d1 d2 pw pd pz spn ws ks nx sp n)(hn:n<=100):Sound (tsK ws ks nx):=by
 have hw:=S.wl
 have hk:=S.kl
 have hl:(ws.map Prod.fst).length=ws.length:=List.length_map ..
 have nd:=S.rw'.nodup (by omega)
 refine⟨⟨nd,S.rw'.teeth,fun j hj=> ?_,by show ws.length<=100;omega,by show(ks.map _).length<=200;rw[List.length_map];omega⟩,?_,fun j hj=> ?_⟩
 . obtain⟨k,hk',rfl⟩:=List.mem_map.mp hj
   obtain⟨_,h1,h2,_⟩:=S.rw'.kinds k.2 (List.mem_map.mpr ⟨k,hk',rfl⟩)
   exact⟨a3r (show _< (ws.map Prod.fst).length by rw[hl];exact h1),a3r (show _< (ws.map Prod.fst).length by rw[hl];exact h2)⟩
 . show((ks.map (jnK (ws.map Prod.fst))).map Prod.fst).Nodup
   rw[List.map_map]
   exact S.nd
 . obtain⟨k,hk',rfl⟩:=List.mem_map.mp hj
   obtain⟨_,h1,h2,h3⟩:=S.rw'.kinds k.2 (List.mem_map.mpr ⟨k,hk',rfl⟩)
   exact fun z=>h3 (a76 nd (by rw[hl];exact h1) (by rw[hl];exact h2) z)
theorem b2k(S:Sta C M p d1 d2 pw pd pz spn ws ks nx sp n){i:Nat}(h:i<ws.length):meant (tsK ws ks nx) (some (at_ (ws.map Prod.fst) i))=some (at_ (ws.map Prod.fst) i):=if_pos (a3r (by rw[List.length_map];exact h))
end
noncomputable def a4y(bs:List Bool):Dd->Option Nat
 | .join _ a b=>if bs.getD a false=bs.getD b false then none else if bs.getD a false=true then some b else some a
 |_=>none
def a8f(C:Addr):SpA:=fun ds M Q _=> ∃(p d1 d2 pw pd pz:Addr) (spn:Nat) (ws:List (Str×Int)) (ks:List Kn) (nx:Int) (sp:List Sp) (n:Nat) (d:Dd) (bs:List Bool),ds=[.obj p,eDd spn ws.length d,.lst (bs.map D.bl),.obj pw]/\Sta C M p d1 d2 pw pd pz spn ws ks nx sp n/\n<=100/\d.ok ws ks/\bs.length=ws.length/\
 match a4y bs d with |none=>Q .non M |some i=> ∀t,IsTree (tsK ws ks nx).js (at_ (ws.map Prod.fst) i) t->Grown (tsK ws ks nx).js (at_ (ws.map Prod.fst) i) t->Closed (tsK ws ks nx).js t->t.length<=100-> ∀M',L2.Sub M M'->Q (encL (a2x (tsK ws ks nx) t)) M'
theorem a8t{f C:Addr}{fd:FuncData}(Fn:Fun K "_law_beside" "_law_beside" a3l f fd)(T:Txt K mg)(h_law_look:Has P w K mg base (CXE P w) 47 "_law_look" ["_law_train_here","_law_name_here"] (a0m K (b11 C))):
   FnOk P w K mg base (CXE P w) 48 f fd ["_law_train_here","_law_deed_here","_law_hung_here","_law_wheels"] (a0m K (a8f C)):=by
 refine Fn.okA a8h (fun ds M Q E h=> ?_) ?_
 . obtain⟨_,_,_,_,_,_,_,_,_,_,_,_,_,_,rfl,_⟩:=h;rfl
 intro cdv A outer s H E F0 ds M Q Ea hr ct hsp
 obtain⟨p,d1,d2,pw,pd,pz,spn,ws,ks,nx,sp,n,d,bs,rfl,S,hn,ok,hb,q⟩:=hsp
 refine⟨_,(a0b (sIf ((pwOr (a0r (a2j (un64 ct)) lNe (paIx a0d lIx (paV (pv 1)) paI (fun _ _=>rfl)) paS (a0k _)) (a6o (a0r (a03 (un64 ct)) lEq (paIx a0d lIx (paV (pv 2)) (paIx a0d lIx (paV (pv 1)) paI (fun _ _=>rfl)) (fun _ _=>rfl)) (paIx a0d lIx (paV (pv 2)) (paIx a0d lIx (paV (pv 1)) paI (fun _ _=>rfl)) (fun _ _=>rfl)) (a0k _))))).pt
       (a0j (sRet paN))
       a0t)
     (a0b (sIf (ptV (paIx a0d lIx (paV (pv 2)) (paIx a0d lIx (paV (pv 1)) paI (fun _ _=>rfl)) (fun _ _=>rfl)))
       (a0j (sRet (a01 h_law_look (hr.mono (by decide)) (by rfl) ct (a0a (paV (pv 0)) (a0a (paIx a0d lIx (paIx a0d lIx (paV (pv 3)) (paIx a0d lIx (paV (pv 1)) paI (fun _ _=>rfl)) (fun _ _=>rfl)) paI (fun _ _=>rfl)) a0i)))))
       a0t)
     (a0j (sRet (a01 h_law_look (hr.mono (by decide)) (by rfl) ct (a0a (paV (pv 0)) (a0a (paIx a0d lIx (paIx a0d lIx (paV (pv 3)) (paIx a0d lIx (paV (pv 1)) paI (fun _ _=>rfl)) (fun _ _=>rfl)) paI (fun _ _=>rfl)) a0i))))))),?_⟩
 cases d with
 |wheel t=>
   refine a1a (fun R h=>by simp! only[eDd];exact h) ?_
   simp! only[]
   exact .now q
 |less i=>
   refine a1a (fun R h=>by simp! only[eDd];exact h) ?_
   simp! only[]
   exact .now q
 |join kd a b=>
   obtain⟨_,ha,hb',_⟩:=ok
   have e1:=a86 bs a (by omega)
   have e2:=a86 bs b (by omega)
   cases hA:bs.getD a false with
   |true=>
     rw[hA]at e1
     cases hB:bs.getD b false with
     |true=>
       rw[hB]at e2
       rw[show a4y bs (.join kd a b)=none by simp only[a4y,hA,hB];rfl]at q
       refine a1a (fun R h=>by simp! only[eDd,e1,e2];exact h) ?_
       simp! only[]
       exact .now q
     |false=>
       rw[hB]at e2
       rw[show a4y bs (.join kd a b)=some b by simp only[a4y,hA,hB];rfl]at q
       refine a0x (fun R h=>by simp! only[eDd,e1,e2];exact h) ?_
       refine a1a (fun R h=>by simp! only[eDd,e1];exact h) ?_
       simp! only[eDd,S.w1,a6n hb']
       exact a8y (o:=some _) S.tr (S.sound hn) (b2k S hb') fun t h1 h2 h3 h4 M' sb=> .now (q t h1 h2 h3 h4 M' sb)
   |false=>
     rw[hA]at e1
     cases hB:bs.getD b false with
     |false=>
       rw[hB]at e2
       rw[show a4y bs (.join kd a b)=none by simp only[a4y,hA,hB];rfl]at q
       refine a1a (fun R h=>by simp! only[eDd,e1,e2];exact h) ?_
       simp! only[]
       exact .now q
     |true=>
       rw[hB]at e2
       rw[show a4y bs (.join kd a b)=some a by simp only[a4y,hA,hB];rfl]at q
       refine a0x (fun R h=>by simp! only[eDd,e1,e2];exact h) ?_
       refine a0x (fun R h=>by simp! only[eDd,e1];exact h) ?_
       simp! only[eDd,S.w1,a6n ha]
       exact a8y (o:=some _) S.tr (S.sound hn) (b2k S ha) fun t h1 h2 h3 h4 M' sb=> .now (q t h1 h2 h3 h4 M' sb)
theorem jam_iff{ws:List (Str×Int)}{js:List Jn}{t:TT}:js.find? (a1s ws (a0c ws t))=none↔a1m ws js t:=by
 rw[List.find?_eq_none]
 constructor
 . intro h j hj h1
   refine Decidable.byContradiction fun ne=>h j hj ?_
   unfold a1s
   rw[a0o,decide_eq_true h1,eqD_f,decide_eq_false ne];rfl
 . intro h j hj z
   have:=b2r z
   rw[a0o]at this
   exact this.2 (h j hj this.1)
theorem look_none{S:TS}{t:TT}:a2x S t=none↔ ¬ a1m S.ws S.js t:=by
 rw[<-jam_iff]
 unfold a2x
 cases S.js.find? (a1s S.ws (a0c S.ws t))<;>simp
theorem a15{S:TS}{t:TT}(h:a1m S.ws S.js t):a2x S t=some (tsO S.ws (a0c S.ws t)):=by
 unfold a2x
 rw[jam_iff.mpr h]
theorem a1t(ws:List (Str×Int))(sh:Sh):(tsO ws sh).length=ws.length:=List.length_map ..
theorem a7q{ws:List (Str×Int)}{t:TT}{k:Nat}(h:k<ws.length):(tsO ws (a0c ws t)).getD k none=if at_ (ws.map Prod.fst) k∈names t then some (lk (a0c ws t) (at_ (ws.map Prod.fst) k))else none:=by
 have e:at_ (ws.map Prod.fst) k=(ws[k]).1:=by
   unfold at_
   rw[List.getD_eq_getElem?_getD,List.getElem?_map,List.getElem?_eq_getElem h];rfl
 unfold tsO
 rw[List.getD_eq_getElem?_getD,List.getElem?_map,List.getElem?_eq_getElem h,e,a0o];rfl
theorem knet{spn:Nat}{ws:List (Str×Int)}{ks:List Kn}{nx:Int}(r:Rw spn ws (ks.map Prod.snd)){a b:Nat}(ha:a<ws.length)(hw:ws.length<=676)(hb:b<ws.length):Reach (tsK ws ks nx).js (at_ (ws.map Prod.fst) a) (at_ (ws.map Prod.fst) b)↔Hung (esOf (ks.map Prod.snd)) a b:=by
 have nd:=r.nodup hw
 have hl:(ws.map Prod.fst).length=ws.length:=List.length_map ..
 have kin: ∀k∈ks,k.2.2.1<ws.length/\k.2.2.2<ws.length:=fun k hk=>by
   obtain⟨_,h1,h2,_⟩:=r.kinds k.2 (List.mem_map.mpr ⟨k,hk,rfl⟩)
   exact⟨h1,h2⟩
 rw[<-b1d]
 constructor
 . intro R
   have key: ∀x,Reach (tsK ws ks nx).js (at_ (ws.map Prod.fst) a) x-> ∃c,c<ws.length/\x=at_ (ws.map Prod.fst) c/\Hung ((ks.map Prod.snd).map ent) a c:=by
     intro x R
     induction R with
     |refl=>exact⟨a,ha,rfl,.refl⟩
     |step _ hl' ih=>
       obtain⟨c,hc,rfl,hh⟩:=ih
       obtain⟨j,hj,_,_,e3⟩:=a1h hl'
       obtain⟨k,hk,rfl⟩:=List.mem_map.mp hj
       obtain⟨k1,k2⟩:=kin k hk
       have me:ent k.2∈(ks.map Prod.snd).map ent:=List.mem_map.mpr ⟨k.2,List.mem_map.mpr ⟨k,hk,rfl⟩,rfl⟩
       rcases e3 with⟨e3,e4⟩ | ⟨e3,e4⟩
       . have e3:at_ (ws.map Prod.fst) k.2.2.1=at_ (ws.map Prod.fst) c:=e3
         have:=a76 nd (by rw[hl];exact k1) (by rw[hl];exact hc) e3
         subst this
         exact⟨k.2.2.2,k2,e4.symm,.to (e:=ent k.2) hh me⟩
       . have e3:at_ (ws.map Prod.fst) k.2.2.2=at_ (ws.map Prod.fst) c:=e3
         have:=a76 nd (by rw[hl];exact k2) (by rw[hl];exact hc) e3
         subst this
         exact⟨k.2.2.1,k1,e4.symm,.fro (e:=ent k.2) hh me⟩
   obtain⟨c,hc,e,hh⟩:=key _ R
   rw[a76 nd (by rw[hl];exact hb) (by rw[hl];exact hc) e];exact hh
 . intro hh
   clear hb
   induction hh with
   |refl=>exact .refl
   | @to e _ he ih=>
     obtain⟨k',hk',rfl⟩:=List.mem_map.mp he
     obtain⟨k,hk,rfl⟩:=List.mem_map.mp hk'
     exact .step (l:=(k.1,k.2.1,at_ (ws.map Prod.fst) k.2.2.2)) ih (a1y (j:=jnK (ws.map Prod.fst) k) (List.mem_map.mpr ⟨k,hk,rfl⟩)).1
   | @fro e _ he ih=>
     obtain⟨k',hk',rfl⟩:=List.mem_map.mp he
     obtain⟨k,hk,rfl⟩:=List.mem_map.mp hk'
     exact .step (l:=(k.1,k.2.1,at_ (ws.map Prod.fst) k.2.2.1)) ih (a1y (j:=jnK (ws.map Prod.fst) k) (List.mem_map.mpr ⟨k,hk,rfl⟩)).2
theorem khang{spn:Nat}{ws:List (Str×Int)}{ks:List Kn}{nx:Int}(r:Rw spn ws (ks.map Prod.snd))(hw:ws.length<=676){a b:Nat}(ha:a<ws.length)(hb:b<ws.length){t:TT}(gr:Grown (tsK ws ks nx).js (at_ (ws.map Prod.fst) a) t)(cl:Closed (tsK ws ks nx).js t):at_ (ws.map Prod.fst) b∈names t↔Hung (esOf (ks.map Prod.snd)) a b:=
 ⟨fun h=>(knet r ha hw hb).mp (gr.reach _ h),fun h=>gr.all cl ((knet r ha hw hb).mpr h)⟩
theorem a1r{ws:List (Str×Int)}{w':Str×Int}{n:Str}(h:n∈ws.map Prod.fst):a0h (ws++[w']) n=a0h ws n:=by
 unfold a0h
 rw[List.find?_append]
 obtain⟨x,hx,e⟩:=List.mem_map.mp h
 have:(ws.find? fun w=>decide (w.1=n)).isSome=true:=List.find?_isSome.mpr ⟨x,hx,decide_eq_true e⟩
 obtain⟨y,hy⟩:=Option.isSome_iff_exists.mp this
 rw[hy];rfl
theorem a5s{ws:List (Str×Int)}{w':Str×Int}{js:List Jn}{x:Str}{t:TT}(hx:x∈ws.map Prod.fst)(he: ∀j∈js,j.2.2.1∈ws.map Prod.fst/\j.2.2.2∈ws.map Prod.fst)(gr:Grown js x t):a0c (ws++[w']) t=a0c ws t/\ ∀n∈names t,n∈ws.map Prod.fst:=by
 induction gr with
 | root => exact ⟨rfl, fun n hn => by have : n = x := by simpa [names] using hn
                                      rw[this];exact hx⟩
 |more t n e gr new old by_ ih=>
   obtain⟨j,hj,_,_,e3⟩:=a1h by_
   have hn:n∈ws.map Prod.fst:=by
     rcases e3 with⟨_,e4⟩ | ⟨_,e4⟩
     . have:=(he j hj).2;rw[e4]at this;exact this
     . have:=(he j hj).1;rw[e4]at this;exact this
   refine⟨?_,fun m hm=> ?_⟩
   . rw[a1d,a1d,ih.1]
     show _++[(n,mulF (lk (a0c ws t) e.2.2) (fac e.2.1 (a0h (ws++[w']) e.2.2) (a0h (ws++[w']) n)))]=_++[(n,mulF (lk (a0c ws t) e.2.2) (fac e.2.1 (a0h ws e.2.2) (a0h ws n)))]
     rw[a1r (ih.2 _ old),a1r hn]
   . rw[a0y]at hm
     rcases List.mem_append.mp hm with hm |hm
     . exact ih.2 m hm
     . have:m=n:=by simpa using hm
       rw[this];exact hn
theorem b67{ws:List (Str×Int)}{t t':TT}(hn: ∀n,n∈names t'↔n∈names t)(hs: ∀n∈names t,lk (a0c ws t') n=lk (a0c ws t) n):tsO ws (a0c ws t')=tsO ws (a0c ws t):=by
 unfold tsO
 refine List.map_congr_left fun w _=> ?_
 rw[a0o,a0o]
 by_cases h:w.1∈names t
 . rw[if_pos h,if_pos ((hn _).mpr h),hs _ h]
 . rw[if_neg h,if_neg fun z=>h ((hn _).mp z)]
theorem a9v{ws:List (Str×Int)}(ht:a2b ws){js:List Jn}{j:Jn}{x:Str}{t t':TT}(g:Grown js x t)(c:Closed js t)(g':Grown (js++[j]) x t')(c':Closed (js++[j]) t')(h:j.2.2.1∈names t↔j.2.2.2∈names t)(nj':a1m ws (js++[j]) t'):tsO ws (a0c ws t')=tsO ws (a0c ws t):=
 b67 (a7x g c g' c' h) fun n hn=>((a6d ht (fun i hi=>List.mem_append_left _ hi) g c g' c' nj').2 n hn).symm
theorem b7z{ws:List (Str×Int)}(ht:a2b ws){js:List Jn}{j:Jn}{x:Str}{t t':TT}(g:Grown js x t)(c:Closed js t)(g':Grown (js++[j]) x t')(c':Closed (js++[j]) t')(h1:j.2.2.1∉names t)(h2:j.2.2.2∉names t)(nj:a1m ws js t):a1m ws (js++[j]) t'/\tsO ws (a0c ws t')=tsO ws (a0c ws t):=by
 have nj':=(far_jam ht g c g' c' h1 h2 nj).1
 exact⟨nj',a9v ht g c g' c' ⟨fun z=>absurd z h1,fun z=>absurd z h2⟩ nj'⟩
theorem lk_bg{ws:List (Str×Int)}(ht:a2b ws){js:List Jn}{x:Str}{t:TT}(g:Grown js x t)(hl:t.length<=100){n:Str}(hn:n∈names t):Bg 3000 (lk (a0c ws t) n).1/\Bg 3000 (lk (a0c ws t) n).2:=by
 obtain⟨e,he,_,h2⟩:=b2l (sh:=a0c ws t) (n:=n) (by rw[a0o];exact hn)
 obtain⟨k1,k2,k3⟩:=(a2p ht g e he).up hl
 rw[h2]
 refine⟨k3,?_⟩
 unfold Bg
 have e1:((e.2.2.natAbs:Nat):Int)=e.2.2:=by omega
 have k2:((e.2.2.natAbs:Nat):Int)< ((2^(30 *100):Nat):Int):=by rw[e1,Int.natCast_pow];exact k2
 exact Int.ofNat_lt.mp k2
theorem a9u{ws:List (Str×Int)}(ht:a2b ws){js:List Jn}{j:Jn}{x:Str}{t s t':TT}{nr fr:Nat}(hnr:nr<ws.length)(hfr:fr<ws.length)(g:Grown js x t)(c:Closed js t)(gs:Grown js (at_ (ws.map Prod.fst) fr) s)(cs:Closed js s)(g':Grown (js++[j]) x t')(c':Closed (js++[j]) t')
   (he:Ends j (at_ (ws.map Prod.fst) nr) (at_ (ws.map Prod.fst) fr)) (near:at_ (ws.map Prod.fst) nr∈names t) (far:at_ (ws.map Prod.fst) fr∉names t) (nj:a1m ws js t) (l1:t.length<=100) (l2:s.length<=100) (l3:t'.length<=100) (nd:(ws.map Prod.fst).Nodup)
   {nx:Int}{nx':Int}:JOk (tsO ws (a0c ws t)) (a2x ⟨ws,js,nx⟩ s) (a2x ⟨ws,js++[j],nx'⟩ t') nr (byF j.2.1 (a0h ws (at_ (ws.map Prod.fst) nr)) (a0h ws (at_ (ws.map Prod.fst) fr))):=by
 have hn:=a5m g c gs cs g' c' he near
 obtain⟨y1,y2⟩:=b6y (k:=j.2.1) (a0l ht (at_ (ws.map Prod.fst) nr)).1 (a0l ht (at_ (ws.map Prod.fst) nr)).2 (a0l ht (at_ (ws.map Prod.fst) fr)).1 (a0l ht (at_ (ws.map Prod.fst) fr)).2
 refine⟨lk (a0c ws t) (at_ (ws.map Prod.fst) nr),by rw[a1t];exact hnr,by rw[a7q hnr,if_pos near],⟨y1.up (by decide),y2.up (by decide)⟩,lk_bg ht g l1 near,?_⟩
 by_cases nj':a1m ws (js++[j]) t'
 . obtain⟨ns,h1,h2⟩:=b6a ht g c gs cs g' c' he near nj'
   refine .inr ⟨_,_,a15 (S:=⟨ws,js,nx⟩) ns,a15 (S:=⟨ws,js++[j],nx'⟩) nj',by rw[a1t,a1t],by rw[a1t,a1t],fun k hk=> ?_⟩
   rw[a1t]at hk
   rw[a7q hk]
   show _/\(_->(tsO ws (a0c ws s)).getD k none=none->(tsO ws (a0c ws t')).getD k none=none)/\ ∀y,_->(tsO ws (a0c ws s)).getD k none=some y->_
   rw[a7q hk,a7q hk]
   generalize at_ (ws.map Prod.fst) k=m
   by_cases m1:m∈names t
   . rw[if_pos m1,if_pos ((hn m).mpr (.inl m1)),h1 m m1]
     exact⟨fun _ e=>e,(fun e=>by cases e),fun _ e=>by cases e⟩
   . rw[if_neg m1]
     refine⟨(fun _ e=>by cases e),fun _ e=> ?_,fun y _ e=> ?_⟩
     . by_cases m2:m∈names s
       . rw[if_pos m2]at e;cases e
       . rw[if_neg fun z=>((hn m).mp z).elim m1 m2]
     . by_cases m2:m∈names s
       . rw[if_pos m2]at e
         have e:lk (a0c ws s) m=y:=by injection e
         have m3:=(hn m).mpr (.inr m2)
         subst e
         exact⟨_,if_pos m3,lk_bg ht g' l3 m3,lk_bg ht gs l2 m2,h2 m m2⟩
       . rw[if_neg m2]at e;cases e
 . refine .inl ⟨?_,(look_none (S:=⟨ws,js++[j],nx'⟩)).mpr nj'⟩
   refine(look_none (S:=⟨ws,js,nx⟩)).mpr fun ns=>nj' (hung_on ht g c gs cs g' c' he near far nj ns)
theorem less_ok{ws:List (Str×Int)}(ht:a2b ws){js js':List Jn}(hs: ∀j∈js',j∈js){x:Str}{t t':TT}(g:Grown js x t)(c:Closed js t)(g':Grown js' x t')(c':Closed js' t')(nj:a1m ws js t):
   a1m ws js' t'/\ ∀k,k<ws.length->(tsO ws (a0c ws t')).getD k none=if at_ (ws.map Prod.fst) k∈names t' then(tsO ws (a0c ws t)).getD k none else none:=by
 obtain⟨h1,h2⟩:=a6d ht hs g' c' g c nj
 refine⟨h1,fun k hk=> ?_⟩
 rw[a7q hk,a7q hk]
 by_cases m:at_ (ws.map Prod.fst) k∈names t'
 . rw[if_pos m,if_pos m,if_pos (a3o hs g' g c _ m),h2 _ m]
 . rw[if_neg m,if_neg m]
theorem way_in{js:List Jn}{a b:Str}{st:List (Int×Str)}(h:Way js a st b): ∀n∈st.map Prod.fst,n∈js.map Prod.fst:=by
 induction h with
 |nil=>intro n hn;cases hn
 |cons hl _ ih=>
   intro n hn
   rw[List.map_cons,List.mem_cons]at hn
   rcases hn with rfl |hn
   . obtain⟨j,hj,e,_⟩:=a1h hl
     exact List.mem_map.mpr ⟨j,hj,e⟩
   . exact ih n hn
theorem a88{ws:List (Str×Int)}{w':Str×Int}{js:List Jn}{x:Str}{t:TT}(hx:x∈ws.map Prod.fst)(he: ∀j∈js,j.2.2.1∈ws.map Prod.fst/\j.2.2.2∈ws.map Prod.fst)(gr:Grown js x t):a1m (ws++[w']) js t↔a1m ws js t:=by
 obtain⟨e1,_⟩:=a5s (w':=w') hx he gr
 unfold a1m
 rw[e1]
 constructor
 . intro h j hj m
   have:=h j hj m
   rw[a1r (he j hj).1,a1r (he j hj).2]at this;exact this
 . intro h j hj m
   rw[a1r (he j hj).1,a1r (he j hj).2];exact h j hj m
theorem b3u{ws:List (Str×Int)}{w':Str×Int}{js:List Jn}{x:Str}{t:TT}(hx:x∈ws.map Prod.fst)(he: ∀j∈js,j.2.2.1∈ws.map Prod.fst/\j.2.2.2∈ws.map Prod.fst)(gr:Grown js x t)(hw:w'.1∉ws.map Prod.fst):tsO (ws++[w']) (a0c (ws++[w']) t)=tsO ws (a0c ws t)++[none]:=by
 obtain⟨e1,e2⟩:=a5s (w':=w') hx he gr
 rw[e1]
 unfold tsO
 rw[List.map_append,List.map_cons,List.map_nil,a0o,if_neg fun z=>hw (e2 _ z)]
theorem b3r{ws:List (Str×Int)}{w':Str×Int}{js:List Jn}{nx:Int}{x:Str}{t:TT}(hx:x∈ws.map Prod.fst)(he: ∀j∈js,j.2.2.1∈ws.map Prod.fst/\j.2.2.2∈ws.map Prod.fst)(gr:Grown js x t)(hw:w'.1∉ws.map Prod.fst):a2x ⟨ws++[w'],js,nx⟩ t=(a2x ⟨ws,js,nx⟩ t).map (· ++[none]):=by
 by_cases nj:a1m ws js t
 . rw[a15 (S:=⟨ws,js,nx⟩) nj,a15 (S:=⟨ws++[w'],js,nx⟩) ((a88 hx he gr).mpr nj)]
   show some _=some _
   rw[b3u hx he gr hw]
 . rw[(look_none (S:=⟨ws,js,nx⟩)).mpr nj,(look_none (S:=⟨ws++[w'],js,nx⟩)).mpr fun z=>nj ((a88 hx he gr).mp z)];rfl
section
variable {C:Addr}{M M':Mem}{p d1 d2 pw pd pz:Addr}{spn:Nat}{ws:List (Str×Int)}{ks:List Kn}{nx:Int}{sp:List Sp}{n:Nat}
theorem Sta.far(S:Sta C M p d1 d2 pw pd pz spn ws ks nx sp n)(h: ∀x,x=p\/x=d1\/x=d2\/x=pw\/x=pd\/x=pz->M' x=M x):Sta C M' p d1 d2 pw pd pz spn ws ks nx sp n:=
 ⟨⟨by rw[h _ (.inl rfl)];exact S.tr.self,by rw[h _ (.inr (.inl rfl))];exact S.tr.teeth,by rw[h _ (.inr (.inr (.inl rfl)))];exact S.tr.join,S.tr.ne,S.tr.lt⟩,by rw[h _ (.inr (.inr (.inr (.inl rfl))))];exact S.w1,by rw[h _ (.inr (.inr (.inr (.inr (.inl rfl)))))];exact S.k1,by rw[h _ (.inr (.inr (.inr (.inr (.inr rfl)))))];exact S.z1,S.wz,S.kd1,S.kd2,S.rw',S.nd,S.sl,S.so,S.wl,S.kl⟩
theorem Sta.sub(S:Sta C M p d1 d2 pw pd pz spn ws ks nx sp n)(sb:L2.Sub M M'):Sta C M' p d1 d2 pw pd pz spn ws ks nx sp n:=
 ⟨⟨sb _ _ S.tr.self,sb _ _ S.tr.teeth,sb _ _ S.tr.join,S.tr.ne,S.tr.lt⟩,sb _ _ S.w1,sb _ _ S.k1,sb _ _ S.z1,S.wz,S.kd1,S.kd2,S.rw',S.nd,S.sl,S.so,S.wl,S.kl⟩
def Off(x p d1 d2 pw pd pz:Addr):Prop:=x≠p/\x≠d1/\x≠d2/\x≠pw/\x≠pd/\x≠pz
theorem Sta.held(S:Sta C M p d1 d2 pw pd pz spn ws ks nx sp n){q:Addr}(h:Off q p d1 d2 pw pd pz)(o:MO):Sta C (put M q o) p d1 d2 pw pd pz spn ws ks nx sp n:=by
 obtain⟨h1,h2,h3,h4,h5,h6⟩:=h
 refine S.far fun x hx=>a0g ?_
 rcases hx with rfl |rfl |rfl |rfl |rfl |rfl
 . exact h1.symm
 . exact h2.symm
 . exact h3.symm
 . exact h4.symm
 . exact h5.symm
 . exact h6.symm
theorem Six.off{q:Addr}(s:Six p d1 d2 pw pd pz M M')(h:Off q p d1 d2 pw pd pz):M' q=M q:=s q h.1 h.2.1 h.2.2.1 h.2.2.2.1 h.2.2.2.2.1 h.2.2.2.2.2
end
theorem b5u(ks:List Kn):(ks.map eKn).map (fun kv=>kv.2)=(ks.map Prod.snd).map eK:=by rw[List.map_map,List.map_map];rfl
def Asks(ws:List (Str×Int))(c:Nat)(o:Option Str):Prop:=c<ws.length/\match o with |none=>c=0 |some y=>y=at_ (ws.map Prod.fst) c
theorem Asks.meant{ws:List (Str×Int)}{c:Nat}{o:Option Str}(h:Asks ws c o)(ks:List Kn)(nx:Int):meant (tsK ws ks nx) o=some (at_ (ws.map Prod.fst) c):=by
 obtain⟨h1,h2⟩:=h
 cases o with
 |none=>
   have h2:c=0:=h2
   subst h2
   show(ws.map Prod.fst).head? =some ((ws.map Prod.fst).getD 0 "")
   cases ws with
   |nil=>cases h1
   |cons _ _=>rfl
 |some y=>
   have h2:y=at_ (ws.map Prod.fst) c:=h2
   subst h2
   exact if_pos (a3r (by rw[List.length_map];exact h1))
theorem Asks.wheel{ws:List (Str×Int)}{c:Nat}{o:Option Str}(h:Asks ws c o)(w':Str×Int):Asks (ws++[w']) c o:=by
 obtain⟨h1,h2⟩:=h
 refine⟨by rw[List.length_append];omega,?_⟩
 cases o with
 |none=>exact h2
 |some y=>
   show y=at_ ((ws++[w']).map Prod.fst) c
   rw[List.map_append,List.map_cons,List.map_nil,b25 (by rw[List.length_map];exact h1)]
   exact h2
theorem Asks.deed{ws:List (Str×Int)}{c:Nat}{o:Option Str}(h:Asks ws c o)(spn:Nat)(d:Dd):Asks (d.ws spn ws) c o:=by
 cases d with
 |wheel t=>exact h.wheel _
 |less i=>exact h
 |join kd a b=>exact h
noncomputable def eH(ts:List (Option Fr)):D:= .tup [.lst (ts.map eO),.lst (ts.map eO)]
theorem a3u{ws:List (Str×Int)}(nd:(ws.map Prod.fst).Nodup){c:Nat}(h:c<ws.length):a0h ws (at_ (ws.map Prod.fst) c)=(ws[c]).2:=by
 induction ws generalizing c with
 |nil=>cases h
 |cons x ws ih=>
   rw[List.map_cons,List.nodup_cons]at nd
   cases c with
   |zero=>simp[a0h,at_]
   |succ c=>
     have hc:c<ws.length:=by simpa using h
     have e:at_ ((x::ws).map Prod.fst) (c+1)=at_ (ws.map Prod.fst) c:=rfl
     have hne:x.1≠at_ (ws.map Prod.fst) c:=fun z=>nd.1 (by rw[z];exact a3r (by simpa using hc))
     rw[e]
     have:=ih nd.2 hc
     unfold a0h at this |-
     rw[List.find?_cons,decide_eq_false hne]
     exact this
section
variable {C:Addr}{M:Mem}{p d1 d2 pw pd pz:Addr}{spn:Nat}{ws:List (Str×Int)}{ks:List Kn}{nx:Int}{sp:List Sp}{n:Nat}
theorem b50(ws:List (Str×Int))(ks:List Kn)(nx nx':Int)(k:Kn):(tsK ws (ks++[k]) nx').js=(tsK ws ks nx).js++[jnK (ws.map Prod.fst) k]:=by
 unfold tsK
 show List.map _ _=List.map _ _++_
 rw[List.map_append];rfl
theorem more_ok(S:Sta C M p d1 d2 pw pd pz spn ws ks nx sp n)(hn:n<=100){kd:Str}{a b c:Nat}(ha:a<ws.length)(hb:b<ws.length)(hc:c<ws.length){t t':TT}{bs:List Bool}{bd bh:Option (List (Option Fr))}{wy:Option (List (Int×Str))}
   (gr:Grown (tsK ws ks nx).js (at_ (ws.map Prod.fst) c) t) (cl:Closed (tsK ws ks nx).js t) (tl:t.length<=100) (nj:a1m ws (tsK ws ks nx).js t)
   (gr':Grown (tsK ws (ks++[(nx,kd,a,b)]) (nx+1)).js (at_ (ws.map Prod.fst) c) t') (cl':Closed (tsK ws (ks++[(nx,kd,a,b)]) (nx+1)).js t') (tl':t'.length<=100)
   (hbs: ∀b,bs.getD b false=true↔Hung (esOf (ks.map Prod.snd)) c b)
   (hbd: ∀i,a4y bs (.join kd a b)=some i-> ∃t',IsTree (tsK ws ks nx).js (at_ (ws.map Prod.fst) i) t'/\Grown (tsK ws ks nx).js (at_ (ws.map Prod.fst) i) t'/\Closed (tsK ws ks nx).js t'/\t'.length<=100/\bd=a2x (tsK ws ks nx) t')
   (hbh:a2x (tsK ws (ks++[(nx,kd,a,b)]) (nx+1)) t'=bh)
   (hr:bh=none-> ∃a' rs,wy=some rs/\Ring ws (tsK ws (ks++[(nx,kd,a,b)]) (nx+1)).js (at_ (ws.map Prod.fst) c) a' rs):
   b64 ws kd a b (tsO ws (a0c ws t)) bd bh ((wy.getD []).map Prod.fst) nx bs:=by
 have ht:a2b ws:=S.rw'.teeth
 have hw:=S.wl
 have nd:=S.rw'.nodup (by omega)
 have ej:=b50 ws ks nx (nx+1) (nx,kd,a,b)
 have hA:bs.getD a false=true↔at_ (ws.map Prod.fst) a∈names t:=(hbs a).trans (khang S.rw' (by omega) hc ha gr cl).symm
 have hB:bs.getD b false=true↔at_ (ws.map Prod.fst) b∈names t:=(hbs b).trans (khang S.rw' (by omega) hc hb gr cl).symm
 have ndj:(((tsK ws ks nx).js++[jnK (ws.map Prod.fst) (nx,kd,a,b)]).map Prod.fst).Nodup:=by
   rw[List.map_append,List.nodup_append]
   refine⟨(S.sound hn).nd,by simp,fun x hx y hy=> ?_⟩
   obtain⟨j,hj,rfl⟩:=List.mem_map.mp hx
   have e:y=nx:=by simpa[jnK]using hy
   have:=S.tr.lt j hj
   have:j.1<nx:=this
   omega
 have el:a2x (tsK ws (ks++[(nx,kd,a,b)]) (nx+1)) t'=a2x ⟨ws,(tsK ws ks nx).js++[jnK (ws.map Prod.fst) (nx,kd,a,b)],nx+1⟩ t':=by rw[<-ej];rfl
 rw[ej]at gr' cl' hr
 rw[el]at hbh
 refine⟨fun h1 h2=>⟨fun e=> ?_,fun u e=> ?_⟩,fun h1 h2=> ?_,fun _ _ h1 h2=> ?_,fun _ _ h1 h2=> ?_⟩
 . obtain⟨a',rs,rfl,R⟩:=hr e
   exact b7e ht ndj gr cl ⟨fun _=>hB.mp h2,fun _=>hA.mp h1⟩ nj R
 . have nj':a1m ws ((tsK ws ks nx).js++[jnK (ws.map Prod.fst) (nx,kd,a,b)]) t':=by
     refine Classical.byContradiction fun z=> ?_
     rw[e]at hbh
     have:=(look_none (S:=⟨ws,(tsK ws ks nx).js++[jnK (ws.map Prod.fst) (nx,kd,a,b)],nx+1⟩)).mpr z
     rw[hbh]at this;cases this
   have e2:=a15 (S:=⟨ws,(tsK ws ks nx).js++[jnK (ws.map Prod.fst) (nx,kd,a,b)],nx+1⟩) nj'
   rw[hbh,e]at e2
   have e2:u=tsO ws (a0c ws t'):=by injection e2
   rw[e2]
   exact a9v ht gr cl gr' cl' ⟨fun _=>hB.mp h2,fun _=>hA.mp h1⟩ nj'
 . have k1:at_ (ws.map Prod.fst) a∉names t:=fun z=>by rw[hA.mpr z]at h1;cases h1
   have k2:at_ (ws.map Prod.fst) b∉names t:=fun z=>by rw[hB.mpr z]at h2;cases h2
   obtain⟨nj',e⟩:=b7z (j:=jnK (ws.map Prod.fst) (nx,kd,a,b)) ht gr cl gr' cl' k1 k2 nj
   rw[<-hbh,a15 (S:=⟨ws,(tsK ws ks nx).js++[jnK (ws.map Prod.fst) (nx,kd,a,b)],nx+1⟩) nj']
   exact congrArg some e
 . have k2:at_ (ws.map Prod.fst) b∉names t:=fun z=>by rw[hB.mpr z]at h2;cases h2
   obtain⟨s,_,gs,cs,sl,rfl⟩:=hbd b (by simp only[a4y,h1,h2];rfl)
   rw[<-hbh,<-a3u nd ha,<-a3u nd hb]
   exact a9u (j:=jnK (ws.map Prod.fst) (nx,kd,a,b)) (nx:=nx) (nx':=nx+1) ht ha hb gr cl gs cs gr' cl' (.inl ⟨rfl,rfl⟩) (hA.mp h1) k2 nj tl sl tl' nd
 . have k2:at_ (ws.map Prod.fst) a∉names t:=fun z=>by rw[hA.mpr z]at h2;cases h2
   obtain⟨s,_,gs,cs,sl,rfl⟩:=hbd a (by simp only[a4y,h1,h2];rfl)
   rw[<-hbh,<-a3u nd ha,<-a3u nd hb]
   exact a9u (j:=jnK (ws.map Prod.fst) (nx,kd,a,b)) (nx:=nx) (nx':=nx+1) ht hb ha gr cl gs cs gr' cl' (.inr ⟨rfl,rfl⟩) (hB.mp h1) k2 nj tl sl tl' nd
theorem b5d(S:Sta C M p d1 d2 pw pd pz spn ws ks nx sp n){k:Kn}{nx':Int}{x:Str}{t t':TT}
   (gr:Grown (tsK ws ks nx).js x t) (cl:Closed (tsK ws ks nx).js t) (nj: ¬ a1m ws (tsK ws ks nx).js t) (gr':Grown (tsK ws (ks++[k]) nx').js x t') (cl':Closed (tsK ws (ks++[k]) nx').js t'): ¬ a1m ws (tsK ws (ks++[k]) nx').js t':=by
 rw[b50 ws ks nx nx' k]at gr' cl' |-
 exact fun z=>nj (a6d S.rw'.teeth (fun j hj=>List.mem_append_left _ hj) gr cl gr' cl' z).1
theorem b51(ws:List (Str×Int))(ks:List Kn)(nx:Int)(i:Int): ∀j∈(tsK ws (ks.filter fun k=>decide (k.1≠i)) nx).js,j∈(tsK ws ks nx).js/\j.1≠i:=by
 intro j hj
 obtain⟨k,hk,rfl⟩:=List.mem_map.mp hj
 obtain⟨h1,h2⟩:=List.mem_filter.mp hk
 exact⟨List.mem_map.mpr ⟨k,h1,rfl⟩,of_decide_eq_true h2⟩
theorem b4j{ws:List (Str×Int)}{ks:List Kn}{nx i:Int}{x a:Str}{rs:List (Int×Str)}(R:Ring ws (tsK ws (ks.filter fun k=>decide (k.1≠i)) nx).js x a rs):i∉rs.map Prod.fst:=by
 intro z
 obtain⟨j,hj,e⟩:=List.mem_map.mp (way_in R.way i z)
 exact(b51 ws ks nx i j hj).2 e
theorem b72(S:Sta C M p d1 d2 pw pd pz spn ws ks nx sp n)(hn:n<=100){i:Int}{c:Nat}(hc:c<ws.length){t t':TT}{bs:List Bool}
   (gr:Grown (tsK ws ks nx).js (at_ (ws.map Prod.fst) c) t) (cl:Closed (tsK ws ks nx).js t) (nj:a1m ws (tsK ws ks nx).js t)
   (gr':Grown (tsK ws (ks.filter fun k=>decide (k.1≠i)) nx).js (at_ (ws.map Prod.fst) c) t') (cl':Closed (tsK ws (ks.filter fun k=>decide (k.1≠i)) nx).js t')
   (hbs: ∀b,bs.getD b false=true↔Hung (esOf ((ks.filter fun k=>decide (k.1≠i)).map Prod.snd)) c b):
   a1m ws (tsK ws (ks.filter fun k=>decide (k.1≠i)) nx).js t'/\ ∀k,k< (tsO ws (a0c ws t)).length->(tsO ws (a0c ws t')).getD k none=if bs.getD k false=true then(tsO ws (a0c ws t)).getD k none else none:=by
 have hw:=S.wl
 have r':=(S.less i).rw'
 obtain⟨h1,h2⟩:=less_ok S.rw'.teeth (fun j hj=>(b51 ws ks nx i j hj).1) gr cl gr' cl' nj
 refine⟨h1,fun k hk=> ?_⟩
 rw[a1t]at hk
 rw[h2 k hk]
 have e:=(khang r' (by omega) hc hk gr' cl').trans (hbs k).symm
 by_cases m:at_ (ws.map Prod.fst) k∈names t'
 . rw[if_pos m,if_pos (e.mp m)]
 . rw[if_neg m,if_neg fun z=>m (e.mpr z)]
end
theorem b6u(ns:List Int)(lo hi:Option Int):cut (ns.map D.int) lo hi=((ns.drop (HT.sIx ns.length 0 lo)).take (HT.sIx ns.length ns.length hi- HT.sIx ns.length 0 lo)).map D.int:=by
 unfold cut
 rw[List.length_map,<-List.map_drop,<-List.map_take]
theorem cut_65(ns:List Int): ∃ms:List Int,cut (ns.map D.int) (some 1) (some 65)=ms.map D.int/\ms.length<=64:=by
 refine⟨_,b6u _ _ _,?_⟩
 have e1:HT.sIx ns.length 0 (some 1)=min 1 ns.length:=HT.sIx_nat _ _ 1
 have e2:HT.sIx ns.length ns.length (some 65)=min 65 ns.length:=HT.sIx_nat _ _ 65
 rw[e1,e2,List.length_take,List.length_drop]
 omega
theorem b8f(ns:List Int)(k:Nat): ∃ms:List Int,cut (ns.map D.int) none (some (k:Int))=ms.map D.int/\ms.length<=k:=by
 refine⟨_,b6u _ _ _,?_⟩
 rw[HT.sIx_nat,HT.sIx_none,List.length_take,List.length_drop]
 omega
noncomputable def knOf(js:List (Str×Nat×Nat)):List Kn:=js.mapIdx fun i j=>((i:Int),j)
theorem b2p(js:List (Str×Nat×Nat)):(knOf js).length=js.length:=List.length_mapIdx
theorem b5v(js:List (Str×Nat×Nat))(j:Str×Nat×Nat):knOf (js++[j])=knOf js++[((js.length:Int),j)]:=by
 unfold knOf;rw[List.mapIdx_append];simp
theorem b74(js:List (Str×Nat×Nat)):(knOf js).map Prod.snd=js:=by
 unfold knOf
 refine List.ext_getElem (by rw[List.length_map,List.length_mapIdx]) fun i h1 h2=> ?_
 rw[List.getElem_map,List.getElem_mapIdx]
theorem knOf_lt{js:List (Str×Nat×Nat)}{k:Kn}(h:k∈knOf js):k.1< (js.length:Int):=by
 unfold knOf at h
 obtain⟨i,hi,rfl⟩:=List.mem_mapIdx.mp h
 exact Int.ofNat_lt.mpr hi
theorem knOf_nd(js:List (Str×Nat×Nat)):((knOf js).map Prod.fst).Nodup:=by
 unfold knOf
 refine List.pairwise_iff_getElem.mpr fun i j hi hj hij=> ?_
 rw[List.getElem_map,List.getElem_map,List.getElem_mapIdx,List.getElem_mapIdx]
 intro z
 have z:(i:Int)=(j:Int):=z
 omega
theorem tsK_of(ws:List (Str×Int))(js:List (Str×Nat×Nat)):tsOf ws js=tsK ws (knOf js) js.length:=by
 unfold tsOf tsK
 congr 1
 unfold b09 knOf
 refine List.ext_getElem (by simp) fun i h1 h2=> ?_
 rw[List.getElem_map,List.getElem_mapIdx,List.getElem_mapIdx]
 rfl
section
variable {C:Addr}{M:Mem}{p d1 d2 pw pd pz:Addr}{spn:Nat}{ws:List (Str×Int)}{ks:List Kn}{nx:Int}{sp:List Sp}{n:Nat}
theorem b33{js:List (Str×Nat×Nat)}(tr:Tr C M p d1 d2 (tsOf ws js))(w1:M pw=some (.lst (ws.map eW)))(z1:M pz=some (.lst (sp.map eSp)))(wz:pw≠pz)(hpd:M pd=none)(r:Rw spn ws js)(sl:sp.length=ws.length)(so:SpOk 4000 sp)(wl:ws.length<=n)(kl:js.length<=n):
   Sta C (put M pd (.dic ((knOf js).map eKn))) p d1 d2 pw pd pz spn ws (knOf js) js.length sp n:=by
 have sb:L2.Sub M (put M pd (.dic ((knOf js).map eKn))):= .put hpd
 have tr':=tr.sub sb
 rw[tsK_of]at tr'
 exact⟨tr',sb _ _ w1,a0e,sb _ _ z1,wz,a4c tr.teeth hpd,a4c tr.join hpd,by rw[b74];exact r,knOf_nd js,sl,so,wl,by rw[b2p];exact kl⟩
theorem deed_of(S:Sta C M p d1 d2 pw pd pz spn ws ks nx sp n)(hn:n<=100){c k y:Int}{Q:AK}{E:Value->Mem->Prop}(q: ∀d:Dd,d.ok ws ks->Q (eDd spn ws.length d) M):b4c [.int c,.int k,.lst [.obj pw,.obj pd,.obj pz],.lst [.int spn,.int y]] M Q E:=by
 have hw:=S.wl
 have hk:=S.kl
 exact⟨c,k,pw,pd,pz,spn,y,ws,ks,sp,rfl,S.w1,S.k1,S.z1,S.sl,by omega,by omega,S.rw'.teeth,S.so,fun j hj=>q (.less j.1) (List.mem_map.mpr ⟨j,hj,rfl⟩),fun t h1 h2=>q (.wheel t) ⟨h1,h2⟩,fun kd a b h1 h2 h3 h4=>q (.join kd a b) ⟨h1,h2,h3,h4⟩⟩
theorem Rw.gw{js:List (Str×Nat×Nat)}(r:Rw spn ws js):Gd 2 (.lst (ws.map eW)):= .lst _ _ fun d hd=>by
 obtain⟨x,hx,rfl⟩:=List.mem_map.mp hd
 refine .tup _ _ fun e he=> ?_
 simp only[List.mem_cons,List.not_mem_nil,or_false]at he
 rcases he with rfl |rfl
 . obtain⟨k,_,e⟩:=r.name (List.mem_map.mpr ⟨x,hx,rfl⟩)
   exact .str _ _ (by rw[e];exact b5c (a2r _ _))
 . exact .int _ _
theorem Sta.gj(S:Sta C M p d1 d2 pw pd pz spn ws ks nx sp n):Gd 2 (.lst ((tsK ws ks nx).js.map eJ)):= .lst _ _ fun d hd=>by
 obtain⟨x,hx,rfl⟩:=List.mem_map.mp hd
 obtain⟨k,hk,rfl⟩:=List.mem_map.mp hx
 obtain⟨h0,h1,h2,_⟩:=S.rw'.kinds k.2 (List.mem_map.mpr ⟨k,hk,rfl⟩)
 have nm: ∀{i:Nat},i<ws.length->PySem.PyData.strOk (at_ (ws.map Prod.fst) i)=true:=fun {i} h=>by
   obtain⟨k,_,e⟩:=S.rw'.name (a3r (ns:=ws.map Prod.fst) (by rw[List.length_map];exact h))
   rw[e];exact b5c (a2r _ _)
 refine .tup _ _ fun e he=> ?_
 simp only[List.mem_cons,List.not_mem_nil,or_false]at he
 rcases he with rfl |rfl |rfl |rfl
 . exact .int _ _
 . exact .str _ _ (b5w h0)
 . exact .str _ _ (nm h1)
 . exact .str _ _ (nm h2)
end
theorem eq_obj{M:Mem}{q:Addr}{l:List D}{Q:AK}(hq:M q=some (.lst l))(g:shD (.lst l)=true)(h:Q (.bl true) M):oEq false (.lst l) (.obj q) M Q:=by
 have e:drf M (.obj q)= .lst l:=by simp only[drf,hq]
 refine⟨.inr ⟨g,by rw[e];exact g⟩,?_⟩
 have e2:eqB M (.lst l) (.obj q)=eqB M (.lst l) (.lst l):=by
   unfold eqB
   rw[e];rfl
 rw[e2,a6e (d:= .lst l) (by exact g)]
 exact h
theorem compO{fs:List Nat}{tl te:AE}{Γ:G}{M:Mem}{Q:AK}{q0:Addr}(ds:List D)(f:D->D)(htl: ∀R:AK,R (.obj q0) M->tl Γ M R)(hq:M q0=some (.lst ds))(hn:ds.length<=1000)(he: ∀x∈ds,∀(M':Mem) (R:AK),R (f x) M'->te (some x::frG fs Γ) M' R)
   (q:Q (.lst (ds.map f)) M):aFz (a3t 1 fs (iaL tl) (gaN 0) aYes te) Γ M Q:=by
 refine htl _ ?_
 have ed: ∀{M':Mem},L2.Sub M M'->dr M' (.obj q0)=some ds:=fun sb=>by simp only[dr,sb _ _ hq]
 dsimp only
 rw[ed (fun _ _ h=>h)]
 refine⟨fun i=>some (f (ds.getD i .non)),hn,fun M' hs=>⟨ed hs,fun i hi own ho=> ?_⟩,fun p hp=> ?_⟩
 . obtain⟨o,rfl⟩: ∃o,own=[o]:=by
     cases own with
     |nil=>cases ho
     |cons o l=>cases l with
       |nil=>exact⟨o,rfl⟩
       |cons _ _=>simp at ho
   refine⟨rfl,⟨[some _],rfl,rfl⟩,rfl,?_⟩
   rw[if_pos rfl]
   have hi':i<ds.length:=hi
   have e:ds.getD i .non=ds[i]:=by simp[List.getD,List.getElem?_eq_getElem hi']
   show te (some (ds.getD i .non)::frG fs Γ) M' _
   rw[e]
   exact he _ (List.getElem_mem hi') M' _ ⟨rfl,by dsimp only;rw[e]⟩
 . rw[a0e]
   dsimp only
   rw[a2l hp]
   have e:outs (fun i=>some (f (ds.getD i .non))) ds.length=ds.map f:=by
     apply List.ext_getElem?
     intro i
     have:outs (fun i=>some (f (ds.getD i .non))) ds.length=(List.range ds.length).map fun i=>f (ds.getD i .non):=by
       unfold outs
       induction List.range ds.length with
       |nil=>rfl
       |cons a l ih=>simp only[List.filterMap_cons,List.map_cons,ih]
     rw[this]
     simp only[List.getElem?_map]
     by_cases hi:i<ds.length
     . simp[List.getElem?_range hi,List.getElem?_eq_getElem hi,List.getD]
     . simp[List.getElem?_eq_none (show(List.range ds.length).length<=i by simp;omega),List.getElem?_eq_none (show ds.length<=i by omega)]
   rw[e]
   exact q
theorem eq_obj'{M:Mem}{q:Addr}{l:List D}{Q:AK}(hq:M q=some (.lst l))(g:shD (.lst l)=true)(h:Q (.bl true) M):oEq false (.obj q) (.lst l) M Q:=by
 have e:drf M (.obj q)= .lst l:=by simp only[drf,hq]
 refine⟨.inr ⟨by rw[e];exact g,g⟩,?_⟩
 have e2:eqB M (.obj q) (.lst l)=eqB M (.lst l) (.lst l):=by
   unfold eqB
   rw[e];rfl
 rw[e2,a6e (d:= .lst l) (by exact g)]
 exact h
theorem eq_nil'{M:Mem}{q:Addr}{a:D}{l:List D}{Q:AK}(hq:M q=some (.lst (a::l)))(g:shD (.lst (a::l))=true)(h:Q (.bl false) M):oEq false (.obj q) (.lst []) M Q:=by
 have e:drf M (.obj q)= .lst (a::l):=by simp only[drf,hq]
 refine⟨.inr ⟨by rw[e];exact g,show shD (.lst [])=true by decide+kernel⟩,?_⟩
 have e2:eqB M (.obj q) (.lst [])=false:=by
   unfold eqB
   rw[e];rfl
 rw[e2]
 exact h
theorem b7g{M:Mem}{p q:Addr}{a o u:MO}(h:p≠q)(hp:M p=some a):put (put (put M p o) q u) p a=put M q u:=by
 rw[a3w (Ne.symm h),a1o]
 funext x
 by_cases hq:x=q
 . subst hq;rw[a0e,a0e]
 . rw[a0g hq,a0g hq]
   by_cases hx:x=p
   . subst hx;rw[a0e,hp]
   . rw[a0g hx]
theorem s_at{ns:List Str}{i:Nat}(h:i<ns.length):atI (ns.map D.str) (i:Int)=some (.str (at_ ns i)):=by
 rw[a35 _ _ (by simpa using h),List.getElem_map]
 unfold at_
 rw[List.getD_eq_getElem?_getD,List.getElem?_eq_getElem h];rfl
def b0k(C:Addr):SpA:=fun ds M Q _=> ∃(p d1 d2 pw pd pz hq:Addr) (spn:Nat) (ws:List (Str×Int)) (ks:List Kn) (nx:Int) (sp:List Sp) (n:Nat) (d:Dd) (c:Nat) (o:Option Str) (hl:List (List (Option Fr))),ds=[.obj p,.lst [.obj pw,.obj pd,.obj pz],eDd spn ws.length d,.int c,encN o,.obj hq]/\Sta C M p d1 d2 pw pd pz spn ws ks nx sp n/\n<90/\d.ok ws ks/\Asks ws c o/\M hq=some (.lst (hl.map eH))/\hl.length<=10/\Off hq p d1 d2 pw pd pz/\
 ∀(M':Mem) (hl':List (List (Option Fr))),Sta C M' p d1 d2 pw pd pz spn (d.ws spn ws) (d.ks nx ks) (d.nx nx) (d.sp sp) (n+1)->M' hq=some (.lst (hl'.map eH))->hl'.length<=hl.length+1->Q (.bl true) M'
theorem a9q{f C:Addr}{fd:FuncData}{EC:Rk->Addr}(Fn:Fun K "_law_asked" "_law_asked" a4a f fd)(T:Txt K mg)
   (h_law_hung:Has P w K mg base (CXE P w) 1 "_law_hung" ["_law_many","_law_joins","_law_start"] (a0m K b13)) (h_law_look:Has P w K mg base (CXE P w) 47 "_law_look" ["_law_train_here","_law_name_here"] (a0m K (b11 C))) (h_law_beside:Has P w K mg base (CXE P w) 48 "_law_beside" ["_law_train_here","_law_deed_here","_law_hung_here","_law_wheels"] (a0m K (a8f C)))
   (h_law_do:Has P w K mg base (CXE P w) 3 "_law_do" ["_law_train_here","_law_state","_law_deed_here"] (a0m K (spDo C))) (h_ring:HasD P w K mg base 44 "ring" ["train","name"] (a0m K (b10 C EC))) (h_law_numbers:Has P w K mg base (CXE P w) 1 "_law_numbers" ["_law_way"] (a0m K a6i))
   (h_law_less:Has P w K mg base (CXE P w) 1 "_law_less" ["_law_before","_law_behind","_law_hung_here"] (a0m K b39)) (h_law_more:Has P w K mg base (CXE P w) 3 "_law_more" ["_law_deed_here","_law_before","_law_beside_here","_law_behind","_law_numbers_here","_law_number","_law_hung_here","_law_wheels"] (a0m K b38)):
   FnOk P w K mg base (CXE P w) 49 f fd ["_law_train_here","_law_state","_law_deed_here","_law_drawn","_law_name_here","_law_held"] (a0m K (b0k C)):=by
 refine Fn.okA sc_law_asked (fun ds M Q E h=> ?_) ?_
 . obtain⟨_,_,_,_,_,_,_,_,_,_,_,_,_,_,_,_,_,rfl,_⟩:=h;rfl
 intro cdv A outer s H E F0 ds M Q Ea hr ct hsp
 obtain⟨p,d1,d2,pw,pd,pz,hq,spn,ws,ks,nx,sp,n,d,c,o,hl,rfl,S,hn,ok,as,hh,hhl,off,q⟩:=hsp
 refine⟨_,(a0b (sSet (i:=6) sc_law_asked.nd rfl (Or.inl rfl) (a01 h_law_hung (hr.mono (by decide)) (by rfl) ct (a0a (a0w a0q lLen (by rfl) T.len PySem.boot_len (a0a (paIx a0d lIx (paV (pv 1)) paI (fun _ _=>rfl)) a0i)) (a0a (paFz (b40 T.list rfl (by rfl) (paIx a0d lIx (paV (pv 1)) paI (fun _ _=>rfl)))) (a0a (paV (pv 3)) a0i)))))
     (a0b (sSet (i:=7) sc_law_asked.nd rfl (Or.inl rfl) (a01 h_law_look (hr.mono (by decide)) (by rfl) ct (a0a (paV (pv 0)) (a0a (paV (pv 4)) a0i))))
     (a0b (sIf (a0r a3c a4w (paV (pv 7)) paN (a0k _))
       (a0j (a2i (paBM PySem.F.plainAttrs_list PySem.F.slot_list_append PySem.F.type_list_append a1e a1x (paV (pv 5)) (a0a (a1w (a0a (paV (pv 7)) (a0a (a8r a97 lList (by rfl) T.list boot_list (a0a (paV (pv 7)) a0i)) a0i))) a0i))))
       a0t)
     (a0b (sSet (i:=8) sc_law_asked.nd rfl (Or.inl rfl) (a01 h_law_beside (hr.mono (by decide)) (by rfl) ct (a0a (paV (pv 0)) (a0a (paV (pv 2)) (a0a (paV (pv 6)) (a0a (paIx a0d lIx (paV (pv 1)) paI (fun _ _=>rfl)) a0i))))))
     (a0b (sSet (i:=9) sc_law_asked.nd rfl (Or.inl rfl) (a01 h_law_do (hr.mono (by decide)) (by rfl) ct (a0a (paV (pv 0)) (a0a (paV (pv 1)) (a0a (paV (pv 2)) a0i)))))
     (a0b (sSet (i:=10) sc_law_asked.nd rfl (Or.inl rfl) (a01 h_law_look (hr.mono (by decide)) (by rfl) ct (a0a (paV (pv 0)) (a0a (paV (pv 4)) a0i))))
     (a0b (sSet (i:=11) sc_law_asked.nd rfl (Or.inl rfl) (paFzN (a01 h_ring.all (hr.mono (by decide)) (by rfl) ct (a0a (paV (pv 0)) (a0a (paV (pv 4)) a0i)))))
     (a0b (sIf (a0r (a2j (un64 ct)) lNe (a2n a13 lIs (paV (pv 10)) paN (a0k _)) (a2n a3c a4w (paV (pv 11)) paN (a0k _)) (a0k _))
       (a0j (sRet paB))
       a0t)
     (a0b (sSet (i:=12) sc_law_asked.nd rfl (Or.inl rfl) (a01 h_law_numbers (hr.mono (by decide)) (by rfl) ct (a0a (paV (pv 11)) a0i)))
     (a0b (sIf (a0r (a03 (un64 ct)) lEq (paIx a0d lIx (paV (pv 2)) paI (fun _ _=>rfl)) paS (a0k _))
       (a0j (sRet (paOr (b42 (a2n a13 lIs (paV (pv 7)) paN (a0k _)) (b0p (a2n a13 lIs (paV (pv 10)) paN (a0k _)))) (b0p (b42 (a2n a3c a4w (paV (pv 7)) paN (a0k _)) (b0p (a2n (a03 (un64 ct)) lEq (paV (pv 10)) (paOp op_cat lCat (paV (pv 7)) (a4b (a0a paN a0i))) (a0k _))))))))
       a0t)
     (a0b (sIf (a0r (a03 (un64 ct)) lEq (paIx a0d lIx (paV (pv 2)) paI (fun _ _=>rfl)) paS (a0k _))
       (a0b (sIf (a0r a13 lIs (paV (pv 7)) paN (a0k _))
         (a0j (sRet (paOr (a2n a3c a4w (paV (pv 10)) paN (a0k _)) (b0p (a2n a6q b5s (paV (pv 9)) (paV (pv 12)) (by with_unfolding_all rfl))))))
         a0t)
       (a0j (sRet (a01 h_law_less (hr.mono (by decide)) (by rfl) ct (a0a (paV (pv 7)) (a0a (paV (pv 10)) (a0a (a01 h_law_hung (hr.mono (by decide)) (by rfl) ct (a0a (a0w a0q lLen (by rfl) T.len PySem.boot_len (a0a (paIx a0d lIx (paV (pv 1)) paI (fun _ _=>rfl)) a0i)) (a0a (paFz (b40 T.list rfl (by rfl) (paIx a0d lIx (paV (pv 1)) paI (fun _ _=>rfl)))) (a0a (paV (pv 3)) a0i)))) a0i)))))))
       a0t)
     (a0b (sIf (a0r a13 lIs (paV (pv 7)) paN (a0k _))
       (a0j (sRet (a2n a13 lIs (paV (pv 10)) paN (a0k _))))
       a0t)
     (a0j (sRet (a01 h_law_more (hr.mono (by decide)) (by rfl) ct (a0a (paV (pv 2)) (a0a (paV (pv 7)) (a0a (paV (pv 8)) (a0a (paV (pv 10)) (a0a (paV (pv 12)) (a0a (paV (pv 9)) (a0a (paV (pv 6)) (a0a (paIx a0d lIx (paV (pv 1)) paI (fun _ _=>rfl)) a0i))))))))))))))))))))))),?_⟩
 have hwl:=S.wl
 have hkl:=S.kl
 generalize hst:D.lst [.obj pw,.obj pd,.obj pz]=st at *
 generalize hdd:eDd spn ws.length d=dd' at *
 refine cut1 (fun Γ' M1=>M1=M/\ ∃bs:List Bool,bs.length=ws.length/\(∀b,bs.getD b false=true↔Hung (esOf (ks.map Prod.snd)) c b)/\Γ'=[some (.obj p),some st,some dd',some (.int c),some (encN o),some (.obj hq),some (.lst (bs.map D.bl)),none,none,none,none,none,none]) ?_ ?_
 rotate_left
 . intro rest hrest
   subst hst
   simp! only[S.w1,List.length_map]
   refine b4m (fun R h=>by simp! only[];exact h) S.k1 ?_
   rw[b5u]
   simp! only[b13]
   exact⟨ws.length,ks.map Prod.snd,c,rfl,by omega,as.1,fun j hj'=>⟨(S.rw'.kinds j hj').2.1,(S.rw'.kinds j hj').2.2.1⟩,fun bs h1 h2=>hrest _ _ ⟨rfl,bs,h1,h2,rfl⟩⟩
 rintro Γ' M1 ⟨rfl,bs,hbl,hbs,rfl⟩
 refine cut1 (fun Γ' M2=>L2.Sub M1 M2/\ ∃t,IsTree (tsK ws ks nx).js (at_ (ws.map Prod.fst) c) t/\Grown (tsK ws ks nx).js (at_ (ws.map Prod.fst) c) t/\Closed (tsK ws ks nx).js t/\t.length<=100/\Γ'=[some (.obj p),some st,some dd',some (.int c),some (encN o),some (.obj hq),some (.lst (bs.map D.bl)),some (encL (a2x (tsK ws ks nx) t)),none,none,none,none,none]) ?_ ?_
 rotate_left
 . intro rest hrest
   simp! only[]
   exact a8y S.tr (S.sound (by omega)) (as.meant ks nx) fun t h1 h2 h3 h4 M' sb=>hrest _ _ ⟨sb,t,h1,h2,h3,h4,rfl⟩
 rintro Γ' M2 ⟨sb2,t,ist,gr,cl,tl,rfl⟩
 have S2:=S.sub sb2
 have hh2:=sb2 _ _ hh
 generalize hbf:a2x (tsK ws ks nx) t=bf at *
 refine cut1 (fun Γ' M3=> ∃hl':List (List (Option Fr)),M3 hq=some (.lst (hl'.map eH))/\hl'.length<=hl.length+1/\Sta C M3 p d1 d2 pw pd pz spn ws ks nx sp n/\Γ'=[some (.obj p),some st,some dd',some (.int c),some (encN o),some (.obj hq),some (.lst (bs.map D.bl)),some (encL bf),none,none,none,none,none]) ?_ ?_
 rotate_left
 . intro rest hrest
   cases bf with
   |none=>
     refine a0x (fun R h=>by simp! only[encL];exact h) ?_
     exact hrest _ _ ⟨hl,hh2,Nat.le_succ _,S2,rfl⟩
   |some l=>
     refine a1a (fun R h=>by simp! only[encL];exact h) ?_
     refine b6n .non (put M2 hq (.lst ((hl++[l]).map eH))) (fun R' h=> ?_) (hrest _ _ ⟨hl++[l],a0e,by simp,S2.held off _,rfl⟩)
     simp! only[aBM,a3e,hh2,encL,oAppend,List.length_map]
     rw[List.map_append]at h
     simp only[oList,dr,a1j,hh2,List.length_map]
     first
       |exact⟨by decide,by omega,h⟩
       | (refine⟨?_,by decide,by omega,h⟩;rw[a1t];omega)
 rintro Γ' M3 ⟨hl',hh3,hhl3,S3,rfl⟩
 refine cut1 (fun Γ' M4=>L2.Sub M3 M4/\ ∃bd:Option (List (Option Fr)),(∀i,a4y bs d=some i-> ∃t',IsTree (tsK ws ks nx).js (at_ (ws.map Prod.fst) i) t'/\Grown (tsK ws ks nx).js (at_ (ws.map Prod.fst) i) t'/\Closed (tsK ws ks nx).js t'/\t'.length<=100/\bd=a2x (tsK ws ks nx) t')/\Γ'=[some (.obj p),some st,some dd',some (.int c),some (encN o),some (.obj hq),some (.lst (bs.map D.bl)),some (encL bf),some (encL bd),none,none,none,none]) ?_ ?_
 rotate_left
 . intro rest hrest
   subst hst hdd
   simp! only[a8f]
   refine⟨p,d1,d2,pw,pd,pz,spn,ws,ks,nx,sp,n,d,bs,rfl,S3,by omega,ok,hbl,?_⟩
   cases hf:a4y bs d with
   |none=>exact hrest _ _ ⟨fun _ _ z=>z,none,(fun i z=>by rw[hf]at z;cases z),rfl⟩
   |some i=>
     intro t' k1 k2 k3 k4 M' sb
     exact hrest _ _ ⟨sb,_,(fun i' z=>by rw[hf]at z;cases z;exact⟨t',k1,k2,k3,k4,rfl⟩),rfl⟩
 rintro Γ' M4 ⟨sb4,bd,hbd,rfl⟩
 have S4:=S3.sub sb4
 have hh4:=sb4 _ _ hh3
 refine cut1 (fun Γ' M5=>M5 hq=some (.lst (hl'.map eH))/\Sta C M5 p d1 d2 pw pd pz spn (d.ws spn ws) (d.ks nx ks) (d.nx nx) (d.sp sp) (n+1)/\Γ'=[some (.obj p),some st,some dd',some (.int c),some (encN o),some (.obj hq),some (.lst (bs.map D.bl)),some (encL bf),some (encL bd),some (.int (d.told nx)),none,none,none]) ?_ ?_
 rotate_left
 . intro rest hrest
   subst hst hdd
   simp! only[spDo]
   exact⟨p,d1,d2,pw,pd,pz,spn,ws,ks,nx,sp,n,d,rfl,S4,hn,ok,fun M' six S'=>hrest _ _ ⟨by rw[six.off off];exact hh4,S',rfl⟩⟩
 rintro Γ' M5 ⟨hh5,S5,rfl⟩
 have as5:=as.deed spn d
 refine cut1 (fun Γ' M6=>L2.Sub M5 M6/\ ∃t',IsTree (tsK (d.ws spn ws) (d.ks nx ks) (d.nx nx)).js (at_ ((d.ws spn ws).map Prod.fst) c) t'/\Grown (tsK (d.ws spn ws) (d.ks nx ks) (d.nx nx)).js (at_ ((d.ws spn ws).map Prod.fst) c) t'/\Closed (tsK (d.ws spn ws) (d.ks nx ks) (d.nx nx)).js t'/\t'.length<=100/\Γ'=[some (.obj p),some st,some dd',some (.int c),some (encN o),some (.obj hq),some (.lst (bs.map D.bl)),some (encL bf),some (encL bd),some (.int (d.told nx)),some (encL (a2x (tsK (d.ws spn ws) (d.ks nx ks) (d.nx nx)) t')),none,none]) ?_ ?_
 rotate_left
 . intro rest hrest
   simp! only[]
   exact a8y S5.tr (S5.sound (by omega)) (as5.meant _ _) fun t h1 h2 h3 h4 M' sb=>hrest _ _ ⟨sb,t,h1,h2,h3,h4,rfl⟩
 rintro Γ' M6 ⟨sb6,t',ist',gr',cl',tl',rfl⟩
 have S6:=S5.sub sb6
 have hh6:=sb6 _ _ hh5
 refine cut1 (fun Γ' M7=>M7=M6/\ ∃wy:Option (List (Int×Str)),(a1m (d.ws spn ws) (tsK (d.ws spn ws) (d.ks nx ks) (d.nx nx)).js t'->wy=none)/\(¬ a1m (d.ws spn ws) (tsK (d.ws spn ws) (d.ks nx ks) (d.nx nx)).js t'-> ∃a rs,wy=some rs/\Ring (d.ws spn ws) (tsK (d.ws spn ws) (d.ks nx ks) (d.nx nx)).js (at_ ((d.ws spn ws).map Prod.fst) c) a rs/\rs.length<=500)/\Γ'=[some (.obj p),some st,some dd',some (.int c),some (encN o),some (.obj hq),some (.lst (bs.map D.bl)),some (encL bf),some (encL bd),some (.int (d.told nx)),some (encL (a2x (tsK (d.ws spn ws) (d.ks nx ks) (d.nx nx)) t')),some (encR wy),none]) ?_ ?_
 rotate_left
 . intro rest hrest
   simp! only[aFzN,b10]
   have sd:=S6.sound (by omega)
   refine⟨p,d1,d2,_,o,rfl,S6.tr,sd.fit,sd.nd,sd.une,?_⟩
   rw[as5.meant]
   intro t2 i2 g2 c2 l2
   obtain rfl:=i2.one ist'
   cases hf:(tsK (d.ws spn ws) (d.ks nx ks) (d.nx nx)).js.find? (a1s (tsK (d.ws spn ws) (d.ks nx ks) (d.nx nx)).ws (a0c (tsK (d.ws spn ws) (d.ks nx ks) (d.nx nx)).ws t2))with
   |none=>exact hrest _ _ ⟨rfl,none,fun _=>rfl,fun z=>absurd (jam_iff.mp hf) z,rfl⟩
   |some j=>
     intro a rs R hrl r hr'
     simp only[a0e,a2l hr']
     exact hrest _ _ ⟨rfl,some rs,(fun z=>by have:=hf.symm.trans (jam_iff.mpr z);cases this),fun _=>⟨a,rs,rfl,R,hrl⟩,rfl⟩
 rintro Γ' M7 ⟨rfl,wy,wn,wj,rfl⟩
 generalize hbh:a2x (tsK (d.ws spn ws) (d.ks nx ks) (d.nx nx)) t'=bh at *
 have two:(bh=none/\ ¬ a1m (d.ws spn ws) (tsK (d.ws spn ws) (d.ks nx ks) (d.nx nx)).js t'/\ ∃a rs,wy=some rs/\Ring (d.ws spn ws) (tsK (d.ws spn ws) (d.ks nx ks) (d.nx nx)).js (at_ ((d.ws spn ws).map Prod.fst) c) a rs/\rs.length<=500)\/(a1m (d.ws spn ws) (tsK (d.ws spn ws) (d.ks nx ks) (d.nx nx)).js t'/\wy=none/\bh=some (tsO (d.ws spn ws) (a0c (d.ws spn ws) t'))):=by
   by_cases nj:a1m (d.ws spn ws) (tsK (d.ws spn ws) (d.ks nx ks) (d.nx nx)).js t'
   . exact .inr ⟨nj,wn nj,by rw[<-hbh];exact a15 (S:=tsK (d.ws spn ws) (d.ks nx ks) (d.nx nx)) nj⟩
   . exact .inl ⟨by rw[<-hbh];exact(look_none (S:=tsK (d.ws spn ws) (d.ks nx ks) (d.nx nx))).mpr nj,nj,wj nj⟩
 refine a0x (fun R h=>by
   rcases two with⟨rfl,_,a,rs,rfl,_⟩ | ⟨_,rfl,e⟩
   . simp! only[encL,encR];exact h
   . rw[e];simp! only[encL,encR];exact h) ?_
 have hnl:((wy.getD []).map Prod.fst).length<=500:=by
   rcases two with⟨_,_,a,rs',e',_,l⟩ | ⟨_,e',_⟩
   . rw[e',List.length_map];exact l
   . rw[e'];exact Nat.zero_le _
 refine cut1 (fun Γ' M8=>M8=M7/\Γ'=[some (.obj p),some st,some dd',some (.int c),some (encN o),some (.obj hq),some (.lst (bs.map D.bl)),some (encL bf),some (encL bd),some (.int (d.told nx)),some (encL bh),some (encR wy),some (.lst (((wy.getD []).map Prod.fst).map iI))]) ?_ ?_
 rotate_left
 . intro rest hrest
   simp! only[a6i]
   refine⟨wy,rfl,fun rs e=> ?_,hrest _ _ ⟨rfl,rfl⟩⟩
   rw[e,List.length_map]at hnl;exact hnl
 rintro Γ' M8 ⟨rfl,rfl⟩
 have fin:=q M8 hl' S6 hh6 hhl3
 have hc:=as.1
 have nj: ∀l,bf=some l->a1m ws (tsK ws ks nx).js t/\l=tsO ws (a0c ws t):=fun l e=>by
   have k1:a1m ws (tsK ws ks nx).js t:=Classical.byContradiction fun z=>by
     have:=(look_none (S:=tsK ws ks nx)).mpr z
     rw[hbf,e]at this;cases this
   refine⟨k1,?_⟩
   have:=a15 (S:=tsK ws ks nx) k1
   rw[hbf,e]at this
   injection this
 cases d with
 |wheel t0=>
   subst hdd
   refine a1a (fun R h=>by simp! only[eDd];exact h) ?_
   have hx:at_ (ws.map Prod.fst) c∈ws.map Prod.fst:=a3r (by rw[List.length_map];exact hc)
   have e1:tsK (Dd.ws spn (.wheel t0) ws) (Dd.ks nx (.wheel t0) ks) (Dd.nx (.wheel t0) nx)=⟨ws++[(a1l spn ws.length,t0)],(tsK ws ks nx).js,nx⟩:=a9b S.rw' _
   have e2:at_ ((Dd.ws spn (.wheel t0) ws).map Prod.fst) c=at_ (ws.map Prod.fst) c:=by
     show at_ ((ws++[_]).map Prod.fst) c=_
     rw[List.map_append,List.map_cons,List.map_nil]
     exact b25 (by rw[List.length_map];exact hc)
   rw[e1,e2]at ist'
   rw[e1]at hbh
   obtain rfl:=ist.one ist'
   have hw:a1l spn ws.length∉ws.map Prod.fst:=by
     have:=(S.rw'.wheel ok.1 ok.2).nodup (by rw[List.length_append];simp;omega)
     rw[List.map_append,List.nodup_append]at this
     exact fun z=>this.2.2 _ z _ (by simp) rfl
   have e3:=b3r (w':=(a1l spn ws.length,t0)) (nx:=nx) hx (S.sound (by omega)).fit.ends gr hw
   have e4:bh=bf.map (· ++[none]):=by rw[<-hbh,<-hbf];exact e3
   subst e4
   cases bf with
   |none=>
     simp! only[encL,Option.map]
     exact .now fin
   |some l=>
     have g1:=gd_os (l++[none])
     simp! only[encL,Option.map]
     have e5:l.map eO++[D.non]=(l++[none]).map eO:=by rw[List.map_append];rfl
     rw[if_pos (show(!false)=true from rfl)]
     refine⟨by decide,by rw[List.length_map,(nj l rfl).2,a1t];omega,?_⟩
     rw[e5]
     exact a4z g1.sh (.now fin)
 |less i=>
   subst hdd
   refine a0x (fun R h=>by simp! only[eDd];exact h) ?_
   refine a1a (fun R h=>by simp! only[eDd];exact h) ?_
   cases bf with
   |none=>
     refine a1a (fun R h=>by simp! only[encL];exact h) ?_
     rcases two with⟨rfl,_,a,rs,rfl,R,_⟩ | ⟨_,rfl,rfl⟩
     . have:=b4j R
       simp! only[encL,b59,b2v,Option.getD,Dd.told,decide_eq_false this]
       exact .now fin
     . simp! only[encL]
       exact .now fin
   |some l=>
     obtain⟨nj1,rfl⟩:=nj _ rfl
     refine a0x (fun R h=>by simp! only[encL];exact h) ?_
     subst hst
     simp! only[S6.w1,List.length_map]
     refine b4m (fun R h=>by simp! only[];exact h) S6.k1 ?_
     rw[b5u]
     simp! only[b13]
     refine⟨ws.length,(Dd.ks nx (.less i) ks).map Prod.snd,c,rfl,by omega,as.1,fun j hj'=>⟨(S6.rw'.kinds j hj').2.1,(S6.rw'.kinds j hj').2.2.1⟩,fun bs2 h1 h2=> ?_⟩
     obtain⟨nj',hh⟩:=b72 S (by omega) hc gr cl nj1 gr' cl' h2
     rcases two with⟨_,z,_⟩ | ⟨_,rfl,rfl⟩
     . exact absurd nj' z
     simp! only[encL,b39]
     exact⟨_,_,bs2,rfl,by rw[a1t];omega,by rw[a1t,a1t];rfl,by rw[h1,a1t],hh,.now fin⟩
 |join kd a b=>
   subst hdd
   obtain⟨hk,ha,hb,ne⟩:=ok
   refine a0x (fun R h=>by simp! only[eDd];exact h) ?_
   refine a0x (fun R h=>by simp! only[eDd];exact h) ?_
   cases bf with
   |none=>
     refine a1a (fun R h=>by simp! only[encL];exact h) ?_
     have nn:=b5d S gr cl (look_none.mp hbf) gr' cl'
     rcases two with⟨rfl,_⟩ | ⟨nj',_⟩
     . simp! only[encL]
       exact .now fin
     . exact absurd nj' nn
   |some l=>
     obtain⟨nj1,rfl⟩:=nj _ rfl
     refine a0x (fun R h=>by simp! only[encL];exact h) ?_
     subst hst
     have mo:b64 ws kd a b (tsO ws (a0c ws t)) bd bh ((wy.getD []).map Prod.fst) nx bs:=more_ok S (by omega) ha hb hc gr cl tl nj1 gr' cl' tl' hbs hbd hbh fun e=>by
       rcases two with⟨_,_,a,rs,e',R,_⟩ | ⟨_,_,z⟩
       . exact⟨a,rs,e',R⟩
       . rw[e]at z;cases z
     simp! only[encL,eDd,b38]
     exact⟨kd,a,b,_,bd,bh,_,nx,bs,pw,ws,rfl,S6.w1,by rw[a1t];omega,ha,hb,hbl,hnl,mo,.now fin⟩
theorem ok_law{f C:Addr}{fd:FuncData}(Fn:Fun K "law" "law" a8k f fd)(T:Txt K mg)(h_law_cell_at:Has P w K mg base (CXE P w) 1 "_law_cell_at" ["_law_script","_law_k"] (a0m K b4d))
   (h_law_rows:Has P w K mg base (CXE P w) 4 "_law_rows" ["_law_cells","_law_start"] (a0m K b36)) (h_law_train:Has P w K mg base (CXE P w) 3 "_law_train" ["_law_wheels","_law_joins"] (a0m K (b0i C)))
   (h_wheels:HasM P w K mg base (CXE P w) 1 C "wheels" ["self"] (a0m K (a2o C))) (h_joins:HasM P w K mg base (CXE P w) 1 C "joins" ["self"] (a0m K (a36 C)))
   (h_law_deed:Has P w K mg base (CXE P w) 4 "_law_deed" ["_law_cell","_law_k","_law_state","_law_following"] (a0m K b4c)) (h_law_do:Has P w K mg base (CXE P w) 3 "_law_do" ["_law_train_here","_law_state","_law_deed_here"] (a0m K (spDo C)))
   (h_law_asked:Has P w K mg base (CXE P w) 49 "_law_asked" ["_law_train_here","_law_state","_law_deed_here","_law_drawn","_law_name_here","_law_held"] (a0m K (b0k C))):FnOk P w K mg base (CXE P w) 50 f fd ["_law_script"] (a0m K spTrue):=by
 refine Fn.okA sc_law (fun ds M Q E h=> ?_) ?_
 . obtain⟨a,rfl,_⟩:=h;rfl
 intro cdv A outer s H E F0 ds M Q Ea hr ct hsp
 obtain⟨sc,rfl,hsc,q⟩:=hsp
 refine⟨_,(a0b (sSet (i:=1) sc_law.nd rfl (Or.inl rfl) (a01 h_law_cell_at (hr.mono (by decide)) (by rfl) ct (a0a (paV (pv 0)) (a0a paI a0i))))
     (a0b (sSet (i:=2) sc_law.nd rfl (Or.inl rfl) (paSl b15 lSl (paV (pv 0)) (poS paI) (poS paI)))
     (a0b (sSet (i:=3) sc_law.nd rfl (Or.inl rfl) (paOp a2k lDiv (paOp a08 lAdd (a0w a0q lLen (by rfl) T.len PySem.boot_len (a0a (paV (pv 2)) a0i)) paI) paI))
     (a0b (sAsg (a01 h_law_rows (hr.mono (by decide)) (by rfl) ct (a0a (paSl b15 lSl (paV (pv 2)) poN (poS (paV (pv 3)))) (a0a (paV (pv 1)) a0i))) (tgLst rfl (a00 (a0v (i:=4) sc_law.nd rfl (Or.inl rfl)) (a00 (a0v (i:=5) sc_law.nd rfl (Or.inl rfl)) (a00 (a0v (i:=6) sc_law.nd rfl (Or.inl rfl)) a3i)))))
     (a0b (sSet (i:=7) sc_law.nd rfl (Or.inl rfl) (a01 h_law_train (hr.mono (by decide)) (by rfl) ct (a0a (paV (pv 4)) (a0a (paV (pv 5)) a0i))))
     (a0b (sSet (i:=8) sc_law.nd rfl (Or.inl rfl) (a4b (a0a (paV (pv 4)) (a0a b2c (a0a (paV (pv 6)) a0i)))))
     (a0b (sFor ct (a5l rfl T.range (a0a (a0w a0q lLen (by rfl) T.len PySem.boot_len (a0a (paV (pv 5)) a0i)) a0i)) (a0v (i:=9) sc_law.nd rfl (Or.inl rfl))
       (a0j (b0n (un1 ct) (paIx a0d lIx (paV (pv 8)) paI (fun _ _=>rfl)) (paV (pv 9)) (paIx a0d lIx (paV (pv 5)) (paV (pv 9)) (fun _ _=>rfl)) rfl)))
     (a0b (sIf (a0r (a03 (un64 ct)) lEq (paV (pv 4)) (a4b a0i) (a0k _))
       (a0j (sRet (b42 (a2n (a03 (un64 ct)) lEq (paFz (a2f h_wheels (hr.mono (by decide)) ct (paV (pv 7)))) (a4b a0i) (a0k _)) (b0p (a2n (a03 (un64 ct)) lEq (paFz (a2f h_joins (hr.mono (by decide)) ct (paV (pv 7)))) (a4b a0i) (a0k _))))))
       a0t)
     (a0b (sSet (i:=10) sc_law.nd rfl (Or.inl rfl) (paOp a04 lMod (paOp a2k lDiv (paV (pv 1)) paI) (a0w a0q lLen (by rfl) T.len PySem.boot_len (a0a (paV (pv 4)) a0i))))
     (a0b (sSet (i:=11) sc_law.nd rfl (Or.inl rfl) (paIx a0d lIx (paIx a0d lIx (paV (pv 4)) (paV (pv 10)) (fun _ _=>rfl)) paI (fun _ _=>rfl)))
     (a0b (sIf ((a7c (a0r (a03 (un64 ct)) lEq (paV (pv 10)) paI (a0k _)) (a31 (a0r (a03 (un64 ct)) lEq (paOp a04 lMod (paV (pv 1)) paI) paI (a0k _))))).pt
       (a0j (sSet (i:=11) sc_law.nd rfl (Or.inl rfl) paN))
       a0t)
     (a0b (sSet (i:=12) sc_law.nd rfl (Or.inl rfl) paI)
     (a0b (sSet (i:=13) sc_law.nd rfl (Or.inl rfl) (a4q a0i))
     (a0b (sFor ct (iRange2 rfl T.range (a0a (paV (pv 3)) (a0a (a0w a0q lLen (by rfl) T.len PySem.boot_len (a0a (paV (pv 2)) a0i)) a0i))) (a0v (i:=9) sc_law.nd rfl (Or.inl rfl))
       (a0b (sSet (i:=14) sc_law.nd rfl (Or.inl rfl) (a01 h_law_deed (hr.mono (by decide)) (by rfl) ct (a0a (paIx a0d lIx (paV (pv 2)) (paV (pv 9)) (fun _ _=>rfl)) (a0a (paV (pv 9)) (a0a (paV (pv 8)) (a0a (a4b (a0a (paOp a04 lMod (paOp a2k lDiv (paV (pv 1)) paI) paI) (a0a (paOp a04 lMod (paOp a2k lDiv (paV (pv 1)) paI) paI) a0i))) a0i))))))
       (a0j (sIf ((a7c (a0r (a03 (un64 ct)) lEq (paOp a04 lMod (paOp a08 lAdd (paOp a2k lDiv (paIx a0d lIx (paV (pv 2)) (paV (pv 9)) (fun _ _=>rfl)) paI) (paV (pv 9))) paI) paI (a0k _)) (a31 (a0r a7f lLt (paV (pv 12)) paI (a0k _))))).pt
         (a0b (sSet (i:=12) sc_law.nd rfl (Or.inl rfl) (paOp a08 lAdd (paV (pv 12)) paI))
         (a0j (sIf (a9g (ptV (a01 h_law_asked (hr.mono (by decide)) (by rfl) ct (a0a (paV (pv 7)) (a0a (paV (pv 8)) (a0a (paV (pv 14)) (a0a (paV (pv 10)) (a0a (paV (pv 11)) (a0a (paV (pv 13)) a0i)))))))))
           (a0j (sRet paB))
           a0t)))
         (a0j (a2i (a01 h_law_do (hr.mono (by decide)) (by rfl) ct (a0a (paV (pv 7)) (a0a (paV (pv 8)) (a0a (paV (pv 14)) a0i))))))))))
     (a0b (sFor ct (a3h (paV (pv 13))) (a69 rfl (a00 (a0v (i:=15) sc_law.nd rfl (Or.inl rfl)) (a00 (a0v (i:=16) sc_law.nd rfl (Or.inl rfl)) a3i)))
       (a0j (sIf (a0r (a2j (un64 ct)) lNe (paV (pv 15)) (paV (pv 16)) (a0k _))
         (a0j (sRet paB))
         a0t)))
     (a0b (b4i (i:=17) sc_law.nd rfl rfl (Nc:=["_law_row"]) (n:=1) (fs:=[]) b8g rfl (a3h (paIx a0d lIx (paV (pv 8)) paI (fun _ _=>rfl))) (fun _ _ _ _ _=>(a0v (i:=0) (show List.Nodup (["_law_row"]:List Str)by decide+kernel) rfl (Or.inl rfl))) (fun _ _ _ _ _=>b6j) (fun _ _ _ _ _=>(paIx a0d lIx (paV (pv 0)) paI (fun _ _=>rfl))) (by rfl))
     (a0b (sSet (i:=18) sc_law.nd rfl (Or.inl rfl) (a4q a0i))
     (a0b (sForI ct (paIx a0d lIx (paV (pv 8)) paI (fun _ _=>rfl)) (a69 rfl (a00 (a0v (i:=19) sc_law.nd rfl (Or.inl rfl)) (a00 (a0v (i:=20) sc_law.nd rfl (Or.inl rfl)) a3i)))
       (a0j (a2i (paBM PySem.F.plainAttrs_list PySem.F.slot_list_append PySem.F.type_list_append a1e a1x (paV (pv 18)) (a0a (a1w (a0a (paV (pv 19)) (a0a (paIx a0d lIx (paV (pv 20)) paI (fun _ _=>rfl)) (a0a (paIx a0d lIx (paV (pv 17)) (paIx a0d lIx (paV (pv 20)) paI (fun _ _=>rfl)) (fun _ _=>rfl)) (a0a (paIx a0d lIx (paV (pv 17)) (paIx a0d lIx (paV (pv 20)) paI (fun _ _=>rfl)) (fun _ _=>rfl)) a0i))))) a0i)))))
     (a0j (sRet (b42 (a2n (a03 (un64 ct)) lEq (paFz (a2f h_wheels (hr.mono (by decide)) ct (paV (pv 7)))) (paIx a0d lIx (paV (pv 8)) paI (fun _ _=>rfl)) (a0k _)) (b0p (a2n (a03 (un64 ct)) lEq (paFz (a2f h_joins (hr.mono (by decide)) ct (paV (pv 7)))) (paV (pv 18)) (a0k _)))))))))))))))))))))))),?_⟩
 generalize hst:cell sc 0=st
 obtain⟨ms,ems,hms⟩:=cut_65 sc
 generalize hhf:(ms.length+1)/2=hf
 have ehf:((ms.length:Int)+1)/2=(hf:Int):=by omega
 obtain⟨fs,efs,hfs⟩:=b8f ms hf
 refine seqV (.int st) M (fun R h=>by
   simp! only[b4d]
   exact⟨sc,0,rfl,by decide,by rw[hst];exact h⟩) ?_
 refine seqV (.lst (ms.map D.int)) M (fun R h=>by
   simp! only[ems]
   exact h) ?_
 refine cut1 (fun Γ' M1=>M1=M/\Γ'=[some (.scr (sc.map D.int)),some (.int st),some (.lst (ms.map D.int)),some (.int hf),none,none,none,none,none,none,none,none,none,none,none,none,none,none,none,none,none]) ?_ ?_
 rotate_left
 . intro rest hrest
   simp! only[List.length_map,ehf]
   exact⟨⟨by decide,by decide⟩,hrest _ _ ⟨rfl,rfl⟩⟩
 rintro Γ' M1 ⟨rfl,rfl⟩
 refine cut1 (fun Γ' M2=> ∃(spn:Nat) (ws:List (Str×Int)) (js:List (Str×Nat×Nat)) (sp:List Sp) (pw pj pz:Addr),st/3 % 78=(spn:Int)/\Rw spn ws js/\ws.length<=hf/\js.length<=hf/\sp.length=ws.length/\SpOk 4000 sp/\Rows M1 M2 pw pj pz ws js sp/\Γ'=[some (.scr (sc.map D.int)),some (.int st),some (.lst (ms.map D.int)),some (.int hf),some (.obj pw),some (.obj pj),some (.obj pz),none,none,none,none,none,none,none,none,none,none,none,none,none,none]) ?_ ?_
 rotate_left
 . intro rest hrest
   simp! only[efs,b36]
   refine⟨fs,st,rfl,by omega,fun spn ws js sp h1 h2 h3 h4 h5 h6 M' p r z R=> ?_⟩
   refine⟨rfl,rfl,?_⟩
   exact hrest _ _ ⟨spn,ws,js,sp,p,r,z,h1,h2,by omega,by omega,h5,h6.up (by omega),R,rfl⟩
 rintro Γ' M2 ⟨spn,ws,js,sp,pw,pj,pz,espn,rw',hw,hj,hsl,hso,R,rfl⟩
 refine cut1 (fun Γ' M3=> ∃p d1 d2,L2.Sub M2 M3/\Tr C M3 p d1 d2 (tsOf ws js)/\Γ'=[some (.scr (sc.map D.int)),some (.int st),some (.lst (ms.map D.int)),some (.int hf),some (.obj pw),some (.obj pj),some (.obj pz),some (.obj p),none,none,none,none,none,none,none,none,none,none,none,none,none]) ?_ ?_
 rotate_left
 . intro rest hrest
   simp! only[b0i]
   exact⟨pw,pj,spn,ws,js,rfl,R.p1,R.r1,rw',by omega,by omega,fun p d1 d2 M' sb tr=>hrest _ _ ⟨p,d1,d2,sb,tr,rfl⟩⟩
 rintro Γ' M3 ⟨p,d1,d2,sb3,tr,rfl⟩
 have kw:=sb3 _ _ R.p1
 have kj:=sb3 _ _ R.r1
 have kz:=sb3 _ _ R.z1
 have npz:=R.pz
 clear R sb3
 refine cut1 (fun Γ' M4=> ∃pd,M3 pd=none/\M4=put M3 pd (.dic [])/\Γ'=[some (.scr (sc.map D.int)),some (.int st),some (.lst (ms.map D.int)),some (.int hf),some (.obj pw),some (.obj pj),some (.obj pz),some (.obj p),some (.lst [.obj pw,.obj pd,.obj pz]),none,none,none,none,none,none,none,none,none,none,none,none]) ?_ ?_
 rotate_left
 . intro rest hrest
   simp! only[]
   exact fun pd hpd=>⟨by decide,hrest _ _ ⟨pd,hpd,rfl,rfl⟩⟩
 rintro Γ' M4 ⟨pd,hpd,rfl,rfl⟩
 have kj2: ∀o:MO,put M3 pd o pj=some (.lst (js.map eK)):=fun o=>by rw[a0g (a4c kj hpd).symm];exact kj
 refine cut1 (fun Γ' M5=>M5=put M3 pd (.dic ((knOf js).map eKn))/\ ∃o9,Γ'=[some (.scr (sc.map D.int)),some (.int st),some (.lst (ms.map D.int)),some (.int hf),some (.obj pw),some (.obj pj),some (.obj pz),some (.obj p),some (.lst [.obj pw,.obj pd,.obj pz]),o9,none,none,none,none,none,none,none,none,none,none,none]) ?_ ?_
 rotate_left
 . intro rest hrest
   simp! only[kj2,List.length_map]
   refine⟨by omega,by omega,?_⟩
   refine LoopP.by2 (fun i Γ M'=>M'=put M3 pd (.dic ((knOf (js.take i)).map eKn))/\ ∃o9,Γ=[some (.scr (sc.map D.int)),some (.int st),some (.lst (ms.map D.int)),some (.int hf),some (.obj pw),some (.obj pj),some (.obj pz),some (.obj p),some (.lst [.obj pw,.obj pd,.obj pz]),o9,none,none,none,none,none,none,none,none,none,none,none]) ⟨rfl,_,rfl⟩ (fun _ _ _ _=>trivial) ?_ ?_
   . rintro E' i Γ M' hrt hi hnx ⟨rfl,o9,rfl⟩
     dsimp only at hi
     have hi':i<js.length:=by simpa using hi
     have hl:(js.take i).length=i:=by rw[List.length_take];omega
     have e1:atI (js.map eK) (i:Int)=some (eK js[i]):=by rw[a35 _ _ (by simpa using hi'),List.getElem_map]
     have hno:(getK ((knOf (js.take i)).map eKn) (Sum.inl (i:Int))).isSome=false:=by
       rw[b1f]
       refine decide_eq_false fun z=> ?_
       obtain⟨k,hk,e⟩:=List.mem_map.mp z
       have:=knOf_lt hk
       rw[hl]at this
       omega
     simp! only[gaN,kj2,e1,a0e,a1o,a22 hno,List.length_map,b2p,hl]
     refine⟨by omega,hnx _ _ ⟨?_,_,rfl⟩⟩
     rw[List.take_succ_eq_append_getElem hi',b5v,hl,List.map_append]
     rfl
   . rintro Γ M' ⟨rfl,o9,rfl⟩
     dsimp only
     have e:((js.length:Nat):Int).toNat=js.length:=by omega
     refine hrest _ _ ⟨?_,o9,rfl⟩
     rw[e,List.take_length]
 rintro Γ' M5 ⟨rfl,o9,rfl⟩
 have S0:=b33 tr kw kz npz hpd rw' hsl hso hw hj
 generalize put M3 pd (.dic ((knOf js).map eKn))=M5 at S0 |-
 have gw:=rw'.gw.sh
 by_cases h0:ws.length=0
 . have:ws=[]:=List.eq_nil_of_length_eq_zero h0
   subst this
   have ej:js=[]:=by
     cases js with
     |nil=>rfl
     |cons j l=>
       have:=(rw'.kinds j List.mem_cons_self).2.1
       exact absurd this (Nat.not_lt_zero _)
   subst ej
   have g0:shD (.lst [])=true:=gw
   refine a1a (fun R h=> ?_) ?_
   . simp! only[]
     exact⟨by decide,eq_obj' S0.w1 g0 h⟩
   simp! only[]
   refine a2z S0.tr (fun R h=>h) ?_
   refine⟨by decide,a4z g0 ?_⟩
   dsimp only
   rw[if_pos rfl]
   refine a3v S0.tr (fun R h=>h) ?_
   exact⟨by decide,a4z g0 (.now (q _))⟩
 have h0:0<ws.length:=by omega
 refine a0x (fun R h=> ?_) ?_
 . simp! only[]
   refine⟨by decide,?_⟩
   have w1:=S0.w1
   cases ws with
   |nil=>cases h0
   |cons a l=>exact eq_nil' w1 gw h
 obtain⟨c,hc⟩:=Int.eq_ofNat_of_zero_le (Int.emod_nonneg (st/936) (show(ws.length:Int)≠0 by omega))
 have hc2:=Int.emod_lt_of_pos (st/936) (show(0:Int)< (ws.length:Int)by omega)
 rw[hc]at hc2
 have hc3:c<ws.length:=by omega
 refine cut1 (fun Γ' M6=>M6=M5/\Γ'=[some (.scr (sc.map D.int)),some (.int st),some (.lst (ms.map D.int)),some (.int hf),some (.obj pw),some (.obj pj),some (.obj pz),some (.obj p),some (.lst [.obj pw,.obj pd,.obj pz]),o9,some (.int c),none,none,none,none,none,none,none,none,none,none]) ?_ ?_
 rotate_left
 . intro rest hrest
   simp! only[S0.w1,List.length_map,hc]
   exact⟨⟨by decide,by decide⟩,by omega,hrest _ _ ⟨rfl,rfl⟩⟩
 rintro Γ' M6 ⟨rfl,rfl⟩
 refine cut1 (fun Γ' M7=>M7=M6/\Γ'=[some (.scr (sc.map D.int)),some (.int st),some (.lst (ms.map D.int)),some (.int hf),some (.obj pw),some (.obj pj),some (.obj pz),some (.obj p),some (.lst [.obj pw,.obj pd,.obj pz]),o9,some (.int c),some (.str (at_ (ws.map Prod.fst) c)),none,none,none,none,none,none,none,none,none]) ?_ ?_
 rotate_left
 . intro rest hrest
   simp! only[S0.w1,a6n hc3]
   exact hrest _ _ ⟨rfl,rfl⟩
 rintro Γ' M7 ⟨rfl,rfl⟩
 refine cut1 (fun Γ' M8=>M8=M7/\ ∃o,Asks ws c o/\Γ'=[some (.scr (sc.map D.int)),some (.int st),some (.lst (ms.map D.int)),some (.int hf),some (.obj pw),some (.obj pj),some (.obj pz),some (.obj p),some (.lst [.obj pw,.obj pd,.obj pz]),o9,some (.int c),some (encN o),none,none,none,none,none,none,none,none,none]) ?_ ?_
 rotate_left
 . intro rest hrest
   by_cases hz:c=0/\st % 2=0
   . refine a1a (fun R h=> ?_) ?_
     . simp! only[decide_eq_true (show(c:Int)=0 by omega),decide_eq_true hz.2]
       exact⟨by decide,h⟩
     simp! only[]
     exact hrest _ _ ⟨rfl,none,⟨hc3,hz.1⟩,rfl⟩
   . refine a0x (fun R h=> ?_) ?_
     . simp! only[]
       refine ite2 (fun h1=> ?_) fun _=>h
       have h1:=of_decide_eq_true h1
       rw[decide_eq_false fun z=>hz ⟨by omega,z⟩]
       exact⟨by decide,h⟩
     exact hrest _ _ ⟨rfl,some _,⟨hc3,rfl⟩,rfl⟩
 rintro Γ' M8 ⟨rfl,o,as,rfl⟩
 refine cut2 (fun Γ' M9=> ∃hq,M8 hq=none/\M9=put M8 hq (.lst [])/\Γ'=[some (.scr (sc.map D.int)),some (.int st),some (.lst (ms.map D.int)),some (.int hf),some (.obj pw),some (.obj pj),some (.obj pz),some (.obj p),some (.lst [.obj pw,.obj pd,.obj pz]),o9,some (.int c),some (encN o),some (.int (0:Nat)),some (.obj hq),none,none,none,none,none,none,none]) ?_ ?_
 rotate_left
 . intro rest hrest
   simp! only[]
   exact⟨Nat.zero_le _,fun hq h=>hrest _ _ ⟨hq,h,rfl,rfl⟩⟩
 rintro Γ' M9 ⟨hq,hhq,rfl,rfl⟩
 have off:Off hq p d1 d2 pw pd pz:=⟨a4c S0.tr.self hhq,a4c S0.tr.teeth hhq,a4c S0.tr.join hhq,a4c S0.w1 hhq,a4c S0.k1 hhq,a4c S0.z1 hhq⟩
 have S1:=S0.sub (L2.Sub.put (o:= .lst []) hhq)
 have hh1:put M8 hq (.lst []) hq=some (.lst (([]:List (List (Option Fr))).map eH)):=a0e
 generalize put M8 hq (.lst [])=M9 at S1 hh1 |-
 clear S0 hc2 hc3 h0 gw tr kw kj kz hsl hso kj2 hpd
 refine cut1 (fun Γ' M10=> ∃(ws:List (Str×Int)) (ks:List Kn) (nx:Int) (sp:List Sp) (mn n:Nat) (hl:List (List (Option Fr))) (o9 o14:Option D),Sta C M10 p d1 d2 pw pd pz spn ws ks nx sp n/\n<=70/\M10 hq=some (.lst (hl.map eH))/\hl.length<=3/\Γ'=[some (.scr (sc.map D.int)),some (.int st),some (.lst (ms.map D.int)),some (.int hf),some (.obj pw),some (.obj pj),some (.obj pz),some (.obj p),some (.lst [.obj pw,.obj pd,.obj pz]),o9,some (.int c),some (encN o),some (.int (mn:Nat)),some (.obj hq),o14,none,none,none,none,none,none]) ?_ ?_
 rotate_left
 . intro rest hrest
   simp! only[List.length_map]
   refine⟨⟨by omega,by omega,by omega,by omega⟩,?_⟩
   refine LoopP.by2 (fun i Γ M'=> ∃(ws:List (Str×Int)) (ks:List Kn) (nx:Int) (sp:List Sp) (mn:Nat) (hl:List (List (Option Fr))) (o9 o14:Option D),Sta C M' p d1 d2 pw pd pz spn ws ks nx sp (hf+i)/\Asks ws c o/\M' hq=some (.lst (hl.map eH))/\hl.length<=mn/\mn<=3/\Γ=[some (.scr (sc.map D.int)),some (.int st),some (.lst (ms.map D.int)),some (.int hf),some (.obj pw),some (.obj pj),some (.obj pz),some (.obj p),some (.lst [.obj pw,.obj pd,.obj pz]),o9,some (.int c),some (encN o),some (.int (mn:Nat)),some (.obj hq),o14,none,none,none,none,none,none])
     ⟨ws,_,_,sp,0,[],_,_,S1,as,hh1,Nat.le_refl _,by decide,rfl⟩ (fun _ _ _ _=>trivial) ?_ ?_
   . clear S1 hh1 as rw' hw hj
     rintro E' i Γ M' hrt hi hnx ⟨ws,ks,nx,sp,mn,hl,o9,o14,S,as,hh,hhl,hmn,rfl⟩
     dsimp only at hi
     have hi':hf+i<ms.length:=by omega
     have ek:(hf:Int)+(i:Int)=((hf+i:Nat):Int):=by omega
     obtain⟨x,ex⟩: ∃x,atI (ms.map D.int) ((hf+i:Nat):Int)=some (.int x):=by
       rw[a35 _ _ (by simpa using hi')]
       exact⟨_,by rw[List.getElem_map]⟩
     simp only[gaN,ek,List.set_cons_zero,List.set_cons_succ]
     refine cut1 (fun Γ' M1=>M1=M'/\ ∃d:Dd,d.ok ws ks/\Γ'=[some (.scr (sc.map D.int)),some (.int st),some (.lst (ms.map D.int)),some (.int hf),some (.obj pw),some (.obj pj),some (.obj pz),some (.obj p),some (.lst [.obj pw,.obj pd,.obj pz]),some (.int (hf+i:Nat)),some (.int c),some (encN o),some (.int (mn:Nat)),some (.obj hq),some (eDd spn ws.length d),none,none,none,none,none,none]) ?_ ?_
     rotate_left
     . intro rest' hrest'
       simp! only[ex,espn]
       exact⟨⟨by decide,by decide⟩,by decide,⟨by decide,by decide⟩,by decide,by decide,deed_of S (by omega) fun d ok=>hrest' _ _ ⟨rfl,d,ok,rfl⟩⟩
     rintro Γ' M1 ⟨rfl,d,ok,rfl⟩
     by_cases h5:(x/6+((hf+i:Nat):Int)) % 5=0/\mn<3
     . refine ifV true (fun R h=> ?_) ?_
       . simp! only[ex,decide_eq_true h5.1,decide_eq_true (show(mn:Int)<3 by omega)]
         exact⟨⟨by decide,by decide⟩,by decide,h⟩
       rw[if_pos rfl]
       refine cut1 (fun Γ' M2=>M2=M1/\Γ'=[some (.scr (sc.map D.int)),some (.int st),some (.lst (ms.map D.int)),some (.int hf),some (.obj pw),some (.obj pj),some (.obj pz),some (.obj p),some (.lst [.obj pw,.obj pd,.obj pz]),some (.int (hf+i:Nat)),some (.int c),some (encN o),some (.int (mn+1:Nat)),some (.obj hq),some (eDd spn ws.length d),none,none,none,none,none,none]) ?_ ?_
       rotate_left
       . intro rest' hrest'
         simp! only[]
         exact hrest' _ _ ⟨rfl,rfl⟩
       rintro Γ' M2 ⟨rfl,rfl⟩
       simp! only[b0k]
       refine⟨p,d1,d2,pw,pd,pz,hq,spn,ws,ks,nx,sp,hf+i,d,c,o,hl,rfl,S,by omega,ok,as,hh,by omega,off,fun M'' hl' S' hh' hl2=> ?_⟩
       rw[if_neg (show ¬ (!true)=true by decide)]
       exact hnx _ _ ⟨_,_,_,_,mn+1,hl',_,_,S',as.deed spn d,hh',by omega,by omega,rfl⟩
     . refine ifV false (fun R h=> ?_) ?_
       . simp! only[ex]
         refine⟨⟨by decide,by decide⟩,by decide,ite2 (fun h1=> ?_) fun _=>h⟩
         have h1:=of_decide_eq_true h1
         rw[decide_eq_false (show ¬ (mn:Int)<3 from fun z=>h5 ⟨h1,by omega⟩)]
         exact h
       rw[if_neg Bool.false_ne_true]
       simp! only[spDo]
       exact⟨p,d1,d2,pw,pd,pz,spn,ws,ks,nx,sp,hf+i,d,rfl,S,by omega,ok,fun M'' six S'=>hnx _ _ ⟨_,_,_,_,mn,hl,_,_,S',as.deed spn d,by rw[six.off off];exact hh,hhl,hmn,rfl⟩⟩
   . rintro Γ M' ⟨ws,ks,nx,sp,mn,hl,o9,o14,S,as,hh,hhl,hmn,rfl⟩
     dsimp only at S
     exact hrest _ _ ⟨ws,ks,nx,sp,mn,_,hl,o9,o14,S,by omega,hh,by omega,rfl⟩
 clear S1 hh1 as rw' hw hj
 rintro Γ' M10 ⟨ws,ks,nx,sp,mn,n,hl,o9,o14,S,hn,hh,hhl,rfl⟩
 have hw:=S.wl
 have hk:=S.kl
 refine cut1 (fun Γ' M11=>M11=M10/\ ∃o15 o16,Γ'=[some (.scr (sc.map D.int)),some (.int st),some (.lst (ms.map D.int)),some (.int hf),some (.obj pw),some (.obj pj),some (.obj pz),some (.obj p),some (.lst [.obj pw,.obj pd,.obj pz]),o9,some (.int c),some (encN o),some (.int (mn:Nat)),some (.obj hq),o14,o15,o16,none,none,none,none]) ?_ ?_
 rotate_left
 . intro rest hrest
   refine forLs (d:= .obj hq) (ds:=hl.map eH) (fun R h=>by simp! only[];exact h) (by simp only[dr,hh]) ?_
   refine LoopP.by2 (fun i Γ M'=>M'=M10/\ ∃o15 o16,Γ=[some (.scr (sc.map D.int)),some (.int st),some (.lst (ms.map D.int)),some (.int hf),some (.obj pw),some (.obj pj),some (.obj pz),some (.obj p),some (.lst [.obj pw,.obj pd,.obj pz]),o9,some (.int c),some (encN o),some (.int (mn:Nat)),some (.obj hq),o14,o15,o16,none,none,none,none]) ⟨rfl,_,_,rfl⟩ (by rintro _ _ _ ⟨rfl,_⟩;simp only[dr,hh]) ?_ ?_
   . rintro E' i Γ M' hrt hi hnx ⟨rfl,o15,o16,rfl⟩
     dsimp only at hi
     have hi':i<hl.length:=by simpa using hi
     simp only[a2t hl eH i hi',eH,a52,a32,gaNil,gaN,List.set_cons_zero,List.set_cons_succ,true_and]
     refine⟨rfl,?_⟩
     refine ifV false (fun R h=>by
       simp! only[]
       exact a59 (gd_os _).sh h) ?_
     rw[if_neg Bool.false_ne_true]
     exact hnx _ _ ⟨rfl,_,_,rfl⟩
   . rintro Γ M' ⟨rfl,o15,o16,rfl⟩
     exact hrest _ _ ⟨rfl,_,_,rfl⟩
 rintro Γ' M11 ⟨rfl,o15,o16,rfl⟩
 have enm:(ws.map eW).map row0=(ws.map Prod.fst).map D.str:=b2h (tsK ws ks nx)
 refine cut1 (fun Γ' M12=>M12=M11/\Γ'=[some (.scr (sc.map D.int)),some (.int st),some (.lst (ms.map D.int)),some (.int hf),some (.obj pw),some (.obj pj),some (.obj pz),some (.obj p),some (.lst [.obj pw,.obj pd,.obj pz]),o9,some (.int c),some (encN o),some (.int (mn:Nat)),some (.obj hq),o14,o15,o16,some (.lst ((ws.map Prod.fst).map D.str)),none,none,none]) ?_ ?_
 rotate_left
 . intro rest hrest
   refine seqV (.lst ((ws.map Prod.fst).map D.str)) M11 (fun R h=>compO (q0:=pw) (ws.map eW) row0 (fun R h=>by simp! only[];exact h) S.w1 (by rw[List.length_map];omega) (fun x hx M' R h=>by
     obtain⟨w',_,rfl⟩:=List.mem_map.mp hx
     exact⟨trivial,h⟩) (by rw[enm];exact h)) ?_
   exact hrest _ _ ⟨rfl,rfl⟩
 rintro Γ' M12 ⟨rfl,rfl⟩
 refine cut1 (fun Γ' M13=> ∃lf,M12 lf=none/\M13=put M12 lf (.lst [])/\Γ'=[some (.scr (sc.map D.int)),some (.int st),some (.lst (ms.map D.int)),some (.int hf),some (.obj pw),some (.obj pj),some (.obj pz),some (.obj p),some (.lst [.obj pw,.obj pd,.obj pz]),o9,some (.int c),some (encN o),some (.int (mn:Nat)),some (.obj hq),o14,o15,o16,some (.lst ((ws.map Prod.fst).map D.str)),some (.obj lf),none,none]) ?_ ?_
 rotate_left
 . intro rest hrest
   simp! only[]
   exact⟨Nat.zero_le _,fun lf h=>hrest _ _ ⟨lf,h,rfl,rfl⟩⟩
 rintro Γ' M13 ⟨lf,hlf,rfl,rfl⟩
 have nlp:=a4c S.k1 hlf
 have ens:(ws.map Prod.fst).length=ws.length:=List.length_map ..
 refine cut1 (fun Γ' M14=>M14=put M12 lf (.lst ((tsK ws ks nx).js.map eJ))/\ ∃o19 o20,Γ'=[some (.scr (sc.map D.int)),some (.int st),some (.lst (ms.map D.int)),some (.int hf),some (.obj pw),some (.obj pj),some (.obj pz),some (.obj p),some (.lst [.obj pw,.obj pd,.obj pz]),o9,some (.int c),some (encN o),some (.int (mn:Nat)),some (.obj hq),o14,o15,o16,some (.lst ((ws.map Prod.fst).map D.str)),some (.obj lf),o19,o20]) ?_ ?_
 rotate_left
 . intro rest hrest
   refine forIk (p:=pd) (kvs:=ks.map eKn) (fun R h=>by simp! only[];exact h) (by rw[a0g nlp.symm];exact S.k1) fun u=> ?_
   rw[a3w nlp]
   refine LoopP.by2 (fun i Γ M'=> ∃o19 o20,Γ=[some (.scr (sc.map D.int)),some (.int st),some (.lst (ms.map D.int)),some (.int hf),some (.obj pw),some (.obj pj),some (.obj pz),some (.obj p),some (.lst [.obj pw,.obj pd,.obj pz]),o9,some (.int c),some (encN o),some (.int (mn:Nat)),some (.obj hq),o14,o15,o16,some (.lst ((ws.map Prod.fst).map D.str)),some (.obj lf),o19,o20]/\M'=put (put M12 pd (.raw u)) lf (.lst (((ks.take i).map (jnK (ws.map Prod.fst))).map eJ))) ⟨_,_,rfl,rfl⟩ (fun _ _ _ ⟨_,_,_,e⟩=>by rw[e];show put _ _ _ pd=_;rw[a0g nlp.symm,a0e]) ?_ ?_
   . rintro E' i Γ M' hrt hi hnx ⟨o19,o20,rfl,rfl⟩
     dsimp only at hi
     have hi':i<ks.length:=by simpa using hi
     have eit:L2.itemAt (ks.map eKn) i= .tup [.int (ks[i]).1,eK (ks[i]).2]:=by
       unfold L2.itemAt
       rw[List.getElem?_map,List.getElem?_eq_getElem hi'];rfl
     obtain⟨_,k1,k2,_⟩:=S.rw'.kinds (ks[i]).2 (List.mem_map.mpr ⟨_,List.getElem_mem hi',rfl⟩)
     show a52 _ _ (L2.itemAt (ks.map eKn) i) _ _ _
     rw[eit]
     simp only[a52,a32,gaNil,gaN,List.set_cons_zero,List.set_cons_succ,true_and]
     refine⟨rfl,?_⟩
     refine b6n .non _ (fun R' h=> ?_) (hnx _ _ ⟨_,_,rfl,rfl⟩)
     simp! only[aBM,a3e,eK,a0e,a1o,oAppend,List.length_map,List.length_take,s_at (show(ks[i]).2.2.1< (ws.map Prod.fst).length by rw[ens];exact k1),s_at (show(ks[i]).2.2.2< (ws.map Prod.fst).length by rw[ens];exact k2)]
     rw[List.take_succ_eq_append_getElem hi',List.map_append,List.map_append]at h
     exact⟨by decide,by omega,h⟩
   . rintro Γ M' ⟨o19,o20,rfl,rfl⟩
     dsimp only
     rw[List.length_map,List.take_length]
     refine⟨by rw[a0g nlp.symm,a0e],?_⟩
     rw[b7g nlp.symm S.k1]
     exact hrest _ _ ⟨rfl,_,_,rfl⟩
 rintro Γ' M14 ⟨rfl,o19,o20,rfl⟩
 have S9:=S.sub (L2.Sub.put (o:= .lst ((tsK ws ks nx).js.map eJ)) hlf)
 simp! only[]
 refine a2z S9.tr (fun R h=>h) ?_
 refine eq_obj S9.w1 S9.rw'.gw.sh ?_
 dsimp only
 rw[if_pos rfl]
 refine a3v S9.tr (fun R h=>h) ?_
 exact eq_obj a0e S9.gj.sh (.now (q _))
end
theorem b06{α:Type}(us:List α)(h:us.length=1): ∃a,us=[a]:=List.length_eq_one_iff.mp h
theorem b5n{α:Type}(us:List α)(h:us.length=2): ∃a b,us=[a,b]:=by
 cases us with
 |nil=>cases h
 |cons a us=>
   obtain⟨b,rfl⟩:=b06 us (by simpa using h)
   exact⟨a,b,rfl⟩
theorem len_3{α:Type}(us:List α)(h:us.length=3): ∃a b c,us=[a,b,c]:=by
 cases us with
 |nil=>cases h
 |cons a us=>
   obtain⟨b,c,rfl⟩:=b5n us (by simpa using h)
   exact⟨a,b,c,rfl⟩
theorem len_4{α:Type}(us:List α)(h:us.length=4): ∃a b c d,us=[a,b,c,d]:=by
 cases us with
 |nil=>cases h
 |cons a us=>
   obtain⟨b,c,d,rfl⟩:=len_3 us (by simpa using h)
   exact⟨a,b,c,d,rfl⟩
theorem len_5{α:Type}(us:List α)(h:us.length=5): ∃a b c d e,us=[a,b,c,d,e]:=by
 cases us with
 |nil=>cases h
 |cons a us=>
   obtain⟨b,c,d,e,rfl⟩:=len_4 us (by simpa using h)
   exact⟨a,b,c,d,e,rfl⟩
theorem len_6{α:Type}(us:List α)(h:us.length=6): ∃a b c d e f,us=[a,b,c,d,e,f]:=by
 cases us with
 |nil=>cases h
 |cons a us=>
   obtain⟨b,c,d,e,f,rfl⟩:=len_5 us (by simpa using h)
   exact⟨a,b,c,d,e,f,rfl⟩
theorem len_7{α:Type}(us:List α)(h:us.length=7): ∃a b c d e f g,us=[a,b,c,d,e,f,g]:=by
 cases us with
 |nil=>cases h
 |cons a us=>
   obtain⟨b,c,d,e,f,g,rfl⟩:=len_6 us (by simpa using h)
   exact⟨a,b,c,d,e,f,g,rfl⟩
theorem len_8{α:Type}(us:List α)(h:us.length=8): ∃a b c d e f g i,us=[a,b,c,d,e,f,g,i]:=by
 cases us with
 |nil=>cases h
 |cons a us=>
   obtain⟨b,c,d,e,f,g,i,rfl⟩:=len_7 us (by simpa using h)
   exact⟨a,b,c,d,e,f,g,i,rfl⟩
def DAt(K:PySem.W.Frag)(x:Str)(st:Stmt)(f:Addr):Prop:=PySem.W.nsIn K mainGlobals x=some (some (.ref f))/\ ∃fd,Fun K x x st f fd
theorem DAt.mk{K:PySem.W.Frag}{x:Str}{st:Stmt}{f:Addr}{oc:Value}{od an:Option Addr}{sl:Array (Option Value)}{kV dc pm cd ct:Value}(a:PySem.W.nsIn K mainGlobals x=some (some (.ref f)))(l:K.lookup f=some ⟨oc,od,.func (PySem.W.fnOf x x (a09 st) (a02 st) (a0f st) .none kV dc pm an cd ct),sl⟩)(c:PySem.W.codeIn K cd x=true)(k:PySem.W.keepIn K (.ref f)=true):DAt K x st f:=⟨a,_,a5x l c k⟩
local macro_rules
 | `(tactic| bv_omega) => `(tactic| (intro _ _ _ _ _ _ us hl; first | (obtain ⟨_, h9⟩ := b06 us hl; subst h9; rfl) | (obtain ⟨_, _, h9⟩ := b5n us hl; subst h9; rfl) | (obtain ⟨_, _, _, h9⟩ := len_3 us hl; subst h9; rfl) | (obtain ⟨_, _, _, _, h9⟩ := len_4 us hl; subst h9; rfl) | (obtain ⟨_, _, _, _, _, h9⟩ := len_5 us hl; subst h9; rfl) | (obtain ⟨_, _, _, _, _, _, h9⟩ := len_6 us hl; subst h9; rfl) | (obtain ⟨_, _, _, _, _, _, _, h9⟩ := len_7 us hl; subst h9; rfl) | (obtain ⟨_, _, _, _, _, _, _, _, h9⟩ := len_8 us hl; subst h9; rfl)))
section
variable {P:Program}{w:World}{K:PySem.W.Frag}{mg:Str->Option Value}{base h:Heap}{x:Str}{st:Stmt}{f:Addr}{ps:List Str}{n:Nat}
theorem DAt.has{sp:L2.Sp}(d:DAt K x st f)(X:K.In h)(G:h.Ns mainGlobals mg)(ok: ∀fd,Fun K x x st f fd->FnOk P w K mg base (CXE P w) n f fd ps sp)(hb: ∀(kV doc pm:Value) (an:Option Addr) (cdv ct:Value) (us:List Value),us.length=ps.length->bindArgs (PySem.W.fnOf x x (a09 st) (a02 st) (a0f st) .none kV doc pm an cdv ct) ⟨us,[]⟩=pure (ps.zip us):=by bv_omega):Has P w K mg base (CXE P w) n x ps sp:=by
 obtain⟨a,fd,F⟩:=d
 exact⟨f,fd,ok fd F,PySem.W.mg_of X G a,F.kp,F.binds hb⟩
theorem DAt.hasH{sp:Addr->L2.Sp}(d:DAt K x st f)(X:K.In h)(G:h.Ns mainGlobals mg)(ok: ∀fd,Fun K x x st f fd->FnOkH P w K mg base n f fd ps sp)(hb: ∀(kV doc pm:Value) (an:Option Addr) (cdv ct:Value) (us:List Value),us.length=ps.length->bindArgs (PySem.W.fnOf x x (a09 st) (a02 st) (a0f st) .none kV doc pm an cdv ct) ⟨us,[]⟩=pure (ps.zip us):=by bv_omega):HasH P w K mg base n x ps sp:=by
 obtain⟨a,fd,F⟩:=d
 exact⟨f,fd,ok fd F,PySem.W.mg_of X G a,F.kp,F.binds hb⟩
end
theorem all_mk{l:PySem.W.OpenLaw}{w:World}{K:PySem.W.Frag}{h:Heap}{mg:Str->Option Value}{fa:Addr}(X:K.In h)(G:h.Ns mainGlobals mg)(hfa:mg "law"=some (.ref fa))(hp:l.prog.given.tree=none)
   {f0 f1 f2 f3 f4 f5 f6 f7 f8 f9 f10 f11 f12 f13 f14 f15 f16 f17 f18 f19 f20 f21 f22 f23 f24 f25 f26 f27 f28 f29 f30 f31 f32 f33 f34 f35 f36 f37 f38 f39 f40 f41 f42 f43 C_Train E_NoName E_Twice E_NoTeeth E_Full E_NoWheel E_NoJoin E_TrainError E_Jams dv12 dv14 q_KINDS:Addr}{od12 an12 od14 an14 od16 an16 od17 an17 od18 an18 od19 an19 od20 an20 od21 an21 od43 an43 odd12 odd14 qd_KINDS:Option Addr}{sl12 sl14 sl16 sl17 sl18 sl19 sl20 sl21 sl43 sll12 sll14 qs_KINDS:Array (Option Value)}{oc12 kV12 dc12 pm12 cd12 ct12 oc14 kV14 dc14 pm14 cd14 ct14 oc16 kV16 dc16 pm16 cd16 ct16 oc17 kV17 dc17 pm17 cd17 ct17 oc18 kV18 dc18 pm18 cd18 ct18 oc19 kV19 dc19 pm19 cd19 ct19 oc20 kV20 dc20 pm20 cd20 ct20 oc21 kV21 dc21 pm21 cd21 ct21 oc43 kV43 dc43 pm43 cd43 ct43:Value}
   {t_LONGEST_NAME t_TEETH_BOUND t_MOST_WHEELS t_MOST_JOINS t_LETTERS t_KINDS0 t_KINDS1 t_KINDS2 t_KINDS3:Tok}
   {nn12 nn14 qn_KINDS:Nat}
   (aC_Train:PySem.W.nsIn K mainGlobals "Train"=some (some (.ref C_Train)))
   (aE_NoName:PySem.W.nsIn K mainGlobals "NoName"=some (some (.ref E_NoName)))
   (aE_Twice:PySem.W.nsIn K mainGlobals "Twice"=some (some (.ref E_Twice)))
   (aE_NoTeeth:PySem.W.nsIn K mainGlobals "NoTeeth"=some (some (.ref E_NoTeeth)))
   (aE_Full:PySem.W.nsIn K mainGlobals "Full"=some (some (.ref E_Full)))
   (aE_NoWheel:PySem.W.nsIn K mainGlobals "NoWheel"=some (some (.ref E_NoWheel)))
   (aE_NoJoin:PySem.W.nsIn K mainGlobals "NoJoin"=some (some (.ref E_NoJoin)))
   (aE_TrainError:PySem.W.nsIn K mainGlobals "TrainError"=some (some (.ref E_TrainError)))
   (aE_Jams:PySem.W.nsIn K mainGlobals "Jams"=some (some (.ref E_Jams)))
   (d0:DAt K "greatest_divisor" a1u f0)
   (d1:DAt K "lowest" a4n f1)
   (d2:DAt K "times" b0m f2)
   (d3:DAt K "factor" a8l f3)
   (d4:DAt K "refuse_unknown" a2e f4)
   (d5:DAt K "wheel_meant" a26 f5)
   (d6:DAt K "joins_from" a3m f6)
   (d7:DAt K "tree_from" a37 f7)
   (d8:DAt K "road_by" a6k f8)
   (d9:DAt K "shares_along" a2u f9)
   (d10:DAt K "jamming_join" a2v f10)
   (d11:DAt K "ring_closed_by" a2d f11)
   (a12:PySem.W.nsIn K mainGlobals "ring"=some (some (.ref f12)))
   (l12:K.lookup f12=some ⟨oc12,od12,.func (PySem.W.fnOf "ring" "ring" (a09 a3f) (a02 a3f) (a0f a3f) (.ref dv12) kV12 dc12 pm12 an12 cd12 ct12),sl12⟩)
   (d12:K.lookup dv12=some ⟨.type "tuple",odd12,.seq #[.none] nn12,sll12⟩)
   (c12:PySem.W.codeIn K cd12 "ring"=true)
   (k12:PySem.W.keepIn K (.ref f12)=true)
   (d13:DAt K "free_shares" a3b f13)
   (a14:PySem.W.nsIn K mainGlobals "turns"=some (some (.ref f14)))
   (l14:K.lookup f14=some ⟨oc14,od14,.func (PySem.W.fnOf "turns" "turns" (a09 a2c) (a02 a2c) (a0f a2c) (.ref dv14) kV14 dc14 pm14 an14 cd14 ct14),sl14⟩)
   (d14:K.lookup dv14=some ⟨.type "tuple",odd14,.seq #[.none] nn14,sll14⟩)
   (c14:PySem.W.codeIn K cd14 "turns"=true)
   (k14:PySem.W.keepIn K (.ref f14)=true)
   (d15:DAt K "is_name" a6m f15)
   (a16:PySem.W.findIn K (.ref C_Train) "__init__"=some (some (.ref f16)))
   (i16:PySem.W.isFn K (.ref f16)=true)
   (l16:K.lookup f16=some ⟨oc16,od16,.func (PySem.W.fnOf "__init__" "Train.__init__" (a09 a1g) (a02 a1g) (a0f a1g) .none kV16 dc16 pm16 an16 cd16 ct16),sl16⟩)
   (c16:PySem.W.codeIn K cd16 "Train.__init__"=true)
   (k16:PySem.W.keepIn K (.ref f16)=true)
   (a17:PySem.W.findIn K (.ref C_Train) "put_wheel"=some (some (.ref f17)))
   (i17:PySem.W.isFn K (.ref f17)=true)
   (l17:K.lookup f17=some ⟨oc17,od17,.func (PySem.W.fnOf "put_wheel" "Train.put_wheel" (a09 a1c) (a02 a1c) (a0f a1c) .none kV17 dc17 pm17 an17 cd17 ct17),sl17⟩)
   (c17:PySem.W.codeIn K cd17 "Train.put_wheel"=true)
   (k17:PySem.W.keepIn K (.ref f17)=true)
   (a18:PySem.W.findIn K (.ref C_Train) "put_join"=some (some (.ref f18)))
   (i18:PySem.W.isFn K (.ref f18)=true)
   (l18:K.lookup f18=some ⟨oc18,od18,.func (PySem.W.fnOf "put_join" "Train.put_join" (a09 a1f) (a02 a1f) (a0f a1f) .none kV18 dc18 pm18 an18 cd18 ct18),sl18⟩)
   (c18:PySem.W.codeIn K cd18 "Train.put_join"=true)
   (k18:PySem.W.keepIn K (.ref f18)=true)
   (a19:PySem.W.findIn K (.ref C_Train) "take_join"=some (some (.ref f19)))
   (i19:PySem.W.isFn K (.ref f19)=true)
   (l19:K.lookup f19=some ⟨oc19,od19,.func (PySem.W.fnOf "take_join" "Train.take_join" (a09 a1b) (a02 a1b) (a0f a1b) .none kV19 dc19 pm19 an19 cd19 ct19),sl19⟩)
   (c19:PySem.W.codeIn K cd19 "Train.take_join"=true)
   (k19:PySem.W.keepIn K (.ref f19)=true)
   (a20:PySem.W.findIn K (.ref C_Train) "wheels"=some (some (.ref f20)))
   (i20:PySem.W.isFn K (.ref f20)=true)
   (l20:K.lookup f20=some ⟨oc20,od20,.func (PySem.W.fnOf "wheels" "Train.wheels" (a09 a1n) (a02 a1n) (a0f a1n) .none kV20 dc20 pm20 an20 cd20 ct20),sl20⟩)
   (c20:PySem.W.codeIn K cd20 "Train.wheels"=true)
   (k20:PySem.W.keepIn K (.ref f20)=true)
   (a21:PySem.W.findIn K (.ref C_Train) "joins"=some (some (.ref f21)))
   (i21:PySem.W.isFn K (.ref f21)=true)
   (l21:K.lookup f21=some ⟨oc21,od21,.func (PySem.W.fnOf "joins" "Train.joins" (a09 a1q) (a02 a1q) (a0f a1q) .none kV21 dc21 pm21 an21 cd21 ct21),sl21⟩)
   (c21:PySem.W.codeIn K cd21 "Train.joins"=true)
   (k21:PySem.W.keepIn K (.ref f21)=true)
   (d22:DAt K "_law_cell_at" a29 f22)
   (d23:DAt K "_law_name" a47 f23)
   (d24:DAt K "_law_teeth" a39 f24)
   (d25:DAt K "_law_by" a8j f25)
   (d26:DAt K "_law_goes" a5c f26)
   (d27:DAt K "_law_closing" a28 f27)
   (d28:DAt K "_law_two" a6l f28)
   (d29:DAt K "_law_rows" a46 f29)
   (d30:DAt K "_law_train" a38 f30)
   (d31:DAt K "_law_hung" a5b f31)
   (d32:DAt K "_law_deed" a5d f32)
   (d33:DAt K "_law_do" a8i f33)
   (d34:DAt K "_law_told" a45 f34)
   (d35:DAt K "_law_look" a49 f35)
   (d36:DAt K "_law_numbers" a27 f36)
   (d37:DAt K "_law_as_much" a3a f37)
   (d38:DAt K "_law_joined" a3k f38)
   (d39:DAt K "_law_less" a5a f39)
   (d40:DAt K "_law_more" a48 f40)
   (d41:DAt K "_law_beside" a3l f41)
   (d42:DAt K "_law_asked" a4a f42)
   (a43:PySem.W.nsIn K mainGlobals "law"=some (some (.ref f43)))
   (l43:K.lookup f43=some ⟨oc43,od43,.func (PySem.W.fnOf "law" "law" (a09 a8k) (a02 a8k) (a0f a8k) .none kV43 dc43 pm43 an43 cd43 ct43),sl43⟩)
   (c43:PySem.W.codeIn K cd43 "law"=true)
   (k43:PySem.W.keepIn K (.ref f43)=true)
   (pg_Train:PySem.W.plainGet K C_Train Str.empty=true)
   (hd_Train:PySem.W.hasDictIn K C_Train=true)
   (po_Train:PySem.W.plainOver K C_Train=true)
   (sa_Train:PySem.W.findIn K (.ref C_Train) "__setattr__"=some (some (.builtin "object.__setattr__")))
   (mk_Train:PySem.W.makesIn K C_Train=true)
   (kc_Train:PySem.W.keepIn K (.ref C_Train)=true)
   (n_Train_teeth_of:PySem.W.findIn K (.ref C_Train) "teeth_of"=some none)
   (n_Train_join_of:PySem.W.findIn K (.ref C_Train) "join_of"=some none)
   (n_Train_next_number:PySem.W.findIn K (.ref C_Train) "next_number"=some none)
   (z0:PySem.W.nsIn K mainGlobals "len"=some none)
   (z1:PySem.W.nsIn K mainGlobals "all"=some none)
   (z2:PySem.W.nsIn K mainGlobals "list"=some none)
   (z3:PySem.W.nsIn K mainGlobals "range"=some none)
   (z4:PySem.W.nsIn K mainGlobals "isinstance"=some none)
   (z5:PySem.W.nsIn K mainGlobals "int"=some none)
   (z6:PySem.W.nsIn K mainGlobals "bool"=some none)
   (z7:PySem.W.nsIn K mainGlobals "str"=some none)
   (z8:PySem.W.nsIn K mainGlobals "max"=some none)
   (z9:PySem.W.nsIn K mainGlobals "abs"=some none)
   (z10:PySem.W.nsIn K mainGlobals "dict"=some none)
   (z11:PySem.W.nsIn K mainGlobals "tuple"=some none)
   (z12:PySem.W.nsIn K mainGlobals "ValueError"=some none)
   (g_LONGEST_NAME:PySem.W.nsIn K mainGlobals "LONGEST_NAME"=some (some (.int 8 t_LONGEST_NAME)))
   (g_TEETH_BOUND:PySem.W.nsIn K mainGlobals "TEETH_BOUND"=some (some (.int 1000000000 t_TEETH_BOUND)))
   (g_MOST_WHEELS:PySem.W.nsIn K mainGlobals "MOST_WHEELS"=some (some (.int 100 t_MOST_WHEELS)))
   (g_MOST_JOINS:PySem.W.nsIn K mainGlobals "MOST_JOINS"=some (some (.int 200 t_MOST_JOINS)))
   (g_LETTERS:PySem.W.nsIn K mainGlobals "LETTERS"=some (some (.str "abcdefghijklmnopqrstuvwxyz" t_LETTERS)))
   (g_KINDS:PySem.W.nsIn K mainGlobals "KINDS"=some (some (.ref q_KINDS)))
   (gl_KINDS:K.lookup q_KINDS=some ⟨.type "tuple",qd_KINDS,.seq #[.str "mesh" t_KINDS0,.str "pin" t_KINDS1,.str "band" t_KINDS2,.str "cross" t_KINDS3] qn_KINDS,qs_KINDS⟩)
   (ex_NoName:PySem.W.excIn K E_NoName bmV "ValueError.__new__"=true)
   (ex_Twice:PySem.W.excIn K E_Twice bmV "ValueError.__new__"=true)
   (ex_NoTeeth:PySem.W.excIn K E_NoTeeth bmV "ValueError.__new__"=true)
   (ex_Full:PySem.W.excIn K E_Full bmV "ValueError.__new__"=true)
   (ex_NoWheel:PySem.W.excIn K E_NoWheel bmV "ValueError.__new__"=true)
   (ex_NoJoin:PySem.W.excIn K E_NoJoin bmV "ValueError.__new__"=true)
   (ex_TrainError:PySem.W.excIn K E_TrainError bmV "ValueError.__new__"=true)
   (ex_Jams:PySem.W.excIn K E_Jams bmV "ValueError.__new__"=true)
   (xm_Jams_Jams:PySem.W.exmOne K (.ref E_Jams) (.ref E_Jams)=some true)
   : ∃fd:FuncData,(∀(s:Shared) (v:Value),BindsTo s fd ⟨[v],[]⟩ [("_law_script",v)])/\ ∀base:Heap,K.In base->base.Ns mainGlobals mg->base.NoSeer->FnOk l.prog w K mg base CX0 50 fa fd ["_law_script"] (a58 K):=by
 have e:=hfa.symm.trans (PySem.W.mg_of X G a43)
 cases e
 have T:Txt K mg:=⟨PySem.W.mg_none_of X G z0,PySem.W.mg_none_of X G z1,PySem.W.mg_none_of X G z2,PySem.W.mg_none_of X G z3,PySem.W.mg_none_of X G z4,PySem.W.mg_none_of X G z5,PySem.W.mg_none_of X G z6,PySem.W.mg_none_of X G z7,PySem.W.mg_none_of X G z8,PySem.W.mg_none_of X G z9,PySem.W.mg_none_of X G z10,PySem.W.mg_none_of X G z11,PySem.W.mg_none_of X G z12,⟨_,PySem.W.mg_of X G g_LONGEST_NAME⟩,⟨_,PySem.W.mg_of X G g_TEETH_BOUND⟩,⟨_,PySem.W.mg_of X G g_MOST_WHEELS⟩,⟨_,PySem.W.mg_of X G g_MOST_JOINS⟩,⟨_,PySem.W.mg_of X G g_LETTERS⟩,⟨_,PySem.W.mg_of X G g_KINDS,fun _=> .inr ⟨_,_,_,gl_KINDS,rfl,rfl,Nat.le_of_ble_eq_true rfl,(.cons ⟨_,rfl⟩ (.cons ⟨_,rfl⟩ (.cons ⟨_,rfl⟩ (.cons ⟨_,rfl⟩ .nil))))⟩⟩⟩
 have F_ring:=b6g (st:=a3f) l12 c12 d12
 have b_ring:Binds K (PySem.W.fnOf "ring" "ring" (a09 a3f) (a02 a3f) (a0f a3f) (.ref dv12) kV12 dc12 pm12 an12 cd12 ct12) ["train","name"] []:=fun s us hk hl=>by rw[List.append_nil]at hl |-;obtain⟨_,_,rfl⟩:=b5n us hl;exact .of_defaults rfl (hk _ _ d12) rfl rfl rfl
 have bd_ring:Binds K (PySem.W.fnOf "ring" "ring" (a09 a3f) (a02 a3f) (a0f a3f) (.ref dv12) kV12 dc12 pm12 an12 cd12 ct12) ["train","name"] [.none]:=fun s us hk hl=>by obtain⟨_,rfl⟩:=b06 us (by simpa using hl);exact .of_defaults rfl (hk _ _ d12) rfl rfl rfl
 have m_ring:=PySem.W.mg_of X G a12
 have k_ring:=k12
 have F_turns:=b6g (st:=a2c) l14 c14 d14
 have b_turns:Binds K (PySem.W.fnOf "turns" "turns" (a09 a2c) (a02 a2c) (a0f a2c) (.ref dv14) kV14 dc14 pm14 an14 cd14 ct14) ["train","name"] []:=fun s us hk hl=>by rw[List.append_nil]at hl |-;obtain⟨_,_,rfl⟩:=b5n us hl;exact .of_defaults rfl (hk _ _ d14) rfl rfl rfl
 have bd_turns:Binds K (PySem.W.fnOf "turns" "turns" (a09 a2c) (a02 a2c) (a0f a2c) (.ref dv14) kV14 dc14 pm14 an14 cd14 ct14) ["train","name"] [.none]:=fun s us hk hl=>by obtain⟨_,rfl⟩:=b06 us (by simpa using hl);exact .of_defaults rfl (hk _ _ d14) rfl rfl rfl
 have m_turns:=PySem.W.mg_of X G a14
 have k_turns:=k14
 have F_Train___init__:=a5x (st:=a1g) l16 c16 k16
 have b_Train___init__:=F_Train___init__.binds (ps:=["self"]) fun _ _ _ _ _ _ us hl=>by obtain⟨_,rfl⟩:=b06 us hl;rfl
 have me_Train___init__:Meth K C_Train "__init__" _:=⟨a16,i16,k16⟩
 have F_Train_put_wheel:=a5x (st:=a1c) l17 c17 k17
 have b_Train_put_wheel:=F_Train_put_wheel.binds (ps:=["self","name","teeth"]) fun _ _ _ _ _ _ us hl=>by obtain⟨_,_,_,rfl⟩:=len_3 us hl;rfl
 have me_Train_put_wheel:Meth K C_Train "put_wheel" _:=⟨a17,i17,k17⟩
 have F_Train_put_join:=a5x (st:=a1f) l18 c18 k18
 have b_Train_put_join:=F_Train_put_join.binds (ps:=["self","kind","one","other"]) fun _ _ _ _ _ _ us hl=>by obtain⟨_,_,_,_,rfl⟩:=len_4 us hl;rfl
 have me_Train_put_join:Meth K C_Train "put_join" _:=⟨a18,i18,k18⟩
 have F_Train_take_join:=a5x (st:=a1b) l19 c19 k19
 have b_Train_take_join:=F_Train_take_join.binds (ps:=["self","number"]) fun _ _ _ _ _ _ us hl=>by obtain⟨_,_,rfl⟩:=b5n us hl;rfl
 have me_Train_take_join:Meth K C_Train "take_join" _:=⟨a19,i19,k19⟩
 have F_Train_wheels:=a5x (st:=a1n) l20 c20 k20
 have b_Train_wheels:=F_Train_wheels.binds (ps:=["self"]) fun _ _ _ _ _ _ us hl=>by obtain⟨_,rfl⟩:=b06 us hl;rfl
 have me_Train_wheels:Meth K C_Train "wheels" _:=⟨a20,i20,k20⟩
 have F_Train_joins:=a5x (st:=a1q) l21 c21 k21
 have b_Train_joins:=F_Train_joins.binds (ps:=["self"]) fun _ _ _ _ _ _ us hl=>by obtain⟨_,rfl⟩:=b06 us hl;rfl
 have me_Train_joins:Meth K C_Train "joins" _:=⟨a21,i21,k21⟩
 have F_law:=a5x (st:=a8k) l43 c43 k43
 have cl_Train:Cls K C_Train:=⟨pg_Train,hd_Train,po_Train,sa_Train⟩
 have pl_teeth_of:Pln K C_Train "teeth_of":=⟨cl_Train,n_Train_teeth_of⟩
 have pl_join_of:Pln K C_Train "join_of":=⟨cl_Train,n_Train_join_of⟩
 have pl_next_number:Pln K C_Train "next_number":=⟨cl_Train,n_Train_next_number⟩
 have X_NoName:ExCls K mg "NoName" E_NoName:=⟨PySem.W.mg_of X G aE_NoName,ex_NoName⟩
 have X_Twice:ExCls K mg "Twice" E_Twice:=⟨PySem.W.mg_of X G aE_Twice,ex_Twice⟩
 have X_NoTeeth:ExCls K mg "NoTeeth" E_NoTeeth:=⟨PySem.W.mg_of X G aE_NoTeeth,ex_NoTeeth⟩
 have X_Full:ExCls K mg "Full" E_Full:=⟨PySem.W.mg_of X G aE_Full,ex_Full⟩
 have X_NoWheel:ExCls K mg "NoWheel" E_NoWheel:=⟨PySem.W.mg_of X G aE_NoWheel,ex_NoWheel⟩
 have X_NoJoin:ExCls K mg "NoJoin" E_NoJoin:=⟨PySem.W.mg_of X G aE_NoJoin,ex_NoJoin⟩
 have X_TrainError:ExCls K mg "TrainError" E_TrainError:=⟨PySem.W.mg_of X G aE_TrainError,ex_TrainError⟩
 have X_Jams:ExCls K mg "Jams" E_Jams:=⟨PySem.W.mg_of X G aE_Jams,ex_Jams⟩
 refine⟨PySem.W.fnOf "law" "law" (a09 a8k) (a02 a8k) (a0f a8k) .none kV43 dc43 pm43 an43 cd43 ct43,fun s v=> .of_eq rfl,fun base kb nb sb=> ?_⟩
 let EC:Rk->Addr:=fun r=>match r with | .noName=>E_NoName | .twice=>E_Twice | .noTeeth=>E_NoTeeth | .full=>E_Full | .noWheel=>E_NoWheel | .noJoin=>E_NoJoin
 have XK:ExK K mg EC:=⟨X_NoName,X_Twice,X_NoTeeth,X_Full,X_NoWheel,X_NoJoin⟩
 have h_law_cell_at:=d22.has (P:=l.prog) (w:=w) (base:=base) X G fun _ F=>ok_cell F T
 have h_is_name:=d15.has (P:=l.prog) (w:=w) (base:=base) X G fun _ F=>b3l F T
 have h_Train:HasC l.prog w K mg base 1 "Train" C_Train (b12 C_Train):=⟨PySem.W.mg_of X G aC_Train,_,_,ok_init F_Train___init__ pl_teeth_of pl_join_of pl_next_number,⟨mk_Train,me_Train___init__.1,me_Train___init__.2,kc_Train⟩,b_Train___init__⟩
 have h_put_wheel:HasM l.prog w K mg base (CXE l.prog w) 2 C_Train "put_wheel" ["self","name","teeth"] (a0m K (a7s C_Train EC)):=⟨cl_Train,_,_,a9n F_Train_put_wheel T XK pl_teeth_of h_is_name,me_Train_put_wheel,b_Train_put_wheel⟩
 have h_put_join:HasM l.prog w K mg base (CXE l.prog w) 2 C_Train "put_join" ["self","kind","one","other"] (a0m K (a7t C_Train EC)):=⟨cl_Train,_,_,b0r F_Train_put_join T XK pl_teeth_of pl_join_of pl_next_number,me_Train_put_join,b_Train_put_join⟩
 have h_take_join:HasM l.prog w K mg base (CXE l.prog w) 2 C_Train "take_join" ["self","number"] (a0m K (a8b C_Train EC)):=⟨cl_Train,_,_,a9m F_Train_take_join XK pl_join_of,me_Train_take_join,b_Train_take_join⟩
 have h_wheels:HasM l.prog w K mg base (CXE l.prog w) 1 C_Train "wheels" ["self"] (a0m K (a2o C_Train)):=⟨cl_Train,_,_,b45 F_Train_wheels T pl_teeth_of,me_Train_wheels,b_Train_wheels⟩
 have h_joins:HasM l.prog w K mg base (CXE l.prog w) 1 C_Train "joins" ["self"] (a0m K (a36 C_Train)):=⟨cl_Train,_,_,b7v F_Train_joins T pl_join_of,me_Train_joins,b_Train_joins⟩
 have h_greatest_divisor:=d0.has (P:=l.prog) (w:=w) (base:=base) X G fun _ F=>ok_gcd F T
 have h_lowest:=d1.has (P:=l.prog) (w:=w) (base:=base) X G fun _ F=>ok_low F sb hp h_greatest_divisor
 have h_times:=d2.has (P:=l.prog) (w:=w) (base:=base) X G fun _ F=>b7u F h_lowest
 have h_factor:=d3.has (P:=l.prog) (w:=w) (base:=base) X G fun _ F=>b48 F h_lowest
 have h_refuse_unknown:=d4.has (P:=l.prog) (w:=w) (base:=base) X G fun _ F=>a5h F XK
 have h_wheel_meant:=d5.has (P:=l.prog) (w:=w) (base:=base) X G fun _ F=>a7g F T XK h_wheels h_refuse_unknown
 have h_joins_from:=d6.has (P:=l.prog) (w:=w) (base:=base) X G fun _ F=>a8u F
 have h_tree_from:=d7.has (P:=l.prog) (w:=w) (base:=base) X G fun _ F=>a9l F T h_joins_from
 have h_shares_along:=d9.has (P:=l.prog) (w:=w) (base:=base) X G fun _ F=>a6r F T h_wheels h_times h_factor
 have h_jamming_join:=d10.has (P:=l.prog) (w:=w) (base:=base) X G fun _ F=>a6s F T h_wheels h_joins h_times h_factor
 have h_free_shares:=d13.has (P:=l.prog) (w:=w) (base:=base) X G fun _ F=>a7k F X_Jams h_joins h_wheel_meant h_tree_from h_shares_along h_jamming_join
 have h_turns:HasD l.prog w K mg base 45 "turns" ["train","name"] (a0m K (a8a C_Train EC E_Jams)):=⟨_,_,b7t F_turns T h_wheels h_free_shares,m_turns,k_turns,b_turns,bd_turns⟩
 have h_road_by:=d8.has (P:=l.prog) (w:=w) (base:=base) X G fun _ F=>b3j F h_tree_from
 have h_ring_closed_by:=d11.has (P:=l.prog) (w:=w) (base:=base) X G fun _ F=>a5g F h_road_by
 have h_ring:HasD l.prog w K mg base 44 "ring" ["train","name"] (a0m K (b10 C_Train EC)):=⟨_,_,ok_ring F_ring h_joins h_wheel_meant h_tree_from h_shares_along h_jamming_join h_ring_closed_by,m_ring,k_ring,b_ring,bd_ring⟩
 have h_law_name:=d23.has (P:=l.prog) (w:=w) (base:=base) X G fun _ F=>b0u F
 have h_law_teeth:=d24.has (P:=l.prog) (w:=w) (base:=base) X G fun _ F=>a9p F
 have h_law_by:=d25.has (P:=l.prog) (w:=w) (base:=base) X G fun _ F=>b47 F
 have h_law_goes:=d26.has (P:=l.prog) (w:=w) (base:=base) X G fun _ F=>b0z F h_law_by
 have h_law_closing:=d27.has (P:=l.prog) (w:=w) (base:=base) X G fun _ F=>a7i F T h_law_goes
 have h_law_two:=d28.has (P:=l.prog) (w:=w) (base:=base) X G fun _ F=>b3k F
 have h_law_rows:=d29.has (P:=l.prog) (w:=w) (base:=base) X G fun _ F=>b0t F T h_law_two h_law_name h_law_teeth h_law_by h_law_closing
 have h_law_train:=d30.has (P:=l.prog) (w:=w) (base:=base) X G fun _ F=>a9o F h_Train h_put_wheel h_put_join
 have h_law_hung:=d31.has (P:=l.prog) (w:=w) (base:=base) X G fun _ F=>b0y F T
 have h_law_deed:=d32.has (P:=l.prog) (w:=w) (base:=base) X G fun _ F=>b00 F T h_law_name h_law_teeth h_law_two h_law_closing
 have h_law_do:=d33.has (P:=l.prog) (w:=w) (base:=base) X G fun _ F=>b46 F T h_put_wheel h_put_join h_take_join
 have h_law_told:=d34.has (P:=l.prog) (w:=w) (base:=base) X G fun _ F=>b0s F h_turns
 have h_law_look:=d35.has (P:=l.prog) (w:=w) (base:=base) X G fun _ F=>b0w F xm_Jams_Jams X_Jams.1 h_law_told
 have h_law_numbers:=d36.has (P:=l.prog) (w:=w) (base:=base) X G fun _ F=>a7h F T
 have h_law_as_much:=d37.has (P:=l.prog) (w:=w) (base:=base) X G fun _ F=>a7j F T
 have h_law_joined:=d38.has (P:=l.prog) (w:=w) (base:=base) X G fun _ F=>a8s F T h_law_as_much
 have h_law_less:=d39.has (P:=l.prog) (w:=w) (base:=base) X G fun _ F=>b0x F T
 have h_law_more:=d40.has (P:=l.prog) (w:=w) (base:=base) X G fun _ F=>b0v F T h_law_by h_law_joined
 have h_law_beside:=d41.has (P:=l.prog) (w:=w) (base:=base) X G fun _ F=>a8t F T h_law_look
 have h_law_asked:=d42.has (P:=l.prog) (w:=w) (base:=base) X G fun _ F=>a9q F T h_law_hung h_law_look h_law_beside h_law_do h_ring h_law_numbers h_law_less h_law_more
 exact law_ok (ok_law (C:=C_Train) F_law T h_law_cell_at h_law_rows h_law_train h_wheels h_joins h_law_deed h_law_do h_law_asked)
theorem walk{l:PySem.W.OpenLaw}{q:Program}{a24:List Str}{XP:(Str->Option Value)->Heap->Prop}{YP:World->Heap->Prop}{d:DefRec}{K:Params->PySem.W.Frag}(hn:l.most=some 63)(hdf:d.params.defaults=[])(him:importsNone q=true)
   (hY: ∀(w:World) (h:Heap),YP w h->(K w.params).In h)
   (F: ∀(w:World) (mg:Str->Option Value) (fa:Addr) (h:Heap),(K w.params).In h->h.Ns mainGlobals mg->mg d.name=some (.ref fa)->
     ∃fd:FuncData,(∀(s:Shared) (u:Value),BindsTo s fd ⟨[u],[]⟩ [("_law_script",u)])/\ ∀base:Heap,(K w.params).In base->base.Ns mainGlobals mg->base.NoSeer->FnOk l.prog w (K w.params) mg base CX0 50 fa fd ["_law_script"] (a58 (K w.params))):
   PySem.W.WalkO q a24 XP YP l.row.toRowW d [] (fun f vs=>PySem.call f vs):=
 L2.walk_ofB (n:=63) (k:=50) (x:="_law_script") (CX:=CX0) (sp:=a58) hn (by decide) hdf ⟨rfl,by decide,by decide⟩ him hY F (fun _ _ a ns hl _ hS=>⟨a,ns,rfl,hS,hl,fun _=>rfl⟩) fun _ _ _ _ z=>z
end K9
open PySem PySem.W PyProof.Rows
local macro_rules
 | `(tactic| bv_normalize) => `(tactic| (refine' K9.DAt.mk ?a ?l ?c ?k; (case a => k_is); (case l => k_is); (case c => k_is); (case k => k_is)))
noncomputable def PySem.W.Fast.tw12093264676999472477:Nat:=0
noncomputable def PySem.W.Fast.tw14705824028815373759:Nat:=0
noncomputable def PySem.W.Fast.tw16946926769111704706:Nat:=0
noncomputable def PySem.W.Fast.tw7995416249788722373:Nat:=0
noncomputable def PySem.W.Fast.tw17313175667615055859:Nat:=0
noncomputable def PySem.W.Fast.tw3272140864167672090:Nat:=0
noncomputable def PySem.W.Fast.tw17007191575260563805:Nat:=0
noncomputable def PySem.W.Fast.tw5015646888974192268:Nat:=0
noncomputable def PySem.W.Fast.tw11394699344368403387:Nat:=0
noncomputable def PySem.W.Fast.tw1686151468385432493:Nat:=0
noncomputable def PySem.W.Fast.tw1089513180472715758:Nat:=0
noncomputable def PySem.W.Fast.tw16573559855558484219:Nat:=0
noncomputable def PySem.W.Fast.tw4264097643537771104:Nat:=0
noncomputable def PySem.W.Fast.tw4127928044319263532:Nat:=0
noncomputable def PySem.W.Fast.tw11582382203904933577:Nat:=0
noncomputable def PySem.W.Fast.tw12837480541741256479:Nat:=0
noncomputable def PySem.W.Fast.tw7904080973044030290:Nat:=0
noncomputable def PySem.W.Fast.tw1639398681542596607:Nat:=0
noncomputable def PySem.W.Fast.tw2329721778489162521:Nat:=0
noncomputable def PySem.W.Fast.tw13378845387247899988:Nat:=0
noncomputable def PySem.W.Fast.tw12098100511877691198:Nat:=0
noncomputable def PySem.W.Fast.tw18191403791435232837:Nat:=0
noncomputable def PySem.W.Fast.tw11753970257740925995:Nat:=0
noncomputable def PySem.W.Fast.tw4537204650794832988:Nat:=0
noncomputable def PySem.W.Fast.tw12766813190434947269:Nat:=0
noncomputable def PySem.W.Fast.tw3728272229384453544:Nat:=0
noncomputable def PySem.W.Fast.tw15726801009407112251:Nat:=0
noncomputable def PySem.W.Fast.tw3265870169959525147:Nat:=0
noncomputable def PySem.W.Fast.tw7874665612616319778:Nat:=0
noncomputable def PySem.W.Fast.tw12401627891800735799:Nat:=0
noncomputable def PySem.W.Fast.tw12173265624650802928:Nat:=0
noncomputable def PySem.W.Fast.tw7094114262909597807:Nat:=0
noncomputable def PySem.W.Fast.tw10413106092645564964:Nat:=0
noncomputable def PySem.W.Fast.tw16438755626377045373:Nat:=0
noncomputable def PySem.W.Fast.tw16702277767051431210:Nat:=0
noncomputable def PySem.W.Fast.tw4548340155702618564:Nat:=0
noncomputable def PySem.W.Fast.tw13271638426464492919:Nat:=0
noncomputable def PySem.W.Fast.tw11103946363815189290:Nat:=0
noncomputable def PySem.W.Fast.tw16060877037503930667:Nat:=0
noncomputable def PySem.W.Fast.tw6369996227607686415:Nat:=0
noncomputable def PySem.W.Fast.tw5257208869356960180:Nat:=0
noncomputable def PySem.W.Fast.tw559880472451838528:Nat:=0
noncomputable def PySem.W.Fast.tw11251337168883413685:Nat:=0
noncomputable def PySem.W.Fast.tw2457212014320416069:Nat:=0
noncomputable def PySem.W.Fast.tw11232532425376442426:Nat:=0
noncomputable def PySem.W.Fast.tw4127042800955162739:Nat:=0
noncomputable def PySem.W.Fast.tw9003820439462761547:Nat:=0
noncomputable def PySem.W.Fast.tw7416597806184229279:Nat:=0
noncomputable def PySem.W.Fast.tw8902042490970987103:Nat:=0
noncomputable def PySem.W.Fast.tw2518718311666503538:Nat:=0
noncomputable def PySem.W.Fast.tw2471503235644498571:Nat:=0
noncomputable def PySem.W.Fast.tw605105389865489537:Nat:=0
noncomputable def PySem.W.Fast.tw16059523234410281642:Nat:=0
noncomputable def PySem.W.Fast.tw3802492449732678548:Nat:=0
noncomputable def PySem.W.Fast.tw4453560430074957874:Nat:=0
noncomputable def PySem.W.Fast.tw11039793117261470504:Nat:=0
noncomputable def PySem.W.Fast.tw3265353735709923498:Nat:=0
noncomputable def PySem.W.Fast.tw9657834567406140137:Nat:=0
noncomputable def PySem.W.Fast.tw12940426705111336382:Nat:=0
set_option maxRecDepth 100000 in
set_option maxHeartbeats 0 in
theorem PySem.Challenge.cw_cogtrain_k09_whole_more_and_less_holds : PySem.Challenge.rw_cogtrain_k09_whole_more_and_less.Holds := by
 w_on;o_law;k_head;(case hw=>w_witness2)
 k_fill
 refine K9.walk (l:=PySem.Challenge.rw_cogtrain_k09_whole_more_and_less) rfl rfl (by decide+kernel) (fun w h Y=>PySem.W.kIn_of Y) ?F
 case F=>
   intro w mg fa h KX G hmg
   refine' K9.all_mk KX G hmg rfl ?aC_Train ?aE_NoName ?aE_Twice ?aE_NoTeeth ?aE_Full ?aE_NoWheel ?aE_NoJoin ?aE_TrainError ?aE_Jams ?d0 ?d1 ?d2 ?d3 ?d4 ?d5 ?d6 ?d7 ?d8 ?d9 ?d10 ?d11 ?a12 ?l12 ?d12 ?c12 ?k12 ?d13 ?a14 ?l14 ?d14 ?c14 ?k14 ?d15 ?a16 ?i16 ?l16 ?c16 ?k16 ?a17 ?i17 ?l17 ?c17 ?k17 ?a18 ?i18 ?l18 ?c18 ?k18 ?a19 ?i19 ?l19 ?c19 ?k19 ?a20 ?i20 ?l20 ?c20 ?k20 ?a21 ?i21 ?l21 ?c21 ?k21 ?d22 ?d23 ?d24 ?d25 ?d26 ?d27 ?d28 ?d29 ?d30 ?d31 ?d32 ?d33 ?d34 ?d35 ?d36 ?d37 ?d38 ?d39 ?d40 ?d41 ?d42 ?a43 ?l43 ?c43 ?k43 ?pg_Train ?hd_Train ?po_Train ?sa_Train ?mk_Train ?kc_Train ?n_Train_teeth_of ?n_Train_join_of ?n_Train_next_number ?z0 ?z1 ?z2 ?z3 ?z4 ?z5 ?z6 ?z7 ?z8 ?z9 ?z10 ?z11 ?z12 ?g_LONGEST_NAME ?g_TEETH_BOUND ?g_MOST_WHEELS ?g_MOST_JOINS ?g_LETTERS ?g_KINDS ?gl_KINDS ?ex_NoName ?ex_Twice ?ex_NoTeeth ?ex_Full ?ex_NoWheel ?ex_NoJoin ?ex_TrainError ?ex_Jams ?xm_Jams_Jams
   (case aC_Train=>k_is)
   (case aE_NoName=>k_is)
   (case aE_Twice=>k_is)
   (case aE_NoTeeth=>k_is)
   (case aE_Full=>k_is)
   (case aE_NoWheel=>k_is)
   (case aE_NoJoin=>k_is)
   (case aE_TrainError=>k_is)
   (case aE_Jams=>k_is)
   (case d0=>bv_normalize)
   (case d1=>bv_normalize)
   (case d2=>bv_normalize)
   (case d3=>bv_normalize)
   (case d4=>bv_normalize)
   (case d5=>bv_normalize)
   (case d6=>bv_normalize)
   (case d7=>bv_normalize)
   (case d8=>bv_normalize)
   (case d9=>bv_normalize)
   (case d10=>bv_normalize)
   (case d11=>bv_normalize)
   (case a12=>k_is)
   (case l12=>k_is)
   (case d12=>k_is)
   (case c12=>k_is)
   (case k12=>k_is)
   (case d13=>bv_normalize)
   (case a14=>k_is)
   (case l14=>k_is)
   (case d14=>k_is)
   (case c14=>k_is)
   (case k14=>k_is)
   (case d15=>bv_normalize)
   (case a16=>k_is)
   (case i16=>k_is)
   (case l16=>k_is)
   (case c16=>k_is)
   (case k16=>k_is)
   (case a17=>k_is)
   (case i17=>k_is)
   (case l17=>k_is)
   (case c17=>k_is)
   (case k17=>k_is)
   (case a18=>k_is)
   (case i18=>k_is)
   (case l18=>k_is)
   (case c18=>k_is)
   (case k18=>k_is)
   (case a19=>k_is)
   (case i19=>k_is)
   (case l19=>k_is)
   (case c19=>k_is)
   (case k19=>k_is)
   (case a20=>k_is)
   (case i20=>k_is)
   (case l20=>k_is)
   (case c20=>k_is)
   (case k20=>k_is)
   (case a21=>k_is)
   (case i21=>k_is)
   (case l21=>k_is)
   (case c21=>k_is)
   (case k21=>k_is)
   (case d22=>bv_normalize)
   (case d23=>bv_normalize)
   (case d24=>bv_normalize)
   (case d25=>bv_normalize)
   (case d26=>bv_normalize)
   (case d27=>bv_normalize)
   (case d28=>bv_normalize)
   (case d29=>bv_normalize)
   (case d30=>bv_normalize)
   (case d31=>bv_normalize)
   (case d32=>bv_normalize)
   (case d33=>bv_normalize)
   (case d34=>bv_normalize)
   (case d35=>bv_normalize)
   (case d36=>bv_normalize)
   (case d37=>bv_normalize)
   (case d38=>bv_normalize)
   (case d39=>bv_normalize)
   (case d40=>bv_normalize)
   (case d41=>bv_normalize)
   (case d42=>bv_normalize)
   (case a43=>k_is)
   (case l43=>k_is)
   (case c43=>k_is)
   (case k43=>k_is)
   (case pg_Train=>k_is)
   (case hd_Train=>k_is)
   (case po_Train=>k_is)
   (case sa_Train=>k_is)
   (case mk_Train=>k_is)
   (case kc_Train=>k_is)
   (case n_Train_teeth_of=>k_is)
   (case n_Train_join_of=>k_is)
   (case n_Train_next_number=>k_is)
   (case z0=>k_is)
   (case z1=>k_is)
   (case z2=>k_is)
   (case z3=>k_is)
   (case z4=>k_is)
   (case z5=>k_is)
   (case z6=>k_is)
   (case z7=>k_is)
   (case z8=>k_is)
   (case z9=>k_is)
   (case z10=>k_is)
   (case z11=>k_is)
   (case z12=>k_is)
   (case g_LONGEST_NAME=>k_is)
   (case g_TEETH_BOUND=>k_is)
   (case g_MOST_WHEELS=>k_is)
   (case g_MOST_JOINS=>k_is)
   (case g_LETTERS=>k_is)
   (case g_KINDS=>k_is)
   (case gl_KINDS=>k_is)
   (case ex_NoName=>k_exc)
   (case ex_Twice=>k_exc)
   (case ex_NoTeeth=>k_exc)
   (case ex_Full=>k_exc)
   (case ex_NoWheel=>k_exc)
   (case ex_NoJoin=>k_exc)
   (case ex_TrainError=>k_exc)
   (case ex_Jams=>k_exc)
   (case xm_Jams_Jams=>kts_exm)
#print axioms PySem.Challenge.cw_cogtrain_k09_whole_more_and_less_holds
