import PyProof.Rows.All
import Wide.All
import OpenK.AllK
import Wide.FinOn
import Lean
import PyProof.EqAt
import PyProof.EqKinds
import PyProof.TupleCall
import PySem.Challenge.RW_pairsheath_k67_wanted_planted
noncomputable section
set_option Elab.async false
set_option linter.all false
set_option maxRecDepth 100000
set_option maxHeartbeats 4000000
namespace L2
open PySem PySem.Spec PyProof.Rows
abbrev Key:=Sum Int Str
def keyIs:Key->Value->Bool
 | .inl k,v=>Value.isInt k v
 | .inr x,v=>Value.isStrOf x v
def keyH(w:World):Key->Int
 | .inl k=>hashInt k
 | .inr x=>hashStr w x
theorem keyIs_shape:∀{k:Key}{v:Value},keyIs k v=true->(∃i t,k=Sum.inl i/\v=Value.int i t)\/(∃x t,k=Sum.inr x/\v=Value.str x t)
 | .inl i,v,h=>by
  obtain⟨t,e⟩:=Value.isInt_shape (k:=i) (v:=v) h;exact .inl ⟨i,t,rfl,e⟩
 | .inr x,v,h=>by
  obtain⟨t,e⟩:=Value.isStrOf_shape (x:=x) (v:=v) h;exact .inr ⟨x,t,rfl,e⟩
theorem keyIs_int(i:Int)(t:Tok):keyIs (.inl i) (.int i t)=true:=by simp[keyIs,Value.isInt]
theorem keyIs_str(x:Str)(t:Tok):keyIs (.inr x) (.str x t)=true:=by simp[keyIs,Value.isStrOf]
theorem key_ll(a b:Int):decide ((Sum.inl a:Key)=Sum.inl b)=(a==b):=by
 by_cases e:a=b
 .subst e;simp
 .have h:¬(Sum.inl a:Key)=Sum.inl b:=λq=>e (Sum.inl.inj q);rw[decide_eq_false h];exact(beq_eq_false_iff_ne.mpr e).symm
theorem key_rr(a b:Str):decide ((Sum.inr a:Key)=Sum.inr b)=decide (a=b):=by
 by_cases e:a=b
 .subst e;simp
 .have h:¬(Sum.inr a:Key)=Sum.inr b:=λq=>e (Sum.inr.inj q);rw[decide_eq_false h,decide_eq_false e]
theorem key_lr(a:Int)(b:Str):decide ((Sum.inl a:Key)=Sum.inr b)=false:=decide_eq_false (λq=>nomatch q)
theorem key_rl(a:Str)(b:Int):decide ((Sum.inr a:Key)=Sum.inl b)=false:=decide_eq_false (λq=>nomatch q)
def mixKind(prog:Program)(w:World):PySem.KeyKind prog w Key where
 is:=keyIs
 hash:=keyH w
 inj:=λv a b ha hb=>by
  rcases keyIs_shape ha with⟨i,t,rfl,rfl⟩|⟨x,t,rfl,rfl⟩
  .rcases keyIs_shape hb with⟨j,u,rfl,e⟩|⟨y,u,rfl,e⟩
   .injection e with e1 _;rw[e1]
   .exact nomatch e
  .rcases keyIs_shape hb with⟨j,u,rfl,e⟩|⟨y,u,rfl,e⟩
   .exact nomatch e
   .injection e with e1 _;rw[e1]
 byValue:=λk v h=>by
  rcases keyIs_shape h with⟨i,t,rfl,rfl⟩|⟨x,t,rfl,rfl⟩<;>rfl
 pyHash:=λhv h=>by
  rcases keyIs_shape hv with⟨i,t,rfl,rfl⟩|⟨x,t,rfl,rfl⟩
  .exact wpAny_pyHash_int h
  .exact wpAny_pyHash_str h
 eqBool:=λhu hv h=>by
  rcases keyIs_shape hu with⟨i,t,rfl,rfl⟩|⟨x,t,rfl,rfl⟩
  .rcases keyIs_shape hv with⟨j,u,rfl,rfl⟩|⟨y,u,rfl,rfl⟩
   .rw[key_ll] at h;exact wpAny_eqBool_int h
   .rw[key_lr] at h;exact SeqAt.EqAt.int_str i t y u _ _ _ _ h
  .rcases keyIs_shape hv with⟨j,u,rfl,rfl⟩|⟨y,u,rfl,rfl⟩
   .rw[key_rl] at h;exact SeqAt.EqAt.str_int x t j u _ _ _ _ h
   .rw[key_rr] at h;exact wpAny_eqBool_str h
 «strs»:=λk x t v h=>by
  rcases keyIs_shape h with⟨i,u,rfl,e⟩|⟨y,u,rfl,e⟩
  .exact nomatch e
  .injection e with e1 _
   subst e1;cases v<;>rfl
theorem mixKind_int(prog:Program)(w:World)(i:Int)(t:Tok):(mixKind prog w).is (.inl i) (.int i t)=true:=keyIs_int i t
theorem mixKind_str(prog:Program)(w:World)(x:Str)(t:Tok):(mixKind prog w).is (.inr x) (.str x t)=true:=keyIs_str x t
inductive V where
 | non|bl (b:Bool)|int (i:Int)|str (x:Str)|byt (b:Array UInt8)|flt (b:UInt64)|ref (a:Addr)|ty (n:String)
 deriving DecidableEq
def RelV:V->Value->Prop
 | .non,u=>u=Value.none
 | .bl b,u=>u=Value.bool b
 | .int i,u=>∃t,u=Value.int i t
 | .str x,u=>∃t,u=Value.str x t
 | .byt b,u=>∃t,u=Value.bytes b t
 | .flt b,u=>∃t,u=Value.float b t
 | .ref a,u=>u=Value.ref a
 | .ty n,u=>u=Value.type n
abbrev Vals:List V->List Value->Prop:=Paired RelV
theorem Vals.length{xs:List V}{us:List Value}(r:Vals xs us):xs.length=us.length:=Paired.length r
theorem Vals.get:∀{xs:List V}{us:List Value}{i:Nat}{x:V},Vals xs us->xs[i]?=some x->∃u,us[i]?=some u/\RelV x u
 | _,_,_,_,.nil,e=>by simp at e
 | _,_,0,_,.cons r _,e=>by simp at e;subst e;exact⟨_,rfl,r⟩
 | _,_,i+1,x,.cons _ t,e=>by
  obtain⟨u,h1,h2⟩:=Vals.get (i:=i) (x:=x) t (by simpa using e);exact⟨u,by simpa using h1,h2⟩
theorem Vals.set{x:V}{u:Value}(r:RelV x u):∀{xs:List V}{us:List Value}(i:Nat),Vals xs us->Vals (xs.set i x) (us.set i u)
 | _,_,_,.nil=>.nil
 | _,_,0,.cons _ t=>.cons r t
 | _,_,i+1,.cons q t=>.cons q (Vals.set r i t)
theorem Vals.append:∀{xs ys:List V}{us ws:List Value},Vals xs us->Vals ys ws->Vals (xs++ys) (us++ws)
 | _,_,_,_,.nil,s=>s
 | _,_,_,_,.cons r t,s=>.cons r (Vals.append t s)
theorem Vals.take:∀{xs:List V}{us:List Value}(n:Nat),Vals xs us->Vals (xs.take n) (us.take n)
 | _,_,0,_=>.nil
 | _,_,_+1,.nil=>.nil
 | _,_,n+1,.cons r t=>.cons r (Vals.take n t)
theorem Vals.drop:∀{xs:List V}{us:List Value}(n:Nat),Vals xs us->Vals (xs.drop n) (us.drop n)
 | _,_,0,r=>r
 | _,_,_+1,.nil=>.nil
 | _,_,n+1,.cons _ t=>Vals.drop n t
def RelO:Option V->Option Value->Prop
 | some v,some u=>RelV v u
 | none,none=>True
 | _,_=>False
def KV{κ:Type}:List (κ×V)->List (κ×Value)->Prop:=Paired λ(p:κ×V)(q:κ×Value)=>p.1=q.1/\RelV p.2 q.2
def kV:Key->V
 | .inl i=>.int i
 | .inr x=>.str x
inductive HO where
 /-- a list -/
 | lst (xs:List V)
 /-- a tuple (never changes) -/
 | tup (xs:List V)
 /-- a dict whose keys are ints and texts;one whose keys are tuples of ints and texts (the empty one is both) -/
 | dK (kvs:List (Key×V))|dT (kvs:List (List Key×V))
 /-- a set of ints: its members,its size -/
 | set (S:Int->Bool) (n:Nat)
 /-- an instance of the class at C,its dict at dx,its attributes -/
 | ins (C dx:Addr) (fs:List (Str×V))
 /-- the dict of the instance at x -/
 | own (x:Addr)
 /-- the dict of an exception -/
 | xd (fs:List (Str×V))
 /-- a bound method,f of x -/
 | met (f x:Addr)
 /-- a range object lo,lo+1,.. below hi -/
 | rng (lo hi:Int)
 /-- a thing that is known to the object (the script;a dict while a loop walks it): read,never written while it is so -/
 | frz (o:Obj) (u:HO)
 /-- a code object's table -/
 | tbl (ps:Array Value)
 /-- any other thing,by what is true of its one object (a def of one's own: SetO a S n:=HO.ext λh=>..) -/
 | ext (φ:Heap->Prop)
abbrev Hp:=Addr->Option HO
def upd(H:Hp)(a:Addr)(o:HO):Hp:=λb=>if b=a then some o else H b
theorem upd_same{H:Hp}{a:Addr}{o:HO}:upd H a o a=some o:=by unfold upd;rw[if_pos rfl]
theorem upd_ne{H:Hp}{a b:Addr}{o:HO}(h:b≠a):upd H a o b=H b:=by unfold upd;rw[if_neg h]
theorem upd_upd{H:Hp}{a:Addr}{o u:HO}:upd (upd H a o) a u=upd H a u:=by
 funext b;unfold upd;split<;>rfl
theorem ne_of{H:Hp}{a b:Addr}{o u:HO}(h:H a=some o)(h':H b=some u)(d:o≠u):a≠b:=by
 intro e;subst e;rw[h] at h';exact d (Option.some.inj h')
theorem ne_of_none{H:Hp}{a b:Addr}{o:HO}(h:H a=some o)(h':H b=none):a≠b:=by
 intro e;subst e;rw[h] at h';cases h'
section
variable(P:Program)(w:World)
def ObjOk(H:Hp)(h:Heap)(a:Addr):HO->Prop
 | .lst xs=>xs.length<=sizeLine/\∃(its:List Value)(n:Nat),Vals xs its/\h.get? a=some {cls:=.type "list",data:=.seq its.toArray n}
 | .tup xs=>xs.length<=sizeLine/\∃its:List Value,Vals xs its/\IsTup h a its.toArray
 | .dK kvs=>kvs.length<=sizeLine/\(a==sysModules)=false/\∃vs,KV kvs vs/\h.DictOf (mixKind P w) a vs
 | .dT kvs=>kvs.length<=sizeLine/\(a==sysModules)=false/\∃xs:List (List Key×Addr×Value),
   Paired (λ(p:List Key×V)(q:List Key×Addr×Value)=>p.1=q.1/\H q.2.1=some (.tup (p.1.map kV))/\RelV p.2 q.2.2) kvs xs ∧
   ∃o es ep,h.get? a=some o/\o.ExactDict/\o.data=.dict es ep/\es.toList=xs.map (entryOfKey (tupleKind (mixKind P w)))/\(xs.map (·.1)).Nodup
 | .set S n=>h.SetOf (intKind P w) a S n
 | .ins C dx fs=>H dx=some (.own a)/\fs.length<=1000/\dx≠a/\h.get? a=some (PySem.W.instObj C dx) ∧
   ∃mA,h.Ns1 dx mA/\(∀f,RelO (fs.lookup f) (mA f))/\PySem.Within mA (fs.map (·.1))
 | .own _=>∃o,h.get? a=some o
 | .xd fs=>∃mA,h.Ns1 a mA/\∀f,RelO (fs.lookup f) (mA f)
 | .rng lo hi=>∃t u v,h.get? a=some {cls:=.type "range",data:=.fields #[.int lo t,.int hi u,.int 1 v]}
 | .frz o u=>h.get? a=some o/\ObjOk H h a u
 | .tbl ps=>h.get? a=some {cls:=.none,data:=.fields ps}
 | .met f x=>h.get? a=some (PySem.W.methodObj (.ref f) (.ref x))
 | .ext φ=>φ h/\(∃o,h.get? a=some o)/\∀h1 h2:Heap,φ h1->(∀o,h1.get? a=some o->h2.get? a=some o)->φ h2
def HOk(H:Hp)(h:Heap):Prop:=∀a o,H a=some o->ObjOk P w H h a o
end
section
variable{P:Program}{w:World}{H H':Hp}{h h':Heap}{a:Addr}{o:HO}
theorem ObjOk.lt(x:ObjOk P w H h a o):a<h.objs.size:=by
 cases o with
 | lst xs=>obtain⟨_,_,_,_,e⟩:=x;exact Heap.lt_size e
 | tup xs=>obtain⟨_,_,_,p⟩:=x;exact p.lt
 | dK kvs=>obtain⟨_,_,_,_,o,_,_,e,_⟩:=x;exact Heap.lt_size e
 | dT kvs=>obtain⟨_,_,_,_,o,_,_,e,_⟩:=x;exact Heap.lt_size e
 | set S n=>obtain⟨o,_,_,_,e,_⟩:=x;exact Heap.lt_size e
 | ins C dx fs=>obtain⟨_,_,_,e,_⟩:=x;exact Heap.lt_size e
 | own y=>obtain⟨_,e⟩:=x;exact Heap.lt_size e
 | xd fs=>obtain⟨_,⟨_,_,_,e,_⟩,_⟩:=x;exact Heap.lt_size e
 | rng lo hi=>obtain⟨_,_,_,e⟩:=x;exact Heap.lt_size e
 | frz ob u=>obtain⟨e,_⟩:=x;exact Heap.lt_size e
 | tbl ps=>exact Heap.lt_size (show h.get? a=some _ from x)
 | met f y=>exact Heap.lt_size (show h.get? a=some _ from x)
 | ext φ=>obtain⟨_,⟨_,e⟩,_⟩:=x;exact Heap.lt_size e
theorem Paired.mapP{α β:Type}{F G:α->β->Prop}:∀{l₁:List α}{l₂:List β},Paired F l₁ l₂->(∀a b,F a b->G a b)->Paired G l₁ l₂
 | _,_,.nil,_=>.nil
 | _,_,.cons r t,f=>.cons (f _ _ r) (Paired.mapP t f)
theorem ObjOk.stay(x:ObjOk P w H h a o)(k:∀b u,(b=a\/H b=some (.own a))->h.get? b=some u->h'.get? b=some u)
  (ho:∀b,H b=some (.own a)->H' b=some (.own a)) (ht:∀b xs,H b=some (.tup xs)->H' b=some (.tup xs)):ObjOk P w H' h' a o:=by
 induction o with
 | lst xs=>obtain⟨z,its,n,r,e⟩:=x;exact⟨z,its,n,r,k _ _ (.inl rfl) e⟩
 | tup xs=>obtain⟨z,its,r,ob,e,c⟩:=x;exact⟨z,its,r,ob,k _ _ (.inl rfl) e,c⟩
 | dK kvs=>obtain⟨z,y,vs,r,ob,es,ep,e,c⟩:=x;exact⟨z,y,vs,r,ob,es,ep,k _ _ (.inl rfl) e,c⟩
 | dT kvs=>
  obtain⟨z,y,xs,r,ob,es,ep,e,c⟩:=x;exact⟨z,y,xs,Paired.mapP r λp q z=>⟨z.1,ht _ _ z.2.1,z.2.2⟩,ob,es,ep,k _ _ (.inl rfl) e,c⟩
 | set S n=>obtain⟨ob,es,ep,t,e,c⟩:=x;exact⟨ob,es,ep,t,k _ _ (.inl rfl) e,c⟩
 | ins C dx fs=>
  obtain⟨d,z,ne,e,mA,⟨od,es,ep,e2,c⟩,r⟩:=x;exact⟨ho _ d,z,ne,k _ _ (.inl rfl) e,mA,⟨od,es,ep,k _ _ (.inr d) e2,c⟩,r⟩
 | own y=>obtain⟨ob,e⟩:=x;exact⟨ob,k _ _ (.inl rfl) e⟩
 | xd fs=>obtain⟨mA,⟨od,es,ep,e,c⟩,r⟩:=x;exact⟨mA,⟨od,es,ep,k _ _ (.inl rfl) e,c⟩,r⟩
 | rng lo hi=>obtain⟨t,u,v,e⟩:=x;exact⟨t,u,v,k _ _ (.inl rfl) e⟩
 | frz ob u ih=>obtain⟨e,q⟩:=x;exact⟨k _ _ (.inl rfl) e,ih q⟩
 | tbl ps=>
  have e:h.get? a=some {cls:=.none,data:=.fields ps}:=x;show h'.get? a=some {cls:=.none,data:=.fields ps};exact k a _ (.inl rfl) e
 | met f y=>
  have e:h.get? a=some (PySem.W.methodObj (.ref f) (.ref y)):=x;show h'.get? a=some (PySem.W.methodObj (.ref f) (.ref y));exact k a _ (.inl rfl) e
 | ext φ=>obtain⟨p,⟨o,e⟩,st⟩:=x;exact⟨st _ _ p λo q=>k _ _ (.inl rfl) q,⟨o,k _ _ (.inl rfl) e⟩,st⟩
theorem HOk.lt(x:HOk P w H h)(e:H a=some o):a<h.objs.size:=(x a o e).lt
theorem HOk.fresh(x:HOk P w H h)(e:h.objs.size<=a):H a=none:=by
 cases q:H a with
 | none=>rfl
 | some u=>exact absurd (Nat.lt_of_lt_of_le (x.lt q) e) (Nat.lt_irrefl _)
theorem HOk.kept(x:HOk P w H h)(k:∀b u,h.get? b=some u->h'.get? b=some u):HOk P w H h':=λa o e=>
 (x a o e).stay (λb u _ q=>k b u q) (λ_ q=>q) λ_ _ q=>q
theorem HOk.laid(x:HOk P w H h)(k:∀b u,h.get? b=some u->h'.get? b=some u)(hp:h.objs.size<=a)(new:ObjOk P w (upd H a o) h' a o):HOk P w (upd H a o) h':=λb u e=>by
 have hn:=x.fresh hp;by_cases hb:b=a
 .subst hb;rw[upd_same] at e;cases e;exact new
 .rw[upd_ne hb] at e;exact(x b u e).stay (λc v _ q=>k c v q) (λc q=>by rw[upd_ne (ne_of_none q hn)];exact q) λc xs q=>by rw[upd_ne (ne_of_none q hn)];exact q
end
def Rd(H:Hp)(a:Addr)(u:HO):Prop:=H a=some u\/∃o,H a=some (.frz o u)
theorem Rd.of{H:Hp}{a:Addr}{u:HO}(h:H a=some u):Rd H a u:=.inl h
theorem Rd.ok{P:Program}{w:World}{H:Hp}{h:Heap}{a:Addr}{u:HO}(r:Rd H a u)(x:HOk P w H h):ObjOk P w H h a u:=by
 rcases r with r|⟨o,r⟩
 .exact x a u r
 .obtain⟨_,q⟩:=x a _ r;exact q
def Mut:Option HO->Prop
 | some (.lst _)=>True
 | some (.dK _)=>True
 | some (.dT _)=>True
 | some (.set _ _)=>True
 | some (.ins _ _ _)=>True
 | some (.ext _)=>True
 | _=>False
section
variable{P:Program}{w:World}{H:Hp}{h h':Heap}{x e:Addr}{o':HO}
theorem HOk.write(ok:HOk P w H h)(mu:Mut (H x))(he:e=x\/H e=some (.own x))(k:∀b u,b≠e->h.get? b=some u->h'.get? b=some u)(heo:∃u,h'.get? e=some u)
  (new:ObjOk P w (upd H x o') h' x o'):HOk P w (upd H x o') h':=λb u q=>by
 have nown:∀c y,H c=some (.own y)->c≠x:=λc y r z=>by subst z;rw[r] at mu;exact mu
 have ntup:∀c xs,H c=some (.tup xs)->c≠x:=λc xs r z=>by subst z;rw[r] at mu;exact mu
 by_cases hb:b=x
 .subst hb;rw[upd_same] at q;cases q;exact new
 .rw [upd_ne hb] at q;by_cases hbe:b=e
  .have q':H b=some (.own x):=by
    rcases he with z|z
    .exact absurd (hbe.trans z) hb
    .rw[hbe];exact z
   rw[q] at q';cases q';obtain⟨v,hv⟩:=heo;exact⟨v,by rw[hbe];exact hv⟩
  .refine (ok b u q).stay (λc v hc r=>k c v ?_ r) (λc r=>by rw[upd_ne (nown c b r)];exact r) λc xs r=>by rw[upd_ne (ntup c xs r)];exact r
   rcases hc with rfl|hc
   .exact hbe
   .rintro rfl;rcases he with z|z
    .exact nown c b hc z
    .rw[hc] at z;cases z;exact hb rfl
end
structure Un(fs ex:List Addr)(H H':Hp)(h h':Heap):Prop where
 keep:∀b o,h.get? b=some o->H b=none->b∉fs->b∉ex->h'.get? b=some o
 slot:∀b o,h.get? b=some o->H b=none->b∈fs->b∉ex->∃sl,h'.get? b=some {o with slots:=sl}
 free:∀b o,h.get? b=some o->H b=none->b∉ex->H' b=none
 there:∀b o,h.get? b=some o->b∉ex->∃o',h'.get? b=some o'
 tups:∀b xs,H b=some (.tup xs)->H' b=some (.tup xs)
 frzs:∀b o u,H b=some (.frz o u)->H' b=some (.frz o u)
 tbls:∀b ps,H b=some (.tbl ps)->∃more,H' b=some (.tbl (ps++more))
section
variable{fs fs' ex ex':List Addr}{H H1 H2:Hp}{h h1 h2 h':Heap}{a x e:Addr}{o:HO}
theorem Un.any(u:Un fs ex H H1 h h1){b:Addr}{ob:Obj}(q:h.get? b=some ob)(n:H b=none)(hx:b∉ex):∃sl,h1.get? b=some {ob with slots:=sl}:=by
 by_cases hb:b∈fs
 .exact u.slot b ob q n hb hx
 .exact⟨ob.slots,u.keep b ob q n hb hx⟩
theorem Un.kept(k:∀b u,h.get? b=some u->h'.get? b=some u):Un fs ex H H h h':=
 ⟨λb ob q _ _ _=>k b ob q,λb ob q _ _ _=>⟨ob.slots,k b ob q⟩,λ_ _ _ n _=>n,λb ob q _=>⟨ob,k b ob q⟩,λ_ _ q=>q,λ_ _ _ q=>q,λ_ ps q=>⟨#[],by rw[q];simp⟩⟩
theorem Un.refl:Un fs ex H H h h:=Un.kept λ_ _ q=>q
theorem Un.laid(k:∀b u,h.get? b=some u->h'.get? b=some u)(hp:h.objs.size<=a)(hn:H a=none):Un fs ex H (upd H a o) h h' where
 keep:=λb u q _ _ _=>k b u q
 slot:=λb u q _ _ _=>⟨u.slots,k b u q⟩
 free:=λb u q n _=>by rw[upd_ne (Nat.ne_of_lt (Nat.lt_of_lt_of_le (Heap.lt_size q) hp))];exact n
 there:=λb u q _=>⟨u,k b u q⟩
 tups:=λb xs q=>by rw[upd_ne (ne_of_none q hn)];exact q
 frzs:=λb u xs q=>by rw[upd_ne (ne_of_none q hn)];exact q
 tbls:=λb ps q=>⟨#[],by rw[upd_ne (ne_of_none q hn),q];simp⟩
theorem Un.write(mu:Mut (H x))(he:e=x\/H e=some (.own x))(k:∀b u,b≠e->h.get? b=some u->h'.get? b=some u)(heo:∃u,h'.get? e=some u):Un fs ex H (upd H x o) h h':=by
 have hx:∀b,H b=none->b≠x:=λb n z=>by subst z;rw[n] at mu;exact mu
 have hb:∀b,H b=none->b≠e:=λb n z=>by
  subst z;rcases he with r|r
  .exact hx b n r
  .rw[n] at r;cases r
 have hm:∀b u,H b=some u->¬Mut (some u)->b≠x:=λb u q nm z=>by subst z;rw[q] at mu;exact nm mu
 refine⟨λb u q n _ _=>k b u (hb b n) q,λb u q n _ _=>⟨u.slots,k b u (hb b n) q⟩,λb u q n _=>by rw[upd_ne (hx b n)];exact n,λb u q _=>?_,
  λb xs q=>by rw[upd_ne (hm b _ q λz=>z)];exact q,λb u xs q=>by rw[upd_ne (hm b _ q λz=>z)];exact q,λb ps q=>⟨#[],by rw[upd_ne (hm b _ q λz=>z),q];simp⟩⟩
 by_cases hbe:b=e
 .subst hbe;exact heo
 .exact⟨u,k b u hbe q⟩
end
def trk(h:Heap)(H:Hp):List Addr:=(List.range h.objs.size).filter λa=>(H a).isSome
def hidT(h:Heap)(H:Hp):Heap:=PySem.W.hideAll h (trk h H)
theorem hidT_size(h:Heap)(H:Hp):(hidT h H).objs.size=h.objs.size:=PySem.W.hideAll_size _ _
theorem hidT_get{h:Heap}{H:Hp}{b:Addr}{o:Obj}(e:h.get? b=some o)(n:H b=none):(hidT h H).get? b=some o:=
 PySem.W.hideAll_get _ e λhm=>by
  have q:(H b).isSome=true:=(List.mem_filter.mp hm).2;rw[n] at q;simp at q
theorem of_hidT{h:Heap}{H:Hp}{b:Addr}{o:Obj}(e:(hidT h H).get? b=some o):h.get? b=some o/\H b=none:=by
 have e':h.get? b=some o:=PySem.W.of_hideAll (trk h H) e;refine⟨e',?_⟩;cases q:H b with
 | none=>rfl
 | some x=>
  have hm:b∈trk h H:=List.mem_filter.mpr ⟨List.mem_range.mpr (Heap.lt_size e'),by simp[q]⟩;have z:(hidT h H).get? b=none:=PySem.W.hideAll_none (trk h H) hm;rw[z] at e;cases e
def allNews(g h:Heap)(L:Addr):List (Addr×Obj):=(List.range h.objs.size).filterMap λa=>if a=L\/(g.get? a).isSome=true then none else (h.get? a).map λo=>(a,o)
def rest(g h:Heap)(L d:Addr):List (Addr×Obj):=(allNews g h L).filter λp=>decide (p.1≠d)
structure Mod(K:W.Frag)(mg:Str->Option Value)(base:Heap):Prop where
 kin:K.In base
 glob:base.Ns mainGlobals mg
 blt:∃mb,base.Ns builtinsNs mb/\∀x:Str,x≠"__name__"->mb x=bootBuiltins x
 nolimit:base.NoLimit
structure Cx where
 prog:Program
 w:World
 K:PySem.W.Frag
 mg:Str->Option Value
 base:Heap
 A:Around
 N:List Str
 s₀:Shared
 H₀:Hp
 env:Env
 outer:List Env
 stack:List Env
 ex:List Addr
 fn:Str->Bool
 calm:Bool
 pn:List (Addr×Obj)
 xe:Value->Shared->Prop
def frs(l:List Env):List Addr:=l.filterMap (·.frame)
abbrev Cx.fs(X:Cx):List Addr:=frs X.outer
def Vis(sc:Scope)(x:Str):Prop:=sc.names.lookup x=some .local\/sc.names.lookup x=some .cell\/sc.names.lookup x=some .free
def Loc(sc:Scope)(x:Str):Prop:=sc.names.lookup x=some .local\/sc.names.lookup x=some .cell
def Look(env:Env)(h:Heap)(m:Str->Option Value)(x:Str)(u:Value):Prop:=
 (env.kindOf x=some .local/\m x=some u)\/((env.kindOf x=some .cell\/env.kindOf x=some .free)/\∃c,env.cells.lookup x=some c/\h.IsCell c (some u))
structure Cx.Ok(X:Cx):Prop where
 mod:Mod X.K X.mg X.base
 kind:X.env.scope.kind=.function
 glob:X.env.globals=mainGlobals
 blt:X.env.builtins=builtinsNs
 above:X.s₀.heap.objs.size<=X.env.locals
 inj:∀x y c,X.env.cells.lookup x=some c->X.env.cells.lookup y=some c->x=y
 has:∀x,(X.env.kindOf x=some .cell\/X.env.kindOf x=some .free)->∃c,X.env.cells.lookup x=some c
 cab:∀x c,X.fn x=true->X.env.cells.lookup x=some c->X.s₀.heap.objs.size<=c
 hd:X.calm=true->X.A.handled=none
 frames:X.A.frames=some X.stack
 stk:X.stack=X.outer\/(X.stack=X.env::X.outer/\X.env.frame=some X.env.locals)
 exf:∀b∈X.ex,b≠X.env.locals/\∀x c,X.env.cells.lookup x=some c->c≠b
 bs:∀b o,X.base.get? b=some o->X.s₀.heap.get? b=some o/\X.H₀ b=none
 bsz:X.base.objs.size<=X.s₀.heap.objs.size
 noex:∀b o,X.base.get? b=some o->b∉X.ex
 exfs:∀b∈X.ex,b∉X.fs
 funs:X.s₀.heap.FunFrames X.base X.outer
 frf:∀b∈X.fs,X.H₀ b=none
structure Inv(X:Cx)(pins:List (Addr×Obj))(σ:List (Option V))(H:Hp)(s:Shared):Prop where
 ok:X.Ok
 os:s.os=X.s₀.os
 bare:AllBare s.gens
 base:Un X.fs X.ex X.H₀ H X.s₀.heap s.heap
 loc:∃m,s.heap.Ns X.env.locals m/\∀(i:Nat)(x:Str)(v:V),X.N[i]?=some x->σ[i]?=some (some v)->Vis X.env.scope x->∃u,RelV v u/\Look X.env s.heap m x u
 cell:∀x c,X.env.cells.lookup x=some c->∃v,s.heap.IsCell c v
 free:H X.env.locals=none
 freeC:∀x c,X.env.cells.lookup x=some c->H c=none
 pin:∀p∈X.pn++pins,s.heap.get? p.1=some p.2/\H p.1=none/\p.1≠X.env.locals/\p.1∉X.fs/\∀v,p.2.data≠.cell v
 hok:HOk X.prog X.w H s.heap
 len:σ.length=X.N.length
section
variable{X:Cx}{pins:List (Addr×Obj)}{σ:List (Option V)}{H H':Hp}{s:Shared}{h':Heap}
theorem Cx.Ok.nofr(ok:X.Ok){b:Addr}{o:Obj}(e:X.base.get? b=some o):b∉X.fs:=λhb=>by
 have:=(ok.funs.mem hb).1;rw[e] at this;cases this
theorem Inv.bs(I:Inv X pins σ H s):∀b o,X.base.get? b=some o->s.heap.get? b=some o/\H b=none:=λb o e=>
 ⟨I.base.keep b o (I.ok.bs b o e).1 (I.ok.bs b o e).2 (I.ok.nofr e) (I.ok.noex b o e),I.base.free b o (I.ok.bs b o e).1 (I.ok.bs b o e).2 (I.ok.noex b o e)⟩
theorem Inv.bk(I:Inv X pins σ H s):∀b o,X.base.get? b=some o->s.heap.get? b=some o:=λb o e=>(I.bs b o e).1
theorem Inv.mod(I:Inv X pins σ H s):Mod X.K X.mg X.base:=I.ok.mod
theorem Inv.kIn(I:Inv X pins σ H s):X.K.In s.heap:=I.ok.mod.kin.keeps I.bk
theorem Inv.lt(I:Inv X pins σ H s):X.env.locals<s.heap.objs.size:=let ⟨_,hn,_⟩:=I.loc;hn.lt
theorem Inv.sz(I:Inv X pins σ H s):X.s₀.heap.objs.size<=s.heap.objs.size:=Nat.le_trans I.ok.above (Nat.le_of_lt I.lt)
theorem Inv.nofs(I:Inv X pins σ H s){a:Addr}(h:s.heap.objs.size<=a):a∉X.fs:=λhb=>by
 obtain⟨_,o,ho,_⟩:=I.ok.funs.mem hb;exact absurd (Nat.lt_of_lt_of_le (Heap.lt_size ho) (Nat.le_trans I.sz h)) (Nat.lt_irrefl _)
theorem Inv.cne(I:Inv X pins σ H s):∀x c,X.env.cells.lookup x=some c->c≠X.env.locals:=λx c e z=>by
 obtain⟨v,o,ho,hd⟩:=I.cell x c e;obtain⟨m,⟨o',es,ep,ho',hd',_⟩,_⟩:=I.loc;rw[z,ho'] at ho;cases ho;rw[hd'] at hd;cases hd
theorem Inv.funs(I:Inv X pins σ H s):s.heap.FunFrames X.base X.outer:=by
 have all:∀(l:List Env),(∀b∈frs l,b∈X.fs)->X.s₀.heap.FunFrames X.base l->s.heap.FunFrames X.base l:=by
  intro l
  induction l with
  | nil=>intro _ _;trivial
  | cons env r ih=>
   intro hs hl;obtain⟨hk,⟨L,o,hf,hn,ho,hd⟩,hr⟩:=hl;have hL:L∈X.fs:=hs L (by unfold frs;rw[List.filterMap_cons,hf];exact List.mem_cons_self);obtain⟨sl,e⟩:=I.base.slot L o ho (I.ok.frf L hL) hL λz=>I.ok.exfs L z hL;exact⟨hk,⟨L,_,hf,hn,e,hd⟩,ih (λb hb=>hs b (by unfold frs;rw[List.filterMap_cons,hf];exact List.mem_cons_of_mem _ hb)) hr⟩
 exact all X.outer (λ_ hb=>hb) I.ok.funs
theorem Inv.stack(I:Inv X pins σ H s):s.heap.FunFrames X.base X.stack:=by
 rcases I.ok.stk with e|⟨e,hf⟩
 .rw[e];exact I.funs
 .rw[e];obtain⟨m,hn,_⟩:=I.loc;refine .cons (by rw[I.ok.kind];decide) hf hn ?_ I.funs;exact Heap.get?_none_of_le (Nat.le_trans I.ok.bsz I.ok.above)
theorem Inv.stkSub(I:Inv X pins σ H s):∀b∈frs X.stack,b∈X.env.locals::X.fs:=λb hb=>by
 rcases I.ok.stk with e|⟨e,hf⟩
 .rw[e] at hb;exact List.mem_cons_of_mem _ hb
 .rw[e] at hb;unfold frs at hb;rw[List.filterMap_cons,hf] at hb;exact hb
theorem Inv.stkFree(I:Inv X pins σ H s):∀b∈frs X.stack,H b=none:=λb hb=>by
 rcases List.mem_cons.mp (I.stkSub b hb) with e|hb
 .rw[e];exact I.free
 .obtain⟨_,o,ho,_⟩:=I.ok.funs.mem hb;exact I.base.free b o ho (I.ok.frf b hb) λz=>I.ok.exfs b z hb
theorem Inv.step{g':Array GenState}{t':Nat}{d':Drawn}{ch:List Addr}(I:Inv X pins σ H s)
  (hch:∀b∈ch,(b∈X.ex\/X.s₀.heap.objs.size<=b)/\b≠X.env.locals/\(∀x c,X.env.cells.lookup x=some c->c≠b)/\∀p∈X.pn++pins,p.1≠b)
  (keep:∀b o,b≠X.env.locals->b∉X.fs->b∉ch->s.heap.get? b=some o->H b=none->h'.get? b=some o)
  (slot:∀b o,b≠X.env.locals->b∈X.fs->b∉ch->s.heap.get? b=some o->H b=none->∃sl,h'.get? b=some {o with slots:=sl}) (free:∀b o,b∉ch->s.heap.get? b=some o->H b=none->H' b=none)
  (there:∀b o,b∉ch->s.heap.get? b=some o->∃o',h'.get? b=some o')
  (tups:∀b xs,H b=some (.tup xs)->H' b=some (.tup xs)) (frzs:∀b o u,H b=some (.frz o u)->H' b=some (.frz o u)) (tbls:∀b ps,H b=some (.tbl ps)->∃more,H' b=some (.tbl (ps++more)))
  (ns:∀m,s.heap.Ns X.env.locals m->h'.Ns X.env.locals m) (hok:HOk X.prog X.w H' h') (hg:AllBare g') :
  Inv X pins σ H' {s with heap:=h',gens:=g',drawn:=d',toks:=t'}:=by
 have neL:∀b o,X.s₀.heap.get? b=some o->b≠X.env.locals:=λb o e=>Nat.ne_of_lt (Nat.lt_of_lt_of_le (Heap.lt_size e) I.ok.above);have neC:∀b o,X.s₀.heap.get? b=some o->b∉X.ex->b∉ch:=λb o e hx hb=>by
  rcases(hch b hb).1 with z|z
  .exact hx z
  .exact absurd (Nat.lt_of_lt_of_le (Heap.lt_size e) z) (Nat.lt_irrefl _)
 have cellK:∀x c,X.env.cells.lookup x=some c->∀v,s.heap.IsCell c v->h'.IsCell c v:=λx c e v ⟨o,ho,hd⟩=>by
  have nch:c∉ch:=λz=>(hch c z).2.2.1 x c e rfl;by_cases hc:c∈X.fs
  .obtain⟨sl,q⟩:=slot c o (I.cne x c e) hc nch ho (I.freeC x c e);exact⟨_,q,hd⟩
  .exact⟨o,keep c o (I.cne x c e) hc nch ho (I.freeC x c e),hd⟩
 refine⟨I.ok,I.os,hg,⟨λb o e n hb hx=>?_,λb o e n hb hx=>?_,λb o e n hx=>?_,λb o e hx=>?_,λb xs e=>tups b xs (I.base.tups b xs e),λb o xs e=>frzs b o xs (I.base.frzs b o xs e),λb ps e=>?_⟩,?_,λx c e=>?_,?_,λx c e=>?_,λp hp=>?_,hok,I.len⟩
 .exact keep b o (neL b o e) hb (neC b o e hx) (I.base.keep b o e n hb hx) (I.base.free b o e n hx)
 .obtain⟨sl,e1⟩:=I.base.slot b o e n hb hx;obtain⟨sl',e2⟩:=slot b _ (neL b o e) hb (neC b o e hx) e1 (I.base.free b o e n hx);exact⟨sl',e2⟩
 .obtain⟨o',e1⟩:=I.base.there b o e hx;exact free b o' (neC b o e hx) e1 (I.base.free b o e n hx)
 .obtain⟨o',e1⟩:=I.base.there b o e hx;exact there b o' (neC b o e hx) e1
 .obtain⟨m1,e1⟩:=I.base.tbls b ps e;obtain⟨m2,e2⟩:=tbls b _ e1;exact⟨m1++m2,by rw[e2,Array.append_assoc]⟩
 .obtain⟨m,hn,hl⟩:=I.loc;refine⟨m,ns m hn,λi x v e1 e2 e3=>?_⟩;obtain⟨u,r,l⟩:=hl i x v e1 e2 e3;refine⟨u,r,?_⟩;rcases l with l|⟨k,c,e,z⟩
  .exact .inl l
  .exact .inr ⟨k,c,e,cellK x c e _ z⟩
 .obtain⟨v,z⟩:=I.cell x c e;exact⟨v,cellK x c e v z⟩
 .obtain⟨m,⟨o,_,_,ho,_⟩,_⟩:=I.loc;exact free _ o (λz=>(hch _ z).2.1 rfl) ho I.free
 .obtain⟨v,o,ho,hd⟩:=I.cell x c e;exact free c o (λz=>(hch c z).2.2.1 x c e rfl) ho (I.freeC x c e)
 .obtain⟨e,n,ne,nf,d⟩:=I.pin p hp;have nch:p.1∉ch:=λz=>(hch p.1 z).2.2.2 p hp rfl;exact⟨keep p.1 p.2 ne nf nch e n,free p.1 p.2 nch e n,ne,nf,d⟩
theorem Inv.un{t':Nat}(I:Inv X pins σ H s)(u:Un X.fs [] H H' s.heap h')(hok:HOk X.prog X.w H' h'):Inv X pins σ H' {s with heap:=h',toks:=t'}:=by
 obtain⟨m,⟨o,es,ep,ho,r⟩,_⟩:=id I.loc;obtain⟨sl,hL⟩:=u.any ho I.free (by simp);exact I.step (g':=s.gens) (d':=s.drawn) (ch:=[]) (λ_ z=>nomatch z) (λb o _ hb _ e n=>u.keep b o e n hb (by simp)) (λb o _ hb _ e n=>u.slot b o e n hb (by simp)) (λb o _ e n=>u.free b o e n (by simp)) (λb o _ e=>u.there b o e (by simp)) u.tups u.frzs u.tbls (λm' hm=>by
  obtain⟨o',es',ep',ho',r'⟩:=hm;rw[ho] at ho';cases ho';exact⟨_,es',ep',hL,r'⟩) hok I.bare
theorem Inv.call{g':Array GenState}{t':Nat}{d':Drawn}{ch:List Addr}(I:Inv X pins σ H s)(u:Un (frs X.stack) ch H H' s.heap h')(hok:HOk X.prog X.w H' h')(hg:AllBare g')
  (hch:∀b∈ch,(b∈X.ex\/X.s₀.heap.objs.size<=b)/\b≠X.env.locals/\(∀x c,X.env.cells.lookup x=some c->c≠b)/\∀p∈X.pn++pins,p.1≠b) :
  Inv X pins σ H' {s with heap:=h',gens:=g',drawn:=d',toks:=t'}:=by
 obtain⟨m,⟨o,es,ep,ho,r⟩,_⟩:=id I.loc;obtain⟨sl,hL⟩:=u.any ho I.free λz=>(hch _ z).2.1 rfl;exact I.step (ch:=ch) hch (λb o hL hb hc e n=>u.keep b o e n (λz=>(List.mem_cons.mp (I.stkSub b z)).elim hL hb) hc) (λb o _ _ hc e n=>u.any e n hc) (λb o hc e n=>u.free b o e n hc) (λb o hc e=>u.there b o e hc) u.tups u.frzs u.tbls (λm' hm=>by
  obtain⟨o',es',ep',ho',r'⟩:=hm;rw[ho] at ho';cases ho';exact⟨_,es',ep',hL,r'⟩) hok hg
theorem Inv.turned{t':Nat}{it:Addr}(I:Inv X pins σ H s)(k:∀b o,b≠it->s.heap.get? b=some o->h'.get? b=some o)(hn:H it=none)(hL:it≠X.env.locals)
  (h1:it∈X.ex\/X.s₀.heap.objs.size<=it) (h2:∀x c,X.env.cells.lookup x=some c->c≠it) (h3:∀p∈X.pn++pins,p.1≠it):Inv X pins σ H {s with heap:=h',toks:=t'}:=by
 have nit:∀b u,H b=some u->b≠it:=λb u e z=>by rw[z,hn] at e;cases e
 refine I.step (g':=s.gens) (d':=s.drawn) (ch:=[it]) (λb hb=>?_) (λb o _ _ hc e _=>k b o (λz=>hc (by simp[z])) e) (λb o _ _ hc e _=>⟨o.slots,k b o (λz=>hc (by simp[z])) e⟩) (λ_ _ _ _ n=>n)
  (λb o hc e=>⟨o,k b o (λz=>hc (by simp[z])) e⟩) (λ_ _ e=>e) (λ_ _ _ e=>e) (λb ps e=>⟨#[],by rw[e];simp⟩) (λm hm=>?_) (λb u e=>?_) I.bare
 .have e:b=it:=by simpa using hb
  subst e;exact⟨h1,hL,h2,h3⟩
 .obtain⟨o,es,ep,ho,r⟩:=hm;exact⟨o,es,ep,k _ o (Ne.symm hL) ho,r⟩
 .refine(I.hok b u e).stay (λc v hc q=>k c v ?_ q) (λ_ q=>q) λ_ _ q=>q;rcases hc with z|z
  .rw[z];exact nit b u e
  .exact nit c _ z
theorem Inv.tok(I:Inv X pins σ H s)(t:Nat):Inv X pins σ H {s with toks:=t}:=I.un (h':=s.heap) (t':=t) Un.refl I.hok
theorem Inv.kept{t':Nat}(I:Inv X pins σ H s)(k:∀b u,s.heap.get? b=some u->h'.get? b=some u):Inv X pins σ H {s with heap:=h',toks:=t'}:=I.un (Un.kept k) (I.hok.kept k)
theorem Inv.laid{a:Addr}{o:HO}{t':Nat}(I:Inv X pins σ H s)(k:∀b u,s.heap.get? b=some u->h'.get? b=some u)(hp:s.heap.objs.size<=a)(new:ObjOk X.prog X.w (upd H a o) h' a o) :
  Inv X pins σ (upd H a o) {s with heap:=h',toks:=t'}:=I.un (Un.laid k hp (I.hok.fresh hp)) (I.hok.laid k hp new)
theorem Inv.write{x e:Addr}{o:HO}{t':Nat}(I:Inv X pins σ H s)(mu:Mut (H x))(he:e=x\/H e=some (.own x))(k:∀b u,b≠e->s.heap.get? b=some u->h'.get? b=some u)(heo:∃u,h'.get? e=some u)
  (new:ObjOk X.prog X.w (upd H x o) h' x o):Inv X pins σ (upd H x o) {s with heap:=h',toks:=t'}:=I.un (Un.write mu he k heo) (I.hok.write mu he k heo new)
theorem Inv.pins_of{pins':List (Addr×Obj)}(I:Inv X pins σ H s)(h:∀p∈pins',s.heap.get? p.1=some p.2/\H p.1=none/\p.1≠X.env.locals/\p.1∉X.fs/\∀v,p.2.data≠.cell v):Inv X pins' σ H s:=
 ⟨I.ok,I.os,I.bare,I.base,I.loc,I.cell,I.free,I.freeC,λp hp=>(List.mem_append.mp hp).elim (λz=>I.pin p (List.mem_append_left _ z)) (h p),I.hok,I.len⟩
theorem nodup_ix{N:List Str}(hN:N.Nodup){i j:Nat}{x:Str}(a:N[i]?=some x)(b:N[j]?=some x):i=j:=by
 obtain⟨h1,e1⟩:=List.getElem?_eq_some_iff.mp a;obtain⟨h2,e2⟩:=List.getElem?_eq_some_iff.mp b;exact(List.getElem_inj hN).mp (e1.trans e2.symm)
theorem store_ok2{M:Model}{A:Around}{E:Value->Shared->Prop}{i:Nat}{x:Str}{v:V}{u:Value}{Q:Unit->Shared->Prop}(I:Inv X pins σ H s)(hN:X.N.Nodup)(hi:X.N[i]?=some x)(hx:Loc X.env.scope x)(r:RelV v u)
  (h:∀s',Inv X pins (σ.set i (some v)) H s'->(∃a,Heap.SameBut a s.heap s'.heap/\(a=X.env.locals\/X.env.cells.lookup x=some a))->Q () s') (hf:X.fn x=true\/X.env.scope.names.lookup x=some .local:=by first|exact .inl rfl|exact .inr rfl|assumption):wpAny M A (storeName X.env x u) Q E s:=by
 obtain⟨m,hn,hl⟩:=id I.loc;have hcls:(X.env.scope.kind==.class||(X.env.scope.kind==.module&&X.env.locals != X.env.globals))=false:=by rw[I.ok.kind];rfl
 have hiσ:i<σ.length:=by rw[I.len];exact(List.getElem?_eq_some_iff.mp hi).1
 have cne:=I.cne;have tracked:∀{a:Addr}{h':Heap},(∃o,s.heap.get? a=some o/\H a=none)->Heap.SameBut a s.heap h'->HOk X.prog X.w H h':=λ{a h'} ha hs b ob e=>by
  obtain⟨_,_,hfree⟩:=ha;refine(I.hok b ob e).stay (λc w' hc q=>(hs.2 c ?_).trans q) (λ_ q=>q) λ_ _ q=>q;rintro rfl;rcases hc with rfl|hc
  .rw[hfree] at e;cases e
  .rw[hfree] at hc;cases hc
 rcases hx with hk|hk
 .refine wpAny_storeName_local hk hn (λh' hn' hs=>?_) hcls;obtain⟨oL,_,_,hoL,_⟩:=id hn;refine h _ ⟨I.ok,I.os,I.bare,⟨λb o e n hb hx=>?_,λb o e n hb hx=>?_,I.base.free,λb o e hx=>?_,I.base.tups,I.base.frzs,I.base.tbls⟩,⟨_,hn',λj y v' e1 e2 e3=>?_⟩,λy c e=>?_,I.free,I.freeC,λp hp=>?_,tracked ⟨oL,hoL,I.free⟩ hs,by simpa using I.len⟩ ⟨_,hs,.inl rfl⟩
  .exact(hs.2 b (Nat.ne_of_lt (Nat.lt_of_lt_of_le (Heap.lt_size e) I.ok.above))).trans (I.base.keep b o e n hb hx)
  .obtain⟨sl,e1⟩:=I.base.slot b o e n hb hx;exact⟨sl,(hs.2 b (Nat.ne_of_lt (Nat.lt_of_lt_of_le (Heap.lt_size e) I.ok.above))).trans e1⟩
  .obtain⟨o',e1⟩:=I.base.there b o e hx;exact⟨o',(hs.2 b (Nat.ne_of_lt (Nat.lt_of_lt_of_le (Heap.lt_size e) I.ok.above))).trans e1⟩
  .by_cases hj:j=i
   .subst hj;rw[hi] at e1;cases e1;rw[List.getElem?_set_self hiσ] at e2;cases e2;exact⟨u,r,.inl ⟨hk,by simp⟩⟩
   .rw [List.getElem?_set_ne (Ne.symm hj)] at e2;obtain⟨u',r',q⟩:=hl j y v' e1 e2 e3;refine⟨u',r',?_⟩;rcases q with⟨k,e⟩|⟨k,c,e,z⟩
    .refine .inl ⟨k,?_⟩;have:y≠x:=λe=>hj (nodup_ix hN e1 (e ▸ hi));simp[this,e]
    .exact .inr ⟨k,c,e,z.sameBut hs (cne y c e)⟩
  .obtain⟨w',z⟩:=I.cell y c e;exact⟨w',z.sameBut hs (cne y c e)⟩
  .obtain⟨e,n,ne,nf,d⟩:=I.pin p hp;exact⟨(hs.2 p.1 ne).trans e,n,ne,nf,d⟩
 .have hfn:X.fn x=true:=by
   rcases hf with z|z
   .exact z
   .rw[z] at hk;cases hk
  obtain⟨c,hc⟩:=I.ok.has x (.inl hk);obtain⟨w',z⟩:=I.cell x c hc;refine wpAny_storeName_cell I.ok.kind hk hc z (λh' hc' hs=>?_);obtain⟨oc,hoc,hocd⟩:=id z;refine h {s with heap:=h'} ⟨I.ok,I.os,I.bare,⟨λb o e n hb hx=>?_,λb o e n hb hx=>?_,I.base.free,λb o e hx=>?_,I.base.tups,I.base.frzs,I.base.tbls⟩,⟨m,hn.sameBut hs (Ne.symm (cne x c hc)),λj y v' e1 e2 e3=>?_⟩,λy c' e=>?_,I.free,I.freeC,λp hp=>?_,tracked ⟨oc,hoc,I.freeC x c hc⟩ hs,by simpa using I.len⟩ ⟨c,hs,.inr hc⟩
  .exact(hs.2 b (Nat.ne_of_lt (Nat.lt_of_lt_of_le (Heap.lt_size e) (I.ok.cab x c hfn hc)))).trans (I.base.keep b o e n hb hx)
  .obtain⟨sl,e1⟩:=I.base.slot b o e n hb hx;exact⟨sl,(hs.2 b (Nat.ne_of_lt (Nat.lt_of_lt_of_le (Heap.lt_size e) (I.ok.cab x c hfn hc)))).trans e1⟩
  .obtain⟨o',e1⟩:=I.base.there b o e hx;exact⟨o',(hs.2 b (Nat.ne_of_lt (Nat.lt_of_lt_of_le (Heap.lt_size e) (I.ok.cab x c hfn hc)))).trans e1⟩
  .by_cases hj:j=i
   .subst hj;rw[hi] at e1;cases e1;rw[List.getElem?_set_self hiσ] at e2;cases e2;exact⟨u,r,.inr ⟨.inl hk,c,hc,hc'⟩⟩
   .rw [List.getElem?_set_ne (Ne.symm hj)] at e2;obtain⟨u',r',q⟩:=hl j y v' e1 e2 e3;refine⟨u',r',?_⟩;rcases q with q|⟨k,c',e,z'⟩
    .exact .inl q
    .refine .inr ⟨k,c',e,z'.sameBut hs ?_⟩;rintro rfl;exact hj (nodup_ix hN e1 (I.ok.inj _ _ _ e hc ▸ hi))
  .by_cases hcc:c'=c
   .subst hcc;exact⟨_,hc'⟩
   .obtain⟨w2,z2⟩:=I.cell y c' e;exact⟨w2,z2.sameBut hs hcc⟩
  .obtain⟨e,n,ne,nf,d⟩:=I.pin p hp;refine⟨(hs.2 p.1 ?_).trans e,n,ne,nf,d⟩;intro q;rw[q,hoc] at e;have q':oc=p.2:=Option.some.inj e;exact d w' (by rw[<-q'];exact hocd)
theorem store_ok{M:Model}{A:Around}{E:Value->Shared->Prop}{i:Nat}{x:Str}{v:V}{u:Value}{Q:Unit->Shared->Prop}(I:Inv X pins σ H s)(hN:X.N.Nodup)(hi:X.N[i]?=some x)(hx:Loc X.env.scope x)(r:RelV v u)
  (h:∀s',Inv X pins (σ.set i (some v)) H s'->Q () s') (hf:X.fn x=true\/X.env.scope.names.lookup x=some .local:=by first|exact .inl rfl|exact .inr rfl|assumption):wpAny M A (storeName X.env x u) Q E s:=
 store_ok2 I hN hi hx r (λs' I' _=>h s' I') hf
theorem Inv.call'{s':Shared}{ch:List Addr}(I:Inv X pins σ H s)(ho:s'.os=s.os)(u:Un (frs X.stack) ch H H' s.heap s'.heap)(hok:HOk X.prog X.w H' s'.heap)(hg:AllBare s'.gens)
  (hch:∀b∈ch,(b∈X.ex\/X.s₀.heap.objs.size<=b)/\b≠X.env.locals/\(∀x c,X.env.cells.lookup x=some c->c≠b)/\∀p∈X.pn++pins,p.1≠b):Inv X pins σ H' s':=by
 obtain⟨h',g',d',t',o'⟩:=s';have e:o'=s.os:=ho;subst e;exact I.call (g':=g') (t':=t') (d':=d') u hok hg hch
end
abbrev XK:=Value->Option Addr->Hp->Prop
abbrev St:=List (Option V)
abbrev VK:=V->Hp->Prop
abbrev TE:=St->Hp->VK->Prop
abbrev TT:=St->Hp->(Bool->Hp->Prop)->Prop
abbrev TA:=St->Hp->(List V->Hp->Prop)->Prop
structure Ends where
 nx:St->Hp->Prop
 rt:VK
 bk:St->Hp->Prop:=λ_ _=>False
 ct:St->Hp->Prop:=λ_ _=>False
abbrev TS:=Ends->St->Hp->Prop
def EP(X:Cx)(pins:List (Addr×Obj))(σ:St)(Q:VK)(u:Value)(s':Shared):Prop:=∃v H',Inv X pins σ H' s'/\RelV v u/\Q v H'
def TP(X:Cx)(pins:List (Addr×Obj))(σ:St)(Q:Bool->Hp->Prop)(b:Bool)(s':Shared):Prop:=∃H',Inv X pins σ H' s'/\Q b H'
def AP(X:Cx)(pins:List (Addr×Obj))(σ:St)(Q:List V->Hp->Prop)(us:List Value)(s':Shared):Prop:=∃vs H',Inv X pins σ H' s'/\Vals vs us/\Q vs H'
def SP(X:Cx)(pins:List (Addr×Obj))(D:Ends)(f:Flow)(s':Shared):Prop:=
 match f with
 | .next=>∃σ' H',Inv X pins σ' H' s'/\D.nx σ' H'
 | .brk=>∃σ' H',Inv X pins σ' H' s'/\D.bk σ' H'
 | .cont=>∃σ' H',Inv X pins σ' H' s'/\D.ct σ' H'
 | .ret u=>∃v σ' H',Inv X pins σ' H' s'/\RelV v u/\D.rt v H'
def PE(X:Cx)(e:Expr)(t:TE):Prop:=
 ∀(pins:List (Addr×Obj))(s:Shared)(σ:St)(H:Hp)(Q:VK),Inv X pins σ H s->t σ H Q->wpAny (model X.prog X.w) X.A (eval e X.env) (EP X pins σ Q) X.xe s
def PT(X:Cx)(e:Expr)(t:TT):Prop:=
 ∀(pins:List (Addr×Obj))(s:Shared)(σ:St)(H:Hp)(Q:Bool->Hp->Prop),Inv X pins σ H s->t σ H Q->wpAny (model X.prog X.w) X.A (isTrue e X.env (eval e X.env)) (TP X pins σ Q) X.xe s
def PW(X:Cx)(e:Expr)(t:TT):Prop:=
 ∀(whole:Sem Value)(pins:List (Addr×Obj))(s:Shared)(σ:St)(H:Hp)(Q:Bool->Hp->Prop),Inv X pins σ H s->t σ H Q->wpAny (model X.prog X.w) X.A (isTrue e X.env whole) (TP X pins σ Q) X.xe s
theorem PW.pt{X:Cx}{e:Expr}{t:TT}(h:PW X e t):PT X e t:=h _
def PA(X:Cx)(es:List Expr)(t:TA):Prop:=
 ∀(pos:Pos)(pins:List (Addr×Obj))(s:Shared)(σ:St)(H:Hp)(Q:List V->Hp->Prop),Inv X pins σ H s->t σ H Q->wpAny (model X.prog X.w) X.A (spliced (backTo pos (starEach es X.env))) (AP X pins σ Q) X.xe s
def PS(X:Cx)(st:Stmt)(t:TS):Prop:=
 ∀(pins:List (Addr×Obj))(s:Shared)(σ:St)(H:Hp)(D:Ends),Inv X pins σ H s->t D σ H->wpAny (model X.prog X.w) X.A (exec st X.env) (SP X pins D) X.xe s
def PSs(X:Cx)(st:List Stmt)(t:TS):Prop:=
 ∀(pins:List (Addr×Obj))(s:Shared)(σ:St)(H:Hp)(D:Ends),Inv X pins σ H s->t D σ H->wpAny (model X.prog X.w) X.A (execs st X.env) (SP X pins D) X.xe s
theorem thn{α:Type}{t:Sem α}{Q Q':α->Shared->Prop}{M:Model}{A:Around}{E:Value->Shared->Prop}{s:Shared}(h:wpAny M A t Q E s)(hQ:∀a s,Q a s->Q' a s):wpAny M A t Q' E s:=wpAny_mono h hQ λ_ _ x=>x
section
variable{X:Cx}
def tVar(i:Nat):TE:=λσ H Q=>∃v,σ[i]?=some (some v)/\Q v H
def tC(v:V):TE:=λ_ H Q=>Q v H
theorem pe_var{i:Nat}{x:Str}{pos:Pos}(hN:X.N[i]?=some x)(hv:Vis X.env.scope x)(hd:(x==("__debug__":Str))=false:=by decide)(hcd:(x==("__classdict__":Str))=false:=by decide):PE X (.Name x pos) (tVar i):=by
 intro pins s σ H Q I h;obtain⟨v,e,h⟩:=h;obtain⟨m,hn,hl⟩:=I.loc;obtain⟨u,r,l⟩:=hl i x v hN e hv;have fin:EP X pins σ Q u s:=⟨v,H,I,r,h⟩;rcases l with⟨hk,hm⟩|⟨hk,c,hc,hcell⟩
 .exact wpAny_Name (wpAny_loadName_local I.ok.kind hk hn hm fin) hd
 .rcases hk with hk|hk
  .exact wpAny_Name (wpAny_loadName_cell I.ok.kind hk hc hcell fin) hd
  .exact wpAny_Name (wpAny_loadName_free I.ok.kind hk hc hcell fin hcd) hd
theorem pe_int{i j pos}:PE X (.Constant (.int i) j pos) (tC (.int i)):=λ_ _ _ H _ I h=>wpAny_Constant_int ⟨.int i,H,I.tok _,⟨_,rfl⟩,h⟩
theorem pe_bl{b j pos}:PE X (.Constant (.bool b) j pos) (tC (.bl b)):=λ_ _ _ H _ I h=>Constant_bool ⟨.bl b,H,I,rfl,h⟩
theorem pe_non{j pos}:PE X (.Constant .none j pos) (tC .non):=λ_ _ _ H _ I h=>Constant_none ⟨.non,H,I,rfl,h⟩
theorem pe_str{x j pos}:PE X (.Constant (.str x) j pos) (tC (.str x)):=λ_ _ _ H _ I h=>Calls.Constant_str ⟨.str x,H,I.tok _,⟨_,rfl⟩,h⟩
def Gl(X:Cx)(x:Str):Prop:=X.env.kindOf x=some .globalImplicit
theorem ld_glob{E:Value->Shared->Prop}{pins:List (Addr×Obj)}{s:Shared}{σ:St}{H:Hp}{x:Str}{u:Value}{pos:Pos}{Q:Value->Shared->Prop}(I:Inv X pins σ H s)(hg:Gl X x)(hm:X.mg x=some u)(h:Q u s)
  (hd:(x==("__debug__":Str))=false:=by decide):wpAny (model X.prog X.w) X.A (eval (.Name x pos) X.env) Q E s:=
 Calls.Name_function_global I.ok.kind hg (Calls.loadGlobal_global (by rw[I.ok.glob];exact I.mod.glob.keeps I.bk) hm h) hd
theorem ld_blt{E:Value->Shared->Prop}{pins:List (Addr×Obj)}{s:Shared}{σ:St}{H:Hp}{x:Str}{u:Value}{pos:Pos}{Q:Value->Shared->Prop}(I:Inv X pins σ H s)(hg:Gl X x)(hm:X.mg x=none)(hv:bootBuiltins x=some u)(h:Q u s)
  (hn:x≠"__name__":=by decide) (hd:(x==("__debug__":Str))=false:=by decide):wpAny (model X.prog X.w) X.A (eval (.Name x pos) X.env) Q E s:=by
 obtain⟨mb,h1,h2⟩:=I.mod.blt;exact Calls.Name_function_global I.ok.kind hg (Calls.loadGlobal_builtin (by rw[I.ok.glob];exact I.mod.glob.keeps I.bk) hm (by rw[I.ok.blt];exact h1.keeps I.bk) ((h2 x hn).trans hv) h) hd
theorem pe_glob{x:Str}{v:V}{u:Value}{pos:Pos}(hg:Gl X x)(hm:X.mg x=some u)(r:RelV v u)(hd:(x==("__debug__":Str))=false:=by decide):PE X (.Name x pos) (tC v):=
 λ_ _ _ H _ I h=>ld_glob I hg hm ⟨v,H,I,r,h⟩ hd
theorem pe_bltn{x:Str}{v:V}{u:Value}{pos:Pos}(hg:Gl X x)(hm:X.mg x=none)(hv:bootBuiltins x=some u)(r:RelV v u)(hn:x≠"__name__":=by decide)(hd:(x==("__debug__":Str))=false:=by decide):PE X (.Name x pos) (tC v):=
 λ_ _ _ H _ I h=>ld_blt I hg hm hv ⟨v,H,I,r,h⟩ hn hd
def t2I(ta tb:TE)(k:Int->Int->Hp->Prop):St->Hp->Prop:=λσ H=>ta σ H λx H1=>tb σ H1 λy H2=>∃i j,x=.int i/\y=.int j/\k i j H2
def tAdd(ta tb:TE):TE:=λσ H Q=>t2I ta tb (λi j H2=>Q (.int (i+j)) H2) σ H
def tSub(ta tb:TE):TE:=λσ H Q=>t2I ta tb (λi j H2=>Q (.int (i-j)) H2) σ H
def tMul(ta tb:TE):TE:=λσ H Q=>t2I ta tb (λi j H2=>(-(2 ^ 64)<i/\i<2 ^ 64)/\Q (.int (i*j)) H2) σ H
variable{a b:Expr}{ta tb:TE}{pos:Pos}
def PC(X:Cx)(op:CmpOp)(a b:Expr)(t:TE):Prop:=
 ∀(pins:List (Addr×Obj))(s:Shared)(σ:St)(H:Hp)(Q:VK),Inv X pins σ H s->t σ H Q →
  wpAny (model X.prog X.w) X.A (eval a X.env) (λv s₁=>wpAny (model X.prog X.w) X.A (eval b X.env) (λu s₂=>wpAny (model X.prog X.w) X.A (compareOp op v u) (EP X pins σ Q) X.xe s₂) X.xe s₁) X.xe s
def tCmp(p:Int->Int->Bool)(ta tb:TE):TE:=λσ H Q=>t2I ta tb (λi j H2=>Q (.bl (p i j)) H2) σ H
abbrev tLt:TE->TE->TE:=tCmp λi j=>decide (i<j)
abbrev tLe:TE->TE->TE:=tCmp λi j=>decide (i<=j)
abbrev tGt:TE->TE->TE:=tCmp λi j=>decide (j<i)
abbrev tGe:TE->TE->TE:=tCmp λi j=>decide (j<=i)
abbrev tEqI:TE->TE->TE:=tCmp λi j=>decide (i=j)
abbrev tNeI:TE->TE->TE:=tCmp λi j=>!decide (i=j)
def tIsN(ta:TE):TE:=λσ H Q=>ta σ H λx H1=>Q (.bl (decide (x=.non))) H1
def tNotN(ta:TE):TE:=λσ H Q=>ta σ H λx H1=>Q (.bl (!decide (x=.non))) H1
theorem RelV.none_iff{x:V}{v:Value}(r:RelV x v):(v==Value.none)=decide (x=.non):=by
 cases x with
 | non=>cases r;rfl
 | bl _=>cases r;rfl
 | int _=>obtain⟨t,rfl⟩:=r;rfl
 | str _=>obtain⟨t,rfl⟩:=r;rfl
 | byt _=>obtain⟨t,rfl⟩:=r;rfl
 | flt _=>obtain⟨t,rfl⟩:=r;rfl
 | ref _=>cases r;rfl
 | ty _=>cases r;rfl
theorem pc_isN{j pos'}(ha:PE X a ta):PC X .Is a (.Constant .none j pos') (tIsN ta):=by
 intro pins s σ H Q I h;refine thn (ha pins s σ H _ I h) λv s1 ⟨x,H1,I1,r1,q1⟩=>?_;exact Constant_none (is_none_gen ⟨.bl _,H1,I1,by rw[r1.none_iff];rfl,q1⟩)
theorem pc_notN{j pos'}(ha:PE X a ta):PC X .IsNot a (.Constant .none j pos') (tNotN ta):=by
 intro pins s σ H Q I h;refine thn (ha pins s σ H _ I h) λv s1 ⟨x,H1,I1,r1,q1⟩=>?_;exact Constant_none (isnot_none_gen ⟨.bl _,H1,I1,by rw[r1.none_iff];rfl,q1⟩)
def tB(t:TE):TT:=λσ H Q=>t σ H λx H1=>∃c,x=.bl c/\Q c H1
theorem pt_cmp{op:CmpOp}{t:TE}(h:PC X op a b t)(h1:behindInMarks op b=false:=by first|exact nobehind _ (by decide) (by decide)|rfl):PT X (.Compare a [op] [b] pos) (tB t):=by
 intro pins s σ H Q I hw;refine wpAny_isTrue_Compare1 (thn (h pins s σ H _ I hw) λv s1 h1=>thn h1 λu s2 h2=>thn h2 λc s3 ⟨x,H1,I1,r1,q1⟩=>?_) h1;obtain⟨d,rfl,q⟩:=q1;cases r1;exact wpAny_truthy_bool ⟨H1,I1,q⟩
theorem pt_val{e:Expr}{t:TE}(h:PE X e t)(he:∀whole,isTrue e X.env whole=(do let v <-whole;standAt e.pos;holding [v] (truthy v)):=by intro _;rfl):PT X e (tB t):=by
 intro pins s σ H Q I hw;refine isTrue_plain (thn (h pins s σ H _ I hw) λv s1 ⟨x,H1,I1,r1,q1⟩=>?_) (he _);obtain⟨d,rfl,q⟩:=q1;cases r1;exact wpAny_truthy_bool ⟨H1,I1,q⟩
variable{tA tB':TT}{rest:List Expr}
def tAnd(t u:TT):TT:=λσ H Q=>t σ H λc H1=>if c=true then u σ H1 Q else Q false H1
def tOr(t u:TT):TT:=λσ H Q=>t σ H λc H1=>if c=true then Q true H1 else u σ H1 Q
def tNot(t:TT):TT:=λσ H Q=>t σ H λc H1=>Q (!c) H1
theorem pw_and1(ha:PT X a tA):PW X (.BoolOp .And [a] pos) tA:=by
 intro wh pins s σ H Q I h;refine isTrue_and (thn (ha pins s σ H Q I h) λc s1 e=>?_);cases c with
 | true=>exact isTrue_and_nil e
 | false=>exact e
theorem pw_or1(ha:PT X a tA):PW X (.BoolOp .Or [a] pos) tA:=by
 intro wh pins s σ H Q I h;refine isTrue_or (thn (ha pins s σ H Q I h) λc s1 e=>?_);cases c with
 | false=>exact isTrue_or_nil e
 | true=>exact e
theorem pw_and(ha:PT X a tA)(hb:PW X (.BoolOp .And (b::rest) pos) tB'):PW X (.BoolOp .And (a::b::rest) pos) (tAnd tA tB'):=by
 intro wh pins s σ H Q I h;refine isTrue_and (thn (ha pins s σ H _ I h) λc s1 ⟨H1,I1,q1⟩=>?_);cases c with
 | true=>exact hb wh pins s1 σ H1 Q I1 q1
 | false=>exact⟨H1,I1,q1⟩
theorem pw_or(ha:PT X a tA)(hb:PW X (.BoolOp .Or (b::rest) pos) tB'):PW X (.BoolOp .Or (a::b::rest) pos) (tOr tA tB'):=by
 intro wh pins s σ H Q I h;refine isTrue_or (thn (ha pins s σ H _ I h) λc s1 ⟨H1,I1,q1⟩=>?_);cases c with
 | true=>exact⟨H1,I1,q1⟩
 | false=>exact hb wh pins s1 σ H1 Q I1 q1
theorem pt_not(ha:PT X a tA):PT X (.UnaryOp .Not a pos) (tNot tA):=by
 intro pins s σ H Q I h;exact isTrue_not (ha pins s σ H (λc H1=>Q (!c) H1) I h)
def tAndV(ta tb:TE):TE:=λσ H Q=>ta σ H λx H1=>∃c,x=.bl c/\if c=true then tb σ H1 Q else Q (.bl false) H1
def tOrV(ta tb:TE):TE:=λσ H Q=>ta σ H λx H1=>∃c,x=.bl c/\if c=true then Q (.bl true) H1 else tb σ H1 Q
def tNotV(ta:TE):TE:=λσ H Q=>ta σ H λx H1=>∃c,x=.bl c/\Q (.bl (!c)) H1
theorem pe_one{op}{t:TE}(h:PE X a t):PE X (.BoolOp op [a] pos) t:=λpins s σ H Q I hw=>BoolOp_one (h pins s σ H Q I hw)
theorem pe_and(ha:PE X a ta)(hb:PE X (.BoolOp .And (b::rest) pos) tb):PE X (.BoolOp .And (a::b::rest) pos) (tAndV ta tb):=by
 intro pins s σ H Q I h;refine BoolOp_and (thn (ha pins s σ H _ I h) λv s1 ⟨x,H1,I1,r1,q1⟩=>?_);obtain⟨c,rfl,q1⟩:=q1;cases r1;refine wpAny_truthy_bool ?_;cases c with
 | true=>exact hb pins s1 σ H1 Q I1 q1
 | false=>exact⟨.bl false,H1,I1,rfl,q1⟩
theorem pe_not(ha:PE X a ta):PE X (.UnaryOp .Not a pos) (tNotV ta):=by
 intro pins s σ H Q I h;refine UnaryOp_ (thn (ha pins s σ H _ I h) λv s1 ⟨x,H1,I1,r1,q1⟩=>?_);obtain⟨c,rfl,q1⟩:=q1;cases r1;exact not_of (wpAny_truthy_bool ⟨.bl (!c),H1,I1,rfl,q1⟩)
def tIf(t:TT)(ta tb:TE):TE:=λσ H Q=>t σ H λc H1=>if c=true then ta σ H1 Q else tb σ H1 Q
theorem pe_ifExp{c:Expr}(hc:PT X c tA)(ha:PE X a ta)(hb:PE X b tb):PE X (.IfExp c a b pos) (tIf tA ta tb):=by
 intro pins s σ H Q I h;refine wpAny_IfExp (thn (hc pins s σ H _ I h) λd s1 ⟨H1,I1,q1⟩=>?_);cases d with
 | true=>exact ha pins s1 σ H1 Q I1 q1
 | false=>exact hb pins s1 σ H1 Q I1 q1
end
def SqL(K:W.Frag)(H:Hp)(a:Addr)(xs:List V):Prop:=
 Rd H a (.lst xs) ∨
  ∃(o:Obj)(its:Array Value)(n:Nat),K.lookup a=some o/\o.cls=.type "list"/\o.dict=none/\o.data=.seq its n/\its.size<=sizeLine/\Vals xs its.toList
def SqT(K:W.Frag)(H:Hp)(a:Addr)(xs:List V):Prop:=
 Rd H a (.tup xs) ∨
  ∃(o:Obj)(its:Array Value)(n:Nat),K.lookup a=some o/\o.cls=.type "tuple"/\o.data=.seq its n/\its.size<=sizeLine/\Vals xs its.toList
def absV:Value->Option V
 | .none=>some .non
 | .bool b=>some (.bl b)
 | .int i _=>some (.int i)
 | .str x _=>some (.str x)
 | .bytes b _=>some (.byt b)
 | .float b _=>some (.flt b)
 | .ref a=>some (.ref a)
 | .type n=>some (.ty n)
 | _=>none
theorem RelV.abs{x:V}{u:Value}(r:RelV x u):absV u=some x:=by
 cases x with
 | non=>cases r;rfl
 | bl _=>cases r;rfl
 | int _=>obtain⟨t,rfl⟩:=r;rfl
 | str _=>obtain⟨t,rfl⟩:=r;rfl
 | byt _=>obtain⟨t,rfl⟩:=r;rfl
 | flt _=>obtain⟨t,rfl⟩:=r;rfl
 | ref _=>cases r;rfl
 | ty _=>cases r;rfl
theorem RelV.inj{x y:V}{u:Value}(r:RelV x u)(q:RelV y u):x=y:=Option.some.inj (r.abs.symm.trans q.abs)
theorem Vals.abs{xs:List V}{us:List Value}(h:Vals xs us):us.map absV=xs.map some:=by
 induction h with
 | nil=>rfl
 | cons r _ ih=>rw[List.map_cons,List.map_cons,r.abs,ih]
theorem Vals.inj{xs ys:List V}{us:List Value}(h:Vals xs us)(g:Vals ys us):xs=ys:=
 (List.map_inj_right λ_ _ e=>Option.some.inj e).mp (h.abs.symm.trans g.abs)
section
variable{X:Cx}{pins:List (Addr×Obj)}{σ:St}{H:Hp}{s:Shared}{a:Addr}{xs ys:List V}
theorem SqL.of{K:W.Frag}(h:H a=some (.lst xs)):SqL K H a xs:=.inl (.inl h)
theorem SqT.of{K:W.Frag}(h:H a=some (.tup xs)):SqT K H a xs:=.inl (.inl h)
theorem Inv.list(I:Inv X pins σ H s)(h:SqL X.K H a xs):∃its:List Value,Vals xs its/\PlainL s.heap a its.toArray/\xs.length<=sizeLine:=by
 rcases h with h|⟨o,its,n,hk,hc,hd,hs,hz,r⟩
 .obtain⟨z,its,n,r,e⟩:=h.ok I.hok;exact⟨its,r,⟨_,n,e,rfl,rfl,rfl⟩,z⟩
 .refine⟨its.toList,r,⟨o,n,I.kIn a o hk,hc,hd,by simpa using hs⟩,?_⟩;have e:=r.length;simp only[Array.length_toList] at e;omega
theorem Inv.tuple(I:Inv X pins σ H s)(h:SqT X.K H a xs):∃its:List Value,Vals xs its/\IsTup s.heap a its.toArray/\xs.length<=sizeLine:=by
 rcases h with h|⟨o,its,n,hk,hc,hs,hz,r⟩
 .obtain⟨z,its,r,p⟩:=h.ok I.hok;exact⟨its,r,p,z⟩
 .refine⟨its.toList,r,⟨o,I.kIn a o hk,hc,n,by simpa using hs⟩,?_⟩;have e:=r.length;simp only[Array.length_toList] at e;omega
theorem Inv.list_inj(I:Inv X pins σ H s)(h:SqL X.K H a xs)(h':SqL X.K H a ys):xs=ys:=by
 obtain⟨its,r,⟨o,n,e,_,_,d⟩,_⟩:=I.list h;obtain⟨its',r',⟨o',n',e',_,_,d'⟩,_⟩:=I.list h';rw[e] at e';cases e';rw[d] at d';injection d' with d1 _
 have:its=its':=by simpa using congrArg Array.toList d1
 subst this;exact r.inj r'
theorem Inv.tuple_inj(I:Inv X pins σ H s)(h:SqT X.K H a xs)(h':SqT X.K H a ys):xs=ys:=by
 obtain⟨its,r,⟨o,e,_,n,d⟩,_⟩:=I.tuple h;obtain⟨its',r',⟨o',e',_,n',d'⟩,_⟩:=I.tuple h';rw[e] at e';cases e';rw[d] at d';injection d' with d1 _
 have:its=its':=by simpa using congrArg Array.toList d1
 subst this;exact r.inj r'
end
abbrev Cx.wish(X:Cx)(E:Value->Shared->Prop):Cx:={X with xe:=E}
abbrev Cx.nox(X:Cx):Cx:=X.wish λ_ _=>False
theorem Cx.Ok.wish{X:Cx}(ok:X.Ok)(E:Value->Shared->Prop):(X.wish E).Ok:=
 ⟨ok.mod,ok.kind,ok.glob,ok.blt,ok.above,ok.inj,ok.has,ok.cab,ok.hd,ok.frames,ok.stk,ok.exf,ok.bs,ok.bsz,ok.noex,ok.exfs,ok.funs,ok.frf⟩
theorem Cx.Ok.unwish{X:Cx}{E:Value->Shared->Prop}(ok:(X.wish E).Ok):X.Ok:=
 ⟨ok.mod,ok.kind,ok.glob,ok.blt,ok.above,ok.inj,ok.has,ok.cab,ok.hd,ok.frames,ok.stk,ok.exf,ok.bs,ok.bsz,ok.noex,ok.exfs,ok.funs,ok.frf⟩
section
variable{X:Cx}{pins:List (Addr×Obj)}{σ:St}{H:Hp}{s:Shared}{E:Value->Shared->Prop}
theorem Inv.wish(I:Inv X pins σ H s)(E:Value->Shared->Prop):Inv (X.wish E) pins σ H s:=⟨I.ok.wish E,I.os,I.bare,I.base,I.loc,I.cell,I.free,I.freeC,I.pin,I.hok,I.len⟩
theorem Inv.unwish(I:Inv (X.wish E) pins σ H s):Inv X pins σ H s:=⟨I.ok.unwish,I.os,I.bare,I.base,I.loc,I.cell,I.free,I.freeC,I.pin,I.hok,I.len⟩
theorem SP.unwish{D:Ends}{f:Flow}{s':Shared}(h:SP (X.wish E) pins D f s'):SP X pins D f s':=by
 cases f with
 | next=>obtain⟨σ',H',I,q⟩:=h;exact⟨σ',H',I.unwish,q⟩
 | brk=>obtain⟨σ',H',I,q⟩:=h;exact⟨σ',H',I.unwish,q⟩
 | cont=>obtain⟨σ',H',I,q⟩:=h;exact⟨σ',H',I.unwish,q⟩
 | ret u=>obtain⟨v,σ',H',I,r,q⟩:=h;exact⟨v,σ',H',I.unwish,r,q⟩
theorem PSs.nox{st:List Stmt}{t:TS}(h:PSs X.nox st t):PSs X st t:=λpins s σ H D I hw=>
 wpAny_mono (h pins s σ H D (I.wish _) hw) (λ_ _ q=>q.unwish) λ_ _ z=>False.elim z
end
section
variable{X:Cx}{st:Stmt}{rest:List Stmt}{t u:TS}{e:Expr}{te:TE}{pos:Pos}
def tNext:TS:=λD σ H=>D.nx σ H
def tSeq(t u:TS):TS:=λD σ H=>t {D with nx:=u D} σ H
theorem pss_nil:PSs X [] tNext:=λ_ _ σ H _ I h=>wpAny_execs_nil ⟨σ,H,I,h⟩
theorem pss_cons(h1:PS X st t)(h2:PSs X rest u):PSs X (st::rest) (tSeq t u):=by
 intro pins s σ H D I h;refine wpAny_execs_cons (thn (h1 pins s σ H {D with nx:=u D} I h) λf s1 q=>?_);cases f with
 | next=>
  obtain⟨σ',H',I',q⟩:=q;exact h2 pins s1 σ' H' D I' q
 | ret v=>exact q
 | brk=>exact q
 | cont=>exact q
theorem pss_one(h1:PS X st t):PSs X [st] t:=by
 intro pins s σ H D I h;refine wpAny_execs_cons (thn (h1 pins s σ H D I h) λf s1 q=>?_);cases f with
 | next=>exact wpAny_execs_nil q
 | ret v=>exact q
 | brk=>exact q
 | cont=>exact q
def tBreak:TS:=λD σ H=>D.bk σ H
def tCont:TS:=λD σ H=>D.ct σ H
theorem Inv.quiet{pins:List (Addr×Obj)}{σ:St}{H:Hp}{s:Shared}(I:Inv X pins σ H s):interactive X.env=false:=by simp[interactive,I.ok.kind]
def tDrop(te:TE):TS:=λD σ H=>te σ H λ_ H1=>D.nx σ H1
theorem ps_expr(he:PE X e te)(hs:swapsWith e none pos.line X.env=pure false:=by rfl):PS X (.Expr e pos) (tDrop te):=by
 intro pins s σ H D I h;exact wpAny_Expr_any (thn (he pins s σ H _ I h) λv s1 ⟨x,H1,I1,r1,q1⟩=>⟨σ,H1,I1,q1⟩) I.quiet hs
def tRet(te:TE):TS:=λD σ H=>te σ H D.rt
theorem ps_ret(he:PE X e te):PS X (.Return (some e) pos) (tRet te):=by
 intro pins s σ H D I h;exact wpAny_Return_some (thn (he pins s σ H _ I h) λv s1 ⟨x,H1,I1,r1,q1⟩=>⟨x,σ,H1,I1,r1,q1⟩)
def tRetN:TS:=λD _ H=>D.rt .non H
def tIfS(c:TT)(t u:TS):TS:=λD σ H=>c σ H λb H1=>if b=true then t D σ H1 else u D σ H1
theorem ps_if{c:Expr}{a b:List Stmt}{tc:TT}(hc:PT X c tc)(ha:PSs X a t)(hb:PSs X b u):PS X (.If c a b pos) (tIfS tc t u):=by
 intro pins s σ H D I h;refine wpAny_If (thn (hc pins s σ H _ I h) λd s1 ⟨H1,I1,q1⟩=>?_);cases d with
 | true=>exact ha pins s1 σ H1 D I1 q1
 | false=>exact hb pins s1 σ H1 D I1 q1
def tNever:TS:=λ_ _ _=>False
end
abbrev TG:=V->St->Hp->(St->Hp->Prop)->Prop
abbrev TGs:=List V->St->Hp->(St->Hp->Prop)->Prop
def PG(X:Cx)(target:Expr)(t:TG):Prop:=
 ∀(pins:List (Addr×Obj))(s:Shared)(σ:St)(H:Hp)(v:V)(u:Value)(Q:St->Hp->Prop),Inv X pins σ H s->RelV v u->t v σ H Q →
  wpAny (model X.prog X.w) X.A (assign target X.env u) (λ_ s'=>∃σ' H',Inv X pins σ' H' s'/\Q σ' H') X.xe s
def PGs(X:Cx)(ts:List Expr)(t:TGs):Prop:=
 ∀(pins:List (Addr×Obj))(s:Shared)(σ:St)(H:Hp)(vs:List V)(us:List Value)(Q:St->Hp->Prop),Inv X pins σ H s->Vals vs us->t vs σ H Q →
  wpAny (model X.prog X.w) X.A (assignInOrder ((assignEach ts X.env).map (·.2)) us) (λ_ s'=>∃σ' H',Inv X pins σ' H' s'/\Q σ' H') X.xe s
abbrev TSet:=V->V->V->Hp->(Hp->Prop)->Prop
def PSet(X:Cx)(t:TSet):Prop:=
 ∀(pins:List (Addr×Obj))(s:Shared)(σ:St)(H:Hp)(o i v:V)(ov iv u:Value)(Q:Hp->Prop),Inv X pins σ H s->RelV o ov->RelV i iv->RelV v u->t o i v H Q →
  wpAny (model X.prog X.w) X.A (setItem ov iv u) (λ_ s'=>∃H',Inv X pins σ H' s'/\Q H') X.xe s
abbrev TIp:=V->V->Hp->VK->Prop
def PIp(X:Cx)(op:Operator)(t:TIp):Prop:=
 ∀(pins:List (Addr×Obj))(s:Shared)(σ:St)(H:Hp)(x y:V)(v u:Value)(Q:VK),Inv X pins σ H s->RelV x v->RelV y u->t x y H Q →
  wpAny (model X.prog X.w) X.A (inplaceOp op v u) (EP X pins σ Q) X.xe s
section
variable{X:Cx}{pos:Pos}
def gName(i:Nat):TG:=λv σ H Q=>Q (σ.set i (some v)) H
theorem pg_name{i:Nat}{x:Str}(hN:X.N.Nodup)(hi:X.N[i]?=some x)(hx:Loc X.env.scope x)(hf:X.fn x=true\/X.env.scope.names.lookup x=some .local:=by first|exact .inl rfl|exact .inr rfl|assumption):PG X (.Name x pos) (gName i):=by
 intro pins s σ H v u Q I r h;exact wpAny_assign_Name (store_ok I hN hi hx r (λs' I'=>⟨_,H,I',h⟩) hf)
def gNil:TGs:=λvs σ H Q=>vs=[]/\Q σ H
def gCons(t:TG)(u:TGs):TGs:=λvs σ H Q=>∃v r,vs=v::r/\t v σ H λσ' H'=>u r σ' H' Q
theorem pgs_nil:PGs X [] gNil:=by
 intro pins s σ H vs us Q I r h;obtain⟨e,h⟩:=h;subst e;cases r;exact assignInOrder_nil ⟨σ,H,I,h⟩
theorem pgs_cons{e:Expr}{es:List Expr}{t:TG}{u:TGs}(h1:PG X e t)(h2:PGs X es u)
  (hs:(assignEach (e::es) X.env).map (·.2)=assign e X.env::(assignEach es X.env).map (·.2):=by rfl):PGs X (e::es) (gCons t u):=by
 intro pins s σ H vs us Q I r h;obtain⟨v,vr,e1,h⟩:=h;subst e1;cases r with
 | cons r rr=>
  rw[hs];refine assignInOrder_cons (thn (h1 pins s σ H _ _ _ I r h) λ_ s1 ⟨σ1,H1,I1,q1⟩=>?_);exact h2 pins s1 σ1 H1 _ _ Q I1 rr q1
def gTup(K:W.Frag)(n:Nat)(t:TGs):TG:=λv σ H Q=>∃a xs,v=.ref a/\SqT K H a xs/\xs.length=n/\t xs σ H Q
theorem pg_tup{es:List Expr}{k:Nat}{t:TGs}{n:Nat}(hc:X.calm=true)(h:PGs X es t)
  (hn:(assignEach es X.env).length=n:=by rfl) (hst:(assignEach es X.env).findIdx? (·.1)=none:=by rfl):PG X (.Tuple es k pos) (gTup X.K n t):=by
 intro pins s σ H v u Q I r hw;obtain⟨a,xs,e1,hq,hl,hw⟩:=hw;subst e1;cases r;obtain⟨its,rv,ht,hz⟩:=I.tuple hq;refine assign_Tuple_tuple (I.ok.hd hc) ht (by simp[hn,<-hl,rv.length]) hst λh' hx=>?_;have I1:Inv X pins σ H {s with heap:=h'}:=I.kept (t':=s.toks) λb o e=>hx b o (Nat.ne_of_lt (Heap.lt_size e)) e;exact h pins _ σ H xs _ Q I1 (by simpa using rv) hw
def gSub(to ti:TE)(t:TSet):TG:=λv σ H Q=>to σ H λo H1=>ti σ H1 λi H2=>t o i v H2 λH3=>Q σ H3
theorem pg_sub{o i:Expr}{to ti:TE}{t:TSet}(ho:PE X o to)(hi:PE X i ti)(hs:PSet X t)
  (ha:∀v,assign (.Subscript o i pos) X.env v=(do
   let ov <-holding [v] (eval o X.env)
   let iv <-holding [v,ov] (eval i X.env)
   standAt pos
   holding [v,ov,iv] (setItem ov iv v)
   release [v,ov,iv] []):=by intro _;rfl):PG X (.Subscript o i pos) (gSub to ti t):=by
 intro pins s σ H v u Q I r h;rw[ha];refine wpAny_bind (wpAny_holding (thn (ho pins s σ H _ I h) λov s1 ⟨x,H1,I1,r1,q1⟩=>?_));refine wpAny_bind (wpAny_holding (thn (hi pins s1 σ H1 _ I1 q1) λiv s2 ⟨y,H2,I2,r2,q2⟩=>?_));refine wpAny_bind (wpAny_standAt (wpAny_bind (wpAny_holding (thn (hs pins s2 σ H2 x y v ov iv u _ I2 r1 r2 r q2) λ_ s3 ⟨H3,I3,q3⟩=>?_))));exact wpAny_release ⟨σ,H3,I3,q3⟩
def tAsg(te:TE)(g:TG):TS:=λD σ H=>te σ H λx H1=>g x σ H1 D.nx
theorem ps_asg{tg e:Expr}{te:TE}{g:TG}(he:PE X e te)(hg:PG X tg g)(hs:swapsWithSole [tg] e pos.line X.env=pure false:=by rfl)(hw:swappedStores [tg] e X.env=pure none:=by rfl)
  (h1:(assignEach [tg] X.env).map (·.2)=[assign tg X.env]:=by rfl):PS X (.Assign [tg] e pos) (tAsg te g):=by
 intro pins s σ H D I h;refine wpAny_Assign_stores (thn (he pins s σ H _ I h) λv s1 ⟨x,H1,I1,r1,q1⟩=>?_) hs hw;rw[h1];exact thn (hg pins s1 σ H1 x v _ I1 r1 q1) λ_ s2 q=>q
theorem ps_set{i:Nat}{x:Str}{e:Expr}{te:TE}{pos':Pos}(hN:X.N.Nodup)(hi:X.N[i]?=some x)(hx:Loc X.env.scope x)(he:PE X e te)(hs:swapsWith e (some (.Name x pos')) pos.line X.env=pure false:=by rfl)(hf:X.fn x=true\/X.env.scope.names.lookup x=some .local:=by first|exact .inl rfl|exact .inr rfl|assumption) :
  PS X (.Assign [.Name x pos'] e pos) (tAsg te (gName i)):=by
 intro pins s σ H D I h;refine wpAny_Assign_Name (thn (he pins s σ H _ I h) λv s1 ⟨y,H1,I1,r1,q1⟩=>?_) hs;exact store_ok I1 hN hi hx r1 (λs2 I2=>⟨_,H1,I2,q1⟩) hf
def tPar(i j:Nat)(ta:TA):TS:=λD σ H=>ta σ H λvs H1=>∃v w,vs=[v,w]/\D.nx ((σ.set i (some v)).set j (some w)) H1
def tAug(i:Nat)(te:TE)(ti:TIp):TS:=λD σ H=>∃x,σ[i]?=some (some x)/\te σ H λy H1=>ti x y H1 λz H2=>D.nx (σ.set i (some z)) H2
def tAugS(to ti te:TE)(tget:V->V->Hp->VK->Prop)(tip:TIp)(tset:TSet):TS:=λD σ H=>to σ H λo H1=>ti σ H1 λi H2=>tget o i H2 λx H3=>te σ H3 λy H4=>tip x y H4 λz H5=>tset o i z H5 λH6=>D.nx σ H6
def PGet(X:Cx)(t:V->V->Hp->VK->Prop):Prop:=
 ∀(pins:List (Addr×Obj))(s:Shared)(σ:St)(H:Hp)(o i:V)(ov iv:Value)(Q:VK),Inv X pins σ H s->RelV o ov->RelV i iv->t o i H Q →
  wpAny (model X.prog X.w) X.A (getItem ov iv) (EP X pins σ Q) X.xe s
theorem ps_augS{o i e:Expr}{to ti te:TE}{tget:V->V->Hp->VK->Prop}{tip:TIp}{tset:TSet}{op:Operator}{tpos:Pos}(ho:PE X o to)(hi:PE X i ti)(hg:PGet X tget)(he:PE X e te)(hp:PIp X op tip)(hs:PSet X tset)
  (ha:∀ov iv new,augStore i ov iv new=(do holding [new,ov,iv] (setItem ov iv new);release [new,ov,iv] [];pure .next):=by intros;rfl):PS X (.AugAssign (.Subscript o i tpos) op e pos) (tAugS to ti te tget tip tset):=by
 intro pins s σ H D I h;refine wpAny_AugAssign_SubscriptAny (thn (ho pins s σ H _ I h) λov s1 ⟨x1,H1,I1,r1,q1⟩=>?_) ha;refine thn (hi pins s1 σ H1 _ I1 q1) λiv s2 ⟨x2,H2,I2,r2,q2⟩=>?_;refine thn (hg pins s2 σ H2 x1 x2 ov iv _ I2 r1 r2 q2) λold s3 ⟨x3,H3,I3,r3,q3⟩=>?_;refine thn (he pins s3 σ H3 _ I3 q3) λv s4 ⟨x4,H4,I4,r4,q4⟩=>?_;refine thn (hp pins s4 σ H4 x3 x4 old v _ I4 r3 r4 q4) λnew s5 ⟨x5,H5,I5,r5,q5⟩=>?_;exact thn (hs pins s5 σ H5 x1 x2 x5 ov iv new _ I5 r1 r2 r5 q5) λ_ s6 ⟨H6,I6,q6⟩=>⟨σ,H6,I6,q6⟩
def ipI(f:Int->Int->Int):TIp:=λx y H Q=>∃i j,x=.int i/\y=.int j/\Q (.int (f i j)) H
theorem ip_add:PIp X .Add (ipI λi j=>i+j):=by
 intro pins s σ H x y v u Q I r1 r2 h;obtain⟨i,j,e1,e2,q⟩:=h;subst e1;subst e2;obtain⟨t,rfl⟩:=r1;obtain⟨t',rfl⟩:=r2;exact iadd_int ⟨.int _,H,I.tok _,⟨_,rfl⟩,q⟩
def tWhile(c:TT)(tb:TS):TS:=λD σ H=>∃W:Nat->St->Hp->Prop,(∃m,W m σ H)/\∀m σ H,W m σ H →
 c σ H λb H1=>if b=true then ∃N:St->Hp->Prop,(∀σ' H',N σ' H'->∃m',m'<m/\W m' σ' H')/\tb {D with nx:=N,ct:=N,bk:=D.nx} σ H1 else D.nx σ H1
theorem ps_while{c:Expr}{body:List Stmt}{tc:TT}{tb:TS}(hp:PassesOwn (model X.prog X.w) X.A X.env X.xe)(hc:PT X c tc)(hb:PSs X body tb):PS X (.While c body [] pos) (tWhile tc tb):=by
 intro pins s σ H D I h;obtain⟨W,⟨m0,w0⟩,turn⟩:=h;refine wpAny_While (codeAny_whileLoop (λn s'=>∃σ' H',Inv X pins σ' H' s'/\W n σ' H') ?_ m0 ⟨σ,H,I,w0⟩);rintro n s1 ⟨σ1,H1,I1,w1⟩;refine wpAny_passesOwn hp (thn (hc pins s1 σ1 H1 _ I1 (turn n σ1 H1 w1)) λb s2 ⟨H2,I2,q2⟩=>?_);cases b with
 | true=>
  obtain⟨N,hN,q2⟩:=q2;rw[if_pos rfl];refine wpAny_passesOwn hp (thn (hb pins s2 σ1 H2 _ I2 q2) λf s3 q3=>?_);cases f with
  | next=>
   obtain⟨σ3,H3,I3,n3⟩:=q3;obtain⟨m',hm,w3⟩:=hN σ3 H3 n3;exact⟨m',hm,σ3,H3,I3,w3⟩
  | cont=>
   obtain⟨σ3,H3,I3,n3⟩:=q3;obtain⟨m',hm,w3⟩:=hN σ3 H3 n3;exact⟨m',hm,σ3,H3,I3,w3⟩
  | brk=>exact q3
  | ret v=>exact q3
 | false=>
  rw[if_neg Bool.false_ne_true];exact wpAny_execs_nil ⟨σ1,H2,I2,q2⟩
end
structure It where
 go:Nat->Hp->Prop
 yld:Nat->Hp->V->Hp->Prop
 stop:Nat->Hp->Prop
def FpOk(X:Cx)(pins:List (Addr×Obj))(H:Hp)(b:Addr):Prop:=
 H b=none/\b≠X.env.locals/\b∉X.fs/\(b∈X.ex\/X.s₀.heap.objs.size<=b)/\(∀x c,X.env.cells.lookup x=some c->c≠b)/\∀p∈X.pn++pins,p.1≠b
theorem Inv.fpOk{X:Cx}{pins:List (Addr×Obj)}{σ:St}{H H':Hp}{s:Shared}{b:Addr}(I:Inv X pins σ H s)(hb:s.heap.objs.size<=b)(hn:H' b=none):FpOk X pins H' b:=by
 refine⟨hn,Nat.ne_of_gt (Nat.lt_of_lt_of_le I.lt hb),I.nofs hb,.inr (Nat.le_trans I.sz hb),λx c e z=>?_,λp hp z=>?_⟩
 .obtain⟨v,q⟩:=I.cell x c e;exact absurd (Nat.lt_of_lt_of_le q.lt (by rw[z];exact hb)) (Nat.lt_irrefl _)
 .exact absurd (Nat.lt_of_lt_of_le (Heap.lt_size (I.pin p hp).1) (by rw[z];exact hb)) (Nat.lt_irrefl _)
structure Turn(P:Program)(w:World)(K:W.Frag)(tg:Expr)(J:It)(fp:List Addr)(it:Addr)(tn:Nat->Heap->Prop):Prop where
 mem:it∈fp
 obj:∀i h,tn i h->∀b∈fp,∃o,h.get? b=some o/\∀v,o.data≠.cell v
 keep:∀i h h',tn i h->(∀b∈fp,∀o,h.get? b=some o->h'.get? b=some o)->tn i h'
 item:∀(X:Cx),X.prog=P->X.w=w->X.K=K->X.calm=true->∀(i:Nat)(pins:List (Addr×Obj))(s:Shared)(σ:St)(H:Hp)(E:Value->Shared->Prop),Inv X pins σ H s->(∀b∈fp,FpOk X pins H b)->tn i s.heap->J.go i H →
  wpAny (model P w) X.A (pyNext (.ref it)) (λr s1=>∃u,r=some u ∧
   wpAny (model P w) X.A (letOwnedTupleGo tg (.ref it) u) (λ_ s2=>∃x H',Inv X pins σ H' s2/\RelV x u/\J.yld i H x H'/\tn (i+1) s2.heap/\∀b∈fp,H' b=none) E s1) E s
 done:∀(X:Cx),X.prog=P->X.w=w->X.K=K->X.calm=true->∀(i:Nat)(pins:List (Addr×Obj))(s:Shared)(σ:St)(H:Hp)(E:Value->Shared->Prop),Inv X pins σ H s->(∀b∈fp,FpOk X pins H b)->tn i s.heap->J.stop i H →
  wpAny (model P w) X.A (pyNext (.ref it)) (λr s1=>r=none/\Inv X pins σ H s1) E s
 self:∀(A:Around)(i:Nat)(s:Shared)(Q:Value->Shared->Prop)(E:Value->Shared->Prop),tn i s.heap->Q (.ref it) s->wpAny (model P w) A (pyIter (.ref it)) Q E s
abbrev TI:=St->Hp->(It->Hp->Prop)->Prop
def PIE(X:Cx)(pins:List (Addr×Obj))(σ:St)(tg:Expr)(R:It->Hp->Prop)(itv:Value)(s2:Shared):Prop:=
 ∃(it:Addr)(fp:List Addr)(tn:Nat->Heap->Prop)(J:It)(H':Hp),itv=.ref it/\Inv X pins σ H' s2/\Turn X.prog X.w X.K tg J fp it tn/\tn 0 s2.heap/\(∀b∈fp,FpOk X pins H' b)/\R J H'
def PI(X:Cx)(tg iter:Expr)(wi:TI):Prop:=
 ∀(pins:List (Addr×Obj))(s:Shared)(σ:St)(H:Hp)(R:It->Hp->Prop),Inv X pins σ H s->wi σ H R →
  wpAny (model X.prog X.w) X.A (eval iter X.env) (λv s1=>wpAny (model X.prog X.w) X.A (pyIter v) (PIE X pins σ tg R) X.xe s1) X.xe s
theorem go_of{M:Model}{A:Around}{E:Value->Shared->Prop}{s:Shared}{tg:Expr}{it:Addr}{u:Value}{o:Obj}{n:String}{vs:Array Value}{Q:Unit->Shared->Prop}(ho:s.heap.get? it=some o)(hc:o.cls=.type n)(hd:o.data=.fields vs)
    (hn:["enumerate","zip","dict_itemiterator","dict_reverseitemiterator","odict_iterator","itertools.zip_longest","itertools.pairwise"].contains n=false) (hQ:Q () s):wpAny M A (letOwnedTupleGo tg (.ref it) u) Q E s:=by
  unfold letOwnedTupleGo;cases tg <;> first
    | exact wpAny_pure hQ
    | (cases u<;>first
        | exact wpAny_pure hQ
        | (refine wpAny_bind (wpAny_load ho ?_)
           rw[hc,hd];show wpAny M A (if (["enumerate","zip","dict_itemiterator","dict_reverseitemiterator","odict_iterator","itertools.zip_longest","itertools.pairwise"].contains n&&vs[0]?==some (rawInt _))=true then _ else _) Q E s;rw[if_neg (by intro h;rw[hn,Bool.false_and] at h;cases h)];exact wpAny_pure hQ))
def Itl(K:W.Frag)(a:Addr):It:=
 ⟨λi H=>∃xs x,SqL K H a xs/\xs[i]?=some x,λi H x H'=>H'=H/\∀xs,SqL K H a xs->xs[i]?=some x,λi H=>∃xs,SqL K H a xs/\xs.length<=i⟩
def Itt(K:W.Frag)(a:Addr):It:=
 ⟨λi H=>∃xs x,SqT K H a xs/\xs[i]?=some x,λi H x H'=>H'=H/\∀xs,SqT K H a xs->xs[i]?=some x,λi H=>∃xs,SqT K H a xs/\xs.length<=i⟩
def Itr(lo:Int)(n:Nat):It:=⟨λi _=>i<n,λi H x H'=>H'=H/\x=.int (lo+i),λi _=>n<=i⟩
theorem turn_list{P:Program}{w:World}{K:W.Frag}{tg:Expr}(a it:Addr):Turn P w K tg (Itl K a) [it] it (λi h=>h.IsListIter it a i) where
 mem:=by simp
 obj:=λi h st b hb=>by
  have e:b=it:=by simpa using hb
  subst e;obtain⟨o,e,c,d⟩:=st;exact⟨o,e,λv z=>by rw[d] at z;cases z⟩
 keep:=λi h h' st k=>st.at λo e=>k it (by simp) o e
 item:=by
  intro X hP hw hK hc i pins s σ H E I hf st hg;subst hP hw hK;obtain⟨xs,x,hq,hx⟩:=hg;obtain⟨its,rv,p,hz⟩:=I.list hq;obtain⟨u,hu,ru⟩:=rv.get hx;obtain⟨f0,f1,f2,f3,f4,f5⟩:=hf it (by simp);refine wpAny_pyNext_list_item st p.isList (x:=u) (by simpa using hu) λh' st' sb=>?_;have I1:Inv X pins σ H {s with heap:=h'}:=I.turned (t':=s.toks) (λb o hb e=>(sb.2 b hb).trans e) f0 f1 f3 f4 f5;obtain⟨o,e,c,d⟩:=id st';exact⟨u,rfl,go_of (s:={s with heap:=h'}) e c d (by decide) ⟨x,H,I1,ru,⟨rfl,λys hy=>by rw[I.list_inj hy hq];exact hx⟩,st',λb hb=>(hf b hb).1⟩⟩
 done:=by
  intro X hP hw hK hc i pins s σ H E I hf st hg;subst hP hw hK;obtain⟨xs,hq,hx⟩:=hg;obtain⟨its,rv,p,hz⟩:=I.list hq;obtain⟨f0,f1,f2,f3,f4,f5⟩:=hf it (by simp);have hl:=rv.length;exact wpAny_pyNext_list_end (I.ok.hd hc) st p.isList (by simp;omega) λh' eb=>⟨rfl,I.turned (t':=s.toks) (λb o hb e=>eb b o hb e) f0 f1 f3 f4 f5⟩
 self:=λ_ _ _ _ _ st h=>wpAny_pyIter_listiter st h
theorem turn_tuple{P:Program}{w:World}{K:W.Frag}{tg:Expr}(a it:Addr):Turn P w K tg (Itt K a) [it] it (λi h=>h.IsTupleIter it a i) where
 mem:=by simp
 obj:=λi h st b hb=>by
  have e:b=it:=by simpa using hb
  subst e;obtain⟨o,e,c,d⟩:=st;exact⟨o,e,λv z=>by rw[d] at z;cases z⟩
 keep:=λi h h' st k=>st.at λo e=>k it (by simp) o e
 item:=by
  intro X hP hw hK hc i pins s σ H E I hf st hg;subst hP hw hK;obtain⟨xs,x,hq,hx⟩:=hg;obtain⟨its,rv,p,hz⟩:=I.tuple hq;obtain⟨u,hu,ru⟩:=rv.get hx;obtain⟨f0,f1,f2,f3,f4,f5⟩:=hf it (by simp);refine wpAny_pyNext_tuple_item st (show s.heap.IsTuple a its.toArray from p) (x:=u) (by simpa using hu) λh' st' sb=>?_;have I1:Inv X pins σ H {s with heap:=h'}:=I.turned (t':=s.toks) (λb o hb e=>(sb.2 b hb).trans e) f0 f1 f3 f4 f5;obtain⟨o,e,c,d⟩:=id st';exact⟨u,rfl,go_of (s:={s with heap:=h'}) e c d (by decide) ⟨x,H,I1,ru,⟨rfl,λys hy=>by rw[I.tuple_inj hy hq];exact hx⟩,st',λb hb=>(hf b hb).1⟩⟩
 done:=by
  intro X hP hw hK hc i pins s σ H E I hf st hg;subst hP hw hK;obtain⟨xs,hq,hx⟩:=hg;obtain⟨its,rv,p,hz⟩:=I.tuple hq;obtain⟨f0,f1,f2,f3,f4,f5⟩:=hf it (by simp);have hl:=rv.length;exact wpAny_pyNext_tuple_end (I.ok.hd hc) st (show s.heap.IsTuple a its.toArray from p) (by simp;omega) λh' eb=>⟨rfl,I.turned (t':=s.toks) (λb o hb e=>eb b o hb e) f0 f1 f3 f4 f5⟩
 self:=λ_ _ _ _ _ st h=>wpAny_pyIter_tupleiter st h
theorem turn_range{P:Program}{w:World}{K:W.Frag}{tg:Expr}(it:Addr)(lo:Int)(n:Nat):Turn P w K tg (Itr lo n) [it] it (λi h=>IsRangeIter h it (lo+(i:Nat)*1) ((n:Int)-(i:Nat)) 1) where
 mem:=by simp
 obj:=λi h st b hb=>by
  have e:b=it:=by simpa using hb
  subst e;exact⟨_,st,λv z=>by
   have z':Data.fields _=Data.cell v:=z;cases z'⟩
 keep:=λi h h' st k=>k it (by simp) _ st
 item:=by
  intro X hP hw hK hc i pins s σ H E I hf st hg;subst hP hw hK;obtain⟨f0,f1,f2,f3,f4,f5⟩:=hf it (by simp);have W:=Walks.range (prog:=X.prog) (w:=X.w) (I.ok.hd hc) it lo 1 n;refine W.item i s _ _ hg st λv h' tk hv st' kk=>?_;obtain⟨t,rfl⟩:=hv;have I1:Inv X pins σ H {s with heap:=h',toks:=tk}:=I.turned (λb o hb e=>kk b o (by simpa using hb) e) f0 f1 f3 f4 f5;refine⟨_,rfl,go_of (s:={s with heap:=h',toks:=tk}) (n:="range_iterator") st' rfl rfl (by decide) ⟨.int (lo+i),H,I1,⟨t,?_⟩,⟨rfl,rfl⟩,st',λb hb=>(hf b hb).1⟩⟩;rw[Int.mul_one]
 done:=by
  intro X hP hw hK hc i pins s σ H E I hf st hg;subst hP hw hK;obtain⟨f0,f1,f2,f3,f4,f5⟩:=hf it (by simp);exact wpAny_pyNext_range_end (I.ok.hd hc) st (by have:n<=i:=hg;omega) λh' eb=>⟨rfl,I.turned (t':=s.toks) (λb o hb e=>eb b o hb e) f0 f1 f3 f4 f5⟩
 self:=λ_ _ _ _ _ st h=>wpAny_pyIter_rangeiter st h
section
variable{X:Cx}{tg:Expr}
def iList(K:W.Frag)(tl:TE):TI:=λσ H R=>tl σ H λx H1=>∃a,x=.ref a/\(∃xs,SqL K H1 a xs)/\R (Itl K a) H1
def iTup(K:W.Frag)(tl:TE):TI:=λσ H R=>tl σ H λx H1=>∃a,x=.ref a/\(∃xs,SqT K H1 a xs)/\R (Itt K a) H1
theorem pi_list{l:Expr}{tl:TE}(hl:PE X l tl):PI X tg l (iList X.K tl):=by
 intro pins s σ H R I h;refine thn (hl pins s σ H _ I h) λv s1 ⟨x,H1,I1,r1,q1⟩=>?_;obtain⟨a,e,⟨xs,hq⟩,q⟩:=q1;subst e;cases r1;obtain⟨its,rv,p,hz⟩:=I1.list hq;refine wpAny_pyIter_list p.isList ?_;refine⟨s1.heap.objs.size,[s1.heap.objs.size],_,_,H1,rfl,I1.kept (t':=s1.toks) λb o e=>Heap.get?_push_of_some _ e,turn_list a _,⟨_,Heap.get?_push_size _ rfl,rfl,rfl⟩,λb hb=>?_,q⟩;have e:b=s1.heap.objs.size:=by simpa using hb
 subst e;exact I1.fpOk (Nat.le_refl _) (I1.hok.fresh (Nat.le_refl _))
theorem pi_tup{l:Expr}{tl:TE}(hl:PE X l tl):PI X tg l (iTup X.K tl):=by
 intro pins s σ H R I h;refine thn (hl pins s σ H _ I h) λv s1 ⟨x,H1,I1,r1,q1⟩=>?_;obtain⟨a,e,⟨xs,hq⟩,q⟩:=q1;subst e;cases r1;obtain⟨its,rv,p,hz⟩:=I1.tuple hq;refine wpAny_pyIter_tuple (show s1.heap.IsTuple a its.toArray from p) ?_;refine⟨s1.heap.objs.size,[s1.heap.objs.size],_,_,H1,rfl,I1.kept (t':=s1.toks) λb o e=>Heap.get?_push_of_some _ e,turn_tuple a _,⟨_,Heap.get?_push_size _ rfl,rfl,rfl⟩,λb hb=>?_,q⟩;have e:b=s1.heap.objs.size:=by simpa using hb
 subst e;exact I1.fpOk (Nat.le_refl _) (I1.hok.fresh (Nat.le_refl _))
theorem range_it{pins:List (Addr×Obj)}{σ:St}{H:Hp}{s:Shared}{R:It->Hp->Prop}{E:Value->Shared->Prop}{lo hi:Int}{t u v:Tok}{tk:Nat}(I:Inv X pins σ H s)(h1:-(2 ^ 62)<=lo)(h2:lo<2 ^ 62)(h3:-(2 ^ 62)<=hi)(h4:hi<2 ^ 62)
  (q:R (Itr lo (hi-lo).toNat) H):wpAny (model X.prog X.w) X.A (pyIter (.ref s.heap.objs.size)) (PIE X pins σ tg R) E {s with heap:=s.heap.push {cls:=.type "range",data:=.fields #[.int lo t,.int hi u,.int 1 v]},toks:=tk}:=by
 refine wpAny_pyIter_range (IsRange.new ..) (small_one h1 h2 h3 h4) ?_;have I1:Inv X pins σ H {s with heap:=s.heap.push {cls:=.type "range",data:=.fields #[.int lo t,.int hi u,.int 1 v]},toks:=tk}:=I.kept λb o e=>Heap.get?_push_of_some _ e;refine⟨(s.heap.push {cls:=.type "range",data:=.fields #[.int lo t,.int hi u,.int 1 v]}).objs.size,[(s.heap.push {cls:=.type "range",data:=.fields #[.int lo t,.int hi u,.int 1 v]}).objs.size],_,_,H,rfl,
  I1.kept (t':=tk) λb o e=>Heap.get?_push_of_some _ e,turn_range _ lo (hi-lo).toNat,?_,λb hb=>?_,q⟩
 .have e1:lo+((0:Nat):Int)*1=lo:=by simp
  have e2:(((hi-lo).toNat:Nat):Int)-((0:Nat):Int)=Builtin.Range.rangeSize lo hi 1:=by rw[rangeSize_one];split<;>omega
  show IsRangeIter _ _ (lo+((0:Nat):Int)*1) ((((hi-lo).toNat:Nat):Int)-((0:Nat):Int)) 1;rw[e1,e2];exact Heap.get?_push_size _ rfl
 .have e:b=(s.heap.push {cls:=.type "range",data:=.fields #[.int lo t,.int hi u,.int 1 v]}).objs.size:=by simpa using hb
  subst e;exact I1.fpOk (Nat.le_refl _) (I1.hok.fresh (Nat.le_refl _))
def iRng1(ta:TA):TI:=λσ H R=>ta σ H λvs H1=>∃j:Int,vs=[.int j]/\-(2 ^ 62)<=j/\j<2 ^ 62/\R (Itr 0 j.toNat) H1
def iRng2(ta:TA):TI:=λσ H R=>ta σ H λvs H1=>∃i j:Int,vs=[.int i,.int j]/\(-(2 ^ 62)<=i/\i<2 ^ 62/\-(2 ^ 62)<=j/\j<2 ^ 62)/\R (Itr i (j-i).toNat) H1
theorem pi_range1{a:Expr}{ta:TA}{p pos:Pos}(hg:Gl X "range")(hm:X.mg "range"=none)(ha:PA X [a] ta)(hs:starEach [a] X.env=[(false,eval a X.env)]:=by rfl):PI X tg (.Call (.Name "range" p) [a] [] pos) (iRng1 ta):=by
 intro pins s σ H R I h;refine Call_ (ld_blt I hg hm boot_range (PyProof.Rows.callWith_type1 (thn (ha pos pins s σ H _ I h) λus s1 ⟨vs,H1,I1,r1,q1⟩=>?_) hs rfl));obtain⟨j,e,q1,q2,q⟩:=q1;subst e;cases r1 with
 | cons r rr=>
  cases rr;obtain⟨t,rfl⟩:=r;exact call_range_1 (range_it I1 (by omega) (by omega) q1 q2 (by simpa using q))
def tFor(wi:TI)(g:TG)(tb:TS):TS:=λD σ H=>wi σ H λJ H1=>∃W:Nat->Nat->St->Hp->Prop,(∃m,W 0 m σ H1)/\∀i m σ H,W i m σ H →
 (J.stop i H/\D.nx σ H)\/(J.go i H/\∃N:St->Hp->Prop,(∀σ' H',N σ' H'->∃m',m'<m/\W (i+1) m' σ' H')/\∀x H',J.yld i H x H'->g x σ H' λσ2 H2=>tb {D with nx:=N,ct:=N,bk:=D.nx} σ2 H2)
def pinsAt(fp:List Addr)(h:Heap):List (Addr×Obj):=fp.filterMap λb=>(h.get? b).map λo=>(b,o)
theorem mem_pinsAt{fp:List Addr}{h:Heap}{b:Addr}{o:Obj}(hb:b∈fp)(e:h.get? b=some o):(b,o)∈pinsAt fp h:=List.mem_filterMap.mpr ⟨b,hb,by rw[e];rfl⟩
theorem of_pinsAt{fp:List Addr}{h:Heap}{p:Addr×Obj}(hp:p∈pinsAt fp h):p.1∈fp/\h.get? p.1=some p.2:=by
 obtain⟨b,hb,e⟩:=List.mem_filterMap.mp hp;cases q:h.get? b with
 | none=>rw[q] at e;cases e
 | some o=>
  rw[q] at e;have e':(b,o)=p:=Option.some.inj e;subst e';exact⟨hb,q⟩
theorem Inv.pinned{pins:List (Addr×Obj)}{σ:St}{H:Hp}{s:Shared}{fp:List Addr}(I:Inv X pins σ H s)(hf:∀b∈fp,FpOk X pins H b)(ho:∀b∈fp,∃o,s.heap.get? b=some o/\∀v,o.data≠.cell v):Inv X (pins++pinsAt fp s.heap) σ H s:=
 I.pins_of λp hp=>(List.mem_append.mp hp).elim (λz=>I.pin p (List.mem_append_right _ z)) λz=>by
  obtain⟨hb,e⟩:=of_pinsAt z;obtain⟨f0,f1,f2,_⟩:=hf p.1 hb;obtain⟨o,e',d⟩:=ho p.1 hb;rw[e] at e';cases e';exact⟨e,f0,f1,f2,d⟩
theorem Inv.unpinned{pins pl:List (Addr×Obj)}{σ:St}{H:Hp}{s:Shared}(I:Inv X (pins++pl) σ H s):Inv X pins σ H s:=I.pins_of λp hp=>I.pin p (List.mem_append_right _ (List.mem_append_left _ hp))
theorem ps_for{iter:Expr}{body:List Stmt}{wi:TI}{g:TG}{tb:TS}{pos:Pos}(hp:PassesOwn (model X.prog X.w) X.A X.env X.xe)(hc:X.calm=true)(hi:PI X tg iter wi)(hg:PG X tg g)(hb:PSs X body tb)
  (hs:∀x,foldedSetIterable iter X.env x=pure x:=by intro _;rfl):PS X (.For tg iter body [] pos) (tFor wi g tb):=by
 intro pins s σ H D I h;refine wpAny_For (thn (hi pins s σ H _ I h) λv s1 h1=>thn h1 λitv s2 h2=>?_) hs;obtain⟨it,fp,tn,J,H2,e,I2,T,st2,f2,W,⟨m0,w0⟩,turn⟩:=h2;subst e;have stat:∀{H':Hp},(∀b∈fp,H' b=none)->∀b∈fp,FpOk X pins H' b:=λhn b hb=>⟨hn b hb,(f2 b hb).2⟩;refine codeAny_forLoop_any (λn s'=>∃i σ' H',Inv X pins σ' H' s'/\tn i s'.heap/\(∀b∈fp,H' b=none)/\W i n σ' H') ?_ m0 ⟨0,σ,H2,I2,st2,λb hb=>(f2 b hb).1,w0⟩;rintro n s3 ⟨i,σ3,H3,I3,st3,fr3,w3⟩;rcases turn i n σ3 H3 w3 with⟨stop,qn⟩|⟨go,N,hN,step⟩
 .refine wpAny_passesOwn hp (thn (T.done X rfl rfl rfl hc i pins s3 σ3 H3 X.xe I3 (stat fr3) st3 stop) λr s4 ⟨hr,I4⟩=>?_);subst hr;exact wpAny_execs_nil ⟨σ3,H3,I4,qn⟩
 .refine wpAny_passesOwn hp (thn (T.item X rfl rfl rfl hc i pins s3 σ3 H3 X.xe I3 (stat fr3) st3 go) λr s4 ⟨u,hr,h4⟩=>?_);subst hr;refine wpAny_passesOwn hp (thn h4 λ_ s5 ⟨x,H5,I5,r5,y5,st5,fr5⟩=>?_);have I5':=I5.pinned (stat fr5) (T.obj _ _ st5);refine wpAny_passesOwn hp (thn (hg _ s5 σ3 H5 x u _ I5' r5 (step x H5 y5)) λ_ s6 ⟨σ6,H6,I6,q6⟩=>?_);refine wpAny_passesOwn hp (thn (hb _ s6 σ6 H6 _ I6 q6) λf s7 q7=>?_);have again:∀{σ7:St}{H7:Hp},Inv X (pins++pinsAt fp s5.heap) σ7 H7 s7->N σ7 H7->∃m,m<n/\∃i σ' H',Inv X pins σ' H' s7/\tn i s7.heap/\(∀b∈fp,H' b=none)/\W i m σ' H':=λ{σ7 H7} I7 n7=>by
   obtain⟨m',hm,w7⟩:=hN σ7 H7 n7;refine⟨m',hm,i+1,σ7,H7,I7.unpinned,T.keep _ _ _ st5 λb hb o e=>(I7.pin (b,o) (List.mem_append_right _ (List.mem_append_right _ (mem_pinsAt hb e)))).1,λb hb=>?_,w7⟩;obtain⟨o,e,d⟩:=T.obj _ _ st5 b hb;exact(I7.pin (b,o) (List.mem_append_right _ (List.mem_append_right _ (mem_pinsAt hb e)))).2.1
  cases f with
  | next=>obtain⟨σ7,H7,I7,n7⟩:=q7;exact again I7 n7
  | cont=>obtain⟨σ7,H7,I7,n7⟩:=q7;exact again I7 n7
  | brk=>obtain⟨σ7,H7,I7,q7⟩:=q7;exact⟨σ7,H7,I7.unpinned,q7⟩
  | ret v=>obtain⟨x7,σ7,H7,I7,r7,q7⟩:=q7;exact⟨x7,σ7,H7,I7.unpinned,r7,q7⟩
end
theorem for_list{K:W.Frag}{a:Addr}{xs:List V}{g:TG}{tb:TS}{D:Ends}{σ:St}{H:Hp}(Pv:Nat->St->Hp->Prop)(h0:Pv 0 σ H)(hl:∀i σ H,i<=xs.length->Pv i σ H->SqL K H a xs)
  (hs:∀i x σ H,xs[i]?=some x->Pv i σ H->g x σ H λσ2 H2=>tb {D with nx:=Pv (i+1),ct:=Pv (i+1),bk:=D.nx} σ2 H2) (hd:∀σ H,Pv xs.length σ H->D.nx σ H) :
  ∃W:Nat->Nat->St->Hp->Prop,(∃m,W 0 m σ H)/\∀i m σ H,W i m σ H →
   ((Itl K a).stop i H/\D.nx σ H)\/((Itl K a).go i H/\∃N:St->Hp->Prop,(∀σ' H',N σ' H'->∃m',m'<m/\W (i+1) m' σ' H')/\∀x H',(Itl K a).yld i H x H'->g x σ H' λσ2 H2=>tb {D with nx:=N,ct:=N,bk:=D.nx} σ2 H2):=by
 refine⟨λi m σ H=>m=xs.length-i/\i<=xs.length/\Pv i σ H,⟨xs.length,by simp,Nat.zero_le _,h0⟩,?_⟩;rintro i m σ H ⟨rfl,hi,p⟩;have q:=hl i σ H hi p;by_cases hlt:i<xs.length
 .refine .inr ⟨⟨xs,xs[i],q,by simp[hlt]⟩,Pv (i+1),λσ' H' p'=>⟨xs.length-(i+1),by omega,rfl,hlt,p'⟩,λx H' y=>?_⟩;obtain⟨e,y⟩:=y;subst e;exact hs i x σ _ (y xs q) p
 .have e:i=xs.length:=by omega
  subst e;exact .inl ⟨⟨xs,q,Nat.le_refl _⟩,hd σ H p⟩
theorem for_tup{K:W.Frag}{a:Addr}{xs:List V}{g:TG}{tb:TS}{D:Ends}{σ:St}{H:Hp}(Pv:Nat->St->Hp->Prop)(h0:Pv 0 σ H)(hl:∀i σ H,i<=xs.length->Pv i σ H->SqT K H a xs)
  (hs:∀i x σ H,xs[i]?=some x->Pv i σ H->g x σ H λσ2 H2=>tb {D with nx:=Pv (i+1),ct:=Pv (i+1),bk:=D.nx} σ2 H2) (hd:∀σ H,Pv xs.length σ H->D.nx σ H) :
  ∃W:Nat->Nat->St->Hp->Prop,(∃m,W 0 m σ H)/\∀i m σ H,W i m σ H →
   ((Itt K a).stop i H/\D.nx σ H)\/((Itt K a).go i H/\∃N:St->Hp->Prop,(∀σ' H',N σ' H'->∃m',m'<m/\W (i+1) m' σ' H')/\∀x H',(Itt K a).yld i H x H'->g x σ H' λσ2 H2=>tb {D with nx:=N,ct:=N,bk:=D.nx} σ2 H2):=by
 refine⟨λi m σ H=>m=xs.length-i/\i<=xs.length/\Pv i σ H,⟨xs.length,by simp,Nat.zero_le _,h0⟩,?_⟩;rintro i m σ H ⟨rfl,hi,p⟩;have q:=hl i σ H hi p;by_cases hlt:i<xs.length
 .refine .inr ⟨⟨xs,xs[i],q,by simp[hlt]⟩,Pv (i+1),λσ' H' p'=>⟨xs.length-(i+1),by omega,rfl,hlt,p'⟩,λx H' y=>?_⟩;obtain⟨e,y⟩:=y;subst e;exact hs i x σ _ (y xs q) p
 .have e:i=xs.length:=by omega
  subst e;exact .inl ⟨⟨xs,q,Nat.le_refl _⟩,hd σ H p⟩
theorem for_range{lo:Int}{n:Nat}{g:TG}{tb:TS}{D:Ends}{σ:St}{H:Hp}(Pv:Nat->St->Hp->Prop)(h0:Pv 0 σ H)
  (hs:∀i σ H,i<n->Pv i σ H->g (.int (lo+i)) σ H λσ2 H2=>tb {D with nx:=Pv (i+1),ct:=Pv (i+1),bk:=D.nx} σ2 H2) (hd:∀σ H,Pv n σ H->D.nx σ H) :
  ∃W:Nat->Nat->St->Hp->Prop,(∃m,W 0 m σ H)/\∀i m σ H,W i m σ H →
   ((Itr lo n).stop i H/\D.nx σ H)\/((Itr lo n).go i H/\∃N:St->Hp->Prop,(∀σ' H',N σ' H'->∃m',m'<m/\W (i+1) m' σ' H')/\∀x H',(Itr lo n).yld i H x H'->g x σ H' λσ2 H2=>tb {D with nx:=N,ct:=N,bk:=D.nx} σ2 H2):=by
 refine⟨λi m σ H=>m=n-i/\i<=n/\Pv i σ H,⟨n,by simp,Nat.zero_le _,h0⟩,?_⟩;rintro i m σ H ⟨rfl,hi,p⟩;by_cases hlt:i<n
 .refine .inr ⟨hlt,Pv (i+1),λσ' H' p'=>⟨n-(i+1),by omega,rfl,hlt,p'⟩,λx H' y=>?_⟩;obtain⟨e,y⟩:=y;subst e y;exact hs i σ _ hlt p
 .have e:i=n:=by omega
  subst e;exact .inl ⟨Nat.le_refl _,hd σ H p⟩
abbrev R2:=V->V->Hp->VK->Prop
def OpR(X:Cx)(f:Value->Value->Sem Value)(r:R2):Prop:=
 ∀(pins:List (Addr×Obj))(s:Shared)(σ:St)(H:Hp)(x y:V)(v u:Value)(Q:VK),Inv X pins σ H s->RelV x v->RelV y u->r x y H Q →
  wpAny (model X.prog X.w) X.A (f v u) (EP X pins σ Q) X.xe s
def UnR(X:Cx)(f:Value->Sem Value)(r:V->Hp->VK->Prop):Prop:=
 ∀(pins:List (Addr×Obj))(s:Shared)(σ:St)(H:Hp)(x:V)(v:Value)(Q:VK),Inv X pins σ H s->RelV x v->r x H Q →
  wpAny (model X.prog X.w) X.A (f v) (EP X pins σ Q) X.xe s
def CallR(X:Cx)(f:Value)(r:List V->Hp->VK->Prop):Prop:=
 ∀(pins:List (Addr×Obj))(s:Shared)(σ:St)(H:Hp)(xs:List V)(us:List Value)(Q:VK),Inv X pins σ H s->Vals xs us->r xs H Q →
  wpAny (model X.prog X.w) X.A (call f us) (EP X pins σ Q) X.xe s
def TruR(X:Cx)(r:V->Hp->(Bool->Hp->Prop)->Prop):Prop:=
 ∀(pins:List (Addr×Obj))(s:Shared)(σ:St)(H:Hp)(x:V)(v:Value)(Q:Bool->Hp->Prop),Inv X pins σ H s->RelV x v->r x H Q →
  wpAny (model X.prog X.w) X.A (truthy v) (TP X pins σ Q) X.xe s
def tOp(r:R2)(ta tb:TE):TE:=λσ H Q=>ta σ H λx H1=>tb σ H1 λy H2=>r x y H2 Q
def tUn(r:V->Hp->VK->Prop)(ta:TE):TE:=λσ H Q=>ta σ H λx H1=>r x H1 Q
def rI(C:Int->Int->Prop)(g:Int->Int->V):R2:=λx y H Q=>∃i j,x=.int i/\y=.int j/\C i j/\Q (g i j) H
def rI0(g:Int->Int->V):R2:=λx y H Q=>∃i j,x=.int i/\y=.int j/\Q (g i j) H
def rU(g:Int->V):V->Hp->VK->Prop:=λx H Q=>∃i,x=.int i/\Q (g i) H
section
variable{X:Cx}{a b c:Expr}{ta tb tc:TE}{pos:Pos}
theorem binT(ha:PE X a ta)(hb:PE X b tb){pins:List (Addr×Obj)}{s:Shared}{σ:St}{H:Hp}{R:V->V->Hp->Prop}(I:Inv X pins σ H s)
  (h:ta σ H λx H1=>tb σ H1 λy H2=>R x y H2) {Q:Value->Shared->Prop}{f:Value->Value->Sem Value}
  (hf:∀v u s2 x y H2,Inv X pins σ H2 s2->RelV x v->RelV y u->R x y H2->wpAny (model X.prog X.w) X.A (f v u) Q X.xe s2) :
  wpAny (model X.prog X.w) X.A (eval a X.env) (λv s₁=>wpAny (model X.prog X.w) X.A (eval b X.env) (λu s₂=>wpAny (model X.prog X.w) X.A (f v u) Q X.xe s₂) X.xe s₁) X.xe s:=by
 refine thn (ha pins s σ H _ I h) λv s1 ⟨x,H1,I1,r1,q1⟩=>?_;refine thn (hb pins s1 σ H1 _ I1 q1) λu s2 ⟨y,H2,I2,r2,q2⟩=>?_;exact hf v u s2 x y H2 I2 r1 r2 q2
theorem pe_op{op:Operator}{r:R2}(ho:OpR X (binaryOp op) r)(ha:PE X a ta)(hb:PE X b tb):PE X (.BinOp a op b pos) (tOp r ta tb):=by
 intro pins s σ H Q I h;exact wpAny_BinOp (binT ha hb I h λv u s2 x y H2 I2 rx ry q=>ho pins s2 σ H2 x y v u Q I2 rx ry q)
theorem opI{f:Value->Value->Sem Value}{C:Int->Int->Prop}{g:Int->Int->Int}
  (rule:∀(i j:Int)(t u:Tok)(s:Shared)(Q:Value->Shared->Prop)(E:Value->Shared->Prop),C i j->Q (.int (g i j) s.toks) {s with toks:=s.toks+1}->wpAny (model X.prog X.w) X.A (f (.int i t) (.int j u)) Q E s) :
  OpR X f (rI C λi j=>.int (g i j)):=by
 intro pins s σ H x y v u Q I rx ry h;obtain⟨i,j,rfl,rfl,hc,q⟩:=h;obtain⟨t,rfl⟩:=rx;obtain⟨t',rfl⟩:=ry;exact rule i j t t' s _ _ hc ⟨.int (g i j),H,I.tok _,⟨_,rfl⟩,q⟩
theorem opI0{f:Value->Value->Sem Value}{g:Int->Int->Int}
  (rule:∀(i j:Int)(t u:Tok)(s:Shared)(Q:Value->Shared->Prop)(E:Value->Shared->Prop),Q (.int (g i j) s.toks) {s with toks:=s.toks+1}->wpAny (model X.prog X.w) X.A (f (.int i t) (.int j u)) Q E s) :
  OpR X f (rI0 λi j=>.int (g i j)):=by
 intro pins s σ H x y v u Q I rx ry h;obtain⟨i,j,rfl,rfl,q⟩:=h;obtain⟨t,rfl⟩:=rx;obtain⟨t',rfl⟩:=ry;exact rule i j t t' s _ _ ⟨.int (g i j),H,I.tok _,⟨_,rfl⟩,q⟩
theorem opB0{f:Value->Value->Sem Value}{g:Int->Int->Bool}
  (rule:∀(i j:Int)(t u:Tok)(s:Shared)(Q:Value->Shared->Prop)(E:Value->Shared->Prop),Q (.bool (g i j)) s->wpAny (model X.prog X.w) X.A (f (.int i t) (.int j u)) Q E s) :
  OpR X f (rI0 λi j=>.bl (g i j)):=by
 intro pins s σ H x y v u Q I rx ry h;obtain⟨i,j,rfl,rfl,q⟩:=h;obtain⟨t,rfl⟩:=rx;obtain⟨t',rfl⟩:=ry;exact rule i j t t' s _ _ ⟨.bl (g i j),H,I,rfl,q⟩
def CDiv(i j:Int):Prop:=0<j/\j<1073741824
def CDivN(i j:Int):Prop:=j≠0/\j.natAbs<1073741824
def CPow(i j:Int):Prop:=0<=j/\j<=1000000/\i.natAbs<2 ^ 64
def CMul(i j:Int):Prop:=(-(2 ^ 64)<i/\i<2 ^ 64)\/(-(2 ^ 64)<j/\j<2 ^ 64)
theorem CMul.ok{i j:Int}(h:CMul i j):IntMulOk i j:=by
 rcases h with⟨h1,h2⟩|⟨h1,h2⟩
 .exact .of_left (intBits_le_64 h1 h2)
 .exact .of_right (intBits_le_64 h1 h2)
theorem op_add:OpR X (binaryOp .Add) (rI0 λi j=>.int (i+j)):=opI0 λ_ _ _ _ _ _ _ q=>add_int q
theorem op_sub:OpR X (binaryOp .Sub) (rI0 λi j=>.int (i-j)):=opI0 λ_ _ _ _ _ _ _ q=>sub_int q
theorem op_mul:OpR X (binaryOp .Mult) (rI CMul λi j=>.int (i*j)):=opI λ_ _ _ _ _ _ _ hc q=>mul_int q hc.ok
theorem op_fdiv:OpR X (binaryOp .FloorDiv) (rI CDiv λi j=>.int (i / j)):=opI λi j _ _ _ _ _ hc q=>by
 have h1:(0:Int)<j:=hc.1;have h2:j<1073741824:=hc.2;exact floordiv_int (by omega) (by rw[Int.fdiv_eq_ediv_of_nonneg i (by omega)];exact q) (.inl (PyProof.noPylong_small (by omega)))
theorem op_mod:OpR X (binaryOp .Mod) (rI (λ_ j=>0<j) λi j=>.int (i % j)):=opI λi j _ _ _ _ _ hc q=>by
 have h1:(0:Int)<j:=hc;exact mod_int' (by omega) (by rw[Int.fmod_eq_emod_of_nonneg i (by omega)];exact q)
theorem op_pow:OpR X (binaryOp .Pow) (rI CPow λi j=>.int (i ^ j.toNat)):=opI λ_ _ _ _ _ _ _ hc q=>pow_int_small hc.1 hc.2.1 hc.2.2 q
end
def scal:V->V->Bool
 | .non,.non=>true|.non,.int _=>true|.int _,.non=>true|.non,.bl _=>true|.bl _,.non=>true|.non,.str _=>true|.str _,.non=>true
 | .int _,.int _=>true|.bl _,.bl _=>true|.str _,.str _=>true|.byt _,.byt _=>true
 | .int _,.str _=>true|.str _,.int _=>true|.bl _,.str _=>true|.str _,.bl _=>true
 | _,_=>false
def rEq:R2:=λx y H Q=>scal x y=true/\Q (.bl (decide (x=y))) H
def rNe:R2:=λx y H Q=>scal x y=true/\Q (.bl (!decide (x=y))) H
theorem dec_int{i j:Int}:decide (V.int i=V.int j)=(i==j):=by
 rw[Bool.eq_iff_iff];simp
theorem dec_bl{i j:Bool}:decide (V.bl i=V.bl j)=(i==j):=by
 rw[Bool.eq_iff_iff];simp
theorem dec_str{i j:Str}:decide (V.str i=V.str j)=(i==j):=by
 rw[Bool.eq_iff_iff];simp
theorem dec_byt{i j:Array UInt8}:decide (V.byt i=V.byt j)=(i.toList==j.toList):=by
 rw[Bool.eq_iff_iff];cases i;cases j;simp
section
variable{X:Cx}{a b c:Expr}{ta tb tc:TE}{pos:Pos}
theorem fin_bl{pins:List (Addr×Obj)}{σ:St}{H:Hp}{s:Shared}{Q:VK}{k k':Bool}(I:Inv X pins σ H s)(q:Q (.bl k) H)(e:k=k'):EP X pins σ Q (.bool k') s:=by
 subst e;exact⟨.bl k,H,I,rfl,q⟩
theorem op_eq:OpR X (compareOp .Eq) rEq:=by
 intro pins s σ H x y v u Q I rx ry h;obtain⟨hs,q⟩:=h;cases x with
 | non=>
  cases rx;cases y with
  | non=>cases ry;exact PySem.EqNone.eq_none_none (fin_bl I q (by simp))
  | bl j=>cases ry;exact PySem.EqNone.eq_none_bool (fin_bl I q (by simp))
  | int j=>obtain⟨t',rfl⟩:=ry;exact PySem.EqNone.eq_none_int (fin_bl I q (by simp))
  | str j=>obtain⟨t',rfl⟩:=ry;exact PySem.EqNone.eq_none_str (fin_bl I q (by simp))
  | _=>exact absurd (show false=true from hs) Bool.false_ne_true
 | bl i=>
  cases rx;cases y with
  | non=>cases ry;exact PySem.EqNone.eq_bool_none (fin_bl I q (by simp))
  | bl j=>cases ry;exact eq_bool (fin_bl I q dec_bl)
  | str j=>obtain⟨t',rfl⟩:=ry;exact PySem.EqMixed.eq_bool_str (fin_bl I q (by simp))
  | _=>exact absurd (show false=true from hs) Bool.false_ne_true
 | int i=>
  obtain⟨t,rfl⟩:=rx;cases y with
  | non=>cases ry;exact PySem.EqNone.eq_int_none (fin_bl I q (by simp))
  | int j=>obtain⟨t',rfl⟩:=ry;exact eq_int (fin_bl I q dec_int)
  | str j=>obtain⟨t',rfl⟩:=ry;exact PySem.EqMixed.eq_int_str (fin_bl I q (by simp))
  | _=>exact absurd (show false=true from hs) Bool.false_ne_true
 | str i=>
  obtain⟨t,rfl⟩:=rx;cases y with
  | non=>cases ry;exact PySem.EqNone.eq_str_none (fin_bl I q (by simp))
  | bl j=>cases ry;exact PySem.EqMixed.eq_str_bool (fin_bl I q (by simp))
  | int j=>obtain⟨t',rfl⟩:=ry;exact PySem.EqMixed.eq_str_int (fin_bl I q (by simp))
  | str j=>obtain⟨t',rfl⟩:=ry;exact eq_str (fin_bl I q dec_str)
  | _=>exact absurd (show false=true from hs) Bool.false_ne_true
 | byt i=>
  obtain⟨t,rfl⟩:=rx;cases y with
  | byt j=>obtain⟨t',rfl⟩:=ry;exact PySem.W.eq_bytes (fin_bl I q dec_byt)
  | _=>exact absurd (show false=true from hs) Bool.false_ne_true
 | _=>cases y<;>exact absurd (show false=true from hs) Bool.false_ne_true
theorem op_ne:OpR X (compareOp .NotEq) rNe:=by
 intro pins s σ H x y v u Q I rx ry h;obtain⟨hs,q⟩:=h;cases x with
 | non=>
  cases rx;cases y with
  | non=>cases ry;exact PySem.EqNone.ne_none_none (fin_bl I q (by simp))
  | bl j=>cases ry;exact PySem.EqNone.ne_none_bool (fin_bl I q (by simp))
  | int j=>obtain⟨t',rfl⟩:=ry;exact PySem.EqNone.ne_none_int (fin_bl I q (by simp))
  | str j=>obtain⟨t',rfl⟩:=ry;exact PySem.EqNone.ne_none_str (fin_bl I q (by simp))
  | _=>exact absurd (show false=true from hs) Bool.false_ne_true
 | bl i=>
  cases rx;cases y with
  | non=>cases ry;exact PySem.EqNone.ne_bool_none (fin_bl I q (by simp))
  | bl j=>cases ry;exact ne_bool (fin_bl I q (congrArg not dec_bl))
  | str j=>obtain⟨t',rfl⟩:=ry;exact PySem.EqMixed.ne_bool_str (fin_bl I q (by simp))
  | _=>exact absurd (show false=true from hs) Bool.false_ne_true
 | int i=>
  obtain⟨t,rfl⟩:=rx;cases y with
  | non=>cases ry;exact PySem.EqNone.ne_int_none (fin_bl I q (by simp))
  | int j=>obtain⟨t',rfl⟩:=ry;exact ne_int (fin_bl I q (congrArg not dec_int))
  | str j=>obtain⟨t',rfl⟩:=ry;exact PySem.EqMixed.ne_int_str (fin_bl I q (by simp))
  | _=>exact absurd (show false=true from hs) Bool.false_ne_true
 | str i=>
  obtain⟨t,rfl⟩:=rx;cases y with
  | non=>cases ry;exact PySem.EqNone.ne_str_none (fin_bl I q (by simp))
  | bl j=>cases ry;exact PySem.EqMixed.ne_str_bool (fin_bl I q (by simp))
  | int j=>obtain⟨t',rfl⟩:=ry;exact PySem.EqMixed.ne_str_int (fin_bl I q (by simp))
  | str j=>obtain⟨t',rfl⟩:=ry;exact ne_str (fin_bl I q (congrArg not dec_str))
  | _=>exact absurd (show false=true from hs) Bool.false_ne_true
 | byt i=>
  obtain⟨t,rfl⟩:=rx;cases y with
  | byt j=>obtain⟨t',rfl⟩:=ry;exact PySem.W.ne_bytes (fin_bl I q (congrArg not dec_byt))
  | _=>exact absurd (show false=true from hs) Bool.false_ne_true
 | _=>cases y<;>exact absurd (show false=true from hs) Bool.false_ne_true
theorem op_lt:OpR X (compareOp .Lt) (rI0 λi j=>.bl (decide (i<j))):=opB0 λ_ _ _ _ _ _ _ q=>lt_int q
theorem op_le:OpR X (compareOp .LtE) (rI0 λi j=>.bl (decide (i<=j))):=opB0 λ_ _ _ _ _ _ _ q=>le_int q
theorem op_gt:OpR X (compareOp .Gt) (rI0 λi j=>.bl (decide (j<i))):=opB0 λ_ _ _ _ _ _ _ q=>gt_int q
theorem op_ge:OpR X (compareOp .GtE) (rI0 λi j=>.bl (decide (j<=i))):=opB0 λ_ _ _ _ _ _ _ q=>ge_int q
def isObj:HO->Bool
 | .lst _=>true
 | .ins _ _ _=>true
 | _=>false
theorem nomark(b:Expr){op:CmpOp}(h:op≠.In:=by decide)(h2:op≠.NotIn:=by decide):behindInMarks op b=false:=by
 have e1:(op==CmpOp.In)=false:=by cases op<;>first|rfl|exact absurd rfl h
 have e2:(op==CmpOp.NotIn)=false:=by cases op<;>first|rfl|exact absurd rfl h2
 cases b<;>simp[behindInMarks,e1,e2]
theorem pe_cmpR{op:CmpOp}{r:R2}(ho:OpR X (compareOp op) r)(ha:PE X a ta)(hb:PE X b tb)(hm:behindInMarks op b=false):PE X (.Compare a [op] [b] pos) (tOp r ta tb):=by
 intro pins s σ H Q I h;exact wpAny_Compare1 (binT ha hb I h λv u s2 x y H2 I2 rx ry q=>ho pins s2 σ H2 x y v u Q I2 rx ry q) hm
def tTest(t:TE):TT:=λσ H Q=>t σ H λx H'=>∃k,x=.bl k/\Q k H'
theorem pt_cmpR{op:CmpOp}{r:R2}(ho:OpR X (compareOp op) r)(ha:PE X a ta)(hb:PE X b tb)(hm:behindInMarks op b=false):PT X (.Compare a [op] [b] pos) (tTest (tOp r ta tb)):=by
 intro pins s σ H Q I h;refine wpAny_isTrue_Compare1 (thn (ha pins s σ H _ I h) λv s1 ⟨x,H1,I1,r1,q1⟩=>thn (hb pins s1 σ H1 _ I1 q1) λu s2 ⟨y,H2,I2,r2,q2⟩=>
  thn (ho pins s2 σ H2 x y v u _ I2 r1 r2 q2) λc s3 ⟨z,H3,I3,r3,k,e,q3⟩=>?_) hm
 subst e;cases r3;exact wpAny_truthy_bool ⟨H3,I3,q3⟩
def tChain(r r':R2)(ta tb tc:TE):TE:=λσ H Q=>ta σ H λx H1=>tb σ H1 λy H2=>r x y H2 λz H3=>∃k,z=.bl k ∧
 (if k=true then tc σ H3 λw' H4=>r' y w' H4 Q else Q (.bl false) H3)
def TruV(K:W.Frag)(x:V)(H:Hp)(k:Bool):Prop:=
 match x with
 | .non=>k=false
 | .bl b=>k=b
 | .int i=>k=(i != 0)
 | .str y=>y.length<=sizeLine/\k=((y.length:Int) != 0)
 | .byt y=>y.size<=sizeLine/\k=((y.size:Int) != 0)
 | .ref p=>(∃xs,SqL K H p xs/\k=!xs.isEmpty)\/(∃xs,SqT K H p xs/\k=!xs.isEmpty)\/∃kvs,H p=some (.dK kvs)/\k=!kvs.isEmpty
 | _=>False
theorem isEmpty_kv{κ:Type}{kvs:List (κ×V)}{vs:List (κ×Value)}(r:KV kvs vs):(!vs.isEmpty)=!kvs.isEmpty:=by
 cases r<;>rfl
theorem isEmpty_of{xs:List V}{its:List Value}(r:Vals xs its):(!its.toArray.isEmpty)=!xs.isEmpty:=by
 cases r<;>simp
theorem line63:(sizeLine:Nat)<2 ^ 63:=by rw[sizeLine_eq];decide
theorem tru_ok:TruR X (λx H Q=>∃k,TruV X.K x H k/\Q k H):=by
 intro pins s σ H x v Q I rx h;obtain⟨k,e,q⟩:=h;have hl:=line63;have hs:sizeLine=16777216:=sizeLine_eq;cases x with
 | non=>
  cases rx;have e':k=false:=e;subst e';exact truthy_none ⟨H,I,q⟩
 | bl b=>
  cases rx;have e':k=b:=e;subst e';exact wpAny_truthy_bool ⟨H,I,q⟩
 | int i=>
  obtain⟨t,rfl⟩:=rx;have e':k=(i != 0):=e;subst e';exact PySem.P.truthy_int ⟨H,I,q⟩
 | str y=>
  obtain⟨t,rfl⟩:=rx;obtain⟨hy,e'⟩:y.length<=sizeLine/\k=((y.length:Int) != 0):=e;subst e';exact PySem.P.truthy_str (by omega) ⟨H,I.tok _,q⟩
 | byt y=>
  obtain⟨t,rfl⟩:=rx;obtain⟨hy,e'⟩:y.size<=sizeLine/\k=((y.size:Int) != 0):=e;subst e';exact PySem.W.truthy_bytes (by omega) ⟨H,I.tok _,q⟩
 | ref p=>
  cases rx;have e':(∃xs,SqL X.K H p xs/\k=!xs.isEmpty)\/(∃xs,SqT X.K H p xs/\k=!xs.isEmpty)\/∃kvs,H p=some (.dK kvs)/\k=!kvs.isEmpty:=e;rcases e' with⟨xs,hx,e'⟩|⟨xs,hx,e'⟩|⟨kvs,hx,e'⟩
  .subst e';obtain⟨its,r,pl,hz⟩:=I.list hx;have hlen:=r.length;exact wpAny_truthy_list pl.isList (by simp only[List.size_toArray];omega) ⟨H,I.tok _,by rw[isEmpty_of r];exact q⟩
  .subst e';obtain⟨its,r,pl,hz⟩:=I.tuple hx;have hlen:=r.length;exact truthy_tuple pl (by simp only[List.size_toArray];omega) ⟨H,I.tok _,by rw[isEmpty_of r];exact q⟩
  .subst e';obtain⟨hz,hS,vs,r,m⟩:kvs.length<=sizeLine/\(p==sysModules)=false/\∃vs,KV kvs vs/\s.heap.DictOf (mixKind X.prog X.w) p vs:=I.hok p _ hx;have hlen:kvs.length=vs.length:=Paired.length r;exact wpAny_truthy_dict hS m (by omega) ⟨H,I.tok _,by rw[isEmpty_kv r];exact q⟩
 | _=>exact(show False from e).elim
theorem pt_truth(ha:PE X a ta)(he:∀whole,isTrue a X.env whole=(do let v <-whole;standAt a.pos;holding [v] (truthy v))) :
  PT X a (λσ H Q=>ta σ H λx H'=>∃k,TruV X.K x H' k/\Q k H'):=by
 intro pins s σ H Q I h;exact isTrue_plain (thn (ha pins s σ H _ I h) λv s1 ⟨x,H1,I1,r1,q1⟩=>tru_ok pins s1 σ H1 x v Q I1 r1 q1) (he _)
def PlainIxT(b:Expr):Prop:=∀o i,subscripted b false o i=operate [o,i] (getItem o i)
theorem vals1{x:V}{us:List Value}(r:Vals [x] us):∃u,us=[u]/\RelV x u:=by
 cases r with
 | cons r1 r2=>cases r2;exact⟨_,rfl,r1⟩
theorem vals2{x y:V}{us:List Value}(r:Vals [x,y] us):∃u w',us=[u,w']/\RelV x u/\RelV y w':=by
 cases r with
 | cons r1 r2=>
  cases r2 with
  | cons r3 r4=>cases r4;exact⟨_,_,rfl,r1,r3⟩
theorem call_max2(hc:X.calm=true):CallR X (.builtin "max") (λxs H Q=>∃i j,xs=[.int i,.int j]/\Q (.int (if j>i then j else i)) H):=by
 intro pins s σ H xs us Q I r h;obtain⟨i,j,rfl,q⟩:=h;obtain⟨u,w',rfl,⟨t,rfl⟩,⟨t',rfl⟩⟩:=vals2 r;refine max_two_ints (I.ok.hd hc) λh' tk k=>⟨_,H,I.kept k,?_,q⟩;by_cases hj:j>i
 .rw[if_pos hj,if_pos hj];exact⟨_,rfl⟩
 .rw[if_neg hj,if_neg hj];exact⟨_,rfl⟩
theorem call_min2(hc:X.calm=true):CallR X (.builtin "min") (λxs H Q=>∃i j,xs=[.int i,.int j]/\Q (.int (if j<i then j else i)) H):=by
 intro pins s σ H xs us Q I r h;obtain⟨i,j,rfl,q⟩:=h;obtain⟨u,w',rfl,⟨t,rfl⟩,⟨t',rfl⟩⟩:=vals2 r;refine min_two_ints (I.ok.hd hc) λh' tk k=>⟨_,H,I.kept k,?_,q⟩;by_cases hj:j<i
 .rw[if_pos hj,if_pos hj];exact⟨_,rfl⟩
 .rw[if_neg hj,if_neg hj];exact⟨_,rfl⟩
theorem call_int1:CallR X (.type "int") (λxs H Q=>(∃i,xs=[.int i]/\Q (.int i) H)\/∃k,xs=[.bl k]/\Q (.int (if k then 1 else 0)) H):=by
 intro pins s σ H xs us Q I r h;rcases h with⟨i,rfl,q⟩|⟨k,rfl,q⟩
 .obtain⟨u,rfl,t,rfl⟩:=vals1 r;exact call_int_int ⟨.int i,H,I,⟨_,rfl⟩,q⟩
 .obtain⟨u,rfl,r1⟩:=vals1 r;cases r1;exact call_int_bool ⟨.int (if k then 1 else 0),H,I.tok _,⟨_,rfl⟩,q⟩
def LenV(K:W.Frag)(x:V)(H:Hp)(n:Nat):Prop:=
 match x with
 | .str y=>y.length<=sizeLine/\n=y.length
 | .byt y=>y.size<=sizeLine/\n=y.size
 | .ref p=>(∃xs,SqL K H p xs/\n=xs.length)\/∃xs,SqT K H p xs/\n=xs.length
 | _=>False
end
structure ObjM(h:Heap)(x dx C:Addr)(mA:Str->Option Value):Prop where
 obj:h.get? x=some (PySem.W.instObj C dx)
 ns:h.Ns1 dx mA
 ne:dx≠x
theorem lookIn_ns{h:Heap}{dx:Addr}{mA:Str->Option Value}(n:h.Ns1 dx mA):∃od,h.get? dx=some od/\∀name,PySem.W.lookIn name od=some (mA name):=by
 obtain⟨o,es,ep,ho,hd,hk,_,hm⟩:=n;refine⟨o,ho,λname=>?_⟩;have e:=hm name;unfold nsFind findBy at e;rw[<-Array.find?_toList] at e;unfold PySem.W.lookIn;rw[hd];dsimp only
 split
 .rename_i y q
  rw[q] at e;exact congrArg some e
 .rename_i q
  rw[q] at e;have a:es.toList.any (·.refKey)=false:=by
   rw[List.any_eq_false];intro y hy;obtain⟨z,t,hkey⟩:=hk y (Array.mem_toList_iff.mp hy);simp[DictEntry.refKey,hkey]
  have a':¬es.toList.any (·.refKey)=true:=by rw[a];exact Bool.false_ne_true
  rw[if_neg a'];exact congrArg some e
theorem ObjM.look{h:Heap}{x dx C:Addr}{mA:Str->Option Value}(I:ObjM h x dx C mA):∃od,PySem.W.InstAt h x (PySem.W.instObj C dx) C (some od)/\∀name,PySem.W.lookIn name od=some (mA name):=
 let ⟨od,ho,hl⟩:=lookIn_ns I.ns
 ⟨od,⟨I.obj,rfl,rfl,ho⟩,hl⟩
section
variable{prog:Program}{w:World}{A:Around}{E:Value->Shared->Prop}{s:Shared}{K:W.Frag}{x dx C f:Addr}{mA:Str->Option Value}{name:Str}{v:Value}
theorem get_map{expr:Bool}{Q:Value->Shared->Prop}(X:K.In s.heap)(I:ObjM s.heap x dx C mA)(hg:PySem.W.plainGet K C name=true)(hh:PySem.W.hasDictIn K C=true)
  (ha:PySem.W.findIn K (.ref C) name=some none) (hv:mA name=some v) (hv':PySem.W.handedIn v=true) (h:Q v {s with toks:=s.toks+1}) :
  wpAny (model prog w) A (getAttr (.ref x) name expr) Q E s:=by
 obtain⟨od,J,hl⟩:=I.look;exact PySem.W.get_value X J (PySem.W.plainGet_of hg).1 (PySem.W.findObj_own hh ha rfl (by rw[hl,hv])) hv' h
theorem get_meth{pl:Sem Bool}{Q:Value×List Value->Shared->Prop}(X:K.In s.heap)(I:ObjM s.heap x dx C mA)(hg:PySem.W.plainGet K C name=true)
  (hf:PySem.W.findIn K (.ref C) name=some (some (.ref f))) (ht:PySem.W.isFn K (.ref f)=true) (hv:mA name=none) (h:Q (.ref f,[.ref x]) s) :
  wpAny (model prog w) A (getMethod (.ref x) name pl) Q E s:=by
 obtain⟨od,J,hl⟩:=I.look;exact PySem.W.method_fn X J (PySem.W.plainGet_of hg).1 (PySem.W.plainGet_of hg).2 hf (beq_iff_eq.mp ht) (by show(PySem.W.lookIn name od).map (·.isSome)=some false;rw[hl,hv];rfl) h
theorem set_map{ns:List Str}{Q:Unit->Shared->Prop}(X:K.In s.heap)(I:ObjM s.heap x dx C mA)
  (hs:PySem.W.findIn K (.ref C) "__setattr__"=some (some (.builtin "object.__setattr__"))) (hp:PySem.W.plainOver K C=true) (ht:PySem.W.takerIn K C name=some none) (hh:PySem.W.hasDictIn K C=true)
  (hw:PySem.Within mA ns) (hsz:ns.length<=sizeLine)
  (h:∀h',ObjM h' x dx C (λy=>if y=name then some v else mA y)->Heap.SameBut dx s.heap h'->Q () {s with heap:=h',toks:=s.toks+2}) :
  wpAny (model prog w) A (setAttr (.ref x) name v) Q E s:=by
 obtain⟨od,J,hl⟩:=I.look;refine PySem.W.set_plain X J hs (PySem.W.osa_open (s:={s with toks:=s.toks+1}) (r:=none) X J hp ht λb=>?_);obtain⟨cd,hc,hd'⟩:=PySem.W.any_some hh;have hx:s.heap.get? x=some ⟨.ref C,some dx,.plain,#[]⟩:=I.obj;refine wpAny_bind (wpAny_pure (wpAny_bind (wpAny_bind (wpAny_loadPart hx (wpAny_bind (PySem.W.Looks.here (s:={s with toks:=s.toks+1}) (PySem.W.looks_clsIn X hc) ?_))))));rw[hd'];refine wpAny_pure (a:=some dx) (wpAny_bind (wpAny_pure (wpAny_bind ?_)));refine wpAny_nsSet1 (s:={s with toks:=s.toks+1}) I.ns λh' hn2 hs2=>?_;obtain⟨oD,esD,epD,hoD,hdD,hcD⟩:=hn2.count (PySem.Within.cons name v hw);refine wpAny_bind (wpAny_lookBehind hoD (by rw[hdD];exact pastItsLine_dict (Nat.le_trans hcD (by rw[List.length_cons];omega))) ?_);exact wpAny_pure (h _ ⟨(hs2.2 _ (Ne.symm I.ne)).trans I.obj,hn2,I.ne⟩ hs2)
theorem make_map{R:Result->Shared->Prop}{vs:List Value}{kw:List (Str×Value)}(X:K.In s.heap)(hm:PySem.W.makesIn K C=true)
  (hi:PySem.W.findIn K (.ref C) "__init__"=some (some (.ref f))) (hf:PySem.W.typeIn K (.ref f)=some (.type "function"))
  (h:codeAny (model prog w) (A.under (.builtin "type.__call__" ⟨.ref C::vs,kw⟩)) (.call (.ref f) ⟨.ref (s.heap.objs.size+1)::vs,kw⟩) (PySem.W.InitBack (s.heap.objs.size+1) R)
   {s with heap:=(s.heap.push PySem.W.emptyDict).push (PySem.W.instObj C s.heap.objs.size)}) :
  codeAny (model prog w) A (.call (.ref C) ⟨vs,kw⟩) R s:=by
 obtain⟨hh,g,d,t,os⟩:=s;exact PySem.W.make_core (PySem.W.makes_of X hm) (PySem.W.looks_findIn X hi) (λself=>PySem.W.bind_fn X self hf) (.inl rfl) h
end
def putF(f:Str)(v:V):List (Str×V)->List (Str×V)
 | []=>[(f,v)]
 | (g,x)::r=>if g=f then (g,v)::r else (g,x)::putF f v r
theorem lookup_putF(f g:Str)(v:V):∀fs:List (Str×V),(putF f v fs).lookup g=if g=f then some v else fs.lookup g
 | []=>by
  show List.lookup g [(f,v)]=_;by_cases h:g=f
  .have hb:(g==f)=true:=beq_iff_eq.mpr h;simp only[List.lookup,hb,if_pos h]
  .have hb:(g==f)=false:=beq_eq_false_iff_ne.mpr h;simp only[List.lookup,hb,if_neg h]
 | (k,x)::r=>by
  have ih:=lookup_putF f g v r;rw[show putF f v ((k,x)::r)=(if k=f then (k,v)::r else (k,x)::putF f v r) from rfl];by_cases hk:k=f
  .rw [if_pos hk];by_cases h:g=k
   .have hb:(g==k)=true:=beq_iff_eq.mpr h;simp only[List.lookup,hb,if_pos (h.trans hk)]
   .have hb:(g==k)=false:=beq_eq_false_iff_ne.mpr h;simp only[List.lookup,hb,if_neg (λe:g=f=>h (e.trans hk.symm))]
  .rw [if_neg hk];by_cases h:g=k
   .have hb:(g==k)=true:=beq_iff_eq.mpr h;simp only[List.lookup,hb,if_neg (λe:g=f=>hk (h.symm.trans e))]
   .have hb:(g==k)=false:=beq_eq_false_iff_ne.mpr h;simp only[List.lookup,hb];exact ih
theorem keys_putF(f:Str)(v:V):∀fs:List (Str×V),f∈(putF f v fs).map (·.1)/\∀g,g∈fs.map (·.1)->g∈(putF f v fs).map (·.1)
 | []=>⟨by simp[putF],λg h=>by simp at h⟩
 | (k,x)::r=>by
  obtain⟨i1,i2⟩:=keys_putF f v r;rw[show putF f v ((k,x)::r)=(if k=f then (k,v)::r else (k,x)::putF f v r) from rfl];by_cases hk:k=f
  .rw[if_pos hk];subst hk;exact⟨by simp,λg h=>by simpa using h⟩
  .rw [if_neg hk];refine⟨?_,λg h=>?_⟩
   .rw[List.map_cons];exact List.mem_cons_of_mem _ i1
   .rw[List.map_cons] at h ⊢;rcases List.mem_cons.mp h with e|e
    .exact List.mem_cons.mpr (.inl e)
    .exact List.mem_cons_of_mem _ (i2 g e)
theorem length_putF(f:Str)(v:V):∀fs:List (Str×V),(putF f v fs).length<=fs.length+1
 | []=>by simp[putF]
 | (k,x)::r=>by
  have ih:=length_putF f v r;rw[show putF f v ((k,x)::r)=(if k=f then (k,v)::r else (k,x)::putF f v r) from rfl];by_cases hk:k=f
  .rw[if_pos hk,List.length_cons,List.length_cons];omega
  .rw[if_neg hk,List.length_cons,List.length_cons];omega
theorem RelO.some_of{v:V}{o:Option Value}(r:RelO (some v) o):∃u,o=some u/\RelV v u:=by
 cases o with
 | none=>exact(show False from r).elim
 | some u=>exact⟨u,rfl,r⟩
theorem RelO.none_of{o:Option Value}(r:RelO none o):o=none:=by
 cases o with
 | none=>rfl
 | some u=>exact(show False from r).elim
theorem handed_of{v:V}{u:Value}(r:RelV v u):PySem.W.handedIn u=true:=by
 cases v with
 | non=>cases(show u=Value.none from r);rfl
 | bl b=>cases(show u=Value.bool b from r);rfl
 | int i=>obtain⟨t,e⟩:=(show ∃t,u=Value.int i t from r);cases e;rfl
 | str x=>obtain⟨t,e⟩:=(show ∃t,u=Value.str x t from r);cases e;rfl
 | byt b=>obtain⟨t,e⟩:=(show ∃t,u=Value.bytes b t from r);cases e;rfl
 | flt b=>obtain⟨t,e⟩:=(show ∃t,u=Value.float b t from r);cases e;rfl
 | ref a=>cases(show u=Value.ref a from r);rfl
 | ty n=>cases(show u=Value.type n from r);rfl
section
variable{P:Program}{w:World}{H H':Hp}{h h':Heap}{a C dx:Addr}{fs fs':List (Str×V)}
theorem ins_get(hok:HOk P w H h)(e:H a=some (.ins C dx fs)):∃mA,ObjM h a dx C mA/\(∀f,RelO (fs.lookup f) (mA f))/\PySem.Within mA (fs.map (·.1))/\fs.length<=1000/\H dx=some (.own a):=by
 obtain⟨d,z,ne,ob,mA,n,r,q⟩:=(show ObjOk P w H h a (.ins C dx fs) from hok a _ e);exact⟨mA,⟨ob,n,ne⟩,r,q,z,d⟩
end
structure Cls(K:W.Frag)(C:Addr):Prop where
 pg:PySem.W.plainGet K C Str.empty=true
 hd:PySem.W.hasDictIn K C=true
 po:PySem.W.plainOver K C=true
 sa:PySem.W.findIn K (.ref C) "__setattr__"=some (some (.builtin "object.__setattr__"))
theorem Cls.get{K:W.Frag}{C:Addr}(c:Cls K C)(f:Str):PySem.W.plainGet K C f=true:=c.pg
def NoAttr(K:W.Frag)(C:Addr)(f:Str):Prop:=PySem.W.findIn K (.ref C) f=some none
theorem NoAttr.taker{K:W.Frag}{C:Addr}{f:Str}(n:NoAttr K C f):PySem.W.takerIn K C f=some none:=by
 unfold PySem.W.takerIn;rw[show PySem.W.findIn K (.ref C) f=some none from n];rfl
structure Con(K:W.Frag)(C:Addr)(f:Str)(v:V)(u:Value):Prop where
 at_:PySem.W.findIn K (.ref C) f=some (some u)
 rel:RelV v u
 get:PySem.W.specialIn K u "__get__"=some none
 cp:PySem.W.copiedNames.contains f=false
structure Meth(K:W.Frag)(C:Addr)(m:Str)(f:Addr):Prop where
 at_:PySem.W.findIn K (.ref C) m=some (some (.ref f))
 fn:PySem.W.isFn K (.ref f)=true
 kp:PySem.W.keepIn K (.ref f)=true
section
variable{X:Cx}{pins:List (Addr×Obj)}{σ:St}{H:Hp}{s:Shared}{a C dx:Addr}{fs:List (Str×V)}{f:Str}{v:V}{A:Around}{E:Value->Shared->Prop}
theorem getattr_ok{b:Bool}{Q:Value->Shared->Prop}(I:Inv X pins σ H s)(e:H a=some (.ins C dx fs))(c:Cls X.K C)(n:NoAttr X.K C f)(l:fs.lookup f=some v)
  (h:∀u s',Inv X pins σ H s'->RelV v u->Q u s'):wpAny (model X.prog X.w) A (getAttr (.ref a) f b) Q E s:=by
 obtain⟨mA,O,r,_,_,_⟩:=ins_get I.hok e;obtain⟨u,hu,ru⟩:=RelO.some_of (v:=v) (o:=mA f) (by rw[<-l];exact r f);exact get_map I.kIn O (c.get f) c.hd n hu (handed_of ru) (h u _ (I.tok _) ru)
theorem getmeth_ok{m:Str}{g:Addr}{pl:Sem Bool}{Q:Value×List Value->Shared->Prop}(I:Inv X pins σ H s)(e:H a=some (.ins C dx fs))(c:Cls X.K C)(k:Meth X.K C m g)(l:fs.lookup m=none)
  (h:Q (.ref g,[.ref a]) s):wpAny (model X.prog X.w) A (getMethod (.ref a) m pl) Q E s:=by
 obtain⟨mA,O,r,_,_,_⟩:=ins_get I.hok e;have hn:mA m=none:=RelO.none_of (by rw[<-l];exact r m);exact get_meth I.kIn O (c.get m) k.at_ k.fn hn h
theorem setattr_ok{y:V}{u:Value}{Q:Unit->Shared->Prop}(I:Inv X pins σ H s)(e:H a=some (.ins C dx fs))(c:Cls X.K C)(n:NoAttr X.K C f)(hl:fs.length<1000)(ry:RelV y u)
  (h:∀s',Inv X pins σ (upd H a (.ins C dx (putF f y fs))) s'->Q () s'):wpAny (model X.prog X.w) A (setAttr (.ref a) f u) Q E s:=by
 obtain⟨mA,O,r,wi,_,ho⟩:=ins_get I.hok e;have hz:(fs.map (·.1)).length<=sizeLine:=by rw[List.length_map,sizeLine_eq];omega
 refine set_map I.kIn O c.sa c.po n.taker c.hd wi hz λh' O' sb=>h _ ?_;have hd:∃o,h'.get? dx=some o:=let ⟨o,_,_,e',_⟩:=O'.ns;⟨o,e'⟩;refine I.write (x:=a) (e:=dx) (by rw[e];exact True.intro) (.inr ho) (λb q hb z=>(sb.2 b hb).trans z) hd ?_;refine⟨by rw[upd_ne O.ne];exact ho,?_,O.ne,O'.obj,_,O'.ns,λg=>?_,λg hg=>?_⟩
 .have:=length_putF f y fs;omega
 .show RelO ((putF f y fs).lookup g) (if g=f then some u else mA g);rw[lookup_putF];by_cases q:g=f
  .rw[if_pos q,if_pos q];exact ry
  .rw[if_neg q,if_neg q];exact r g
 .by_cases q:g=f
  .rw[q];exact(keys_putF f y fs).1
  .refine(keys_putF f y fs).2 g (wi g λz=>hg ?_);show(if g=f then some u else mA g)=none;rw[if_neg q];exact z
theorem Inv.made(I:Inv X pins σ H s):Inv X pins σ (upd (upd H s.heap.objs.size (.own (s.heap.objs.size+1))) (s.heap.objs.size+1) (.ins C s.heap.objs.size []))
  {s with heap:=(s.heap.push PySem.W.emptyDict).push (PySem.W.instObj C s.heap.objs.size)}:=by
 have e1:(s.heap.push PySem.W.emptyDict).get? s.heap.objs.size=some PySem.W.emptyDict:=Heap.get?_push_size s.heap rfl;have e2:((s.heap.push PySem.W.emptyDict).push (PySem.W.instObj C s.heap.objs.size)).get? (s.heap.objs.size+1)=some (PySem.W.instObj C s.heap.objs.size):=by
  have:=Heap.get?_push_size (s.heap.push PySem.W.emptyDict) (o:=PySem.W.instObj C s.heap.objs.size) rfl
  rwa [Heap.size_push] at this
 have e3:(s.heap.push PySem.W.emptyDict).Ns s.heap.objs.size (λ_=>none):=⟨PySem.W.emptyDict,#[],_,e1,rfl,(λe he=>absurd he (by simp)),λ_=>rfl⟩;have I1:=I.laid (a:=s.heap.objs.size) (o:=.own (s.heap.objs.size+1)) (h':=s.heap.push PySem.W.emptyDict) (t':=s.toks) (λb u q=>Heap.get?_push_of_some _ q) (Nat.le_refl _) ⟨_,e1⟩;refine I1.laid (a:=s.heap.objs.size+1) (o:=.ins C s.heap.objs.size []) (t':=s.toks) (λb u q=>Heap.get?_push_of_some _ q) (Nat.le_of_eq (Heap.size_push _ _)) ?_;have ne:s.heap.objs.size≠s.heap.objs.size+1:=Nat.ne_of_lt (Nat.lt_succ_self _);refine⟨by rw[upd_ne ne,upd_same],Nat.zero_le _,ne,e2,λ_=>none,(Heap.Ns1.of_empty e3).at λo q=>Heap.get?_push_of_some _ q,λ_=>True.intro,λy hy=>absurd rfl hy⟩
theorem attr_of{prog:Program}{w:World}{env:Env}{e:Expr}{f:Str}{pos:Pos}{s:Shared}{Q:Value->Shared->Prop}(hb:attributeBase e f env (eval e env)=eval e env)
  (h:wpAny (model prog w) A (eval e env) (λo s₁=>wpAny (model prog w) A (getAttr o f true) Q E s₁) E s):wpAny (model prog w) A (eval (.Attribute e f pos) env) Q E s:=
 Attribute_any_ h (by rw[arm_eval_Attribute,hb])
end
def tFld(K:W.Frag)(ta:TE)(f:Str):TE:=λσ H Q=>ta σ H λx H1=>∃a C dx fs v,x=.ref a/\H1 a=some (.ins C dx fs)/\Cls K C/\NoAttr K C f/\fs.lookup f=some v/\Q v H1
def tCon(K:W.Frag)(ta:TE)(f:Str):TE:=λσ H Q=>ta σ H λx H1=>∃a C dx fs v u,x=.ref a/\H1 a=some (.ins C dx fs)/\Cls K C/\Con K C f v u/\fs.lookup f=none/\Q v H1
def sFld(K:W.Frag)(ta tv:TE)(f:Str):TS:=λD σ H=>tv σ H λy H1=>ta σ H1 λx H2=>∃a C dx fs,x=.ref a/\H2 a=some (.ins C dx fs)/\Cls K C/\NoAttr K C f/\fs.length<1000 ∧
 D.nx σ (upd H2 a (.ins C dx (putF f y fs)))
def InOp(X:Cx)(op:Operator)(rd:V->V->Hp->VK->Prop):Prop:=
 ∀(pins:List (Addr×Obj))(s:Shared)(σ:St)(H:Hp)(x y:V)(u v:Value)(Q:VK),Inv X pins σ H s->RelV x u->RelV y v->rd x y H Q->wpAny (model X.prog X.w) X.A (inplaceOp op u v) (EP X pins σ Q) X.xe s
def sFldAug(K:W.Frag)(ta tv:TE)(rd:V->V->Hp->VK->Prop)(f:Str):TS:=λD σ H=>ta σ H λx H1=>∃a C dx fs v,x=.ref a/\H1 a=some (.ins C dx fs)/\Cls K C/\NoAttr K C f/\fs.lookup f=some v ∧
 tv σ H1 λy H2=>rd v y H2 λz H3=>∃dx' fs',H3 a=some (.ins C dx' fs')/\fs'.length<1000/\D.nx σ (upd H3 a (.ins C dx' (putF f z fs')))
section
variable{X:Cx}{o e value:Expr}{f:Str}{pos pos' tpos:Pos}{ta tv:TE}
theorem pe_fld(he:PE X e ta)(hb:attributeBase e f X.env (eval e X.env)=eval e X.env):PE X (.Attribute e f pos) (tFld X.K ta f):=by
 intro pins s σ H Q I h;refine attr_of hb (thn (he pins s σ H _ I h) λu s1 ⟨x,H1,I1,rx,a,C,dx,fs,v,ex,ea,c,n,l,q⟩=>?_);subst ex;obtain rfl:u=Value.ref a:=rx;exact getattr_ok I1 ea c n l λu' s2 I2 ru=>⟨v,H1,I2,ru,q⟩
theorem ps_fld(ha:PE X o ta)(hv:PE X value tv)(hs:swapsWith value (some (.Attribute o f pos')) pos.line X.env=pure false):PS X (.Assign [.Attribute o f pos'] value pos) (sFld X.K ta tv f):=by
 intro pins s σ H D I h;refine plainObj_wpAny_Assign_Attribute (thn (hv pins s σ H _ I h) λu s1 ⟨y,H1,I1,ry,q⟩=>thn (ha pins s1 σ H1 _ I1 q) λov s2 ⟨x,H2,I2,rx,a,C,dx,fs,ex,ea,c,n,l,q2⟩=>?_) hs;subst ex;obtain rfl:ov=Value.ref a:=rx;exact setattr_ok I2 ea c n l ry λs3 I3=>⟨σ,_,I3,q2⟩
def rAdd:V->V->Hp->VK->Prop:=λx y H Q=>∃i j,x=.int i/\y=.int j/\Q (.int (i+j)) H
def rSub:V->V->Hp->VK->Prop:=λx y H Q=>∃i j,x=.int i/\y=.int j/\Q (.int (i-j)) H
end
section
variable{X:Cx}{pins:List (Addr×Obj)}{σ:St}{H:Hp}{s:Shared}{A:Around}{E:Value->Shared->Prop}{Q:Value->Shared->Prop}{c:Value}{b:Bool}
inductive TyOf (K:W.Frag) (H:Hp):V->Value->Prop where
 | non:TyOf K H .non (.type "NoneType")
 | bl (x:Bool):TyOf K H (.bl x) (.type "bool")
 | int (i:Int):TyOf K H (.int i) (.type "int")
 | str (x:Str):TyOf K H (.str x) (.type "str")
 | flt (x:UInt64):TyOf K H (.flt x) (.type "float")
 | lst {a:Addr}{xs:List V} (e:H a=some (.lst xs)):TyOf K H (.ref a) (.type "list")
 | frz {a:Addr}{o:Obj}{xs:List V} (e:H a=some (.frz o (.lst xs))):TyOf K H (.ref a) (.type "list")
 | tup {a:Addr}{xs:List V} (e:H a=some (.tup xs)):TyOf K H (.ref a) (.type "tuple")
 | dK {a:Addr}{kvs:List (Key×V)} (e:H a=some (.dK kvs)):TyOf K H (.ref a) (.type "dict")
 | dT {a:Addr}{kvs:List (List Key×V)} (e:H a=some (.dT kvs)):TyOf K H (.ref a) (.type "dict")
 | ins {a C dx:Addr}{fs:List (Str×V)} (e:H a=some (.ins C dx fs)) (cl:Cls K C) (ha:PySem.W.findIn K (.ref C) "__class__"=some (some (.builtin "object.__class__")))
   (hn:PySem.W.specialIn K (.builtin "object.__class__") "__get__"=some (some (.builtin "getset_descriptor.__get__"))) (htk:PySem.W.takesIn K (.builtin "object.__class__")=some true)
   (hm:PySem.W.mroIn K C (.type "object")=some true):TyOf K H (.ref a) (.ref C)
theorem isinst_ok{x:V}{u t:Value}(I:Inv X pins σ H s)(rx:RelV x u)(ty:TyOf X.K H x t)(e:PySem.W.kitOne X.K t c=some b)(h:∀tk,Q (.bool b) {s with toks:=tk}) :
  wpAny (model X.prog X.w) A (call (.builtin "isinstance") [u,c]) Q E s:=by
 cases ty with
 | non=>cases(show u=Value.none from rx);exact PySem.W.kia_one PySem.W.kitx_none I.kIn True.intro e (λz=>nomatch z) h
 | bl y=>cases(show u=Value.bool y from rx);exact PySem.W.kia_one PySem.W.kitx_bool I.kIn True.intro e (λz=>nomatch z) h
 | int i=>obtain⟨t,q⟩:=(show ∃t,u=Value.int i t from rx);cases q;exact PySem.W.kia_one PySem.W.kitx_int I.kIn True.intro e (λz=>nomatch z) h
 | str y=>obtain⟨t,q⟩:=(show ∃t,u=Value.str y t from rx);cases q;exact PySem.W.kia_one PySem.W.kitx_str I.kIn True.intro e (λz=>nomatch z) h
 | flt y=>obtain⟨t,q⟩:=(show ∃t,u=Value.float y t from rx);cases q;exact PySem.W.kia_one PySem.W.kitx_float I.kIn True.intro e (λz=>nomatch z) h
 | @lst a xs ea=>
  cases(show u=Value.ref a from rx);obtain⟨_,_,n,_,h1⟩:=(show ObjOk X.prog X.w H s.heap a (.lst xs) from I.hok a _ ea);exact PySem.W.kia_one PySem.W.kitx_list I.kIn ⟨_,h1,rfl⟩ e (λz=>nomatch z) h
 | @frz a ob xs ea=>
  cases(show u=Value.ref a from rx);obtain⟨_,_,_,n,_,h1⟩:=(show ObjOk X.prog X.w H s.heap a (.frz ob (.lst xs)) from I.hok a _ ea);exact PySem.W.kia_one PySem.W.kitx_list I.kIn ⟨_,h1,rfl⟩ e (λz=>nomatch z) h
 | @tup a xs ea=>
  cases(show u=Value.ref a from rx);obtain⟨_,_,_,p⟩:=(show ObjOk X.prog X.w H s.heap a (.tup xs) from I.hok a _ ea);obtain⟨o,h1,h2,_⟩:=p;exact PySem.W.kia_one PySem.W.kitx_tuple I.kIn ⟨o,h1,h2⟩ e (λz=>nomatch z) h
 | @dK a kvs ea=>
  cases(show u=Value.ref a from rx);obtain⟨_,_,vs,_,p⟩:=(show ObjOk X.prog X.w H s.heap a (.dK kvs) from I.hok a _ ea);obtain⟨o,es,ep,h1,h2,_⟩:=p;exact PySem.W.kia_one PySem.W.kitx_dict I.kIn ⟨o,h1,h2.1⟩ e (λz=>nomatch z) h
 | @dT a kvs ea=>
  cases(show u=Value.ref a from rx);obtain⟨_,_,xs,_,o,es,ep,h1,h2,_⟩:=(show ObjOk X.prog X.w H s.heap a (.dT kvs) from I.hok a _ ea);exact PySem.W.kia_one PySem.W.kitx_dict I.kIn ⟨o,h1,h2.1⟩ e (λz=>nomatch z) h
 | @ins a C dx fs ea cl ha hn htk hm=>
  cases(show u=Value.ref a from rx);obtain⟨mA,O,_⟩:=ins_get I.hok ea;obtain⟨od,J,_⟩:=O.look;exact PySem.W.kia_one (PySem.W.kitx_own (cl.get _) cl.hd ha hn htk hm) I.kIn J e (λz=>nomatch z) h
end
structure Room(k:Nat)(A:Around):Prop where
 hd:A.handled=none
 dp:A.depth+3*k+5<recursionLimit
 un:A.units+16*k+200<cLine
theorem Room.mono{j k:Nat}{A:Around}(r:Room k A)(h:j<=k):Room j A:=⟨r.hd,by have:=r.dp;omega,by have:=r.un;omega⟩
theorem Room.deeper{k:Nat}{A:Around}(r:Room (k+1) A)(env:Env):Room k (A.deeper env):=
 ⟨r.hd,by have:=r.dp;show A.depth+1+3*k+5<_;omega,by have:=r.un;show A.units+3+16*k+200<_;omega⟩
theorem make_depth{A:Around}{C:Addr}{us:List Value}{kw:List (Str×Value)}:(A.under (.builtin "type.__call__" ⟨.ref C::us,kw⟩)).depth=A.depth+1:=by
 first|rfl|simp[Around.under,Code.weight,Code.isCreation,Code.isGuard,Code.isCaller,Code.frames,Code.isFrame,guardIds]
theorem make_units{A:Around}{C:Addr}{us:List Value}{kw:List (Str×Value)}:(A.under (.builtin "type.__call__" ⟨.ref C::us,kw⟩)).units=A.units+1:=by
 first|rfl|simp[Around.under,Code.cUnits,Code.frames,Code.isFrame]
theorem Room.make{k:Nat}{A:Around}(r:Room (k+1) A)(C:Addr)(us:List Value)(kw:List (Str×Value)):Room k (A.under (.builtin "type.__call__" ⟨.ref C::us,kw⟩)):=
 ⟨r.hd,by have:=r.dp;rw[make_depth];omega,by have:=r.un;rw[make_units];omega⟩
theorem Room.depth{k:Nat}{A:Around}(r:Room k A):A.depth<recursionLimit:=by have:=r.dp;omega
theorem Room.units{k:Nat}{A:Around}(r:Room k A):A.units+64<cLine:=by have:=r.un;omega
def tNil:TA:=λ_ H Q=>Q [] H
def tCons(ta:TE)(tr:TA):TA:=λσ H Q=>ta σ H λx H1=>tr σ H1 λxs H2=>Q (x::xs) H2
section
variable{X:Cx}{e:Expr}{es:List Expr}{te:TE}{t:TA}{pos:Pos}
theorem pa_nil:PA X [] tNil:=λ_ _ _ _ H Q I h=>Calls.spliced_nil ⟨[],H,I,.nil,h⟩
theorem pa_cons(ha:PE X e te)(hr:PA X es t)(hs:starEach (e::es) X.env=(false,eval e X.env)::starEach es X.env:=by rfl):PA X (e::es) (tCons te t):=by
 intro pos pins s σ H Q I h;rw[hs];show wpAny _ _ (spliced ((false,eval e X.env)::backTo pos (starEach es X.env))) _ _ s;refine Calls.spliced_cons (thn (ha pins s σ H _ I h) λu s1 ⟨x,H1,I1,r1,q1⟩=>?_);exact thn (hr pos pins s1 σ H1 _ I1 q1) λus s2 ⟨xs,H2,I2,r2,q2⟩=>⟨x::xs,H2,I2,.cons r1 r2,q2⟩
def tTup(t:TA):TE:=λσ H Q=>t σ H λxs H1=>xs.length<=sizeLine/\∀p,H1 p=none->Q (.ref p) (upd H1 p (.tup xs))
def tLst(t:TA):TE:=λσ H Q=>t σ H λxs H1=>xs.length<=sizeLine/\∀p,H1 p=none->Q (.ref p) (upd H1 p (.lst xs))
theorem pe_tup{x1}(h:PA X es t):PE X (.Tuple es x1 pos) (tTup t):=by
 intro pins s σ H Q I hq;refine wpAny_Tuple_spliced (thn (h pos pins s σ H _ I hq) λus s1 ⟨xs,H1,I1,r,z,q⟩=>⟨by rw[<-r.length];exact z,?_⟩);have hf:H1 s1.heap.objs.size=none:=I1.hok.fresh (Nat.le_refl _);refine⟨.ref s1.heap.objs.size,upd H1 s1.heap.objs.size (.tup xs),I1.laid (t':=s1.toks) (λb u e=>Heap.get?_push_of_some _ e) (Nat.le_refl _) ?_,rfl,q _ hf⟩;exact⟨z,us,r,⟨_,Heap.get?_push_size _ rfl,rfl,_,rfl⟩⟩
theorem pe_lst(h:PA X es t):PE X (.List es pos) (tLst t):=by
 intro pins s σ H Q I hq;refine wpAny_List_spliced (thn (h pos pins s σ H _ I hq) λus s1 ⟨xs,H1,I1,r,z,q⟩=>⟨by rw[<-r.length];exact z,?_⟩);have hf:H1 s1.heap.objs.size=none:=I1.hok.fresh (Nat.le_refl _);refine⟨.ref s1.heap.objs.size,upd H1 s1.heap.objs.size (.lst xs),I1.laid (t':=s1.toks) (λb u e=>Heap.get?_push_of_some _ e) (Nat.le_refl _) ?_,rfl,q _ hf⟩;exact⟨z,us,0,r,Heap.get?_push_size _ rfl⟩
end
abbrev Sp:=List V->Hp->VK->XK->Prop
abbrev CXT:=List Env->Hp->Shared->XK->Value->Shared->Prop
structure Env0(P:Program)(w:World)(K:W.Frag)(mg:Str->Option Value)(base:Heap)(A:Around)(outer:List Env)(s:Shared)(H:Hp):Prop where
 frames:A.frames=some outer
 mod:Mod K mg base
 bs:∀b o,base.get? b=some o->s.heap.get? b=some o/\H b=none
 bsz:base.objs.size<=s.heap.objs.size
 funs:s.heap.FunFrames base outer
 frf:∀b∈frs outer,H b=none
 hok:HOk P w H s.heap
 bare:AllBare s.gens
def CE(outer:List Env)(P:Program)(w:World)(H:Hp)(s:Shared)(Q:VK)(u:Value)(s':Shared):Prop:=
 ∃v H',s'.os=s.os/\AllBare s'.gens/\Un (frs outer) [] H H' s.heap s'.heap/\HOk P w H' s'.heap/\RelV v u/\Q v H'
def CR(CX:CXT)(outer:List Env)(P:Program)(w:World)(H:Hp)(s:Shared)(Q:VK)(E:XK)(r:Result)(s':Shared):Prop:=
 match r with
 | .ok (.ret u)=>CE outer P w H s Q u s'
 | .ok _=>False
 | .error e=>CX outer H s E e s'
structure FnOk(P:Program)(w:World)(K:W.Frag)(mg:Str->Option Value)(base:Heap)(CX:CXT)(k:Nat)(f:Addr)(fd:FuncData)(ps:List Str)(sp:Sp):Prop where
 len:∀vs H Q E,sp vs H Q E->vs.length=ps.length
 run:∀(A:Around)(outer:List Env)(s:Shared)(H:Hp)(args:Args)(us:List Value)(vs:List V)(Q:VK)(E:XK),Room k A->Env0 P w K mg base A outer s H->BindsTo s fd args (ps.zip us)->Vals vs us->sp vs H Q E →
  codeAny (model P w) A (.call (.ref f) args) (CR CX outer P w H s Q E) s
theorem Env0.make{P:Program}{w:World}{K:W.Frag}{mg:Str->Option Value}{base:Heap}{A:Around}{outer:List Env}{s:Shared}{H:Hp}(e:Env0 P w K mg base A outer s H)(C:Addr)(us:List Value)(kw:List (Str×Value)) :
  Env0 P w K mg base (A.under (.builtin "type.__call__" ⟨.ref C::us,kw⟩)) outer s H:=⟨by first|exact e.frames|(simpa[Around.under,Code.envs,Code.isFrame,pushEnvs] using e.frames),e.mod,e.bs,e.bsz,e.funs,e.frf,e.hok,e.bare⟩
section
variable{X:Cx}{pins:List (Addr×Obj)}{σ:St}{H:Hp}{s s':Shared}
theorem Inv.env0(I:Inv X pins σ H s):Env0 X.prog X.w X.K X.mg X.base X.A X.stack s H:=
 ⟨I.ok.frames,I.ok.mod,I.bs,Nat.le_trans I.ok.bsz I.sz,I.stack,I.stkFree,I.hok,I.bare⟩
theorem Inv.after{Q:VK}{u:Value}(I:Inv X pins σ H s)(h:CE X.stack X.prog X.w H s Q u s'):EP X pins σ Q u s':=by
 obtain⟨v,H',os,bare,un,hok,r,q⟩:=h;obtain⟨hh,g,d,t,os'⟩:=s';obtain rfl:os'=s.os:=os;exact⟨v,H',I.call (h':=hh) (g':=g) (d':=d) (t':=t) (ch:=[]) un hok bare (λb z=>absurd z (by simp)),r,q⟩
end
def tCall(sp:Sp)(dvs:List V)(E:XK)(t:TA):TE:=λσ H Q=>t σ H λvs H1=>sp (vs++dvs) H1 Q E
def tMeth(C:Addr)(m:Str)(sp:Sp)(dvs:List V)(E:XK)(ta:TE)(t:TA):TE:=λσ H Q=>ta σ H λx H1=>∃a dx fs,x=.ref a/\H1 a=some (.ins C dx fs)/\fs.lookup m=none ∧
 t σ H1 λvs H2=>sp (x::(vs++dvs)) H2 Q E
def tMake(C:Addr)(sp:Sp)(dvs:List V)(E:XK)(t:TA):TE:=λσ H Q=>t σ H λvs H1=>∀x dx,H1 x=none->H1 dx=none->dx≠x →
 sp (.ref x::(vs++dvs)) (upd (upd H1 dx (.own x)) x (.ins C dx [])) (λv H2=>v=.non/\Q (.ref x) H2) E
def Binds(K:W.Frag)(fd:FuncData)(ps:List Str)(ds:List Value):Prop:=
 ∀(s:Shared)(us:List Value),K.In s.heap->(us++ds).length=ps.length->BindsTo s fd ⟨us,[]⟩ (ps.zip (us++ds))
theorem Binds.all{K:W.Frag}{fd:FuncData}{ps:List Str}(h:∀us:List Value,us.length=ps.length->bindArgs fd ⟨us,[]⟩=pure (ps.zip us)):Binds K fd ps []:=λs us _ hl=>by
 rw[List.append_nil] at hl ⊢;exact .of_eq (h us hl)
def Passes(CX:CXT)(X:Cx)(E:XK):Prop:=∀(pins:List (Addr×Obj))(σ:St)(H:Hp)(s:Shared)(e:Value)(s':Shared),Inv X pins σ H s->CX X.stack H s E e s'->X.xe e s'
section
variable{X:Cx}{CX:CXT}{k:Nat}{f C:Addr}{fd:FuncData}{ps:List Str}{sp:Sp}{dvs:List V}{ds:List Value}{E:XK}{x m:Str}{p pos apos:Pos}{e o:Expr}{es:List Expr}{ta:TE}{t:TA}
theorem run_fn{pins:List (Addr×Obj)}{σ:St}{H:Hp}{s:Shared}{Q:VK}{us:List Value}{vs:List V}(F:FnOk X.prog X.w X.K X.mg X.base CX k f fd ps sp)(hr:Room k X.A)(hb:Binds X.K fd ps ds)(hd:Vals dvs ds)(hx:Passes CX X E)
  (I:Inv X pins σ H s) (r:Vals vs us) (h:sp (vs++dvs) H Q E):wpAny (model X.prog X.w) X.A (call (.ref f) us) (EP X pins σ Q) X.xe s:=by
 have r2:Vals (vs++dvs) (us++ds):=r.append hd;have hl:(us++ds).length=ps.length:=by rw[<-r2.length];exact F.len _ _ _ _ h
 refine wpAny_call (codeAny_mono (F.run X.A X.stack s H ⟨us,[]⟩ (us++ds) (vs++dvs) Q E hr I.env0 (hb s us I.kIn hl) r2 h) λr s' hq=>?_);cases r with
 | error e=>exact hx pins σ H s e s' I hq
 | ok fl=>
  cases fl with
  | ret u=>exact I.after hq
  | next=>exact False.elim hq
  | brk=>exact False.elim hq
  | cont=>exact False.elim hq
theorem pe_call(F:FnOk X.prog X.w X.K X.mg X.base CX k f fd ps sp)(hr:Room k X.A)(hg:Gl X x)(hm:X.mg x=some (.ref f))(hk:PySem.W.keepIn X.K (.ref f)=true)(hb:Binds X.K fd ps ds)(hd:Vals dvs ds)(hx:Passes CX X E)
  (ha:PA X (e::es) t) (hdb:(x==("__debug__":Str))=false:=by decide) (he:starEach (e::es) X.env=(false,eval e X.env)::starEach es X.env:=by rfl) (hpl:(backTo pos (starEach es X.env)).any (·.1)=false:=by rfl) :
  PE X (.Call (.Name x p) (e::es) [] pos) (tCall sp dvs E t):=by
 intro pins s σ H Q I h;refine wpAny_Call_Name_kw (ld_glob I hg hm ?_ hdb);refine PySem.W.callWith_K (h₀:=X.base) I.ok.mod.kin hk (thn (ha pos pins s σ H _ I h) λus s1 ⟨vs,H1,I1,r,q⟩=>⟨I1.kIn,?_⟩) he hpl;exact run_fn F hr hb hd hx I1 r q
theorem pe_meth{pl:Sem Bool}(he:PE X o ta)(c:Cls X.K C)(hm:Meth X.K C m f)(F:FnOk X.prog X.w X.K X.mg X.base CX k f fd ps sp)(hr:Room k X.A)(hb:Binds X.K fd ps ds)(hd:Vals dvs ds)(hx:Passes CX X E)(ha:PA X (e::es) t)
  (hst:starEach (e::es) X.env=(false,eval e X.env)::starEach es X.env:=by rfl) (hpl:(backTo pos (starEach es X.env)).any (·.1)=false:=by rfl)
  (ht:eval (.Call (.Attribute o m apos) (e::es) [] pos) X.env=(do
   let ov <-eval o X.env
   standAt apos.atName
   let (f,first) <-holding [ov] (getMethod ov m pl)
   callWith pos f first (backTo pos (starEach (e::es) X.env)) (backToKw pos (keywordEach [] X.env))):=by rfl) :
  PE X (.Call (.Attribute o m apos) (e::es) [] pos) (tMeth C m sp dvs E ta t):=by
 intro pins s σ H Q I h;refine PySem.W.methodCall_KW (pl:=pl) (thn (he pins s σ H _ I h) λu s1 ⟨x,H1,I1,rx,a,dx,fs,ex,ea,l,q⟩=>?_) ht;subst ex;obtain rfl:u=Value.ref a:=rx;refine getmeth_ok I1 ea c hm l ?_;refine PySem.W.callWith_K (first:=[.ref a]) (h₀:=X.base) I.ok.mod.kin hm.kp (thn (ha pos pins s1 σ H1 _ I1 q) λus s2 ⟨vs,H2,I2,r,q2⟩=>⟨I2.kIn,?_⟩) hst hpl;exact run_fn (us:=.ref a::us) (vs:=.ref a::vs) F hr hb hd hx I2 (.cons rfl r) q2
theorem pe_meth0{pl:Sem Bool}(he:PE X o ta)(c:Cls X.K C)(hm:Meth X.K C m f)(F:FnOk X.prog X.w X.K X.mg X.base CX k f fd ps sp)(hr:Room k X.A)(hb:Binds X.K fd ps ds)(hd:Vals dvs ds)(hx:Passes CX X E)
  (ht:eval (.Call (.Attribute o m apos) [] [] pos) X.env=(do
   let ov <-eval o X.env
   standAt apos.atName
   let (f,first) <-holding [ov] (getMethod ov m pl)
   callWith pos f first (backTo pos (starEach [] X.env)) (backToKw pos (keywordEach [] X.env))):=by rfl) :
  PE X (.Call (.Attribute o m apos) [] [] pos) (tMeth C m sp dvs E ta tNil):=by
 intro pins s σ H Q I h;refine PySem.W.methodCall_KW (pl:=pl) (thn (he pins s σ H _ I h) λu s1 ⟨x,H1,I1,rx,a,dx,fs,ex,ea,l,q⟩=>?_) ht;subst ex;obtain rfl:u=Value.ref a:=rx;refine getmeth_ok I1 ea c hm l ?_;exact PySem.W.callWith_K0 (first:=[.ref a]) I1.kIn hm.kp (run_fn (us:=[.ref a]) (vs:=[.ref a]) F hr hb hd hx I1 (.cons rfl .nil) q)
structure Mk(K:W.Frag)(C f:Addr):Prop where
 makes:PySem.W.makesIn K C=true
 init:PySem.W.findIn K (.ref C) "__init__"=some (some (.ref f))
 fn:PySem.W.isFn K (.ref f)=true
 kp:PySem.W.keepIn K (.ref C)=true
theorem run_make{pins:List (Addr×Obj)}{σ:St}{H:Hp}{s:Shared}{Q:VK}{us:List Value}{vs:List V}(M:Mk X.K C f)(F:FnOk X.prog X.w X.K X.mg X.base CX k f fd ps sp)(hr:Room (k+1) X.A)(hb:Binds X.K fd ps ds)(hd:Vals dvs ds)
  (hx:Passes CX X E) (I:Inv X pins σ H s) (r:Vals vs us)
  (h:∀x dx,H x=none->H dx=none->dx≠x->sp (.ref x::(vs++dvs)) (upd (upd H dx (.own x)) x (.ins C dx [])) (λv H2=>v=.non/\Q (.ref x) H2) E) :
  wpAny (model X.prog X.w) X.A (call (.ref C) us) (EP X pins σ Q) X.xe s:=by
 have hq:=h (s.heap.objs.size+1) s.heap.objs.size (I.hok.fresh (Nat.le_succ _)) (I.hok.fresh (Nat.le_refl _)) (Nat.ne_of_lt (Nat.lt_succ_self _));have I2:=Inv.made (C:=C) I;have r2:Vals (V.ref (s.heap.objs.size+1)::(vs++dvs)) (Value.ref (s.heap.objs.size+1)::(us++ds)):=.cons rfl (r.append hd);have hl:(Value.ref (s.heap.objs.size+1)::us++ds).length=ps.length:=by
  have e:=r2.length;rw[F.len _ _ _ _ hq] at e;exact e.symm
 refine wpAny_call (make_map (f:=f) I.kIn M.makes M.init (beq_iff_eq.mp M.fn) (codeAny_mono (F.run _ X.stack _ _ ⟨Value.ref (s.heap.objs.size+1)::us,[]⟩ (Value.ref (s.heap.objs.size+1)::(us++ds)) _ _ E (hr.make C us [])
  (I2.env0.make C us []) (hb _ (Value.ref (s.heap.objs.size+1)::us) I2.kIn hl) r2 hq) λr s' hq'=>?_))
 cases r with
 | error e=>exact hx pins σ _ _ e s' I2 hq'
 | ok fl=>
  cases fl with
  | ret u=>
   obtain⟨v,H',I3,rv,ev,q3⟩:=I2.after hq';subst ev;exact⟨rv,⟨V.ref (s.heap.objs.size+1),H',I3,rfl,q3⟩⟩
  | next=>exact False.elim hq'
  | brk=>exact False.elim hq'
  | cont=>exact False.elim hq'
theorem pe_make(M:Mk X.K C f)(F:FnOk X.prog X.w X.K X.mg X.base CX k f fd ps sp)(hr:Room (k+1) X.A)(hg:Gl X x)(hm:X.mg x=some (.ref C))(hb:Binds X.K fd ps ds)(hd:Vals dvs ds)(hx:Passes CX X E)
  (ha:PA X (e::es) t) (hdb:(x==("__debug__":Str))=false:=by decide) (he:starEach (e::es) X.env=(false,eval e X.env)::starEach es X.env:=by rfl) (hpl:(backTo pos (starEach es X.env)).any (·.1)=false:=by rfl) :
  PE X (.Call (.Name x p) (e::es) [] pos) (tMake C sp dvs E t):=by
 intro pins s σ H Q I h;refine wpAny_Call_Name_kw (ld_glob I hg hm ?_ hdb);refine PySem.W.callWith_K (h₀:=X.base) I.ok.mod.kin M.kp (thn (ha pos pins s σ H _ I h) λus s1 ⟨vs,H1,I1,r,q⟩=>⟨I1.kIn,?_⟩) he hpl;exact run_make M F hr hb hd hx I1 r q
end
def PK(X:Cx)(kws:List Keyword)(t:TA):Prop:=
 ∀(pos:Pos)(pins:List (Addr×Obj))(s:Shared)(σ:St)(H:Hp)(Q:List V->Hp->Prop),Inv X pins σ H s->t σ H Q->wpAny (model X.prog X.w) X.A (evalAll ((backToKw pos (keywordEach kws X.env)).map (·.2))) (AP X pins σ Q) X.xe s
section
variable{X:Cx}{CX:CXT}{k:Nat}{f C:Addr}{fd:FuncData}{ps ks:List Str}{sp:Sp}{E:XK}{x m:Str}{p pos apos kpos:Pos}{e o:Expr}{es:List Expr}{kws:List Keyword}{te ta:TE}{t tk:TA}{nm:Option Str}
structure KBinds(K:W.Frag)(fd:FuncData)(ps ks:List Str)(g:List Value->List Value->List Value)(gV:List V->List V->List V):Prop where
 to:∀(s:Shared)(us ws:List Value),K.In s.heap->(g us ws).length=ps.length->BindsTo s fd ⟨us,ks.zip ws⟩ (ps.zip (g us ws))
 rel:∀{vs:List V}{us:List Value}{zs:List V}{ws:List Value},Vals vs us->Vals zs ws->Vals (gV vs zs) (g us ws)
def tCallK(sp:Sp)(gV:List V->List V->List V)(E:XK)(t tk:TA):TE:=λσ H Q=>t σ H λvs H1=>tk σ H1 λzs H2=>sp (gV vs zs) H2 Q E
variable{g:List Value->List Value->List Value}{gV:List V->List V->List V}
end
structure FnScope(N P:List Str)(sc:Scope):Prop where
 kind:sc.kind=.function
 co:sc.isCoroutine=false
 gen:sc.isGenerator=false
 nd:N.Nodup
 pre:N.take P.length=P
 par:∀x∈P,sc.names.lookup x=some .local\/sc.names.lookup x=some .cell
 nofree:∀y∈sc.names,y.2≠.free
theorem bindL_out{kindOf:Str->Option NameKind}{x:Str}:∀{binds:List (Str×Value)}{m:Str->Option Value},(∀v,(x,v)∉binds)->bindL kindOf binds m x=m x
 | [],_,_=>rfl
 | (n,v)::r,m,h=>by
  unfold bindL;rw[bindL_out λw hw=>h w (List.mem_cons_of_mem _ hw)]
  split
  .have:x≠n:=by rintro rfl;exact h v List.mem_cons_self
   simp[this]
  .rfl
theorem bindC_out{kindOf:Str->Option NameKind}{x:Str}:∀{binds:List (Str×Value)}{m:Str->Option Value},(∀v,(x,v)∉binds)->bindC kindOf binds m x=m x
 | [],_,_=>rfl
 | (n,v)::r,m,h=>by
  unfold bindC;rw[bindC_out λw hw=>h w (List.mem_cons_of_mem _ hw)]
  split
  .rfl
  .have:x≠n:=by rintro rfl;exact h v List.mem_cons_self
   simp[this]
theorem bindL_get{kindOf:Str->Option NameKind}{x:Str}{v:Value}:∀{P:List Str}{vs:List Value}{i:Nat}{m:Str->Option Value},P.Nodup->P[i]?=some x->vs[i]?=some v->kindOf x=some .local →
  bindL kindOf (P.zip vs) m x=some v
 | [],_,_,_,_,h,_,_=>by simp at h
 | _::_,[],_,_,_,_,h,_=>by simp at h
 | p::P,w::vs,0,m,nd,h1,h2,hk=>by
  simp at h1 h2;subst h1;subst h2;show bindL kindOf ((p,w)::P.zip vs) m p=_;unfold bindL;rw[bindL_out λv hv=>(List.nodup_cons.mp nd).1 (List.of_mem_zip hv).1,if_pos hk];simp
 | p::P,w::vs,i+1,m,nd,h1,h2,hk=>by
  show bindL kindOf ((p,w)::P.zip vs) m x=_;unfold bindL;exact bindL_get (i:=i) (List.nodup_cons.mp nd).2 (by simpa using h1) (by simpa using h2) hk
theorem bindC_get{kindOf:Str->Option NameKind}{x:Str}{v:Value}:∀{P:List Str}{vs:List Value}{i:Nat}{m:Str->Option Value},P.Nodup->P[i]?=some x->vs[i]?=some v->kindOf x≠some .local →
  bindC kindOf (P.zip vs) m x=some v
 | [],_,_,_,_,h,_,_=>by simp at h
 | _::_,[],_,_,_,_,h,_=>by simp at h
 | p::P,w::vs,0,m,nd,h1,h2,hk=>by
  simp at h1 h2;subst h1;subst h2;show bindC kindOf ((p,w)::P.zip vs) m p=_;unfold bindC;rw[bindC_out λv hv=>(List.nodup_cons.mp nd).1 (List.of_mem_zip hv).1,if_neg hk];simp
 | p::P,w::vs,i+1,m,nd,h1,h2,hk=>by
  show bindC kindOf ((p,w)::P.zip vs) m x=_;unfold bindC;exact bindC_get (i:=i) (List.nodup_cons.mp nd).2 (by simpa using h1) (by simpa using h2) hk
def start(N:List Str)(vs:List V):St:=vs.map some++List.replicate (N.length-vs.length) none
def cxOf(CX:CXT)(P:Program)(w:World)(K:W.Frag)(mg:Str->Option Value)(base:Heap)(N:List Str)(qual:Str)(scope:Scope)(f:Addr)(cd:Value)(A:Around)(outer:List Env)(s:Shared)(H:Hp)(E:XK):Cx where
 prog:=P
 w:=w
 K:=K
 mg:=mg
 base:=base
 A:=A.deeper (envOfC qual scope s.heap.objs.size f cd)
 N:=N
 s₀:=s
 H₀:=H
 env:=envOfC qual scope s.heap.objs.size f cd
 outer:=outer
 stack:=envOfC qual scope s.heap.objs.size f cd::outer
 ex:=[]
 calm:=true
 fn:=λ_=>true
 pn:=[]
 xe:=λe s'=>wpAny (model P w) (A.deeper (envOfC qual scope s.heap.objs.size f cd)) (leaving (envOfC qual scope s.heap.objs.size f cd) e) (λ_ s''=>CX outer H s E e s'') (λe' s''=>CX outer H s E e' s'') s'
theorem cell_has{sc:Scope}{n:Nat}{x:Str}(h:sc.names.lookup x=some .cell):∃c,(cellsFrom n sc.names []).lookup x=some c:=by
 have q:=PySem.W.cellsFrom_some sc.names n [] (.inl h);exact Option.isSome_iff_exists.mp q
theorem inv_start{CX:CXT}{P:Program}{w:World}{K:W.Frag}{mg:Str->Option Value}{base:Heap}{N ps:List Str}{qual:Str}{scope:Scope}{f:Addr}{cd:Value}{A:Around}{outer:List Env}{s s1:Shared}{H:Hp}{E:XK}{us:List Value}{vs:List V}
  (S:FnScope N ps scope) (hd:A.handled=none) (e0:Env0 P w K mg base A outer s H) (hl:vs.length=ps.length) (r:Vals vs us)
  (x:InCallC s s.heap.objs.size (bindL (envOfC qual scope s.heap.objs.size f cd).kindOf (ps.zip us) λ_=>none) (cellsFrom (s.heap.objs.size+1) scope.names []) (bindC (envOfC qual scope s.heap.objs.size f cd).kindOf (ps.zip us) λ_=>none) s1) :
  Inv (cxOf CX P w K mg base N qual scope f cd A outer s H E) [] (start N vs) H s1:=by
 have hpl:ps.length<=N.length:=by have:=congrArg List.length S.pre;rw[List.length_take] at this;omega
 obtain⟨h1,tk,rfl,hk⟩:=x.done;have noA:∀b:Addr,b∉(cxOf CX P w K mg base N qual scope f cd A outer s H E).ex:=λb z=>absurd (show b∈([]:List Addr) from z) (by simp);refine⟨⟨e0.mod,S.kind,rfl,rfl,Nat.le_refl _,λy z c h1 h2=>?_,λy hy=>?_,λy c _ h=>?_,λ_=>hd,Around.frames_deeper e0.frames,.inr ⟨rfl,rfl⟩,λb z=>absurd z (noA b),e0.bs,e0.bsz,λb _ _=>noA b,λb z=>absurd z (noA b),e0.funs,e0.frf⟩,
  rfl,e0.bare,Un.kept hk,⟨_,x.toInCall.ns,λi y v h1 h2 h3=>?_⟩,λy c h=>⟨_,x.cell y c h⟩,e0.hok.fresh (Nat.le_refl _),λy c h=>?_,λp hp=>absurd (show p∈([]:List (Addr×Obj)) from hp) (by simp),e0.hok.kept hk,?_⟩
 .exact name_of_addr x.apart (PySem.mem_of_lookup h1) (PySem.mem_of_lookup h2)
 .have hy:scope.names.lookup y=some .cell\/scope.names.lookup y=some .free:=hy;rcases hy with hy|hy
  .exact cell_has hy
  .exact absurd rfl (S.nofree _ (PySem.mem_of_lookup hy))
 .exact Nat.le_of_lt (x.above y c (PySem.mem_of_lookup h))
 .have hi:i<vs.length:=by
   unfold start at h2;by_cases hi:i<vs.length
   .exact hi
   .rw[List.getElem?_append_right (by simpa using hi)] at h2;rw[List.getElem?_replicate] at h2
    split at h2<;>cases h2
  have ha:vs[i]?=some v:=by
   unfold start at h2;rw[List.getElem?_append_left (by simpa using hi),List.getElem?_map] at h2;cases e:vs[i]? with
   | none=>rw[e] at h2;cases h2
   | some a=>rw[e] at h2;cases h2;rfl
  obtain⟨u,hu,rv⟩:=r.get ha;have hp:ps[i]?=some y:=by
   rw[<-S.pre,List.getElem?_take_of_lt (by omega)];exact h1
  have ndP:ps.Nodup:=by rw[<-S.pre];exact S.nd.sublist (List.take_sublist _ _)
  refine⟨u,rv,?_⟩;rcases S.par y (List.mem_of_getElem? hp) with k|k
  .exact .inl ⟨k,bindL_get ndP hp hu k⟩
  .obtain⟨c,e⟩:=cell_has (n:=s.heap.objs.size+1) k;refine .inr ⟨.inl k,c,e,?_⟩;have q:=x.cell y c e;rw[bindC_get ndP hp hu (by show scope.names.lookup y≠_;rw[k];decide)] at q;exact q
 .exact e0.hok.fresh (Nat.le_of_lt (x.above y c (PySem.mem_of_lookup h)))
 .unfold start;show _=N.length;rw[List.length_append,List.length_map,List.length_replicate];omega
theorem fn_of{CX:CXT}{P:Program}{w:World}{K:W.Frag}{mg:Str->Option Value}{base:Heap}{k:Nat}{f:Addr}{name qual:Str}{params:Arguments}{body:List Stmt}{scope:Scope}{dV kV doc pm cdv ct oc:Value}{an od:Option Addr}
  {osl:Array (Option Value)}{N ps:List Str}{sp:Sp} (lk:K.lookup f=some ⟨oc,od,.func (PySem.W.fnOf name qual params body scope dV kV doc pm an cdv ct),osl⟩) (hcd:PySem.W.codeIn K cdv qual=true) (S:FnScope N ps scope)
  (len:∀vs H Q E,sp vs H Q E->vs.length=ps.length)
  (hbody:∀(A:Around)(outer:List Env)(s:Shared)(H:Hp)(vs:List V)(Q:VK)(E:XK),Room k (A.deeper (envOfC qual scope s.heap.objs.size f cdv))->sp vs H Q E →
   ∃t,PSs (cxOf CX P w K mg base N qual scope f cdv A outer s H E) body t/\t {nx:=λ_ H'=>Q .non H',rt:=Q} (start N vs) H) :
  FnOk P w K mg base CX (k+1) f (PySem.W.fnOf name qual params body scope dV kV doc pm an cdv ct) ps sp:=by
 refine⟨len,λA outer s H args us vs Q E hr e0 hb r hsp=>?_⟩;have hl:=len _ _ _ _ hsp;have KX:K.In s.heap:=e0.mod.kin.keeps λb o e=>(e0.bs b o e).1;have lim:s.heap.NoLimit:=e0.mod.nolimit.keeps λb o e=>(e0.bs b o e).1;have hkind:∀y∈ps.zip us,scope.names.lookup y.1=some .local\/(scope.names.lookup y.1=some .cell/\((cellsFrom (s.heap.objs.size+1) scope.names []).lookup y.1).isSome=true):=λ⟨n,v⟩ hy=>by
  rcases S.par n (List.of_mem_zip hy).1 with q|q
  .exact .inl q
  .exact .inr ⟨q,PySem.W.cellsFrom_some _ _ _ (.inl q)⟩
 refine codeAny_call_function hr.depth (KX _ _ lk) rfl S.co S.gen rfl (PySem.W.codeRec_of KX hcd) (hb _ _ _ _ ?_);refine wpAny_newFunctionEnv_cells S.kind hkind λenv he s1 x=>?_;subst he;refine⟨lim.keeps x.toInCall.keep,codeAny_func ?_⟩;obtain⟨t,ht,hq⟩:=hbody A outer s H vs Q E (hr.deeper _) hsp;have I:Inv (cxOf CX P w K mg base N qual scope f cdv A outer s H E) [] (start N vs) H s1:=inv_start S hr.hd e0 hl r x;refine wpAny_mono (ht [] s1 (start N vs) H _ I hq) (λfl s' hs=>?_) λe s' hs=>hs;have fin:∀{σ':St}{H':Hp}{v:V}{u:Value},Inv (cxOf CX P w K mg base N qual scope f cdv A outer s H E) [] σ' H' s'->RelV v u->Q v H'->CE outer P w H s Q u s':=
  λ{σ' H' v u} J rv q=>⟨v,H',J.os,J.bare,J.base,J.hok,rv,q⟩
 cases fl with
 | ret u=>
  obtain⟨v,σ',H',J,rv,q⟩:=hs;exact fin J rv q
 | next=>
  obtain⟨σ',H',J,q⟩:=hs;exact fin (v:=V.non) (u:=Value.none) J rfl q
 | brk=>
  obtain⟨_,_,_,q⟩:=hs;exact False.elim q
 | cont=>
  obtain⟨_,_,_,q⟩:=hs;exact False.elim q
section
variable{X:Cx}{x:Str}{p pos:Pos}{e:Expr}{es:List Expr}{t:TA}{id T:String}{r:List V->Hp->VK->Prop}
def tCB(r:List V->Hp->VK->Prop)(t:TA):TE:=λσ H Q=>t σ H λvs H1=>r vs H1 Q
theorem pe_callB(hc:CallR X (.builtin id) r)(hg:Gl X x)(hm:X.mg x=none)(hv:bootBuiltins x=some (.builtin id))(ha:PA X (e::es) t)(hn:x≠"__name__":=by decide)(hdb:(x==("__debug__":Str))=false:=by decide)
  (he:starEach (e::es) X.env=(false,eval e X.env)::starEach es X.env:=by rfl) (hpl:(backTo pos (starEach es X.env)).any (·.1)=false:=by rfl):PE X (.Call (.Name x p) (e::es) [] pos) (tCB r t):=by
 intro pins s σ H Q I h;refine wpAny_Call_Name_kw (ld_blt I hg hm hv ?_ hn hdb);exact PyProof.Rows.callWith_builtin1 (thn (ha pos pins s σ H _ I h) λus s1 ⟨vs,H1,I1,r1,q1⟩=>hc pins s1 σ H1 vs us Q I1 r1 q1) he hpl
theorem pe_callTy(hc:CallR X (.type T) r)(hg:Gl X x)(hm:X.mg x=none)(hv:bootBuiltins x=some (.type T))(ha:PA X (e::es) t)(hn:x≠"__name__":=by decide)(hdb:(x==("__debug__":Str))=false:=by decide)
  (he:starEach (e::es) X.env=(false,eval e X.env)::starEach es X.env:=by rfl) (hpl:(backTo pos (starEach es X.env)).any (·.1)=false:=by rfl):PE X (.Call (.Name x p) (e::es) [] pos) (tCB r t):=by
 intro pins s σ H Q I h;refine wpAny_Call_Name_kw (ld_blt I hg hm hv ?_ hn hdb);exact PyProof.Rows.callWith_type1 (thn (ha pos pins s σ H _ I h) λus s1 ⟨vs,H1,I1,r1,q1⟩=>hc pins s1 σ H1 vs us Q I1 r1 q1) he hpl
end
end L2
namespace HT
open PySem PyProof.Rows
def lexLt:List Int->List Int->Bool
 | [],[]=>false
 | [],_::_=>true
 | _::_,[]=>false
 | x::xs,y::ys=>if x=y then lexLt xs ys else decide (x<y)
theorem lexLt_cons(x y:Int)(xs ys:List Int):lexLt (x::xs) (y::ys)=if x=y then lexLt xs ys else decide (x<y):=rfl
theorem lexLt_nil_nil:lexLt [] []=false:=rfl
theorem lexLt_nil_cons(y:Int)(ys:List Int):lexLt [] (y::ys)=true:=rfl
theorem lexLt_cons_nil(x:Int)(xs:List Int):lexLt (x::xs) []=false:=rfl
section
open PySem.SeqAt
open PySem.AutoSeq1 (wpAny_loadPart')
open PySem.MeetsSeq PySem.MeetsSeq2 PySem.MeetsSeq3
end
section
variable{prog:Program}{w:World}{A:Around}{E:Value->Shared->Prop}{s:Shared}
def sIx(n d:Nat):Option Int->Nat
 | none=>d
 | some v=>if v<0 then (v+(n:Int)).toNat else min v.toNat n
end
end HT
namespace L2
open PySem PySem.Spec PyProof.Rows
abbrev TO:=St->Hp->(Option Int->Hp->Prop)->Prop
def PO(X:Cx)(e:Option Expr)(t:TO):Prop:=
 ∀(pins:List (Addr×Obj))(s:Shared)(σ:St)(H:Hp)(Q:Option Int->Hp->Prop),Inv X pins σ H s->t σ H Q →
  wpAny (model X.prog X.w) X.A (evalPart e X.env) (λu s'=>∃o H',Inv X pins σ H' s'/\IsPart u o/\Q o H') X.xe s
def tNoPart:TO:=λ_ H Q=>Q none H
def tPart(t:TE):TO:=λσ H Q=>t σ H λx H1=>∃i,x=.int i/\Q (some i) H1
theorem intsAre_of{ns:List Int}:∀{us:List Value},Vals (ns.map V.int) us->IntsAre us ns:=by
 induction ns with
 | nil=>intro us r;rw[List.map_nil] at r;cases r;exact .nil
 | cons n ns ih=>
  intro us r;rw[List.map_cons] at r;cases r with
  | cons r1 r2=>
   obtain⟨t,e⟩:=r1;subst e;exact .cons n t (ih r2)
section
variable{X:Cx}{e:Expr}{te:TE}{lo hi:Option Expr}{tl th:TO}{pos p2:Pos}
theorem po_none:PO X none tNoPart:=by
 intro pins s σ H Q I h;rw[evalPart_none];exact wpAny_pure ⟨none,H,I,.none,h⟩
theorem po_some(h:PE X e te):PO X (some e) (tPart te):=by
 intro pins s σ H Q I hw;rw[evalPart_some];refine thn (h pins s σ H _ I hw) λu s1 ⟨x,H1,I1,r1,q1⟩=>?_;obtain⟨i,rfl,q⟩:=q1;obtain⟨t,rfl⟩:=r1;exact⟨some i,H1,I1,.int i t,q⟩
def SlR(X:Cx)(r:V->Option Int->Option Int->Hp->VK->Prop):Prop:=
 ∀(pins:List (Addr×Obj))(s:Shared)(σ:St)(H:Hp)(x:V)(v vl vu:Value)(lo hi:Option Int)(sl:Addr)(Q:VK),Inv X pins σ H s->RelV x v->s.heap.IsSliceOf sl vl vu .none->IsPart vl lo->IsPart vu hi->r x lo hi H Q →
  ∃T id,typeLookup (.type T) "__getitem__"=pure (some (.builtin id))/\s.TypeIs v T/\wpAny (model X.prog X.w) X.A (getItem v (.ref sl)) (EP X pins σ Q) X.xe s
def tSl(r:V->Option Int->Option Int->Hp->VK->Prop)(te:TE)(tl th:TO):TE:=λσ H Q=>te σ H λx H1=>tl σ H1 λl H2=>th σ H2 λu H3=>r x l u H3 Q
theorem pe_slice{r:V->Option Int->Option Int->Hp->VK->Prop}(hr:SlR X r)(he:PE X e te)(hl:PO X lo tl)(hu:PO X hi th):PE X (.Subscript e (.Slice lo hi none p2) pos) (tSl r te tl th):=by
 intro pins s σ H Q I h;refine Subscript_ (thn (he pins s σ H _ I h) λv s1 ⟨x,H1,I1,r1,q1⟩=>?_);refine wpAny_Slice (thn (hl pins s1 σ H1 _ I1 q1) λvl s2 ⟨l,H2,I2,pl,q2⟩=>thn (hu pins s2 σ H2 _ I2 q2) λvu s3 ⟨u,H3,I3,pu,q3⟩=>?_);rw[evalPart_none];refine wpAny_pure ?_;have I4:Inv X pins σ H3 {s3 with heap:=s3.heap.push {cls:=.type "slice",data:=.fields #[vl,vu,.none]}}:=I3.kept (t':=s3.toks) λb ob q=>Heap.get?_push_of_some _ q;obtain⟨T,id,hT,ht,hg⟩:=hr pins {s3 with heap:=s3.heap.push {cls:=.type "slice",data:=.fields #[vl,vu,.none]}} σ H3 x v vl vu l u s3.heap.objs.size Q I4 r1 (Heap.IsSliceOf.new ..) pl pu q3;show wpAny (model X.prog X.w) X.A (subscriptTail e (.Slice lo hi none p2) v (.ref s3.heap.objs.size)) (EP X pins σ Q) X.xe {s3 with heap:=s3.heap.push {cls:=.type "slice",data:=.fields #[vl,vu,.none]}};exact tail_any (ops:=[.ref s3.heap.objs.size,v]) ht hT hg (by with_unfolding_all rfl)
def cutV(xs:List V)(lo hi:Option Int):List V:=(xs.drop (HT.sIx xs.length 0 lo)).take (HT.sIx xs.length xs.length hi-HT.sIx xs.length 0 lo)
theorem cutV_length(xs:List V)(lo hi:Option Int):(cutV xs lo hi).length<=xs.length:=by
 unfold cutV;rw[List.length_take,List.length_drop];omega
def rSlT(K:W.Frag):V->Option Int->Option Int->Hp->VK->Prop:=λx lo hi H Q=>∃a xs,x=.ref a/\SqT K H a xs ∧
 ¬(HT.sIx xs.length 0 lo=0/\HT.sIx xs.length xs.length hi=xs.length)/\∀p,H p=none->Q (.ref p) (upd H p (.tup (cutV xs lo hi)))
def rLtT(K:W.Frag):R2:=λx y H Q=>∃a b ns ms,x=.ref a/\y=.ref b/\SqT K H a (ns.map V.int)/\SqT K H b (ms.map V.int)/\Q (.bl (HT.lexLt ns ms)) H
def rCatT(K:W.Frag):R2:=λx y H Q=>∃a b xs ys,x=.ref a/\y=.ref b/\SqT K H a xs/\SqT K H b ys/\xs≠[]/\xs.length+ys.length<=sizeLine ∧
 (ys=[]->Q (.ref a) H)/\(ys≠[]->∀p,H p=none->Q (.ref p) (upd H p (.tup (xs++ys))))
end
def ixN(n:Nat)(i:Int):Option Nat:=if 0<=i then (if i<n then some i.toNat else none) else if -(n:Int)<=i then some (i+n).toNat else none
def atI{α:Type}(xs:List α)(i:Int):Option α:=(ixN xs.length i).bind λj=>xs[j]?
theorem ixN_seq{n:Nat}{i:Int}{j:Nat}(h:ixN n i=some j):seqIndex? i n=some j/\j<n/\-(n:Int)<=i/\i<n:=by
 unfold ixN at h;by_cases h0:0<=i
 .rw [if_pos h0] at h;by_cases h1:i<n
  .rw[if_pos h1] at h;have e:i.toNat=j:=Option.some.inj h;exact⟨by rw[seqIndex_of h0 h1,e],by omega,by omega,h1⟩
  .rw[if_neg h1] at h;cases h
 .rw [if_neg h0] at h;by_cases h1:-(n:Int)<=i
  .rw[if_pos h1] at h;have e:(i+n).toNat=j:=Option.some.inj h;exact⟨by rw[seqIndex_neg (by omega) h1,e],by omega,h1,by omega⟩
  .rw[if_neg h1] at h;cases h
theorem atI_get{α:Type}{xs:List α}{i:Int}{v:α}(h:atI xs i=some v):∃j,seqIndex? i xs.length=some j/\xs[j]?=some v/\j<xs.length/\-(xs.length:Int)<=i/\i<xs.length:=by
 unfold atI at h;cases e:ixN xs.length i with
 | none=>rw[e] at h;cases h
 | some j=>
  rw[e] at h;obtain⟨h1,h2,h3,h4⟩:=ixN_seq e;exact⟨j,h1,h,h2,h3,h4⟩
theorem atI_nat{α:Type}{xs:List α}{j:Nat}{v:α}(h:xs[j]?=some v):atI xs (j:Int)=some v:=by
 have hj:j<xs.length:=(List.getElem?_eq_some_iff.mp h).1;have e:ixN xs.length (j:Int)=some j:=by
  unfold ixN;rw[if_pos (by omega),if_pos (by omega)];simp
 unfold atI;rw[e];exact h
def PlainIx(b:Expr):Prop:=∀o i,subscripted b false o i=operate [o,i] (getItem o i)
def IxR(X:Cx)(r:R2):Prop:=
 ∀(value slice:Expr)(pins:List (Addr×Obj))(s:Shared)(σ:St)(H:Hp)(x y:V)(v u:Value)(Q:VK),Inv X pins σ H s->RelV x v->RelV y u->r x y H Q →
  subscripted slice false v u=operate [v,u] (getItem v u)->wpAny (model X.prog X.w) X.A (subscriptTail value slice v u) (EP X pins σ Q) X.xe s
def MtR(X:Cx)(id:String)(r:V->List V->Hp->VK->Prop):Prop:=
 ∀(pins:List (Addr×Obj))(s:Shared)(σ:St)(H:Hp)(x:V)(xs:List V)(v:Value)(us:List Value)(Q:VK),Inv X pins σ H s->RelV x v->Vals xs us->r x xs H Q →
  wpAny (model X.prog X.w) X.A (call (.builtin id) (v::us)) (EP X pins σ Q) X.xe s
section
variable{X:Cx}{a b:Expr}{ta tb:TE}{pos:Pos}
theorem pe_ix{r:R2}(hr:IxR X r)(ha:PE X a ta)(hb:PE X b tb)(hs:PlainIx b):PE X (.Subscript a b pos) (tOp r ta tb):=by
 intro pins s σ H Q I h;exact Subscript_ (binT ha hb I h λv u s2 x y H2 I2 rx ry q=>hr a b pins s2 σ H2 x y v u Q I2 rx ry q (hs _ _))
def rIxL(K:W.Frag):R2:=λx y H Q=>∃p xs i v,x=.ref p/\y=.int i/\SqL K H p xs/\atI xs i=some v/\Q v H
def rIxT(K:W.Frag):R2:=λx y H Q=>∃p xs i v,x=.ref p/\y=.int i/\SqT K H p xs/\atI xs i=some v/\Q v H
def rIxS:R2:=λx y H Q=>∃z i c,x=.str z/\y=.int i/\z.length<=sizeLine/\atI z.cps.toList i=some c/\Q (.str ⟨#[c]⟩) H
theorem ix_list:IxR X (rIxL X.K):=by
 intro value slice pins s σ H x y v u Q I rx ry h hs;obtain⟨p,xs,i,z,rfl,rfl,hq,he,q⟩:=h;cases rx;obtain⟨t,rfl⟩:=ry;obtain⟨its,r,pl,hz⟩:=I.list hq;obtain⟨j,h1,h2,h3,h4,h5⟩:=atI_get he;obtain⟨w,ew,rw'⟩:=r.get h2;have hl:=r.length;have hn:=line63;have fin:EP X pins σ Q w s:=⟨z,H,I,rw',q⟩;by_cases h0:0<=i
 .have hj:i.toNat=j:=by
   rw[seqIndex_of h0 h5] at h1;exact Option.some.inj h1
  exact item_listR pl.isList h0 (by omega) (by rw[hj];simpa using ew) fin hs
 .have hj:(i+(its.toArray.size:Int)).toNat=j:=by
   rw[seqIndex_neg (by omega) h4] at h1;rw[List.size_toArray,<-hl];exact Option.some.inj h1
  exact subscriptTail_builtinR (x:=w) pl.isList.typeIs slot_list_getitem.lookup
   (wpAny_getItem_list_neg (Q:=λr s'=>r=w/\EP X pins σ Q r s') pl.isList (by omega) (by rw[List.size_toArray]<;>omega) (by omega) (by rw[hj];simpa using ew) ⟨rfl,fin⟩) hs
theorem ix_tup:IxR X (rIxT X.K):=by
 intro value slice pins s σ H x y v u Q I rx ry h hs;obtain⟨p,xs,i,z,rfl,rfl,hq,he,q⟩:=h;cases rx;obtain⟨t,rfl⟩:=ry;obtain⟨its,r,pl,hz⟩:=I.tuple hq;obtain⟨j,h1,h2,h3,h4,h5⟩:=atI_get he;obtain⟨w,ew,rw'⟩:=r.get h2;have hl:=r.length;have hn:=line63;have fin:EP X pins σ Q w s:=⟨z,H,I,rw',q⟩;exact subscriptTail_builtinR (x:=w) pl.typeIs slot_tuple_getitem.lookup
  (getItem_tuple (j:=j) (Q:=λr s'=>r=w/\EP X pins σ Q r s') pl (by omega) (by omega) (by rw[List.size_toArray,<-hl];exact h1) (by simpa using ew) ⟨rfl,fin⟩) hs
def rIx(K:W.Frag):R2:=λx y H Q=>rIxL K x y H Q\/rIxT K x y H Q\/rIxS x y H Q
theorem mapSeq_set(its:List Value)(n j:Nat)(u:Value):Obj.mapSeq (·.setIfInBounds j u) {cls:=.type "list",data:=.seq its.toArray n}={cls:=.type "list",data:=.seq (its.set j u).toArray n}:=by
 simp[Obj.mapSeq]
theorem Inv.lst{pins:List (Addr×Obj)}{σ:St}{H:Hp}{s:Shared}{p:Addr}{xs:List V}(I:Inv X pins σ H s)(h:H p=some (.lst xs)) :
  ∃(its:List Value)(n:Nat),Vals xs its/\s.heap.get? p=some {cls:=.type "list",data:=.seq its.toArray n}/\xs.length<=sizeLine:=by
 obtain⟨z,its,n,r,e⟩:=I.hok p _ h;exact⟨its,n,r,e,z⟩
theorem Inv.lstUpd{pins:List (Addr×Obj)}{σ:St}{H:Hp}{s:Shared}{p:Addr}{xs ys:List V}{its its':List Value}{n n':Nat}{f:Obj->Obj}(I:Inv X pins σ H s)(h:H p=some (.lst xs))
  (ho:s.heap.get? p=some {cls:=.type "list",data:=.seq its.toArray n}) (hf:f {cls:=.type "list",data:=.seq its.toArray n}={cls:=.type "list",data:=.seq its'.toArray n'}) (r:Vals ys its') (hz:ys.length<=sizeLine) (t:Nat) :
  Inv X pins σ (upd H p (.lst ys)) {s with heap:=s.heap.update p f,toks:=t}:=by
 have e:(s.heap.update p f).get? p=some {cls:=.type "list",data:=.seq its'.toArray n'}:=by
  rw[Heap.get?_update_self f ho (by rw[hf]<;>rfl),hf]
 refine I.write (x:=p) (e:=p) (by rw[h];trivial) (.inl rfl) (λb u hb q=>(Heap.get?_update_other _ _ (Ne.symm hb)).trans q) ⟨_,e⟩ ?_;exact⟨hz,its',n',r,e⟩
def rSetL:V->V->V->Hp->(Hp->Prop)->Prop:=λo i v H Q=>∃p xs k j,o=.ref p/\i=.int k/\H p=some (.lst xs)/\ixN xs.length k=some j/\Q (upd H p (.lst (xs.set j v)))
theorem set_list:PSet X rSetL:=by
 intro pins s σ H o i v ov iv u Q I ro ri rv h;obtain⟨p,xs,k,j,rfl,rfl,hp,hj,q⟩:=h;cases ro;obtain⟨t,rfl⟩:=ri;obtain⟨its,n,r,ho,hz⟩:=I.lst hp;obtain⟨h1,h2,h3,h4⟩:=ixN_seq hj;have hl:=r.length;have hn:=line63;have I':Inv X pins σ (upd H p (.lst (xs.set j v))) {s with heap:=s.heap.update p (Obj.mapSeq (·.setIfInBounds j u))}:=
  I.lstUpd hp ho (mapSeq_set its n j u) (r.set rv j) (by rw[List.length_set];exact hz) s.toks
 by_cases h0:0<=k
 .have hk:k.toNat=j:=by
   rw[seqIndex_of h0 h4] at h1;exact Option.some.inj h1
  exact PySem.W.ki_setAt ho h0 (by omega) (by rw[List.size_toArray,<-hl];exact h4) (by rw[hk];exact⟨_,I',q⟩)
 .have hk:(k+(its.toArray.size:Int)).toNat=j:=by
   rw[seqIndex_neg (by omega) h3] at h1;rw[List.size_toArray,<-hl];exact Option.some.inj h1
  exact PySem.W.ki_setBack ho (by omega) (by rw[List.size_toArray,<-hl];exact h3) (by omega) (by rw[hk];exact⟨_,I',q⟩)
theorem slice_bounds(lo hi:Option Int)(n:Nat):(sliceBounds lo hi none n).1=((HT.sIx n 0 lo:Nat):Int)/\(sliceBounds lo hi none n).2.1=((HT.sIx n n hi:Nat):Int)/\(sliceBounds lo hi none n).2.2=1:=by
 refine⟨?_,?_,rfl⟩
 .cases lo with
  | none=>simp[sliceBounds,HT.sIx]
  | some i=>
   simp only[sliceBounds,HT.sIx,Option.getD_none,show(1:Int)>0 by decide,if_true];by_cases h:i<0
   .simp only[h,if_true]<;>omega
   .simp only[h,if_false]<;>omega
 .cases hi with
  | none=>simp[sliceBounds,HT.sIx]
  | some i=>
   simp only[sliceBounds,HT.sIx,Option.getD_none,show(1:Int)>0 by decide,if_true];by_cases h:i<0
   .simp only[h,if_true]<;>omega
   .simp only[h,if_false]<;>omega
theorem slicePick_cut(its:List Value)(lo hi:Option Int):slicePick its.toArray lo hi none=((its.drop (HT.sIx its.length 0 lo)).take (HT.sIx its.length its.length hi-HT.sIx its.length 0 lo)).toArray:=by
 obtain⟨h1,h2,h3⟩:=slice_bounds lo hi its.toArray.size;unfold slicePick;rw[h1,h2,h3];simp only[sliceRange_one,pick_run,List.size_toArray]<;>rfl
def rSlL(K:W.Frag):V->Option Int->Option Int->Hp->VK->Prop:=λx lo hi H Q=>∃a xs,x=.ref a/\SqL K H a xs/\∀p,H p=none->Q (.ref p) (upd H p (.lst (cutV xs lo hi)))
theorem sl_list:SlR X (rSlL X.K):=by
 intro pins s σ H x v vl vu lo hi sl Q I rx hs pl pu h;obtain⟨a,xs,rfl,hx,q⟩:=h;cases rx;obtain⟨its,r,ht,hz⟩:=I.list hx;have hlen:=r.length;refine⟨"list",_,slot_list_getitem.lookup,ht.isList.typeIs,?_⟩;refine wpAny_getItem_list_slice ht.isList hs pl pu .none (by simp) ?_ (by rw[List.size_toArray]<;>omega);rw[slicePick_cut,<-hlen];refine⟨.ref s.heap.objs.size,_,I.laid (t':=s.toks) (o:=.lst (cutV xs lo hi)) (λb ob q=>Heap.get?_push_of_some _ q) (Nat.le_refl _) ?_,rfl,q _ (I.hok.fresh (Nat.le_refl _))⟩;exact⟨Nat.le_trans (cutV_length xs lo hi) hz,_,0,(r.drop (HT.sIx xs.length 0 lo)).take (HT.sIx xs.length xs.length hi-HT.sIx xs.length 0 lo),Heap.get?_push_size _ rfl⟩
def flatV:V->Bool
 | .non=>true
 | .bl _=>true
 | .int _=>true
 | .str _=>true
 | _=>false
def eqV:V->V->Bool
 | .non,.non=>true
 | .bl a,.bl b=>a==b
 | .bl a,.int b=>(if a then 1 else 0)==b
 | .int a,.bl b=>a==(if b then 1 else 0)
 | .int a,.int b=>a==b
 | .str a,.str b=>a==b
 | _,_=>false
theorem eqAt_V{A:Around}{s:Shared}{y x:V}{u v:Value}(ry:RelV y u)(rx:RelV x v)(fy:flatV y=true)(fx:flatV x=true):SeqAt.EqAt A s u v (eqV y x):=by
 cases y with
 | non=>
  cases ry;cases x with
  | non=>cases rx;exact SeqAt.EqAt.same _
  | bl b=>cases rx;exact SeqAt.EqAt.none_bool b
  | int b=>obtain⟨t,rfl⟩:=rx;exact SeqAt.EqAt.none_int b t
  | str b=>obtain⟨t,rfl⟩:=rx;exact SeqAt.EqAt.none_str b t
  | _=>exact absurd (show false=true from fx) Bool.false_ne_true
 | bl a=>
  cases ry;cases x with
  | non=>cases rx;exact SeqAt.EqAt.bool_none a
  | bl b=>cases rx;exact SeqAt.EqAt.bool_bool a b
  | int b=>obtain⟨t,rfl⟩:=rx;exact SeqAt.EqAt.bool_int a b t
  | str b=>obtain⟨t,rfl⟩:=rx;exact SeqAt.EqAt.bool_str a b t
  | _=>exact absurd (show false=true from fx) Bool.false_ne_true
 | int a=>
  obtain⟨t',rfl⟩:=ry;cases x with
  | non=>cases rx;exact SeqAt.EqAt.int_none a t'
  | bl b=>cases rx;exact SeqAt.EqAt.int_bool a t' b
  | int b=>obtain⟨t,rfl⟩:=rx;exact SeqAt.EqAt.int_int a t' b t
  | str b=>obtain⟨t,rfl⟩:=rx;exact SeqAt.EqAt.int_str a t' b t
  | _=>exact absurd (show false=true from fx) Bool.false_ne_true
 | str a=>
  obtain⟨t',rfl⟩:=ry;cases x with
  | non=>cases rx;exact SeqAt.EqAt.str_none a t'
  | bl b=>cases rx;exact SeqAt.EqAt.str_bool a t' b
  | int b=>obtain⟨t,rfl⟩:=rx;exact SeqAt.EqAt.str_int a t' b t
  | str b=>obtain⟨t,rfl⟩:=rx;exact SeqAt.EqAt.str_str a t' b t
  | _=>exact absurd (show false=true from fx) Bool.false_ne_true
 | _=>exact absurd (show false=true from fy) Bool.false_ne_true
def eqU(x:V)(u:Value):Bool:=match u with
 | .none=>eqV .non x
 | .bool b=>eqV (.bl b) x
 | .int i _=>eqV (.int i) x
 | .str z _=>eqV (.str z) x
 | _=>false
theorem eqU_of{x y:V}{u:Value}(r:RelV y u)(f:flatV y=true):eqU x u=eqV y x:=by
 cases y with
 | non=>cases r;rfl
 | bl b=>cases r;rfl
 | int i=>obtain⟨t,rfl⟩:=r;rfl
 | str z=>obtain⟨t,rfl⟩:=r;rfl
 | _=>exact absurd (show false=true from f) Bool.false_ne_true
theorem any_eqU{x:V}:∀{xs:List V}{us:List Value},Vals xs us->xs.all flatV=true->us.any (eqU x)=xs.any λy=>eqV y x
 | _,_,.nil,_=>rfl
 | y::xs,u::us,.cons r t,f=>by
  rw[List.all_cons,Bool.and_eq_true] at f;rw[List.any_cons,List.any_cons,eqU_of r f.1,any_eqU t f.2]
theorem mem_eqAt{A:Around}{s:Shared}{x:V}{v:Value}(rx:RelV x v)(fx:flatV x=true):∀{xs:List V}{us:List Value},Vals xs us->xs.all flatV=true->∀u∈us,SeqAt.EqAt A s u v (eqU x u)
 | _,_,.nil,_=>λu hu=>by cases hu
 | y::xs,u::us,.cons r t,f=>λu' hu=>by
  rw[List.all_cons,Bool.and_eq_true] at f;rcases List.mem_cons.mp hu with rfl|hu
  .rw[eqU_of r f.1];exact eqAt_V r rx f.1 fx
  .exact mem_eqAt rx fx t f.2 u' hu
def inV(x:V)(xs:List V):Bool:=xs.any λy=>eqV y x
def rIn(K:W.Frag)(neg:Bool):R2:=λx y H Q=>∃p xs,y=.ref p/\(SqL K H p xs\/SqT K H p xs)/\flatV x=true/\xs.all flatV=true/\Q (.bl (if neg then !inV x xs else inV x xs)) H
theorem op_in_seq:OpR X (compareOp .In) (rIn X.K false):=by
 intro pins s σ H x y v u Q I rx ry h;obtain⟨p,xs,rfl,hq,fx,fs,q⟩:=h;cases ry;rcases hq with hq|hq
 .obtain⟨its,r,pl,hz⟩:=I.list hq;refine SeqAt.in_listAt (eqU x) pl.isList (λw hw=>mem_eqAt rx fx r fs w (by simpa using hw)) ⟨.bl _,H,I,rfl,?_⟩;rw[show its.toArray.any (eqU x)=its.any (eqU x) by simp,any_eqU r fs];exact q
 .obtain⟨its,r,pl,hz⟩:=I.tuple hq;refine SeqAt.in_tupleAt (eqU x) pl (λw hw=>mem_eqAt rx fx r fs w (by simpa using hw)) ⟨.bl _,H,I,rfl,?_⟩;rw[show its.toArray.any (eqU x)=its.any (eqU x) by simp,any_eqU r fs];exact q
theorem op_notIn_seq:OpR X (compareOp .NotIn) (rIn X.K true):=by
 intro pins s σ H x y v u Q I rx ry h;obtain⟨p,xs,rfl,hq,fx,fs,q⟩:=h;cases ry;rcases hq with hq|hq
 .obtain⟨its,r,pl,hz⟩:=I.list hq;refine SeqAt.notIn_listAt (eqU x) pl.isList (λw hw=>mem_eqAt rx fx r fs w (by simpa using hw)) ⟨.bl _,H,I,rfl,?_⟩;rw[show its.toArray.any (eqU x)=its.any (eqU x) by simp,any_eqU r fs];exact q
 .obtain⟨its,r,pl,hz⟩:=I.tuple hq;refine SeqAt.notIn_tupleAt (eqU x) pl (λw hw=>mem_eqAt rx fx r fs w (by simpa using hw)) ⟨.bl _,H,I,rfl,?_⟩;rw[show its.toArray.any (eqU x)=its.any (eqU x) by simp,any_eqU r fs];exact q
theorem call_len_seq:CallR X (.builtin "len") (λxs H Q=>∃p ys,xs=[.ref p]/\(SqL X.K H p ys\/SqT X.K H p ys)/\Q (.int ys.length) H):=by
 intro pins s σ H xs us Q I r h;obtain⟨p,ys,rfl,hq,q⟩:=h;obtain⟨u,rfl,rx⟩:=vals1 r;cases rx;have hn:=line63;rcases hq with hq|hq
 .obtain⟨its,r',pl,hz⟩:=I.list hq;have hlen:=r'.length;exact Calls.call_len_list pl.isList (by simp only[List.size_toArray]<;>omega) ⟨.int ys.length,H,I.tok _,⟨s.toks+1,by rw[List.size_toArray,hlen]⟩,q⟩
 .obtain⟨its,r',pl,hz⟩:=I.tuple hq;have hlen:=r'.length;exact len_tuple pl (by simp only[List.size_toArray]<;>omega) ⟨.int ys.length,H,I.tok _,⟨s.toks+1,by rw[List.size_toArray,hlen]⟩,q⟩
theorem call_list_of:CallR X (.type "list") (λxs H Q=>∃p ys,xs=[.ref p]/\(SqL X.K H p ys\/SqT X.K H p ys)/\∀l,H l=none->Q (.ref l) (upd H l (.lst ys))):=by
 intro pins s σ H xs us Q I r h;obtain⟨p,ys,rfl,hq,q⟩:=h;obtain⟨u,rfl,rx⟩:=vals1 r;cases rx;have fin:∀(its:List Value),Vals ys its->ys.length<=sizeLine->∀(h':Heap)(c':Nat),(∀b o',s.heap.get? b=some o'->h'.get? b=some o') →
   h'.get? s.heap.objs.size=some {cls:=.type "list",dict:=none,data:=.seq its.toArray c',slots:=#[]}->EP X pins σ Q (.ref s.heap.objs.size) {s with heap:=h'}:=λits r' hz h' c' kp e=>
  ⟨.ref s.heap.objs.size,_,I.laid (t':=s.toks) kp (Nat.le_refl _) (show ObjOk X.prog X.w _ h' _ (.lst ys) from⟨hz,its,c',r',e⟩),rfl,q _ (I.hok.fresh (Nat.le_refl _))⟩
 rcases hq with hq|hq
 .obtain⟨its,r',pl,hz⟩:=I.list hq;have hlen:=r'.length;obtain⟨o,ho,hc,n,hd⟩:=pl.isList;exact call_list_seq p (.inl rfl) ho hc hd (λh' c' kp e=>fin its r' hz h' c' kp e) (by simp only[List.size_toArray]<;>omega)
 .obtain⟨its,r',pl,hz⟩:=I.tuple hq;have hlen:=r'.length;obtain⟨o,ho,hc,n,hd⟩:=pl;exact call_list_seq p (.inr rfl) ho hc hd (λh' c' kp e=>fin its r' hz h' c' kp e) (by simp only[List.size_toArray]<;>omega)
def tyV(K:W.Frag)(T:String)(x:V)(H:Hp):Prop:=match x with
 | .str _=>T="str"
 | .int _=>T="int"
 | .ref p=>(T="list"/\∃xs,SqL K H p xs)\/(T="tuple"/\∃o,K.lookup p=some o/\o.cls=.type "tuple"/\o.dict=none) ∨
   (T="dict"/\((∃kvs,H p=some (.dK kvs))\/∃kvs,H p=some (.dT kvs)))\/(T="set"/\∃S n,H p=some (.set S n))
 | _=>False
theorem tyV_is{pins:List (Addr×Obj)}{σ:St}{H:Hp}{s:Shared}{T:String}{x:V}{v:Value}(I:Inv X pins σ H s)(r:RelV x v)(ty:tyV X.K T x H) :
  s.TypeIs v T/\∀a,v=.ref a->∃ob,s.heap.get? a=some ob/\ob.dict=none:=by
 cases x with
 | str z=>
  obtain⟨t,rfl⟩:=r;cases(show T="str" from ty);exact⟨typeIs_str s z t,λ_ e=>nomatch e⟩
 | int i=>
  obtain⟨t,rfl⟩:=r;cases(show T="int" from ty);exact⟨typeIs_int s i t,λ_ e=>nomatch e⟩
 | ref p=>
  cases r;rcases ty with⟨rfl,xs,hq⟩|⟨rfl,o,hk,hc,hd⟩|⟨rfl,hk⟩|⟨rfl,S,n,hk⟩
  .obtain⟨its,_,pl,_⟩:=I.list hq;refine⟨pl.isList.typeIs,λa e=>?_⟩;cases e;obtain⟨o,n,e,c,hd,_⟩:=pl;exact⟨o,e,hd⟩
  .refine⟨⟨o,I.kIn p o hk,hc⟩,λa e=>?_⟩;cases e;exact⟨o,I.kIn _ o hk,hd⟩
  .have z:∃o,s.heap.get? p=some o/\o.ExactDict:=by
    rcases hk with⟨kvs,hk⟩|⟨kvs,hk⟩
    .obtain⟨_,_,_,_,o,_,_,e,ex,_⟩:=I.hok p _ hk;exact⟨o,e,ex⟩
    .obtain⟨_,_,_,_,o,_,_,e,ex,_⟩:=I.hok p _ hk;exact⟨o,e,ex⟩
   obtain⟨o,e,ex⟩:=z;refine⟨⟨o,e,ex.1⟩,λa e2=>?_⟩;cases e2;exact⟨o,e,ex.2.1⟩
  .obtain⟨o,_,_,_,e,ex,_⟩:=I.hok p _ hk;refine⟨⟨o,e,ex.1⟩,λa e2=>?_⟩;cases e2;exact⟨o,e,ex.2.1⟩
 | _=>exact False.elim ty
def tBM0(K:W.Frag)(T:String)(r:V->List V->Hp->VK->Prop)(to:TE):TE:=λσ H Q=>to σ H λx H1=>tyV K T x H1/\r x [] H1 Q
def tBM(K:W.Frag)(T:String)(r:V->List V->Hp->VK->Prop)(to:TE)(t:TA):TE:=λσ H Q=>to σ H λx H1=>tyV K T x H1/\t σ H1 λxs H2=>r x xs H2 Q
variable{o e:Expr}{es:List Expr}{to:TE}{t:TA}{name:Str}{apos cpos:Pos}{T id:String}{r:V->List V->Hp->VK->Prop}
theorem pe_bm(pa:PlainAttrs T)(slot:Slot T name id)(hty:typeOf (.builtin id)=pure (.type "method_descriptor"))(hm:MtR X id r)(ho:PE X o to)(ha:PA X (e::es) t)
  (hbase:attributeBase o name X.env (eval o X.env)=eval o X.env:=by rfl)
  (hfew:((backTo cpos (starEach (e::es) X.env)).all (λx=>!x.1)&&(backToKw cpos (keywordEach [] X.env)).all (λx=>x.1.isSome)
  &&decide ((e::es).length+([]:List Keyword).length+(if ([]:List Keyword).isEmpty then 0 else 1)<30))=true:=by rfl)
  (hline:(apos.endLine==cpos.line)=true:=by rfl) (hs:starEach (e::es) X.env=(false,eval e X.env)::starEach es X.env:=by rfl) (hplain:(backTo cpos (starEach es X.env)).any (·.1)=false:=by rfl) :
  PE X (.Call (.Attribute o name apos) (e::es) [] cpos) (tBM X.K T r to t):=by
 intro pins s σ H Q I h;refine wpAny_Call_method_late hbase hfew hline rfl (thn (ho pins s σ H _ I h) λv s1 ⟨x,H1,I1,r1,ty,q1⟩=>?_);obtain⟨h1,h2⟩:=tyV_is I1 r1 ty;refine⟨T,id,pa,slot,hty,h1,h2,?_⟩;have hA:=ha cpos pins s1 σ H1 _ I1 q1;rw[hs] at hA ⊢;refine Calls.callWith_builtin (by show(false||(backTo cpos (starEach es X.env)).any (·.1))=false;rw[hplain]<;>rfl) (Calls.evalArgs_plain ?_);exact thn hA λus s2 ⟨vs,H2,I2,r2,q2⟩=>hm pins s2 σ H2 x vs v us Q I2 r1 r2 q2
/- xs.append(e),list.index on a module's tuple .. are MtR facts of 06m -/
end
def MtM(X:Cx)(id:String)(r:V->List V->Hp->VK->Prop):Prop:=
 ∀(pins:List (Addr×Obj))(s:Shared)(σ:St)(H:Hp)(x:V)(xs:List V)(v:Value)(us:List Value)(Q:VK),Inv X pins σ H s->RelV x v->Vals xs us->r x xs H Q →
  wpAny (model X.prog X.w) X.A (call (.builtin id) (v::us)) (EP X pins σ Q) X.xe s
theorem Vals.nilE{us:List Value}(h:Vals [] us):us=[]:=by
 cases us with
 | nil=>rfl
 | cons u us=>exact absurd h.length (by simp)
theorem Vals.hd{x:V}{xs:List V}{us:List Value}(h:Vals (x::xs) us):∃u vs,us=u::vs/\RelV x u/\Vals xs vs:=by
 have k:∀ys us,Vals ys us->ys=x::xs->∃u vs,us=u::vs/\RelV x u/\Vals xs vs:=λys us h=>by
  induction h with
  | nil=>exact λe=>nomatch e
  | cons r t _=>exact λe=>by injection e with e1 e2;subst e1 e2;exact⟨_,_,rfl,r,t⟩
 exact k _ _ h rfl
theorem Vals.one{x:V}{us:List Value}(h:Vals [x] us):∃u,us=[u]/\RelV x u:=by
 obtain⟨u,vs,e,r,t⟩:=Vals.hd h;exact⟨u,by rw[e,Vals.nilE t],r⟩
theorem Vals.two{x y:V}{us:List Value}(h:Vals [x,y] us):∃u v,us=[u,v]/\RelV x u/\RelV y v:=by
 obtain⟨u,vs,e,r,t⟩:=Vals.hd h;obtain⟨v,e',q⟩:=Vals.one t;exact⟨u,v,by rw[e,e'],r,q⟩
theorem Vals.eraseIdx:∀{xs:List V}{us:List Value}(i:Nat),Vals xs us->Vals (xs.eraseIdx i) (us.eraseIdx i)
 | _,_,_,.nil=>.nil
 | _,_,0,.cons _ t=>t
 | _,_,i+1,.cons r t=>.cons r (Vals.eraseIdx i t)
theorem Vals.reverse{xs:List V}{us:List Value}(h:Vals xs us):Vals xs.reverse us.reverse:=by
 induction h with
 | nil=>exact .nil
 | cons r t ih=>rw[List.reverse_cons,List.reverse_cons];exact Vals.append ih (.cons r .nil)
theorem Vals.rep{xs:List V}{us:List Value}(h:Vals xs us):∀k:Nat,Vals (List.replicate k xs).flatten (List.replicate k us).flatten
 | 0=>.nil
 | k+1=>by
  rw[List.replicate_succ,List.replicate_succ,List.flatten_cons,List.flatten_cons];exact Vals.append h (Vals.rep h k)
theorem len_erase{α:Type}:∀(l:List α)(i:Nat),(l.eraseIdx i).length<=l.length
 | [],_=>Nat.le_refl _
 | _::_,0=>Nat.le_succ _
 | _::r,i+1=>Nat.succ_le_succ (len_erase r i)
theorem foldl_rep(its:List Value):∀(k:Nat)(acc:List Value),
  List.foldl (λx1 x2=>x1++x2) acc.toArray (List.replicate k its.toArray)=(acc++(List.replicate k its).flatten).toArray
 | 0,acc=>by simp
 | k+1,acc=>by
  have e:acc.toArray++its.toArray=(acc++its).toArray:=by simp
  have e2:(acc++its)++(List.replicate k its).flatten=acc++(List.replicate (k+1) its).flatten:=by
   rw[List.replicate_succ,List.flatten_cons,List.append_assoc]
  rw[<-e2,<-foldl_rep its k (acc++its),<-e,List.replicate_succ,List.foldl_cons]
section
variable{X:Cx}{pins:List (Addr×Obj)}{σ:St}{H:Hp}{s:Shared}{l b:Addr}{xs ys zs:List V}
theorem Inv.lset{its its':List Value}{n:Nat}{f:Array Value->Array Value}{t':Nat}(I:Inv X pins σ H s)(hH:H l=some (.lst xs))
  (e:s.heap.get? l=some {cls:=.type "list",data:=.seq its.toArray n}) (hf:f its.toArray=its'.toArray) (hv:Vals ys its') (hz:ys.length<=sizeLine) :
  Inv X pins σ (upd H l (.lst ys)) {s with heap:=s.heap.update l (Obj.mapSeq f),toks:=t'}:=by
 have q:=PySem.IsL.update e f;rw[hf] at q;refine I.write (x:=l) (e:=l) (by rw[hH];exact trivial) (.inl rfl) (λb' u hb hu=>(Heap.get?_update_other s.heap (Obj.mapSeq f) (Ne.symm hb)).trans hu) ⟨_,q⟩ ?_;exact⟨hz,its',_,hv,q⟩
theorem Inv.lnew{its:List Value}{t':Nat}(I:Inv X pins σ H s)(hv:Vals ys its)(hz:ys.length<=sizeLine) :
  Inv X pins σ (upd H s.heap.objs.size (.lst ys)) {s with heap:=s.heap.push {cls:=.type "list",data:=.seq its.toArray},toks:=t'}:=
 I.laid (λ_ _ q=>Heap.get?_push_of_some _ q) (Nat.le_refl _) ⟨hz,its,0,hv,Heap.get?_push_size _ rfl⟩
theorem Inv.fresh(I:Inv X pins σ H s):H s.heap.objs.size=none:=I.hok.fresh (Nat.le_refl _)
theorem Inv.lstM(I:Inv X pins σ H s)(hH:H l=some (.lst xs)):xs.length<=sizeLine/\∃(its:List Value)(n:Nat),Vals xs its/\xs.length=its.length/\s.heap.get? l=some {cls:=.type "list",data:=.seq its.toArray n}:=by
 obtain⟨z,its,n,r,e⟩:=I.hok l _ hH;exact⟨z,its,n,r,r.length,e⟩
theorem notLongL{n:Nat}(h:n<=sizeLine):Builtin.List.listTooLong n=false:=by
 unfold Builtin.List.listTooLong;exact decide_eq_false (by omega)
end
section
variable{X:Cx}
def rAppend:V->List V->Hp->VK->Prop:=λx vs H Q=>∃l xs y,x=.ref l/\vs=[y]/\H l=some (.lst xs)/\xs.length<sizeLine/\Q .non (upd H l (.lst (xs++[y])))
theorem mt_append:MtM X "list.append" rAppend:=by
 intro pins s σ H x vs v us Q I rx rv h;obtain⟨l,xs,y,rfl,rfl,hH,hz,q⟩:=h;cases rx;obtain⟨u,rfl,ru⟩:=rv.one;obtain⟨z,its,n,r,hl,e⟩:=I.lstM hH;refine call_meets F.slot_list_append ⟨_,e,rfl⟩ F.entry_list_append (F.args_list_append_2 _ _) (PySem.list_append l its.toArray n u (by rw[List.size_toArray];omega)) ⟨e,?_⟩;refine⟨.non,_,I.lset (its':=its++[u]) hH e (by simp) (r.append (.cons ru .nil)) ?_,rfl,q⟩;rw[List.length_append,List.length_singleton];omega
def rExtend:V->List V->Hp->VK->Prop:=λx vs H Q=>∃l b xs zs,x=.ref l/\vs=[.ref b]/\H l=some (.lst xs)/\H b=some (.lst zs)/\xs.length+zs.length<=sizeLine/\Q .non (upd H l (.lst (xs++zs)))
theorem mt_extend:MtM X "list.extend" rExtend:=by
 intro pins s σ H x vs v us Q I rx rv h;obtain⟨l,b,xs,zs,rfl,rfl,hH,hB,hz,q⟩:=h;cases rx;obtain⟨u,rfl,ru⟩:=rv.one;cases ru;obtain⟨z,its,n,r,hl,e⟩:=I.lstM hH;obtain⟨z2,its2,n2,r2,hl2,e2⟩:=I.lstM hB;have hsz:its.toArray.size+its2.toArray.size<=sizeLine:=by rw[List.size_toArray,List.size_toArray];omega
 have hlong:¬(!its.toArray.isEmpty&&Builtin.List.listTooLong (its.toArray.size+its2.toArray.size))=true:=by
  rw[notLongL hsz,Bool.and_false];exact Bool.false_ne_true
 refine call_meets F.slot_list_extend ⟨_,e,rfl⟩ F.entry_list_extend (F.args_list_extend_2 _ _)
  (AutoSeq1.list_extend_list_list_0 l its.toArray n b its2.toArray n2 hlong (by rw[List.size_toArray];omega) (by omega)) ⟨e,e2,?_⟩
 refine⟨.non,_,I.lset (its':=its++its2) hH e (by simp) (r.append r2) ?_,rfl,q⟩;rw[List.length_append];omega
def rPop:V->List V->Hp->VK->Prop:=λx vs H Q=>∃l xs y,x=.ref l/\vs=[]/\H l=some (.lst xs)/\xs[xs.length-1]?=some y/\Q y (upd H l (.lst xs.dropLast))
def rPopAt:V->List V->Hp->VK->Prop:=λx vs H Q=>∃l xs i k y,x=.ref l/\vs=[.int i]/\H l=some (.lst xs)/\-(2 ^ 63)<=i/\i<2 ^ 63/\seqIndex? i xs.length=some k/\xs[k]?=some y/\Q y (upd H l (.lst (xs.eraseIdx k)))
theorem mt_popAt:MtM X "list.pop" rPopAt:=by
 intro pins s σ H x vs v us Q I rx rv h;obtain⟨l,xs,i,k,y,rfl,rfl,hH,h1,h2,hk,hy,q⟩:=h;cases rx;obtain⟨u,rfl,ru⟩:=rv.one;obtain⟨t,rfl⟩:=ru;obtain⟨z,its,n,r,hl,e⟩:=I.lstM hH;obtain⟨w,hw,rw'⟩:=r.get hy;refine call_meets F.slot_list_pop ⟨_,e,rfl⟩ F.entry_list_pop (F.args_list_pop_2 _ _)
  (MeetsSeq.list_pop_at l its.toArray n i t k w (fitsIndex_both h1 h2) (by rw[List.size_toArray,<-hl];exact hk) (by rw[<-Array.getElem?_toList];exact hw) (by rw[List.size_toArray];omega)) ⟨e,?_⟩
 refine⟨y,_,I.lset (its':=its.eraseIdx k) hH e ?_ (r.eraseIdx k) ?_,rw',q⟩
 .show its.toArray.eraseIdxIfInBounds k=(its.eraseIdx k).toArray;rw[List.eraseIdxIfInBounds_toArray]
 .have:=len_erase xs k;omega
def rReverse:V->List V->Hp->VK->Prop:=λx vs H Q=>∃l xs,x=.ref l/\vs=[]/\H l=some (.lst xs)/\Q .non (upd H l (.lst xs.reverse))
def rClear:V->List V->Hp->VK->Prop:=λx vs H Q=>∃l xs,x=.ref l/\vs=[]/\H l=some (.lst xs)/\Q .non (upd H l (.lst []))
def rCat:R2:=λx y H Q=>∃l b xs zs,x=.ref l/\y=.ref b/\H l=some (.lst xs)/\H b=some (.lst zs)/\xs.length+zs.length<=sizeLine/\∀p,H p=none->Q (.ref p) (upd H p (.lst (xs++zs)))
theorem op_cat:OpR X (binaryOp .Add) rCat:=by
 intro pins s σ H x y v u Q I rx ry h;obtain⟨l,b,xs,zs,rfl,rfl,hH,hB,hz,q⟩:=h;cases rx;cases ry;obtain⟨z,its,n,r,hl,e⟩:=I.lstM hH;obtain⟨z2,its2,n2,r2,hl2,e2⟩:=I.lstM hB;refine PySem.P.add_list e e2 ?_ (by rw[List.size_toArray,List.size_toArray];omega);have ea:its.toArray++its2.toArray=(its++its2).toArray:=by simp
 rw[ea];exact⟨.ref _,_,I.lnew (t':=s.toks) (r.append r2) (by rw[List.length_append];omega),rfl,q _ I.fresh⟩
def rRep:R2:=λx y H Q=>∃l k xs,x=.ref l/\y=.int k/\H l=some (.lst xs)/\-(2 ^ 63)<=k/\k<2 ^ 63/\xs.length*k.toNat<=sizeLine ∧
 ∀p,H p=none->Q (.ref p) (upd H p (.lst (List.replicate k.toNat xs).flatten))
theorem len_rep{α:Type}(xs:List α)(k:Nat):(List.replicate k xs).flatten.length=k*xs.length:=by
 induction k with
 | zero=>simp
 | succ k ih=>rw[List.replicate_succ,List.flatten_cons,List.length_append,ih,Nat.succ_mul,Nat.add_comm]
theorem op_rep:OpR X (binaryOp .Mult) rRep:=by
 intro pins s σ H x y v u Q I rx ry h;obtain⟨l,k,xs,rfl,rfl,hH,h1,h2,hz,q⟩:=h;cases rx;obtain⟨t,rfl⟩:=ry;obtain⟨z,its,n,r,hl,e⟩:=I.lstM hH;have hlen:its.toArray.size*k.toNat<=sizeLine:=by rw[List.size_toArray,<-hl];exact hz
 have hcap:¬its.toArray.size*k.toNat>(2 ^ 63-1) / 8:=by
  have:(sizeLine:Nat)<=(2 ^ 63-1) / 8:=by decide
  omega
 have hfit:¬(!Builtin.List.listFitsIndex k)=true:=by
  rw[fitsIndex_both h1 h2];exact Bool.false_ne_true
 have hlong:¬Builtin.List.listTooLong (its.toArray.size*k.toNat)=true:=by
  rw[notLongL hlen];exact Bool.false_ne_true
 have hnew:List.foldl (λx1 x2=>x1++x2) #[] (List.replicate (if its.toArray.isEmpty=true then 0 else k.toNat) its.toArray)=(List.replicate k.toNat its).flatten.toArray:=by
  have f0:∀m:Nat,List.foldl (λx1 x2=>x1++x2) #[] (List.replicate m its.toArray)=(List.replicate m its).flatten.toArray:=λm=>by
   have:=foldl_rep its m [];rw[List.nil_append] at this;exact this
  rw[f0];cases its with
  | nil=>simp
  | cons a r'=>rw[if_neg (by simp)]
 refine wpAny_binaryOp_repeat_ref (T:="list") (U:="int") (by decide) ⟨_,e,rfl⟩ (λs'=>typeIs_int s' k t) noFill_list_mul F.fills_int_mul F.slot_int_rmul repeat_list F.slot_int_index.lookup
  (call_meets F.slot_int_rmul (typeIs_int s k t) F.entry_int_rmul (F.args_int_rmul_2 _ _) (int___rmul___int_list k t l its.toArray n)
   ⟨e,rfl,⟨_,e,rfl⟩,call_meets F.slot_list_mul ⟨_,e,rfl⟩ F.entry_list_mul (F.args_list_mul_2 _ _) (AutoListH.list___mul___list_int_3 l its.toArray n k t hfit hcap hlong) ⟨e,?_⟩⟩)
 rw[hnew];exact⟨.ref _,_,I.lnew (t':=s.toks) (r.rep k.toNat) (by rw[len_rep,Nat.mul_comm];exact hz),rfl,q _ I.fresh⟩
end
section
variable{prog:Program}{w:World}{A:Around}{E:Value->Shared->Prop}{s:Shared}
end
section
variable{X:Cx}
end
section
variable{κ:Type}[DecidableEq κ]
def valV(kvs:List (κ×V))(k:κ):Option V:=(kvs.find? λkv=>decide (kv.1=k)).map (·.2)
def putK(kvs:List (κ×V))(k:κ)(v:V):List (κ×V):=
 if (kvs.any λkv=>decide (kv.1=k))=true then kvs.map (λkv=>if kv.1=k then (kv.1,v) else kv) else kvs++[(k,v)]
def dropK(kvs:List (κ×V))(k:κ):List (κ×V):=kvs.filter λkv=>decide (kv.1≠k)
theorem valV_nil{k:κ}:valV ([]:List (κ×V)) k=none:=rfl
theorem valV_pos{p:κ×V}{r:List (κ×V)}{k:κ}(e:p.1=k):valV (p::r) k=some p.2:=by simp[valV,List.find?_cons,e]
theorem valV_neg{p:κ×V}{r:List (κ×V)}{k:κ}(e:¬p.1=k):valV (p::r) k=valV r k:=by simp[valV,List.find?_cons,e]
theorem valV_any(k:κ):∀kvs:List (κ×V),(kvs.any λkv=>decide (kv.1=k))=(valV kvs k).isSome
 | []=>rfl
 | p::r=>by
  rw[List.any_cons];by_cases e:p.1=k
  .simp only[valV_pos e,decide_eq_true e,Bool.true_or,Option.isSome_some]
  .rw[valV_neg e,decide_eq_false e,Bool.false_or];exact valV_any k r
theorem valV_map(k j:κ)(y:V):∀kvs:List (κ×V),valV (kvs.map λkv=>if kv.1=k then (kv.1,y) else kv) j=(valV kvs j).map λx=>if j=k then y else x
 | []=>rfl
 | p::r=>by
  have ih:=valV_map k j y r;rw[List.map_cons];by_cases h:p.1=k
  .rw[if_pos h];by_cases e:p.1=j
   .rw[valV_pos (p:=(p.1,y)) e,valV_pos e,Option.map_some,if_pos (e.symm.trans h)]
   .rw[valV_neg (p:=(p.1,y)) e,valV_neg e,ih]
  .rw[if_neg h];by_cases e:p.1=j
   .rw[valV_pos (p:=p) e,valV_pos e,Option.map_some,if_neg (λz=>h (e.trans z))]
   .rw[valV_neg (p:=p) e,valV_neg e,ih]
theorem valV_snoc(k j:κ)(y:V):∀kvs:List (κ×V),valV kvs k=none->valV (kvs++[(k,y)]) j=if j=k then some y else valV kvs j
 | [],_=>by
  by_cases e:k=j
  .rw[if_pos e.symm];exact valV_pos (p:=(k,y)) e
  .rw[if_neg (λz=>e z.symm)];exact valV_neg (p:=(k,y)) e
 | p::r,hn=>by
  rw[List.cons_append];have hk:¬p.1=k:=λz=>by rw[valV_pos z] at hn;cases hn
  rw[valV_neg hk] at hn;have ih:=valV_snoc k j y r hn;by_cases e:p.1=j
  .rw[valV_pos e,valV_pos e,if_neg (λz=>hk (e.trans z))]
  .rw[valV_neg e,valV_neg e,ih]
theorem valV_put(kvs:List (κ×V))(k j:κ)(y:V):valV (putK kvs k y) j=if j=k then some y else valV kvs j:=by
 unfold putK;by_cases a:(kvs.any λkv=>decide (kv.1=k))=true
 .rw [if_pos a,valV_map];rw[valV_any] at a;by_cases e:j=k
  .obtain⟨x,hx⟩:=Option.isSome_iff_exists.mp a;rw[if_pos e,e,hx,Option.map_some,if_pos rfl]
  .rw[if_neg e];cases valV kvs j with
   | none=>rfl
   | some x=>rw[Option.map_some,if_neg e]
 .rw[if_neg a];refine valV_snoc k j y kvs ?_;rw[valV_any] at a;cases q:valV kvs k with
  | none=>rfl
  | some x=>rw[q] at a;exact(a rfl).elim
theorem length_putK(kvs:List (κ×V))(k:κ)(v:V):(putK kvs k v).length<=kvs.length+1:=by
 unfold putK
 split
 .rw[List.length_map];omega
 .rw[List.length_append,List.length_cons,List.length_nil];omega
theorem putK_new{kvs:List (κ×V)}{k:κ}(v:V)(h:valV kvs k=none):putK kvs k v=kvs++[(k,v)]:=by
 unfold putK;rw[valV_any,h];exact if_neg (by decide)
theorem RelO.isSome_eq{o:Option V}{u:Option Value}(r:RelO o u):o.isSome=u.isSome:=by
 cases o with
 | none=>cases u with
  | none=>rfl
  | some _=>exact(show False from r).elim
 | some _=>cases u with
  | none=>exact(show False from r).elim
  | some _=>rfl
theorem RelO.getD{o:Option V}{u:Option Value}{d:V}{d':Value}(r:RelO o u)(rd:RelV d d'):RelV (o.getD d) (u.getD d'):=by
 cases o with
 | none=>cases u with
  | none=>exact rd
  | some _=>exact(show False from r).elim
 | some _=>cases u with
  | none=>exact(show False from r).elim
  | some _=>exact r
theorem KV.val{kvs:List (κ×V)}{vs:List (κ×Value)}(r:KV kvs vs)(k:κ):RelO (valV kvs k) (valueAt vs k):=by
 unfold KV at r
 induction r with
 | nil=>exact True.intro
 | @cons p q ps qs h t ih=>
  obtain⟨h1,h2⟩:=h;by_cases e:p.1=k
  .have e':q.1=k:=h1.symm.trans e;have b:valueAt (q::qs) k=some q.2:=by simp[valueAt,List.find?_cons,e']
   rw[valV_pos e,b];exact h2
  .have e':¬q.1=k:=λz=>e (h1.trans z);have b:valueAt (q::qs) k=valueAt qs k:=by simp[valueAt,List.find?_cons,e']
   rw[valV_neg e,b];exact ih
theorem KV.any{kvs:List (κ×V)}{vs:List (κ×Value)}(r:KV kvs vs)(k:κ):(kvs.any λkv=>decide (kv.1=k))=vs.any λkv=>decide (kv.1=k):=by
 unfold KV at r
 induction r with
 | nil=>rfl
 | cons h t ih=>rw[List.any_cons,List.any_cons,ih,h.1]
theorem KV.repl{kvs:List (κ×V)}{vs:List (κ×Value)}(r:KV kvs vs)(k:κ){y:V}{u:Value}(ry:RelV y u) :
  KV (kvs.map λkv=>if kv.1=k then (kv.1,y) else kv) (vs.map λkv=>if kv.1=k then (kv.1,u) else kv):=by
 unfold KV at r ⊢
 induction r with
 | nil=>exact .nil
 | @cons p q ps qs h t ih=>
  rw[List.map_cons,List.map_cons];refine .cons ?_ ih;obtain⟨h1,h2⟩:=h;by_cases e:p.1=k
  .rw[if_pos e,if_pos (h1.symm.trans e)];exact⟨h1,ry⟩
  .rw[if_neg e,if_neg (λz=>e (h1.trans z))];exact⟨h1,h2⟩
theorem KV.put{kvs:List (κ×V)}{vs:List (κ×Value)}(r:KV kvs vs)(k:κ){y:V}{u:Value}(ry:RelV y u):KV (putK kvs k y) (stored vs k u):=by
 unfold putK stored;rw[r.any k];by_cases e:(vs.any λkv=>decide (kv.1=k))=true
 .rw[if_pos e,if_pos e];exact r.repl k ry
 .rw[if_neg e,if_neg e];exact Paired.snoc r ⟨rfl,ry⟩
theorem KV.length{kvs:List (κ×V)}{vs:List (κ×Value)}(r:KV kvs vs):kvs.length=vs.length:=Paired.length r
end
theorem kV_is{P:Program}{w:World}{k:Key}{u:Value}(r:RelV (kV k) u):(mixKind P w).is k u=true:=by
 cases k with
 | inl i=>obtain⟨t,e⟩:=(show ∃t,u=Value.int i t from r);subst e;exact mixKind_int P w i t
 | inr x=>obtain⟨t,e⟩:=(show ∃t,u=Value.str x t from r);subst e;exact mixKind_str P w x t
theorem kV_inj{a b:Key}(e:kV a=kV b):a=b:=by
 cases a with
 | inl i=>cases b with
  | inl j=>have e':V.int i=V.int j:=e;injection e' with e';rw[e']
  | inr y=>exact nomatch (show V.int i=V.str y from e)
 | inr x=>cases b with
  | inl j=>exact nomatch (show V.str x=V.int j from e)
  | inr y=>have e':V.str x=V.str y:=e;injection e' with e';rw[e']
theorem items_are{P:Program}{w:World}:∀{ks:List Key}{us:List Value},Vals (ks.map kV) us->ItemsAre (mixKind P w) ks us
 | [],_,r=>by rw[List.map_nil] at r;cases r;exact .nil
 | k::ks,_,r=>by
  rw[List.map_cons] at r;cases r with
  | cons h t=>exact .cons (kV_is h) (items_are t)
abbrev KT(H:Hp):List (List Key×V)->List (List Key×Addr×Value)->Prop:=Paired λp q=>p.1=q.1/\H q.2.1=some (.tup (p.1.map kV))/\RelV p.2 q.2.2
theorem KT.val{H:Hp}{kvs:List (List Key×V)}{xs:List (List Key×Addr×Value)}(r:KT H kvs xs)(k:List Key):RelO (valV kvs k) ((atKey xs k).map (·.2)):=by
 induction r with
 | nil=>exact True.intro
 | @cons p q ps qs h t ih=>
  obtain⟨h1,_,h2⟩:=h;by_cases e:p.1=k
  .have e':q.1=k:=h1.symm.trans e;have b:atKey (q::qs) k=some q.2:=by simp[atKey,List.find?_cons,e']
   rw[valV_pos e,b];exact h2
  .have e':¬q.1=k:=λz=>e (h1.trans z);have b:atKey (q::qs) k=atKey qs k:=by simp[atKey,List.find?_cons,e']
   rw[valV_neg e,b];exact ih
theorem KT.repl{H:Hp}{kvs:List (List Key×V)}{xs:List (List Key×Addr×Value)}(r:KT H kvs xs)(k:List Key){y:V}{u:Value}(ry:RelV y u) :
  KT H (kvs.map λkv=>if kv.1=k then (kv.1,y) else kv) (xs.map (putAt k u)):=by
 induction r with
 | nil=>exact .nil
 | @cons p q ps qs h t ih=>
  rw[List.map_cons,List.map_cons];refine .cons ?_ ih;obtain⟨h1,h2,h3⟩:=h;unfold putAt;by_cases e:p.1=k
  .rw[if_pos e,if_pos (h1.symm.trans e)];exact⟨h1,h2,ry⟩
  .rw[if_neg e,if_neg (λz=>e (h1.trans z))];exact⟨h1,h2,h3⟩
theorem KT.put{H:Hp}{kvs:List (List Key×V)}{xs:List (List Key×Addr×Value)}(r:KT H kvs xs)(k:List Key){b:Addr}{y:V}{u:Value}(hb:H b=some (.tup (k.map kV)))(ry:RelV y u) :
  KT H (putK kvs k y) (storedH xs k b u):=by
 have e:(kvs.any λkv=>decide (kv.1=k))=(atKey xs k).isSome:=by
  rw[valV_any,(r.val k).isSome_eq,Option.isSome_map]
 unfold putK storedH;rw[e];by_cases q:(atKey xs k).isSome=true
 .rw[if_pos q,if_pos q];exact r.repl k ry
 .rw[if_neg q,if_neg q];exact Paired.snoc r ⟨rfl,hb,ry⟩
theorem KT.keeps{H H':Hp}{kvs:List (List Key×V)}{xs:List (List Key×Addr×Value)}(r:KT H kvs xs)(ht:∀b ys,H b=some (.tup ys)->H' b=some (.tup ys)):KT H' kvs xs:=
 Paired.mapP r λ_ _ z=>⟨z.1,ht _ _ z.2.1,z.2.2⟩
section
variable{P:Program}{w:World}{H:Hp}{h:Heap}{a:Addr}
theorem rd_of{u:HO}(ok:HOk P w H h)(e:Rd H a u):ObjOk P w H h a u:=e.ok ok
theorem dk_rd{kvs:List (Key×V)}(ok:HOk P w H h)(e:Rd H a (.dK kvs)):kvs.length<=sizeLine/\(a==sysModules)=false/\∃vs,KV kvs vs/\h.DictOf (mixKind P w) a vs:=
 show ObjOk P w H h a (.dK kvs) from rd_of ok e
theorem dk_of{kvs:List (Key×V)}(ok:HOk P w H h)(e:H a=some (.dK kvs)):kvs.length<=sizeLine/\(a==sysModules)=false/\∃vs,KV kvs vs/\h.DictOf (mixKind P w) a vs:=dk_rd ok (.inl e)
theorem key_of{ks:List Key}(ok:HOk P w H h)(e:H a=some (.tup (ks.map kV))):(tupleKind (mixKind P w)).is h ks a:=by
 obtain⟨_,its,r,o,h1,h2,n,h3⟩:=(show ObjOk P w H h a (.tup (ks.map kV)) from ok a _ e);exact⟨o,its.toArray,n,h1,h2,h3,by simpa using items_are r⟩
theorem dt_rd{kvs:List (List Key×V)}(ok:HOk P w H h)(e:Rd H a (.dT kvs)):kvs.length<=sizeLine/\(a==sysModules)=false ∧
  ∃xs,KT H kvs xs/\h.DictOfH (tupleKind (mixKind P w)) a xs:=by
 obtain⟨z,y,xs,r,o,es,ep,h1,h2,h3,h4,h5⟩:=(show ObjOk P w H h a (.dT kvs) from rd_of ok e);refine⟨z,y,xs,r,o,es,ep,h1,h2,h3,h4,λx hx=>?_,h5⟩;have all:∀{l:List (List Key×V)}{m:List (List Key×Addr×Value)},KT H l m->∀x∈m,(tupleKind (mixKind P w)).is h x.1 x.2.1:=by
  intro l m q
  induction q with
  | nil=>intro x hx;exact nomatch hx
  | @cons p q ps qs hq t ih=>
   intro x hx;rcases List.mem_cons.mp hx with e|hx
   .subst e;exact key_of ok (by rw[<-hq.1];exact hq.2.1)
   .exact ih x hx
 exact all r x hx
theorem dt_of{kvs:List (List Key×V)}(ok:HOk P w H h)(e:H a=some (.dT kvs)):kvs.length<=sizeLine/\(a==sysModules)=false ∧
  ∃xs,KT H kvs xs/\h.DictOfH (tupleKind (mixKind P w)) a xs:=dt_rd ok (.inl e)
end
def DGet(H:Hp)(a:Addr)(y:V)(r:Option V):Prop:=
 (∃kvs k,Rd H a (.dK kvs)/\y=kV k/\r=valV kvs k)\/∃kvs k b,Rd H a (.dT kvs)/\y=.ref b/\H b=some (.tup (k.map kV))/\r=valV kvs k
def DPut(H:Hp)(a:Addr)(y v:V)(H':Hp):Prop:=
 (∃kvs k,H a=some (.dK kvs)/\y=kV k/\kvs.length<sizeLine/\H'=upd H a (.dK (putK kvs k v))) ∨
 ∃kvs k b,H a=some (.dT kvs)/\y=.ref b/\H b=some (.tup (k.map kV))/\kvs.length<sizeLine/\H'=upd H a (.dT (putK kvs k v))
theorem DGet.k{H:Hp}{a:Addr}{kvs:List (Key×V)}{k:Key}(e:H a=some (.dK kvs)):DGet H a (kV k) (valV kvs k):=.inl ⟨kvs,k,.inl e,rfl,rfl⟩
theorem DGet.t{H:Hp}{a b:Addr}{kvs:List (List Key×V)}{k:List Key}(e:H a=some (.dT kvs))(eb:H b=some (.tup (k.map kV))):DGet H a (.ref b) (valV kvs k):=.inr ⟨kvs,k,b,.inl e,rfl,eb,rfl⟩
theorem DPut.k{H:Hp}{a:Addr}{kvs:List (Key×V)}{k:Key}{v:V}(e:H a=some (.dK kvs))(hl:kvs.length<sizeLine):DPut H a (kV k) v (upd H a (.dK (putK kvs k v))):=.inl ⟨kvs,k,e,rfl,hl,rfl⟩
theorem DPut.t{H:Hp}{a b:Addr}{kvs:List (List Key×V)}{k:List Key}{v:V}(e:H a=some (.dT kvs))(eb:H b=some (.tup (k.map kV)))(hl:kvs.length<sizeLine) :
  DPut H a (.ref b) v (upd H a (.dT (putK kvs k v))):=.inr ⟨kvs,k,b,e,rfl,eb,hl,rfl⟩
section
variable{X:Cx}{pins:List (Addr×Obj)}{σ:St}{H:Hp}{s:Shared}{a:Addr}{y v:V}{u r:Value}{o:Option V}{A:Around}{E:Value->Shared->Prop}
theorem Inv.big(I:Inv X pins σ H s):sysModules<s.heap.objs.size:=by
 have h:mainGlobals<s.heap.objs.size:=(I.mod.glob.keeps I.bk).lt;exact Nat.lt_trans (by decide) h
theorem d_getItem{Q:Value->Shared->Prop}(hu:A.units+1<cLine)(I:Inv X pins σ H s)(g:DGet H a y (some v))(ry:RelV y u)(h:∀w' s',Inv X pins σ H s'->RelV v w'->Q w' s') :
  wpAny (model X.prog X.w) A (getItem (.ref a) u) Q E s:=by
 rcases g with⟨kvs,k,e,ey,l⟩|⟨kvs,k,b,e,ey,eb,l⟩
 .subst ey;obtain⟨z,hd,vs,rel,dd⟩:=dk_rd I.hok e;obtain⟨w',hw,rw'⟩:=RelO.some_of (v:=v) (o:=valueAt vs k) (by rw[l];exact rel.val k);exact wpAny_getItem_of (kV_is ry) dd.mapOf hw (h w' _ (I.tok _) rw')
 .subst ey;cases(show u=Value.ref b from ry);obtain⟨z,hd,xs,rel,dd⟩:=dt_rd I.hok e;obtain⟨w',hw,rw'⟩:=RelO.some_of (v:=v) (o:=(atKey xs k).map (·.2)) (by rw[l];exact rel.val k);obtain⟨p,hp,hp2⟩:=Option.map_eq_some_iff.mp hw;refine wpAny_getItem_heap (tupleKind_room_in1 hu) (key_of I.hok eb) dd hp ?_;rw[hp2];exact h w' _ (I.tok _) rw'
theorem d_in{Q:Value->Shared->Prop}(hu:A.units+1<cLine)(I:Inv X pins σ H s)(g:DGet H a y o)(ry:RelV y u)(h:∀s',Inv X pins σ H s'->Q (.bool o.isSome) s') :
  wpAny (model X.prog X.w) A (compareOp .In u (.ref a)) Q E s:=by
 rcases g with⟨kvs,k,e,ey,l⟩|⟨kvs,k,b,e,ey,eb,l⟩
 .subst ey;obtain⟨z,hd,vs,rel,dd⟩:=dk_rd I.hok e;refine wpAny_in_of (kV_is ry) hd dd.mapOf ?_;rw[<-(rel.val k).isSome_eq,<-l];exact h _ (I.tok _)
 .subst ey;cases(show u=Value.ref b from ry);obtain⟨z,hd,xs,rel,dd⟩:=dt_rd I.hok e;refine wpAny_in_heap (tupleKind_room_in1 hu) (key_of I.hok eb) hd dd ?_;have q:=(rel.val k).isSome_eq;rw[Option.isSome_map] at q;rw[<-q,<-l];exact h _ (I.tok _)
theorem d_notIn{Q:Value->Shared->Prop}(hu:A.units+1<cLine)(I:Inv X pins σ H s)(g:DGet H a y o)(ry:RelV y u)(h:∀s',Inv X pins σ H s'->Q (.bool (!o.isSome)) s') :
  wpAny (model X.prog X.w) A (compareOp .NotIn u (.ref a)) Q E s:=by
 rcases g with⟨kvs,k,e,ey,l⟩|⟨kvs,k,b,e,ey,eb,l⟩
 .subst ey;obtain⟨z,hd,vs,rel,dd⟩:=dk_rd I.hok e;refine wpAny_notIn_of (kV_is ry) hd dd.mapOf ?_;rw[<-(rel.val k).isSome_eq,<-l];exact h _ (I.tok _)
 .subst ey;cases(show u=Value.ref b from ry);obtain⟨z,hd,xs,rel,dd⟩:=dt_rd I.hok e;refine wpAny_notIn_heap (tupleKind_room_in1 hu) (key_of I.hok eb) hd dd ?_;have q:=(rel.val k).isSome_eq;rw[Option.isSome_map] at q;rw[<-q,<-l];exact h _ (I.tok _)
theorem d_write{h':Heap}{t':Nat}{ob:HO}(I:Inv X pins σ H s)(mu:Mut (H a))(hs:Heap.SameBut a s.heap h')(he:∃q,h'.get? a=some q)(new:ObjOk X.prog X.w (upd H a ob) h' a ob) :
  Inv X pins σ (upd H a ob) {s with heap:=h',toks:=t'}:=
 I.write (x:=a) (e:=a) mu (.inl rfl) (λb q hb z=>(hs.2 b hb).trans z) he new
theorem dk_new{P:Program}{w:World}{H':Hp}{h':Heap}{kvs:List (Key×V)}{vs:List (Key×Value)}(z:kvs.length<=sizeLine)(hd:(a==sysModules)=false)(rel:KV kvs vs)(dd:h'.DictOf (mixKind P w) a vs) :
  ObjOk P w H' h' a (.dK kvs):=⟨z,hd,vs,rel,dd⟩
theorem d_setItem{H':Hp}{Q:Unit->Shared->Prop}(hu:A.units+1<cLine)(I:Inv X pins σ H s)(g:DPut H a y v H')(ry:RelV y u)(rv:RelV v r)(h:∀s',Inv X pins σ H' s'->Q () s') :
  wpAny (model X.prog X.w) A (setItem (.ref a) u r) Q E s:=by
 rcases g with⟨kvs,k,e,ey,l,eH⟩|⟨kvs,k,b,e,ey,eb,l,eH⟩
 .subst ey eH;obtain⟨z,hd,vs,rel,dd⟩:=dk_of I.hok e;have hz:vs.length<=sizeLine:=by rw[<-rel.length];exact z
  have hl:(putK kvs k v).length<=sizeLine:=by have:=length_putK kvs k v;omega
  refine wpAny_setItem_pairs (hsz:=hz) (kV_is ry) dd λh' dd' hs=>h _ ?_;have he:∃q,h'.get? a=some q:=let ⟨q,_,_,hq,_⟩:=dd';⟨q,hq⟩;exact d_write I (by rw[e];exact True.intro) hs he (dk_new hl hd (rel.put k rv) dd')
 .subst ey eH;cases(show u=Value.ref b from ry);obtain⟨z,hd,xs,rel,dd⟩:=dt_of I.hok e;have hz:xs.length<=sizeLine:=by rw[<-Paired.length rel];exact z
  have hl:(putK kvs k v).length<=sizeLine:=by have:=length_putK kvs k v;omega
  refine wpAny_setItem_heap (hsz:=hz) (tupleKind_room_in1 hu) (key_of I.hok eb) dd λh' dd' hs=>h _ ?_;obtain⟨q,es,ep,hq,h2,h3,h4,_,h5⟩:=dd';refine d_write I (by rw[e];exact True.intro) hs ⟨q,hq⟩ ⟨hl,hd,_,(rel.put k eb rv).keeps λc ys ec=>?_,q,es,ep,hq,h2,h3,h4,h5⟩;rw[upd_ne (ne_of ec e (λz=>nomatch z))];exact ec
end
section
variable{X:Cx}{pins:List (Addr×Obj)}{σ:St}{H:Hp}{s:Shared}{a:Addr}{kvs:List (Key×V)}{k:Key}{u:Value}{A:Around}{E:Value->Shared->Prop}
end
def NoSl(i:Expr):Prop:=∀ov iv,subscripted i false ov iv=operate [ov,iv] (getItem ov iv)
theorem subD_of{prog:Program}{w:World}{A:Around}{E:Value->Shared->Prop}{s:Shared}{env:Env}{value slice:Expr}{pos:Pos}{T id:String}{Q:Value->Shared->Prop}
  (hl:typeLookup (.type T) "__getitem__"=pure (some (.builtin id))) (hs:NoSl slice)
  (h:wpAny (model prog w) A (eval value env) (λo s₁=>wpAny (model prog w) A (eval slice env) (λi s₂=>s₂.TypeIs o T/\wpAny (model prog w) A (getItem o i) Q E s₂) E s₁) E s) :
  wpAny (model prog w) A (eval (.Subscript value slice pos) env) Q E s:=by
 refine Subscript_ (wpAny_mono h (λo s₁ h₁=>wpAny_mono h₁ (λi s₂ h₂=>?_) λ_ _ x=>x) λ_ _ x=>x);obtain⟨hT,h₂⟩:=h₂;unfold subscriptTail;refine wpAny_bind ?_;rw[getitemInPython_of_ne hT.not_modules];refine wpAny_bind (wpAny_specialOf hT hl ?_);have fin:wpAny (model prog w) A (subscripted slice false o i) (λr s₃=>wpAny (model prog w) A (letTemporaryGo value o r >>= λ_=>pure r) Q E s₃) E s₂:=by
  rw[hs o i];exact wpAny_operating (wpAny_mono h₂ (λr s₃ h₃=>wpAny_bind (wpAny_letTemporaryGo (wpAny_pure h₃))) λ_ _ x=>x)
 first
  | exact wpAny_pure (wpAny_bind fin)
  | exact wpAny_bind (wpAny_pure (wpAny_bind fin))
  | exact wpAny_bind fin
theorem dict_typeIs{X:Cx}{pins:List (Addr×Obj)}{σ:St}{H:Hp}{s:Shared}{a:Addr}{y:V}{o:Option V}(I:Inv X pins σ H s)(g:DGet H a y o):s.TypeIs (.ref a) "dict":=by
 rcases g with⟨kvs,k,e,_,_⟩|⟨kvs,k,b,e,_,_,_⟩
 .obtain⟨_,_,vs,_,dd⟩:=dk_rd I.hok e;exact dd.typeIs
 .obtain⟨_,_,xs,_,dd⟩:=dt_rd I.hok e;exact dd.typeIs
def tDGet(td ty:TE):TE:=λσ H Q=>td σ H λx H1=>ty σ H1 λy H2=>∃a v,x=.ref a/\DGet H2 a y (some v)/\Q v H2
def tDIn(ty td:TE):TE:=λσ H Q=>ty σ H λy H1=>td σ H1 λx H2=>∃a o,x=.ref a/\DGet H2 a y o/\Q (.bl o.isSome) H2
def tDNotIn(ty td:TE):TE:=λσ H Q=>ty σ H λy H1=>td σ H1 λx H2=>∃a o,x=.ref a/\DGet H2 a y o/\Q (.bl (!o.isSome)) H2
def sDPut(td ty tv:TE):TS:=λD σ H=>tv σ H λv H1=>td σ H1 λx H2=>ty σ H2 λy H3=>∃a H4,x=.ref a/\DPut H3 a y v H4/\D.nx σ H4
def sDAug(td ty tv:TE)(rd:V->V->Hp->VK->Prop):TS:=λD σ H=>td σ H λx H1=>ty σ H1 λy H2=>∃a v,x=.ref a/\DGet H2 a y (some v) ∧
 tv σ H2 λy2 H3=>rd v y2 H3 λz H4=>∃H5,DPut H4 a y z H5/\D.nx σ H5
def sDDel(td ty:TE):TS:=λD σ H=>td σ H λx H1=>ty σ H1 λy H2=>∃a kvs k,x=.ref a/\H2 a=some (.dK kvs)/\y=kV k/\(valV kvs k).isSome=true/\D.nx σ (upd H2 a (.dK (dropK kvs k)))
section
variable{X:Cx}{o i e value:Expr}{pos pos' tpos:Pos}{td ty tv:TE}
theorem pe_dget(hu:X.A.units+1<cLine)(ho:PE X o td)(hi:PE X i ty)(hs:NoSl i):PE X (.Subscript o i pos) (tDGet td ty):=by
 intro pins s σ H Q I h;refine subD_of PySem.F.slot_dict_getitem.lookup hs (thn (ho pins s σ H _ I h) λu s1 ⟨x,H1,I1,rx,q1⟩=>thn (hi pins s1 σ H1 _ I1 q1) λiv s2 ⟨y,H2,I2,ry,a,v,ex,g,q2⟩=>?_);subst ex;obtain rfl:u=Value.ref a:=rx;exact⟨dict_typeIs I2 g,d_getItem hu I2 g ry λw' s3 I3 rw'=>⟨v,H2,I3,rw',q2⟩⟩
theorem pc_din(hu:X.A.units+1<cLine)(hi:PE X i ty)(ho:PE X o td):PC X .In i o (tDIn ty td):=by
 intro pins s σ H Q I h;refine thn (hi pins s σ H _ I h) λiv s1 ⟨y,H1,I1,ry,q1⟩=>thn (ho pins s1 σ H1 _ I1 q1) λu s2 ⟨x,H2,I2,rx,a,ov,ex,g,q2⟩=>?_;subst ex;obtain rfl:u=Value.ref a:=rx;exact d_in hu I2 g ry λs3 I3=>⟨.bl ov.isSome,H2,I3,rfl,q2⟩
theorem pc_dnotin(hu:X.A.units+1<cLine)(hi:PE X i ty)(ho:PE X o td):PC X .NotIn i o (tDNotIn ty td):=by
 intro pins s σ H Q I h;refine thn (hi pins s σ H _ I h) λiv s1 ⟨y,H1,I1,ry,q1⟩=>thn (ho pins s1 σ H1 _ I1 q1) λu s2 ⟨x,H2,I2,rx,a,ov,ex,g,q2⟩=>?_;subst ex;obtain rfl:u=Value.ref a:=rx;exact d_notIn hu I2 g ry λs3 I3=>⟨.bl (!ov.isSome),H2,I3,rfl,q2⟩
theorem ps_dput(hu:X.A.units+1<cLine)(ho:PE X o td)(hi:PE X i ty)(hv:PE X value tv)(hs:swapsWith value (some (.Subscript o i pos')) pos.line X.env=pure false) :
  PS X (.Assign [.Subscript o i pos'] value pos) (sDPut td ty tv):=by
 intro pins s σ H D I h;refine wpAny_Assign_Subscript (thn (hv pins s σ H _ I h) λr s1 ⟨v,H1,I1,rv,q1⟩=>thn (ho pins s1 σ H1 _ I1 q1) λu s2 ⟨x,H2,I2,rx,q2⟩=>thn (hi pins s2 σ H2 _ I2 q2) λiv s3 ⟨y,H3,I3,ry,a,H4,ex,g,q3⟩=>?_) hs;subst ex;obtain rfl:u=Value.ref a:=rx;exact d_setItem hu I3 g ry rv λs4 I4=>⟨σ,H4,I4,q3⟩
end
theorem dk_empty{P:Program}{w:World}{H:Hp}(h:Heap)(hb:sysModules<h.objs.size):ObjOk P w H (h.push {cls:=.type "dict",data:=.dict #[]}) h.objs.size (.dK []):=
 ⟨Nat.zero_le _,beq_eq_false_iff_ne.mpr (Ne.symm (Nat.ne_of_lt hb)),[],.nil,Heap.DictOf.new h⟩
theorem dt_empty{P:Program}{w:World}{H:Hp}(h:Heap)(hb:sysModules<h.objs.size):ObjOk P w H (h.push {cls:=.type "dict",data:=.dict #[]}) h.objs.size (.dT []):=
 ⟨Nat.zero_le _,beq_eq_false_iff_ne.mpr (Ne.symm (Nat.ne_of_lt hb)),[],.nil,_,#[],0,Heap.get?_push_size _ rfl,⟨rfl,rfl,rfl⟩,rfl,rfl,List.nodup_nil⟩
def tDNewK:TE:=λ_ H Q=>∀p,H p=none->Q (.ref p) (upd H p (.dK []))
def tDNewT:TE:=λ_ H Q=>∀p,H p=none->Q (.ref p) (upd H p (.dT []))
section
variable{X:Cx}{pos:Pos}
theorem pe_dnewK:PE X (.Dict [] [] pos) tDNewK:=λpins s σ H Q I h=>
 wpAny_Dict_empty ⟨.ref s.heap.objs.size,_,I.laid (a:=s.heap.objs.size) (o:=.dK []) (t':=s.toks) (λ_ _ q=>Heap.get?_push_of_some _ q) (Nat.le_refl _) (dk_empty s.heap I.big),rfl,h _ (I.hok.fresh (Nat.le_refl _))⟩
theorem pe_dnewT:PE X (.Dict [] [] pos) tDNewT:=λpins s σ H Q I h=>
 wpAny_Dict_empty ⟨.ref s.heap.objs.size,_,I.laid (a:=s.heap.objs.size) (o:=.dT []) (t':=s.toks) (λ_ _ q=>Heap.get?_push_of_some _ q) (Nat.le_refl _) (dt_empty s.heap I.big),rfl,h _ (I.hok.fresh (Nat.le_refl _))⟩
end
def tPairs:List (TE×TE)->St->Hp->(List (V×V)->Hp->Prop)->Prop
 | [],_,H,Q=>Q [] H
 | (tk,tv)::r,σ,H,Q=>tk σ H λx H1=>tv σ H1 λy H2=>tPairs r σ H2 λps H3=>Q ((x,y)::ps) H3
abbrev VV:List (V×V)->List (Value×Value)->Prop:=Paired λp q=>RelV p.1 q.1/\RelV p.2 q.2
def PPs(X:Cx)(pos:Pos)(keys:List (Option Expr))(values:List Expr)(trs:List (TE×TE)):Prop:=
 ∀(pins:List (Addr×Obj))(s:Shared)(σ:St)(H:Hp)(Q:List (V×V)->Hp->Prop),Inv X pins σ H s->tPairs trs σ H Q →
  wpAny (model X.prog X.w) X.A (evalPairs (pairTrees keys values X.env pos)) (λvs s'=>∃ps H',Inv X pins σ H' s'/\VV ps vs/\Q ps H') X.xe s
theorem pps_nil{X:Cx}{pos:Pos}:PPs X pos [] [] []:=λpins s σ H Q I h=>pairTrees_nil_walk ⟨[],H,I,.nil,h⟩
theorem pps_cons{X:Cx}{pos:Pos}{k v:Expr}{ks:List (Option Expr)}{vs:List Expr}{tk tv:TE}{trs:List (TE×TE)}(hk:PE X k tk)(hv:PE X v tv)(hr:PPs X pos ks vs trs) :
  PPs X pos (some k::ks) (v::vs) ((tk,tv)::trs):=λpins s σ H Q I h=>
 pairTrees_cons_walk (thn (hk pins s σ H _ I h) λu s1 ⟨x,H1,I1,rx,q1⟩=>thn (hv pins s1 σ H1 _ I1 q1) λw2 s2 ⟨y,H2,I2,ry,q2⟩=>
  thn (hr pins s2 σ H2 _ I2 q2) λws s3 ⟨ps,H3,I3,rel,q3⟩=>⟨(x,y)::ps,H3,I3,.cons ⟨rx,ry⟩ rel,q3⟩)
def mergeK(kvs more:List (Key×V)):List (Key×V):=more.foldl (λacc kv=>putK acc kv.1 kv.2) kvs
theorem KV.merge:∀{more:List (Key×V)}{rs:List (Key×Value)}{kvs:List (Key×V)}{vs:List (Key×Value)},KV more rs->KV kvs vs->KV (mergeK kvs more) (merged vs rs):=by
 intro more rs kvs vs r;unfold KV at r
 induction r generalizing kvs vs with
 | nil=>intro q;exact q
 | @cons p q ps qs h t ih=>
  intro r0;have e:KV (putK kvs p.1 p.2) (stored vs q.1 q.2):=by
   have:=r0.put p.1 h.2;rw[<-h.1];exact this
  exact ih e
theorem length_mergeK:∀(more kvs:List (Key×V)),(mergeK kvs more).length<=kvs.length+more.length
 | [],kvs=>by show kvs.length<=kvs.length+0;omega
 | p::r,kvs=>by
  have h1:=length_mergeK r (putK kvs p.1 p.2);have h2:=length_putK kvs p.1 p.2;show(mergeK (putK kvs p.1 p.2) r).length<=_;rw[List.length_cons];omega
theorem carries_of{P:Program}{w:World}:∀{kvs:List (Key×V)}{ws:List (Value×Value)},VV (kvs.map λkv=>(kV kv.1,kv.2)) ws->∃rs,Carries (mixKind P w) ws rs/\KV kvs rs
 | [],_,r=>by rw[List.map_nil] at r;cases r;exact⟨[],True.intro,.nil⟩
 | p::kvs,_,r=>by
  rw[List.map_cons] at r;cases r with
  | @cons a b as bs h t=>
   obtain⟨rs,c,q⟩:=carries_of (P:=P) (w:=w) t;obtain⟨b1,b2⟩:=b;exact⟨(p.1,b2)::rs,⟨kV_is h.1,rfl,c⟩,.cons ⟨rfl,h.2⟩ q⟩
def tDisp(trs:List (TE×TE)):TE:=λσ H Q=>∀p,H p=none->tPairs trs σ (upd H p (.dK [])) λps H2=>H2 p=some (.dK [])/\∃kvs:List (Key×V),ps=kvs.map (λkv=>(kV kv.1,kv.2))/\kvs.length<=15/\Q (.ref p) (upd H2 p (.dK (mergeK [] kvs)))
theorem pe_disp{X:Cx}{pos:Pos}{keys:List (Option Expr)}{values:List Expr}{trs:List (TE×TE)}(h:PPs X pos keys values trs)(hall:keys.all (·.isSome)=true)(hl:keys.length=values.length)(h0:keys≠[])
  (h15:keys.length<=15):PE X (.Dict keys values pos) (tDisp trs):=by
 intro pins s σ H Q I q;have hn:=I.hok.fresh (Nat.le_refl s.heap.objs.size);have I1:=I.laid (a:=s.heap.objs.size) (o:=.dK []) (h':=s.heap.push {cls:=.type "dict",data:=.dict #[]}) (t':=s.toks) (λ_ _ q=>Heap.get?_push_of_some _ q) (Nat.le_refl _) (dk_empty s.heap I.big);refine wpAny_Dict_walk (knd:=mixKind X.prog X.w) hall hl h0 h15 (thn (h pins _ σ _ _ I1 (q _ hn)) λws s2 ⟨ps,H2,I2,rel,e,kvs,ep,lk,q2⟩=>?_);subst ep;obtain⟨rs,c,rk⟩:=carries_of (P:=X.prog) (w:=X.w) rel;obtain⟨z,hd,vs0,r0,dd⟩:=dk_of I2.hok e;cases r0;refine⟨rs,c,dd,λh' dd' hs=>⟨.ref s.heap.objs.size,_,?_,rfl,q2⟩⟩;have hz:(mergeK [] kvs).length<=sizeLine:=by
  have h1:=length_mergeK kvs [];rw[List.length_nil] at h1;rw[sizeLine_eq];omega
 have he:∃q,h'.get? s.heap.objs.size=some q:=let ⟨q,_,_,hq,_⟩:=dd';⟨q,hq⟩;exact d_write I2 (by rw[e];exact True.intro) hs he (dk_new hz hd (rk.merge .nil) dd')
structure M1(X:Cx)(o:Expr)(m:Str)(apos:Pos)(e:Expr)(cpos:Pos):Prop where
 base:attributeBase o m X.env (eval o X.env)=eval o X.env
 few:((backTo cpos (starEach [e] X.env)).all (λx=>!x.1)&&(backToKw cpos (keywordEach [] X.env)).all (λx=>x.1.isSome)
 &&decide (([e]:List Expr).length+([]:List Keyword).length+(if ([]:List Keyword).isEmpty then 0 else 1)<30))=true
 line:(apos.endLine==cpos.line)=true
 trees:backTo cpos (starEach [e] X.env)=[(false,eval e X.env)]
structure M2(X:Cx)(o:Expr)(m:Str)(apos:Pos)(e f:Expr)(cpos:Pos):Prop where
 base:attributeBase o m X.env (eval o X.env)=eval o X.env
 few:((backTo cpos (starEach [e,f] X.env)).all (λx=>!x.1)&&(backToKw cpos (keywordEach [] X.env)).all (λx=>x.1.isSome)
 &&decide (([e,f]:List Expr).length+([]:List Keyword).length+(if ([]:List Keyword).isEmpty then 0 else 1)<30))=true
 line:(apos.endLine==cpos.line)=true
 trees:backTo cpos (starEach [e,f] X.env)=[(false,eval e X.env),(false,eval f X.env)]
def IsD(H:Hp)(a:Addr):Prop:=(∃kvs,Rd H a (.dK kvs))\/∃kvs,Rd H a (.dT kvs)
theorem isD_at{X:Cx}{pins:List (Addr×Obj)}{σ:St}{H:Hp}{s:Shared}{a:Addr}(I:Inv X pins σ H s)(d:IsD H a) :
  s.TypeIs (.ref a) "dict"/\(∀b,Value.ref a=.ref b->∃ob,s.heap.get? b=some ob/\ob.dict=none)/\(a==sysModules)=false:=by
 rcases d with⟨kvs,e⟩|⟨kvs,e⟩
 .obtain⟨_,hd,vs,_,dd⟩:=dk_rd I.hok e;refine⟨dd.typeIs,λb q=>?_,hd⟩;cases q;obtain⟨ob,_,_,h1,h2,_⟩:=dd;exact⟨ob,h1,h2.2.1⟩
 .obtain⟨_,hd,xs,_,dd⟩:=dt_rd I.hok e;refine⟨dd.typeIs,λb q=>?_,hd⟩;cases q;obtain⟨ob,_,_,h1,h2,_⟩:=dd;exact⟨ob,h1,h2.2.1⟩
section
variable{X:Cx}{pins:List (Addr×Obj)}{σ:St}{H:Hp}{s:Shared}{a:Addr}{y d:V}{u r:Value}{o:Option V}{A:Around}{E:Value->Shared->Prop}
theorem d_get1{Q:Value->Shared->Prop}(hu:A.units+1<cLine)(I:Inv X pins σ H s)(g:DGet H a y o)(ry:RelV y u)(h:∀w' s',Inv X pins σ H s'->RelV (o.getD .non) w'->Q w' s') :
  wpAny (model X.prog X.w) A (call (.builtin "dict.get") [.ref a,u]) Q E s:=by
 rcases g with⟨kvs,k,e,ey,l⟩|⟨kvs,k,b,e,ey,eb,l⟩
 .subst ey;obtain⟨z,hd,vs,rel,dd⟩:=dk_rd I.hok e;refine call_meetsIn PySem.F.slot_dict_get dd.typeIs PySem.F.entry_dict_get (PySem.F.args_dict_get_2 _ _) (meets_dict_get (mixKind X.prog X.w) a (kV_is ry) hd) ⟨_,dd.mapOf,h _ _ (I.tok _) ?_⟩;rw[l];exact(rel.val k).getD rfl
 .subst ey;cases(show u=Value.ref b from ry);obtain⟨z,hd,xs,rel,dd⟩:=dt_rd I.hok e;refine call_meetsIn PySem.F.slot_dict_get dd.typeIs PySem.F.entry_dict_get (PySem.F.args_dict_get_2 _ _) (meetsH_dict_get (tupleKind (mixKind X.prog X.w)) a b hd) ⟨tupleKind_room_in1 hu,k,xs,key_of I.hok eb,dd,h _ _ (I.tok _) ?_⟩;rw[l];exact(rel.val k).getD rfl
theorem d_get2{Q:Value->Shared->Prop}(hu:A.units+1<cLine)(I:Inv X pins σ H s)(g:DGet H a y o)(ry:RelV y u)(rd:RelV d r)(h:∀w' s',Inv X pins σ H s'->RelV (o.getD d) w'->Q w' s') :
  wpAny (model X.prog X.w) A (call (.builtin "dict.get") [.ref a,u,r]) Q E s:=by
 rcases g with⟨kvs,k,e,ey,l⟩|⟨kvs,k,b,e,ey,eb,l⟩
 .subst ey;obtain⟨z,hd,vs,rel,dd⟩:=dk_rd I.hok e;refine call_meetsIn PySem.F.slot_dict_get dd.typeIs PySem.F.entry_dict_get (PySem.F.args_dict_get_3 _ _ _) (meets_dict_get_default (mixKind X.prog X.w) a (kV_is ry) hd r) ⟨_,dd.mapOf,h _ _ (I.tok _) ?_⟩;rw[l];exact(rel.val k).getD rd
 .subst ey;cases(show u=Value.ref b from ry);obtain⟨z,hd,xs,rel,dd⟩:=dt_rd I.hok e;refine call_meetsIn PySem.F.slot_dict_get dd.typeIs PySem.F.entry_dict_get (PySem.F.args_dict_get_3 _ _ _) (meetsH_dict_get_default (tupleKind (mixKind X.prog X.w)) a b hd r) ⟨tupleKind_room_in1 hu,k,xs,key_of I.hok eb,dd,h _ _ (I.tok _) ?_⟩;rw[l];exact(rel.val k).getD rd
end
def tDGet1(td ty:TE):TE:=λσ H Q=>td σ H λx H1=>∃a,x=.ref a/\IsD H1 a/\ty σ H1 λy H2=>∃o,DGet H2 a y o/\Q (o.getD .non) H2
def tDGet2(td ty tx:TE):TE:=λσ H Q=>td σ H λx H1=>∃a,x=.ref a/\IsD H1 a/\ty σ H1 λy H2=>tx σ H2 λz H3=>∃o,DGet H3 a y o/\Q (o.getD z) H3
def tDPop1(td ty:TE):TE:=λσ H Q=>td σ H λx H1=>∃a,x=.ref a/\IsD H1 a/\ty σ H1 λy H2=>∃kvs k v,H2 a=some (.dK kvs)/\y=kV k/\valV kvs k=some v/\Q v (upd H2 a (.dK (dropK kvs k)))
def tDPop2(td ty tx:TE):TE:=λσ H Q=>td σ H λx H1=>∃a,x=.ref a/\IsD H1 a/\ty σ H1 λy H2=>tx σ H2 λz H3=>∃kvs k,H3 a=some (.dK kvs)/\y=kV k ∧
 (∀v,valV kvs k=some v->Q v (upd H3 a (.dK (dropK kvs k))))/\(valV kvs k=none->Q z H3)
section
variable{X:Cx}{o e f:Expr}{apos cpos:Pos}{td ty tx:TE}
theorem pe_dget1(hu:X.A.units+1<cLine)(ho:PE X o td)(he:PE X e ty)(m:M1 X o "get" apos e cpos):PE X (.Call (.Attribute o "get" apos) [e] [] cpos) (tDGet1 td ty):=by
 intro pins s σ H Q I h;refine wpAny_Call_method m.base m.few m.line PySem.F.plainAttrs_dict PySem.F.slot_dict_get PySem.F.type_dict_get (thn (ho pins s σ H _ I h) λu s1 ⟨x,H1,I1,rx,a,ex,d,q1⟩=>?_);subst ex;obtain rfl:u=Value.ref a:=rx;obtain⟨t1,t2,_⟩:=isD_at I1 d;refine⟨t1,t2,?_⟩;rw[m.trees];refine Calls.callWith_builtin rfl (Calls.evalArgs_plain (Calls.spliced_cons (thn (he pins s1 σ H1 _ I1 q1) λiv s2 ⟨y,H2,I2,ry,ov,g,q2⟩=>Calls.spliced_nil ?_)));exact d_get1 hu I2 g ry λw' s3 I3 rw'=>⟨_,H2,I3,rw',q2⟩
theorem pe_dget2(hu:X.A.units+1<cLine)(ho:PE X o td)(he:PE X e ty)(hf:PE X f tx)(m:M2 X o "get" apos e f cpos):PE X (.Call (.Attribute o "get" apos) [e,f] [] cpos) (tDGet2 td ty tx):=by
 intro pins s σ H Q I h;refine wpAny_Call_method m.base m.few m.line PySem.F.plainAttrs_dict PySem.F.slot_dict_get PySem.F.type_dict_get (thn (ho pins s σ H _ I h) λu s1 ⟨x,H1,I1,rx,a,ex,d,q1⟩=>?_);subst ex;obtain rfl:u=Value.ref a:=rx;obtain⟨t1,t2,_⟩:=isD_at I1 d;refine⟨t1,t2,?_⟩;rw[m.trees];refine Calls.callWith_builtin rfl (Calls.evalArgs_plain (Calls.spliced_cons (thn (he pins s1 σ H1 _ I1 q1) λiv s2 ⟨y,H2,I2,ry,q2⟩=>
  Calls.spliced_cons (thn (hf pins s2 σ H2 _ I2 q2) λfv s3 ⟨z,H3,I3,rz,ov,g,q3⟩=>Calls.spliced_nil ?_))))
 exact d_get2 hu I3 g ry rz λw' s4 I4 rw'=>⟨_,H3,I4,rw',q3⟩
end
section
variable{X:Cx}{pins:List (Addr×Obj)}{σ:St}{H:Hp}{s:Shared}{a:Addr}{kvs:List (Key×V)}{A:Around}{E:Value->Shared->Prop}
end
section
variable{X:Cx}{pins:List (Addr×Obj)}{σ:St}{H:Hp}{s:Shared}{a:Addr}{y:V}{u:Value}{A:Around}{E:Value->Shared->Prop}
end
end L2
namespace Att
open PySem PySem.W PySem.Calls PyProof.Rows
theorem ints_of_wellAll{P:Params}{h:Heap}:∀(ns:List Int)(vs:List Value),WellAll P h vs (ns.map WData.int)->IntsAre vs ns:=by
 intro ns
 induction ns with
 | nil=>
  intro vs w;rw[List.map_nil] at w;cases w;exact .nil
 | cons n ns ih=>
  intro vs w;rw[List.map_cons] at w;cases w with
  | cons a b=>
   cases a;exact .cons _ _ (ih _ b)
theorem script_of{l:OpenLaw}{n:Nat}(hn:l.most=some n){P:Params}{h:Heap}{args:List WData}{vals:List Value}
  (hpre:l.row.toRowW.claim.pre args=true) (hwl:WellAll P h vals args) :
  ∃a vs ns,vals=[Value.ref a]/\args=[WData.list (ns.map WData.int)]/\h.get? a=some {cls:=.type "list",data:=.seq vs.toArray}/\IntsAre vs ns/\ns.length<=n:=by
 have hsh:WShape.hasAll [] args [.list .int]=true:=(pre_splitW hpre).1;have hc:l.pre.holds [] {args:=args}=true:=(pre_splitW hpre).2;obtain⟨d,r,rfl,h1,h2⟩:=hasAllW_cons hsh;obtain rfl:=hasAllW_nil h2;obtain⟨xs,rfl,h3⟩:=hasW_list h1;obtain⟨ns,rfl⟩:=items_int h3;have hlen:ns.length<=n:=by
  unfold OpenLaw.pre at hc;have h4:(WTm.not (.lt (.lit (.int (n:Int))) (.len (.arg 0)))).holds [] {args:=[.list (ns.map .int)]}=true:=by
   have h4:=(holds_andW hc).1;rw[hn] at h4;exact h4
  have h5:=condW_of h4 (w_not (w_lt w_lit (w_len_list (w_arg rfl))));rw[List.length_map] at h5;refine Nat.le_of_not_lt λq=>?_;have q':(n:Int)<((ns.length:Nat):Int):=by omega
  first
   | (rw[decide_eq_true q'] at h5;exact absurd h5 (by decide))
   | (simp at h5;omega)
 cases hwl with
 | cons w1 w2=>
  cases w2;cases w1 with
  | list ho hall=>exact⟨_,_,ns,rfl,rfl,ho,ints_of_wellAll ns _ hall,hlen⟩
theorem post_true(l:OpenLaw)(args:List WData):l.row.toRowW.claim.post args (.bool true) args=true:=
 postW_of (r:=l.row.toRowW) (X:=(true==true))
  (show WShape.has [] (.bool true) .bool=true by first|rfl|decide|simp[WShape.has,WShape.arms,WShape.armsAll])
  (show(WTm.eq .res (.lit (.bool true))).value [] {args:=args,res:=some (.bool true),after:=args}=some (.bool (true==true)) from w_eq_bool (w_res rfl) w_lit) rfl
theorem attach_call{l:OpenLaw}{n:Nat}{q:Program}{loose:List Str}{XP:(Str->Option Value)->Heap->Prop}{YP:World->Heap->Prop}{d:DefRec}
  (hn:l.most=some n) (hdf:d.params.defaults=[])
  (call:∀(w:World)(s₀ s₁:Shared)(mg mb:Str->Option Value)(fa:Addr)(o:Obj)(pm cd doc:Value)(a:Addr)(vs:List Value)(ns:List Int),
   Ground q loose [] XP w s₀ mg mb s₁.heap->YP w s₁.heap →
   s₁.heap.get? fa=some o->o.data=.func (docDef d.name d.params d.body d.scope pm cd doc)->s₁.heap.CodeRec cd d.name->mg d.name=some (.ref fa) →
   s₁.heap.get? a=some {cls:=.type "list",data:=.seq vs.toArray}->IntsAre vs ns->ns.length<=n->s₁.gens=#[] →
   codeAny (model l.prog w) callerA (.call (.ref fa) ⟨[.ref a],[]⟩) (λr s'=>r=.ok (.ret (.bool true))/\OldK s₁.heap s'.heap/\s'.os=s₁.os/\AllBare s'.gens) s₁) :
  WalkO q loose XP YP l.row.toRowW d [] (λf vs=>PySem.call f vs):=by
 intro w s₀ s₁ mg mb G Y fa o pm cd doc dV kV ho hd hcd hD hmg hg args vals as hpre hlay hrd hwl hlo;obtain rfl:dV=.none:=Dflts.none hD hdf;obtain rfl:kV=.none:=Dflts.noKw hD;obtain⟨a,vs,ns,rfl,rfl,hobj,hints,hlen⟩:=script_of hn hpre hwl;refine enter_call (codeAny_mono (call w s₀ s₁ mg mb fa o pm cd doc a vs ns G Y ho (fd_plain hd) hcd hmg hobj hints hlen hg) λr s' hq=>?_);obtain⟨rfl,h2,h3,h4⟩:=hq;exact⟨.inl ⟨.bool true,.bool true,[],rfl,λ_=>rfl,.bool true,post_true l _,λ_=>⟨List.Pairwise.nil,λ_ hm=>(nomatch hm)⟩⟩,h2,h3,h4⟩
section
variable{prog:Program}{w:World}{A:Around}{E:Value->Shared->Prop}{s:Shared}{K:Frag}
def noObjs(h:Heap):Heap:={h with objs:=#[]}
def ledger(h:Heap)(L d:Addr):List (Addr×Obj):=(List.range h.objs.size).filterMap λa=>if a=L\/a=d then none else (h.get? a).map λo=>(a,o)
end
end Att
namespace L2
open PySem PySem.Spec PyProof.Rows
theorem vals_ints:∀{vs:List Value}{ns:List Int},IntsAre vs ns->Vals (ns.map V.int) vs
 | _,_,.nil=>.nil
 | _,_,.cons n t h=>.cons ⟨t,rfl⟩ (vals_ints h)
def Only(H:Hp):Prop:=∀b,H b=none\/∃o xs,H b=some (.frz o (.lst xs))
theorem law_call{P:Program}{w:World}{K:W.Frag}{mg mb:Str->Option Value}{CX:CXT}{k:Nat}{fa a:Addr}{fd:FuncData}{x:Str}{sp:Sp}{s₁:Shared}{vs:List Value}{ns:List Int}
  (KX:K.In s₁.heap) (hns:s₁.heap.Ns mainGlobals mg) (hb:s₁.heap.Ns builtinsNs mb) (hbb:∀x:Str,x≠"__name__"->mb x=bootBuiltins x) (hlim:s₁.heap.NoLimit) (hg:s₁.gens=#[])
  (ha:s₁.heap.get? a=some {cls:=.type "list",data:=.seq vs.toArray}) (hi:IntsAre vs ns) (hl:ns.length<=sizeLine) (hr:Room k callerA)
  (F:∀base:Heap,K.In base->base.Ns mainGlobals mg->FnOk P w K mg base CX k fa fd [x] sp) (hbind:∀(s:Shared)(u:Value),BindsTo s fd ⟨[u],[]⟩ [(x,u)])
  (hsp:∀H:Hp,Only H->SqL K H a (ns.map V.int)->sp [.ref a] H (λv _=>v=.bl true) λ_ _ _=>False)
  (hCX:∀H e s',CX [] H s₁ (λ_ _ _=>False) e s'->False) :
  codeAny (model P w) callerA (.call (.ref fa) ⟨[.ref a],[]⟩) (λr s'=>r=.ok (.ret (.bool true))/\OldK s₁.heap s'.heap/\s'.os=s₁.os/\AllBare s'.gens) s₁:=by
 have rv:=vals_ints hi;have lenV:=hi.length;have core:∀H:Hp,Only H->SqL K H a (ns.map V.int)->HOk P w H s₁.heap->(∀b,H b≠none->b=a)->(H a≠none->K.lookup a=none) →
   codeAny (model P w) callerA (.call (.ref fa) ⟨[.ref a],[]⟩) (λr s'=>r=.ok (.ret (.bool true))/\OldK s₁.heap s'.heap/\s'.os=s₁.os/\AllBare s'.gens) s₁:=by
  intro H hO hS hok hA hK;have base_of:∀{b:Addr}{o:Obj},s₁.heap.get? b=some o->H b=none->(hidT s₁.heap H).get? b=some o:=λe n=>hidT_get e n;have noA:∀{b:Addr}{o:Obj}{es:Array DictEntry}{ep:Nat},s₁.heap.get? b=some o->o.data=.dict es ep->H b=none:=λ{b o es ep} e d=>by
   cases q:H b with
   | none=>rfl
   | some u=>
    have e':b=a:=hA b (by rw[q];simp);subst e';rw[ha] at e;cases e;have d':Data.seq vs.toArray _=Data.dict es ep:=d;cases d'
  have nsK:∀{b:Addr}{m:Str->Option Value},s₁.heap.Ns b m->(hidT s₁.heap H).Ns b m:=λ{b m} ⟨o,es,ep,e,d,r⟩=>⟨o,es,ep,base_of e (noA e d),d,r⟩;have hKb:K.In (hidT s₁.heap H):=λb o e=>base_of (KX b o e) (by
   cases q:H b with
   | none=>rfl
   | some u=>
    have e':b=a:=hA b (by rw[q];simp);subst e';rw[hK (by rw[q];simp)] at e;cases e)
  have hM:Mod K mg (hidT s₁.heap H):=⟨hKb,nsK hns,⟨mb,nsK hb,hbb⟩,let ⟨mc,h1,h2⟩:=hlim;⟨mc,nsK h1,h2⟩⟩;have e0:Env0 P w K mg (hidT s₁.heap H) callerA [] s₁ H:=⟨rfl,hM,λb o e=>of_hidT e,Nat.le_of_eq (hidT_size _ _),trivial,λb hb=>absurd (show b∈([]:List Addr) from hb) (by simp),hok,.of_eq hg⟩;refine codeAny_mono ((F _ hKb (nsK hns)).run callerA [] s₁ H ⟨[.ref a],[]⟩ [.ref a] [.ref a] _ _ hr e0 (hbind s₁ (.ref a)) (.cons rfl .nil) (hsp H hO hS)) λr s' h=>?_;cases r with
  | error e=>exact(hCX H e s' h).elim
  | ok fl=>
   cases fl with
   | next=>exact False.elim h
   | brk=>exact False.elim h
   | cont=>exact False.elim h
   | ret u=>
    obtain⟨v,H',os,bare,un,hok',r',q⟩:=h;have q':v=.bl true:=q;subst q';obtain rfl:u=Value.bool true:=r';refine⟨rfl,OldK.of_keep λb o e=>?_,os,bare⟩;cases q:H b with
    | none=>exact un.keep b o e q (by intro z;exact absurd (show b∈([]:List Addr) from z) (by simp)) (by simp)
    | some u=>
     rcases hO b with z|⟨ob,xs,z⟩
     .rw[q] at z;cases z
     .have z2:=un.frzs b ob _ z;obtain⟨e1,_⟩:=hok b _ z;obtain⟨e2,_⟩:=hok' b _ z2;rw[e] at e1;cases e1;exact e2
 cases hk:K.lookup a with
 | some o=>
  have e:=KX a o hk;rw[ha] at e;cases e;refine core (λ_=>none) (λ_=>.inl rfl) (.inr ⟨_,vs.toArray,_,hk,rfl,rfl,rfl,by rw[List.size_toArray,lenV];exact hl,by simpa using rv⟩) (λb u z=>by have z':(none:Option HO)=some u:=z;cases z') (λb z=>absurd rfl z) λz=>absurd rfl z
 | none=>
  refine core (λb=>if b=a then some (.frz {cls:=.type "list",data:=.seq vs.toArray} (.lst (ns.map V.int))) else none) (λb=>?_) (.inl (.inr ⟨{cls:=.type "list",data:=.seq vs.toArray},if_pos rfl⟩)) (λb u z=>?_) (λb z=>?_) λ_=>hk
  .by_cases hb:b=a
   .exact .inr ⟨_,_,if_pos hb⟩
   .exact .inl (if_neg hb)
  .by_cases hb:b=a
   .have z':=(if_pos hb).symm.trans z;cases z';subst hb;exact⟨ha,by rw[List.length_map];exact hl,vs,_,rv,ha⟩
   .have z':=(if_neg hb).symm.trans z;cases z'
  .by_cases hb:b=a
   .exact hb
   .exact absurd (if_neg hb) z
abbrev KOf{K:W.Frag}{h:Heap}(_:K.In h):PySem.W.Frag:=K
theorem walk_of{l:PySem.W.OpenLaw}{n k:Nat}{q:Program}{loose:List Str}{XP:(Str->Option Value)->Heap->Prop}{YP:World->Heap->Prop}{d:DefRec}{K:Params->PySem.W.Frag}{CX:World->CXT}{sp:World->Sp}{x:Str}
  (hn:l.most=some n) (hn2:n<=sizeLine) (hdf:d.params.defaults=[]) (hr:Room k callerA)
  (hY:∀(w:World)(h:Heap),YP w h->(K w.params).In h)
  (F:∀(w:World)(mg:Str->Option Value)(fa:Addr)(h:Heap),(K w.params).In h->h.Ns mainGlobals mg->mg d.name=some (.ref fa) →
   ∃fd:FuncData,(∀(s:Shared)(u:Value),BindsTo s fd ⟨[u],[]⟩ [(x,u)]) ∧
    ∀base:Heap,(K w.params).In base->base.Ns mainGlobals mg->FnOk l.prog w (K w.params) mg base (CX w) k fa fd [x] (sp w))
  (hsp:∀(w:World)(H:Hp)(a:Addr)(ns:List Int),ns.length<=n->Only H->SqL (K w.params) H a (ns.map V.int)->sp w [.ref a] H (λv _=>v=.bl true) λ_ _ _=>False)
  (hCX:∀(w:World)(H:Hp)(s:Shared)(e:Value)(s':Shared),CX w [] H s (λ_ _ _=>False) e s'->False) :
  PySem.W.WalkO q loose XP YP l.row.toRowW d [] (λf vs=>PySem.call f vs):=by
 refine Att.attach_call hn hdf λw s₀ s₁ mg mb fa o pm cd doc a vs ns G Y ho hd hcd hmg hobj hints hlen hg=>?_;have KX:=hY w _ Y;obtain⟨fd,hb,hF⟩:=F w mg fa _ KX G.T.g hmg;exact law_call KX G.T.g G.T.b G.T.builtins G.T.nolimit hg hobj hints (Nat.le_trans hlen hn2) hr hF hb (λH hO hS=>hsp w H a ns hlen hO hS) λH e s'=>hCX w H s₁ e s'
end L2
/- THE LAST THEOREM (shape;LID,My.* are yours):
   My.Adr: a structure of the addresses that your layer names (classes,functions);My.Txt K t: a structure (Prop) of the equations over K;
   My.txt_mk:{K}{implicit addresses ..} (e1:nsIn K mainGlobals "law"=some (some (.ref f))) (e2:K.lookup f=some ⟨oc,od,.func (fnOf "law" "law" params body scope dV kV doc pm an cdv ct),sl⟩) (e3:codeIn K cdv "law"=true) ..:∃t,My.Txt K t
set_option maxRecDepth 100000 in
set_option maxHeartbeats 0 in
theorem PySem.Challenge.cw_LID_holds:PySem.Challenge.rw_LID.Holds:=by
 w_on;o_law;k_head;(case hw=>w_witness2)
 k_fill
 refine L2.walk_of (l:=PySem.Challenge.rw_LID) (n:=63) (k:=40) (x:="script") (CX:=λw=>..) (sp:=λ_=>My.sp_law) rfl (by decide) rfl ⟨rfl,by decide,by decide⟩ (λw h Y=>PySem.W.kIn_of Y) ?F ?S ?C
 case F=>
  intro w mg fa h KX G hmg;have T:∃t,My.Txt (L2.KOf KX) t:=by
   dsimp only[L2.KOf]                          -- K must stand as «<heap const> w.params» for k_is;refine' My.txt_mk ?e1 ?e2 ?e3 ..
   (case e1=>PySem.W.k_is)                    -- in the order: a name->its address->its object->its parts
   (case e2=>PySem.W.k_is)
   ..
  obtain⟨t,T⟩:=T;have e0:=hmg.symm.trans (PySem.W.mg_of KX G T.law);cases e0                                       -- fa is the law's own address;exact⟨_,λs u=>.of_eq rfl,λbase kb nb=>My.law_fn T kb nb⟩     -- if «.of_eq rfl» comes too early: refine'⟨_,?b,λbase kb nb=>My.law_fn T kb nb⟩;exact λs u=>.of_eq rfl
 case S=>exact λw H a ns hl hO hS=>..
 case C=>exact ..
(the tactic k_is has no namespace: write k_is) -/
namespace L2
open PySem PySem.Spec PyProof.Rows
def inClass(s:Stmt)(j:Nat):Stmt:=match s with
 | .ClassDef _ _ _ body _ _ _ _ _ _ _=>body.getD j (.Pass ⟨0,0,0,0⟩)
 | _=>.Pass ⟨0,0,0,0⟩
def defArgs(s:Stmt):Arguments:=match s with
 | .FunctionDef _ a _ _ _ _ _ _ _ _=>a
 | _=>{posonlyargs:=[],args:=[],vararg:=none,kwonlyargs:=[],kw_defaults:=[],kwarg:=none,defaults:=[]}
def defBody(s:Stmt):List Stmt:=match s with
 | .FunctionDef _ _ b _ _ _ _ _ _ _=>b
 | _=>[]
def defScope(s:Stmt):Scope:=match s with
 | .FunctionDef _ _ _ _ _ _ sc _ _ _=>sc
 | _=>{kind:=.function,names:=[],isGenerator:=false,isCoroutine:=false}
abbrev CX0:CXT:=λ_ _ _ _ _ _=>False
abbrev E0:XK:=λ_ _ _=>False
theorem pass0{X:Cx}:Passes CX0 X E0:=λ_ _ _ _ _ _ _ h=>h.elim
structure Fun(K:W.Frag)(x qual:Str)(st:Stmt)(f:Addr)(fd:FuncData):Prop where
 ex:∃(oc:Value)(od:Option Addr)(kV doc pm:Value)(an:Option Addr)(cdv ct:Value)(osl:Array (Option Value)),
  fd=PySem.W.fnOf x qual (defArgs st) (defBody st) (defScope st) .none kV doc pm an cdv ct/\K.lookup f=some ⟨oc,od,.func fd,osl⟩/\PySem.W.codeIn K cdv qual=true
 kp:PySem.W.keepIn K (.ref f)=true
section
variable{P:Program}{w:World}{K:W.Frag}{mg:Str->Option Value}{base:Heap}
theorem Fun.ok{x qual:Str}{st:Stmt}{f:Addr}{fd:FuncData}{N ps:List Str}{k:Nat}{sp:Sp}(F:Fun K x qual st f fd)(S:FnScope N ps (defScope st))(len:∀vs H Q E,sp vs H Q E->vs.length=ps.length)
  (hbody:∀(cdv:Value)(A:Around)(outer:List Env)(s:Shared)(H:Hp)(vs:List V)(Q:VK)(E:XK),Room k (A.deeper (envOfC qual (defScope st) s.heap.objs.size f cdv))->sp vs H Q E →
   ∃t,PSs (cxOf CX0 P w K mg base N qual (defScope st) f cdv A outer s H E).nox (defBody st) t/\t {nx:=λ_ H'=>Q .non H',rt:=Q} (start N vs) H):FnOk P w K mg base CX0 (k+1) f fd ps sp:=by
 obtain⟨oc,od,kV,doc,pm,an,cdv,ct,osl,rfl,lk,hcd⟩:=F.ex;refine fn_of lk hcd S len λA outer s H vs Q E hr hsp=>?_;obtain⟨t,h,q⟩:=hbody cdv A outer s H vs Q E hr hsp;exact⟨t,h.nox,q⟩
theorem Fun.binds{x qual:Str}{st:Stmt}{f:Addr}{fd:FuncData}{ps:List Str}(F:Fun K x qual st f fd)
  (h:∀(kV doc pm:Value)(an:Option Addr)(cdv ct:Value)(us:List Value),us.length=ps.length->bindArgs (PySem.W.fnOf x qual (defArgs st) (defBody st) (defScope st) .none kV doc pm an cdv ct) ⟨us,[]⟩=pure (ps.zip us)):Binds K fd ps []:=by
 obtain⟨oc,od,kV,doc,pm,an,cdv,ct,osl,rfl,lk,hcd⟩:=F.ex;exact .all (h kV doc pm an cdv ct)
theorem fun_mk{x qual:Str}{st:Stmt}{f:Addr}{oc:Value}{od an:Option Addr}{osl:Array (Option Value)}{kV doc pm cdv ct:Value}(l:K.lookup f=some ⟨oc,od,.func (PySem.W.fnOf x qual (defArgs st) (defBody st) (defScope st) .none kV doc pm an cdv ct),osl⟩)
  (c:PySem.W.codeIn K cdv qual=true) (k:PySem.W.keepIn K (.ref f)=true):Fun K x qual st f (PySem.W.fnOf x qual (defArgs st) (defBody st) (defScope st) .none kV doc pm an cdv ct):=⟨⟨oc,od,kV,doc,pm,an,cdv,ct,osl,rfl,l,c⟩,k⟩
end
theorem hu_of{A:Around}{k:Nat}(hr:Room k A):A.units+1<cLine:=Nat.lt_of_le_of_lt (Nat.add_le_add_left (by decide:1<=64) _) hr.units
theorem small1000{n:Nat}(h:n<=1000):n<sizeLine:=Nat.lt_of_le_of_lt h (by decide)
section
variable{X:Cx}
theorem pv(i:Nat){x:Str}{pos:Pos}(hN:X.N[i]?=some x:=by rfl)(hv:Vis X.env.scope x:=by first|exact Or.inl rfl|exact Or.inr (Or.inl rfl)|exact Or.inr (Or.inr rfl))(hd:(x==("__debug__":Str))=false:=by decide)
  (hcd:(x==("__classdict__":Str))=false:=by decide):PE X (.Name x pos) (tVar i):=pe_var hN hv hd hcd
end
theorem iteF{A B:Prop}(h:B):if false=true then A else B:=by
 rw[if_neg Bool.false_ne_true];exact h
theorem iteT{A B:Prop}(h:A):if true=true then A else B:=by
 rw[if_pos rfl];exact h
theorem ite2{c A B:Prop}[Decidable c](h1:c->A)(h2:¬c->B):if c then A else B:=by
 by_cases h:c
 .rw[if_pos h];exact h1 h
 .rw[if_neg h];exact h2 h
theorem iteNS{c A B:Prop}[Decidable c](hc:c)(h:B):if (!decide c)=true then A else B:=by
 rw[decide_eq_true hc];exact iteF h
def Same(H H':Hp):Prop:=∀b o,H b=some o->H' b=some o
theorem Same.refl(H:Hp):Same H H:=λ_ _ h=>h
theorem Same.trans{H H1 H2:Hp}(a:Same H H1)(b:Same H1 H2):Same H H2:=λc o h=>b c o (a c o h)
theorem Same.free{H H':Hp}(e:Same H H'){l:Addr}(h:H' l=Option.none):H l=Option.none:=by
 cases q:H l with
 | none=>rfl
 | some o=>
  rw[e l o q] at h;cases h
theorem Same.seq{K:W.Frag}{H H':Hp}{a:Addr}{xs:List V}(e:Same H H')(h:SqL K H a xs):SqL K H' a xs:=by
 rcases h with(h|⟨o,h⟩)|h
 .exact .inl (.inl (e _ _ h))
 .exact .inl (.inr ⟨o,e _ _ h⟩)
 .exact .inr h
section
variable{κ:Type}[DecidableEq κ]
theorem dropK_pos{p:κ×V}{r:List (κ×V)}{k:κ}(e:p.1=k):dropK (p::r) k=dropK r k:=by
 unfold dropK;rw[List.filter_cons,if_neg (by simp[e])]
theorem dropK_neg{p:κ×V}{r:List (κ×V)}{k:κ}(e:¬p.1=k):dropK (p::r) k=p::dropK r k:=by
 unfold dropK;rw[List.filter_cons,if_pos (by simp[e])]
theorem dropK_no:∀{kvs:List (κ×V)}{k:κ},¬k∈kvs.map (·.1)->dropK kvs k=kvs
 | [],_,_=>rfl
 | p::r,k,h=>by
  have h':¬k∈r.map (·.1):=λm=>by
   obtain⟨q,hq,e⟩:=List.mem_map.mp m;exact h (List.mem_map.mpr ⟨q,List.mem_cons.mpr (Or.inr hq),e⟩)
  rw[dropK_neg λe=>h (List.mem_map.mpr ⟨p,List.mem_cons.mpr (Or.inl rfl),e⟩),dropK_no h']
theorem dropK_mem{kvs:List (κ×V)}{k:κ}{p:κ×V}(h:p∈dropK kvs k):p∈kvs:=(List.mem_filter.mp h).1
end
end L2
set_option maxHeartbeats 4000000
namespace L2
open PySem PySem.Spec PyProof.Rows
def CXx(P:Program)(w:World):CXT:=λouter H s E e s'=>∃(ea:Addr)(cls a0:Value)(B:Heap)(H':Hp),
 e=.ref ea/\s'.os=s.os/\AllBare s'.gens/\Un (frs outer) [] H H' s.heap s'.heap/\HOk P w H' s'.heap/\Heap.FlyingW B outer ea cls a0 s'.heap ∧
 (∀b u,H' b=some u->∃o,B.get? b=some o)/\(∀b o,s.heap.get? b=some o->b∉frs outer->∃o',B.get? b=some o')/\E cls none H'
theorem HOk.by{P:Program}{w:World}{H:Hp}{h h' B:Heap}(x:HOk P w H h)(hB:∀b u,H b=some u->∃o,B.get? b=some o)(k1:B.StaysIn h)(k2:B.StaysIn h'):HOk P w H h':=λa o e=>
 (x a o e).stay (λb u hb q=>by
  have ht:∃v,H b=some v:=by
   rcases hb with rfl|hb
   .exact⟨_,e⟩
   .exact⟨_,hb⟩
  obtain⟨v,hv⟩:=ht;obtain⟨o',eB⟩:=hB b v hv;have:=k1 b o' eB;rw[q] at this;cases this;exact k2 b _ eB) (λ_ q=>q) λ_ _ q=>q
theorem frs_cons{env:Env}{L:Addr}{l:List Env}(h:env.frame=some L):frs (env::l)=L::frs l:=by
 unfold frs;rw[List.filterMap_cons,h]
section
variable{X:Cx}{pins:List (Addr×Obj)}{σ:St}{H:Hp}{s s':Shared}{E:XK}{e:Value}
structure Own(X:Cx):Prop where
 st:X.stack=X.env::X.outer
 fr:X.env.frame=some X.env.locals
 ex:X.ex=[]
theorem leave_made(O:Own X)(I:Inv X pins σ H s){ea:Addr}{cls:Value}{vs:List Value}{h1:Heap}{tk:Nat}(hm:Heap.MadeExcOf s.heap h1 ea cls vs)(he:E cls none H){E':Value->Shared->Prop} :
  wpAny (model X.prog X.w) X.A (leaving X.env (.ref ea)) (λ_ s''=>CXx X.prog X.w X.outer X.H₀ X.s₀ E (.ref ea) s'') E' {s with heap:=h1,toks:=tk}:=by
 have hst:=O.st;have hfs:frs X.stack=X.env.locals::frs X.outer:=by rw[hst,frs_cons O.fr]
 have base0:Un (frs X.outer) [] X.H₀ H X.s₀.heap s.heap:=by
  have:=I.base;rw[O.ex] at this;exact this
 have hin:∀env∈(X.env::X.outer),∀b,env.frame=some b->b∈(X.env::X.outer).filterMap (·.frame):=λenv he b hb=>List.mem_filterMap.mpr ⟨env,he,hb⟩;have hS:=I.stack;rw[hst] at hS;have nst:∀b o,X.s₀.heap.get? b=some o->b∉frs X.outer->b∉(X.env::X.outer).filterMap (·.frame):=λb o q hb hm=>by
  have hm:b∈frs (X.env::X.outer):=hm;rw[frs_cons O.fr] at hm;rcases List.mem_cons.mp hm with z|z
  .exact absurd (Nat.lt_of_lt_of_le (Heap.lt_size q) I.ok.above) (by rw[z];exact Nat.lt_irrefl _)
  .exact hb z
 have keepB:∀b o,s.heap.get? b=some o->b∉(X.env::X.outer).filterMap (·.frame)->(PySem.W.hideAll s.heap ((X.env::X.outer).filterMap (·.frame))).get? b=some o:=λb o q hb=>PySem.W.hideAll_get _ q hb;refine wpAny_leaves_madeW (L:=X.env.locals) (base:=PySem.W.hideAll s.heap ((X.env::X.outer).filterMap (·.frame))) (by rw[I.ok.frames,hst]) O.fr (λb o q=>PySem.W.of_hideAll _ q) (PySem.W.funFrames_hide hS hin) hm λh' t fl' _ _ sm=>?_;have trB:∀b u,H b=some u->∃o,(PySem.W.hideAll s.heap ((X.env::X.outer).filterMap (·.frame))).get? b=some o:=λb u q=>by
  obtain⟨o,eo⟩:∃o,s.heap.get? b=some o:=by
   have:=I.hok.lt q;cases ho:s.heap.get? b with
   | some o=>exact⟨o,rfl⟩
   | none=>
    exfalso;have x:=I.hok b u q;cases u with
    | lst xs=>obtain⟨_,_,_,_,e⟩:=x;rw[ho] at e;cases e
    | tup xs=>obtain⟨_,_,_,_,e,_⟩:=x;rw[ho] at e;cases e
    | dK kvs=>obtain⟨_,_,_,_,_,_,_,e,_⟩:=x;rw[ho] at e;cases e
    | dT kvs=>obtain⟨_,_,_,_,_,_,_,e,_⟩:=x;rw[ho] at e;cases e
    | set S n=>obtain⟨_,_,_,_,e,_⟩:=x;rw[ho] at e;cases e
    | ins C dx fs=>obtain⟨_,_,_,e,_⟩:=x;rw[ho] at e;cases e
    | own y=>obtain⟨_,e⟩:=x;rw[ho] at e;cases e
    | xd fs=>obtain⟨_,⟨_,_,_,e,_⟩,_⟩:=x;rw[ho] at e;cases e
    | rng lo hi=>obtain⟨_,_,_,e⟩:=x;rw[ho] at e;cases e
    | frz ob u=>obtain⟨e,_⟩:=x;rw[ho] at e;cases e
    | tbl ps=>have e:s.heap.get? b=some _:=x;rw[ho] at e;cases e
    | met f y=>have e:s.heap.get? b=some _:=x;rw[ho] at e;cases e
    | ext φ=>obtain⟨_,⟨_,e⟩,_⟩:=x;rw[ho] at e;cases e
  refine⟨o,keepB b o eo λhmem=>?_⟩;have:=I.stkFree b (by rw[hst];exact hmem);rw[q] at this;cases this
 have inB:∀b o,X.s₀.heap.get? b=some o->b∉frs X.outer->∃o',(PySem.W.hideAll s.heap ((X.env::X.outer).filterMap (·.frame))).get? b=some o':=λb o q hb=>by
  obtain⟨o1,e1⟩:=base0.there b o q (by simp);exact⟨o1,keepB b o1 e1 (nst b o q hb)⟩
 have frm:∀b∈frs X.outer,∃o,s.heap.get? b=some o/\∀vs,o.data≠.fields vs:=λb hb=>by
  obtain⟨_,o,ho,hd⟩:=hS.mem (show b∈(X.env::X.outer).filterMap (·.frame) by
   have:b∈frs (X.env::X.outer):=by rw[frs_cons O.fr];exact List.mem_cons_of_mem _ hb
   exact this)
  exact⟨o,ho,hd⟩
 have U1:Un (frs X.outer) [] X.H₀ H X.s₀.heap h':=by
  refine⟨λb o q n hb hx=>?_,λb o q n hb hx=>?_,base0.free,λb o q hx=>?_,base0.tups,base0.frzs,base0.tbls⟩
  .exact fl'.1 b o (keepB b o (base0.keep b o q n hb hx) (nst b o q hb))
  .obtain⟨sl,e1⟩:=base0.any q n hx;obtain⟨o2,e2,hd⟩:=frm b hb;rw[e1] at e2;cases e2;obtain⟨sl2,e3⟩:=sm b _ (hm.keeps _ _ e1) hd;exact⟨sl2,e3⟩
  .by_cases hb:b∈frs X.outer
   .obtain⟨o2,e2,hd⟩:=frm b hb;obtain⟨sl2,e3⟩:=sm b _ (hm.keeps _ _ e2) hd;exact⟨_,e3⟩
   .obtain⟨o',eB⟩:=inB b o q hb;exact⟨o',fl'.1 b o' eB⟩
 exact⟨ea,cls,_,_,H,rfl,I.os,I.bare,U1,I.hok.by trB (λb o q=>PySem.W.of_hideAll _ q) fl'.1,fl',trB,inB,he⟩
end
theorem own_of{CX:CXT}{P:Program}{w:World}{K:W.Frag}{mg:Str->Option Value}{base:Heap}{N:List Str}{qual:Str}{scope:Scope}{f:Addr}{cd:Value}{A:Around}{outer:List Env}{s:Shared}{H:Hp}{E:XK} :
  Own (cxOf CX P w K mg base N qual scope f cd A outer s H E):=⟨rfl,rfl,rfl⟩
structure ExcC(K:W.Frag)(mg:Str->Option Value)(x:Str)(C:Addr)(bm:List Value)(newId:String):Prop where
 at_:mg x=some (.ref C)
 ex:PySem.W.excIn K C bm newId=true
section
variable{P:Program}{w:World}{K:W.Frag}{mg:Str->Option Value}{base:Heap}{N:List Str}{qual:Str}{scope:Scope}{f:Addr}{cd:Value}{A:Around}{outer:List Env}{s₀:Shared}{H₀:Hp}{E:XK}
theorem excObj{h:Heap}{C:Addr}{bm:List Value}{newId:String}(X:K.In h)(q:PySem.W.excIn K C bm newId=true) :
  ∃tl N nm qn bs hdct sn sub ab col dd k0 k1 k2 k3 k5 mN,h.get? C=some (excClassObj nm qn C N bs tl hdct sn sub ab col dd k0 k1 k2 k3 k5 newId)/\h.Ns N mN/\mN "__init__"=none/\OwnTail h bm tl:=by
 unfold PySem.W.excIn at q
 split at q
 case h_2=>cases q
 case h_1 dd cl sl ho=>
  split at q
  case h_2=>cases q
  case h_1 C' tl k0 k1 k2 k3 n k5 hm hs=>
   simp only[Bool.and_eq_true,beq_iff_eq,Bool.not_eq_true'] at q;obtain⟨⟨⟨⟨⟨rfl,rfl⟩,hdel⟩,ht⟩,hok⟩,hni⟩:=q;obtain⟨nm,bs,mro,ns,qn,hd,sn,sub,ab,col,del⟩:=cl;dsimp only at hm hdel hok hni;subst hm hdel;obtain rfl:sl=#[k0,k1,k2,k3,some (.builtin n),k5]:=by
    obtain⟨l⟩:=sl;simp only at hs;rw[hs]
   exact⟨tl,ns,nm,qn,bs,hd,sn,sub,ab,col,dd,k0,k1,k2,k3,k5,_,X _ _ ho,.of_isNs (PySem.W.isNs_of_in X hok),PySem.W.nsMap_none_of_in X hok hni,PySem.W.tail_of_in X ht⟩
def tRaise(E:XK)(C:Addr):TS:=λ_ _ H=>E (.ref C) none H
theorem ps_raise{x:Str}{C:Addr}{bm:List Value}{B newId initId:String}{msg:Str}{j:Nat}{np cpos pos p0:Pos}(T:ExcC K mg x C bm newId)(FB:ExcBaseFacts B newId initId bm)(hh:A.handled=none)
  (hg:Gl (cxOf (CXx P w) P w K mg base N qual scope f cd A outer s₀ H₀ E) x) (hd:(x==("__debug__":Str))=false:=by decide) :
  PS (cxOf (CXx P w) P w K mg base N qual scope f cd A outer s₀ H₀ E) (.Raise (some (.Call (.Name x np) [.Constant (.str msg) j p0] [] cpos)) none pos) (tRaise E C):=by
 intro pins s σ H D I h;obtain⟨tl,N',nm,qn,bs,hdct,sn,sub,ab,col,dd,k0,k1,k2,k3,k5,mN,hC,hN,hni,TL⟩:=excObj I.kIn T.ex;refine wpAny_Raise_call_subT (C:=C) (nm:=nm) (q:=qn) (N:=N') (bs:=bs) (bm:=tl) (hdct:=hdct) (sn:=sn) (sub:=sub) (ab:=ab) (col:=col) (dd:=dd) (k0:=k0) (k1:=k1) (k2:=k2) (k3:=k3) (k5:=k5)
  FB (mN:=mN) (TL.hasType FB.hasBase) hh rfl hni (ld_glob I hg T.at_ ⟨rfl,?_⟩ hd)
 refine Calls.evalArgs_plain (Calls.spliced_cons (Calls.Constant_str (pos:=p0) (k:=j) (Calls.spliced_nil ?_)));refine⟨rfl,by rw[List.length_singleton,sizeLine_eq];decide,hC,hN,TL,λh' e hm=>?_⟩;exact leave_made own_of (I.tok (s.toks+1)) (tk:=s.toks+1) hm h
end
def trX(X:Cx)(R:Value->St->Hp->Prop)(e:Value)(s':Shared):Prop:=
 ∃(pins':List (Addr×Obj))(σ:St)(H:Hp)(s:Shared),Inv X pins' σ H s/\CXx X.prog X.w X.stack H s (λcls _ H'=>R cls σ H') e s'
abbrev Cx.pin(X:Cx)(pins:List (Addr×Obj)):Cx:={X with pn:=X.pn++pins}
abbrev Cx.tr(X:Cx)(pins:List (Addr×Obj))(R:Value->St->Hp->Prop):Cx:={X with pn:=X.pn++pins,xe:=trX (X.pin pins) R}
abbrev Cx.held(X:Cx)(ea:Addr):Cx:={X with A:=X.A.mark (some (.ref ea)),calm:=false,xe:=λ_ _=>False}
section
variable{X:Cx}{pins pins':List (Addr×Obj)}{σ:St}{H:Hp}{s:Shared}{R:Value->St->Hp->Prop}
theorem Cx.Ok.toTr(ok:X.Ok)(pins:List (Addr×Obj))(R:Value->St->Hp->Prop):(X.tr pins R).Ok:=
 ⟨ok.mod,ok.kind,ok.glob,ok.blt,ok.above,ok.inj,ok.has,ok.cab,ok.hd,ok.frames,ok.stk,ok.exf,ok.bs,ok.bsz,ok.noex,ok.exfs,ok.funs,ok.frf⟩
theorem Cx.Ok.ofTr(ok:(X.tr pins R).Ok):X.Ok:=
 ⟨ok.mod,ok.kind,ok.glob,ok.blt,ok.above,ok.inj,ok.has,ok.cab,ok.hd,ok.frames,ok.stk,ok.exf,ok.bs,ok.bsz,ok.noex,ok.exfs,ok.funs,ok.frf⟩
theorem Cx.Ok.toPin(ok:X.Ok)(pins:List (Addr×Obj)):(X.pin pins).Ok:=
 ⟨ok.mod,ok.kind,ok.glob,ok.blt,ok.above,ok.inj,ok.has,ok.cab,ok.hd,ok.frames,ok.stk,ok.exf,ok.bs,ok.bsz,ok.noex,ok.exfs,ok.funs,ok.frf⟩
theorem Cx.Ok.ofPin(ok:(X.pin pins).Ok):X.Ok:=
 ⟨ok.mod,ok.kind,ok.glob,ok.blt,ok.above,ok.inj,ok.has,ok.cab,ok.hd,ok.frames,ok.stk,ok.exf,ok.bs,ok.bsz,ok.noex,ok.exfs,ok.funs,ok.frf⟩
theorem Cx.Ok.toHeld(ok:X.Ok)(ea:Addr):(X.held ea).Ok:=
 ⟨ok.mod,ok.kind,ok.glob,ok.blt,ok.above,ok.inj,ok.has,ok.cab,λz=>Bool.noConfusion z,ok.frames,ok.stk,ok.exf,ok.bs,ok.bsz,ok.noex,ok.exfs,ok.funs,ok.frf⟩
theorem Inv.toTr(I:Inv X pins σ H s)(R:Value->St->Hp->Prop):Inv (X.tr pins R) [] σ H s:=
 ⟨I.ok.toTr pins R,I.os,I.bare,I.base,I.loc,I.cell,I.free,I.freeC,λp hp=>I.pin p ((List.mem_append.mp hp).elim id λz=>absurd z (by simp)),I.hok,I.len⟩
theorem Inv.ofTr(I:Inv (X.tr pins R) [] σ H s):Inv X pins σ H s:=
 ⟨I.ok.ofTr,I.os,I.bare,I.base,I.loc,I.cell,I.free,I.freeC,λp hp=>I.pin p (List.mem_append_left _ hp),I.hok,I.len⟩
theorem Inv.trPin(I:Inv (X.tr pins R) pins' σ H s):Inv (X.pin pins) pins' σ H s:=
 ⟨I.ok.ofTr.toPin pins,I.os,I.bare,I.base,I.loc,I.cell,I.free,I.freeC,I.pin,I.hok,I.len⟩
theorem Inv.ofPin(I:Inv (X.pin pins) pins' σ H s):Inv X pins σ H s:=
 ⟨I.ok.ofPin,I.os,I.bare,I.base,I.loc,I.cell,I.free,I.freeC,λp hp=>I.pin p (List.mem_append_left _ hp),I.hok,I.len⟩
theorem Inv.toHeld(I:Inv X pins σ H s)(ea:Addr):Inv (X.held ea) pins σ H s:=
 ⟨I.ok.toHeld ea,I.os,I.bare,I.base,I.loc,I.cell,I.free,I.freeC,I.pin,I.hok,I.len⟩
theorem Inv.ofHeld{ea:Addr}(ok:X.Ok)(I:Inv (X.held ea) pins σ H s):Inv X pins σ H s:=
 ⟨ok,I.os,I.bare,I.base,I.loc,I.cell,I.free,I.freeC,I.pin,I.hok,I.len⟩
end
structure Cau(X:Cx)(pins:List (Addr×Obj))(σ:St)(H:Hp)(ea:Addr)(cls:Value)(s:Shared):Prop where
 ex:∃(H1:Hp)(s0:Shared)(B:Heap)(a0:Value),Inv X pins σ H1 s0/\s.os=s0.os/\AllBare s.gens/\Un (frs X.stack) [] H1 H s0.heap s.heap/\HOk X.prog X.w H s.heap/\Heap.FlyingW B X.stack ea cls a0 s.heap ∧
  (∀b u,H b=some u->∃o,B.get? b=some o)/\∀b o,s0.heap.get? b=some o->b∉frs X.stack->∃o',B.get? b=some o'
theorem un_fly{outer:List Env}{H H':Hp}{h h1 h2 B:Heap}{ea:Addr}{cls a0:Value}(un:Un (frs outer) [] H H' h h1)(fl:Heap.FlyingW B outer ea cls a0 h1)(k2:B.StaysIn h2)(sm:h1.UpToSlots h2)
  (inB:∀b o,h.get? b=some o->b∉frs outer->∃o',B.get? b=some o'):Un (frs outer) [] H H' h h2:=by
 have frm:∀b∈frs outer,∃o,h1.get? b=some o/\∀vs,o.data≠.fields vs:=λb hb=>by
  obtain⟨_,o,ho,hd⟩:=fl.2.2.1.mem (show b∈outer.filterMap (·.frame) from hb);exact⟨o,ho,hd⟩
 refine⟨λb o q n hb hx=>?_,λb o q n hb hx=>?_,un.free,λb o q hx=>?_,un.tups,un.frzs,un.tbls⟩
 .obtain⟨o',eB⟩:=inB b o q hb;have e1:=un.keep b o q n hb hx;have e2:=fl.1 b o' eB;rw[e1] at e2;cases e2;exact k2 b _ eB
 .obtain⟨sl,e1⟩:=un.slot b o q n hb hx;obtain⟨o2,e2,hd⟩:=frm b hb;rw[e1] at e2;cases e2;obtain⟨sl2,e3⟩:=sm b _ e1 hd;exact⟨sl2,e3⟩
 .by_cases hb:b∈frs outer
  .obtain⟨o2,e2,hd⟩:=frm b hb;obtain⟨sl2,e3⟩:=sm b _ e2 hd;exact⟨_,e3⟩
  .obtain⟨o',eB⟩:=inB b o q hb;exact⟨o',k2 b o' eB⟩
section
variable{X:Cx}{pins:List (Addr×Obj)}{σ:St}{H:Hp}{s:Shared}{ea:Addr}{cls:Value}
theorem Cau.inv(c:Cau X pins σ H ea cls s):Inv X pins σ H s:=by
 obtain⟨H1,s0,B,a0,I0,os,bare,un,hok,fl,hB1,hB2⟩:=c.ex;exact I0.call' (ch:=[]) os un hok bare (λb z=>absurd z (by simp))
theorem Cau.ty(c:Cau X pins σ H ea cls s){M:Model}:PySem.W.Looks M s.heap (typeOf (.ref ea)) cls:=by
 obtain⟨H1,s0,B,a0,I0,os,bare,un,hok,fl,hB1,hB2⟩:=c.ex;obtain⟨ob,ho,hc⟩:=fl.there;exact hc ▸ (PySem.W.Looks.ld ho).andThen .now
theorem Cau.again(c:Cau X pins σ H ea cls s){M:Model}{A:Around}{E:Value->Shared->Prop}{Q:Unit->Shared->Prop}(h:∀h',Cau X pins σ H ea cls {s with heap:=h'}->Q () {s with heap:=h'}) :
  wpAny M A (setFlight (.ref ea) none) Q E s:=by
 obtain⟨H1,s0,B,a0,I0,os,bare,un,hok,fl,hB1,hB2⟩:=c.ex;refine lands_againW fl λh' fl' sm=>h h' ⟨H1,s0,B,a0,I0,os,bare,un_fly un fl fl'.1 sm hB2,hok.by hB1 fl.1 fl'.1,fl',hB1,hB2⟩
end
def PH(X:Cx)(hs:List ExceptHandler)(th:Value->TS):Prop:=
 ∀(pins:List (Addr×Obj))(s:Shared)(σ:St)(H:Hp)(D:Ends)(ea:Addr)(cls:Value),Cau X pins σ H ea cls s->th cls D σ H->wpAny (model X.prog X.w) X.A (handleBy (.ref ea) X.env hs) (SP X pins D) X.xe s
def tTry(tb:(Value->St->Hp->Prop)->TS)(th:Value->TS):TS:=λD σ H=>tb (λcls σ' H'=>th cls D σ' H') D σ H
theorem ps_try{X:Cx}{body:List Stmt}{h₀:ExceptHandler}{hs:List ExceptHandler}{pos:Pos}{tb:(Value->St->Hp->Prop)->TS}{th:Value->TS}(O:Own X)(hb:∀pins R,PSs (X.tr pins R) body (tb R))(hh:PH X (h₀::hs) th) :
  PS X (.Try body (h₀::hs) [] [] pos) (tTry tb th):=by
 intro pins s σ H D I h;refine wpAny_Try_except (wpAny_mono (hb pins _ [] s σ H D (I.toTr _) h) (λf s1 q=>?_) λe s1 hx=>?_)
 .cases f with
  | next=>obtain⟨σ',H',I',q⟩:=q;exact wpAny_execs_nil ⟨σ',H',I'.ofTr,q⟩
  | brk=>obtain⟨σ',H',I',q⟩:=q;exact⟨σ',H',I'.ofTr,q⟩
  | cont=>obtain⟨σ',H',I',q⟩:=q;exact⟨σ',H',I'.ofTr,q⟩
  | ret u=>obtain⟨v,σ',H',I',r,q⟩:=q;exact⟨v,σ',H',I'.ofTr,r,q⟩
 .obtain⟨pins',σ1,H1,s0,I0,ea,cls,a0,B,H',rfl,os,bare,un,hok,fl,hB1,hB2,he⟩:=hx;have fl0:Heap.FlyingW B (X.env::X.outer) ea cls a0 s1.heap:=by rw[<-O.st];exact fl
  refine wpAny_looks_onW (L:=X.env.locals) (by rw[I.ok.frames,O.st]) O.fr fl0 λh4 held sm4=>?_;refine wpAny_landsW held λh5 fl5 sm5=>?_;have fl5':Heap.FlyingW B X.stack ea cls a0 h5:=by rw[O.st];exact fl5
  refine hh pins _ σ1 H' D ea cls ⟨H1,s0,B,a0,I0.ofPin,os,bare,un_fly un fl fl5'.1 (sm4.trans sm5) hB2,hok.by hB1 fl.1 fl5'.1,fl5',hB1,hB2⟩ he
def tHit(K:W.Frag)(C:Addr)(ts:TS)(tr:Value->TS):Value->TS:=λcls D σ H=>∃b,PySem.W.exmOne K cls (.ref C)=some b/\if b=true then ts D σ H else tr cls D σ H
theorem ph_nil{X:Cx}:PH X [] (λ_ _ _ _=>False):=λ_ _ _ _ _ _ _ _ h=>h.elim
def excO(a C:Addr):HO:=.ext λh=>∃o vs,h.get? a=some o/\o.cls=.ref C/\o.data=.fields vs
section
variable{X:Cx}{pins:List (Addr×Obj)}{σ:St}{H:Hp}{s:Shared}{ea C:Addr}
theorem Cau.track(O:Own X)(c:Cau X pins σ H ea (.ref C) s):H ea=none/\Inv X pins σ (upd H ea (excO ea C)) s:=by
 have I:=c.inv;obtain⟨H1,s0,B,a0,I0,os,bare,un,hok,fl,hB1,hB2⟩:=c.ex;obtain⟨oe,vs,he,hec,hed,_⟩:=fl.first;have hBe:B.get? ea=none:=fl.2.1;have hn:H ea=none:=by
  cases q:H ea with
  | none=>rfl
  | some u=>obtain⟨o,e⟩:=hB1 ea u q;rw[hBe] at e;cases e
 have nfr:ea∉frs X.stack:=λhm=>by
  obtain⟨_,o,ho,hd⟩:=fl.2.2.1.mem (show ea∈X.stack.filterMap (·.frame) from hm);rw[he] at ho;cases ho;exact hd _ hed
 have n0:s0.heap.get? ea=none:=by
  cases q:s0.heap.get? ea with
  | none=>rfl
  | some o=>obtain⟨o',e⟩:=hB2 ea o q nfr;rw[hBe] at e;cases e
 have nS:X.s₀.heap.get? ea=none:=by
  cases q:X.s₀.heap.get? ea with
  | none=>rfl
  | some o=>
   obtain⟨o',e⟩:=I0.base.there ea o q (by rw[O.ex];simp);rw[n0] at e;cases e
 have neE:∀b u,H b=some u->b≠ea:=λb u e z=>by rw[z,hn] at e;cases e
 have keepT:∀b u,H b=some u->upd H ea (excO ea C) b=some u:=λb u e=>by rw[upd_ne (neE b u e)];exact e
 refine⟨hn,I.ok,I.os,I.bare,⟨I.base.keep,I.base.slot,λb o e n hx=>?_,I.base.there,λb xs e=>keepT _ _ (I.base.tups b xs e),λb o u e=>keepT _ _ (I.base.frzs b o u e),λb ps e=>?_⟩,I.loc,I.cell,?_,λx a e=>?_,λp hp=>?_,λb u e=>?_,I.len⟩
 .rw[upd_ne (λz=>by rw[z,nS] at e;cases e)];exact I.base.free b o e n hx
 .obtain⟨more,e⟩:=I.base.tbls b ps e;exact⟨more,keepT _ _ e⟩
 .rw [upd_ne (λz=>?_)]
  .exact I.free
  .obtain⟨m,⟨o,es,ep,ho,hd,_⟩,_⟩:=I.loc;rw[z,he] at ho;cases ho;rw[hed] at hd;cases hd
 .rw [upd_ne (λz=>?_)]
  .exact I.freeC x a e
  .obtain⟨v,o,ho,hd⟩:=I.cell x a e;rw[z,he] at ho;cases ho;rw[hed] at hd;cases hd
 .obtain ⟨e,n,ne,nf,d⟩:=I.pin p hp;refine⟨e,?_,ne,nf,d⟩;rw[upd_ne (λz=>?_)]
  .exact n
  .obtain⟨e0,_⟩:=I0.pin p hp;rw[z,n0] at e0;cases e0
 .by_cases hb:b=ea
  .subst hb;rw[upd_same] at e;cases e;refine⟨⟨oe,vs,he,hec,hed⟩,⟨oe,he⟩,λh1 h2 x k=>?_⟩;obtain⟨o,ws,a1,a2,a3⟩:=x;exact⟨o,ws,k o a1,a2,a3⟩
  .rw[upd_ne hb] at e;exact(I.hok b u e).stay (λ_ _ _ q=>q) (λa q=>keepT _ _ q) λa xs q=>keepT _ _ q
theorem Inv.goes{i:Nat}{x:Str}{h':Heap}{v:Option Value}{t':Nat}{m:Str->Option Value}(I:Inv X pins σ H s)(hN:X.N.Nodup)(hi:X.N[i]?=some x)(hn:s.heap.Ns X.env.locals m)
  (hl:∀(j:Nat)(y:Str)(v:V),X.N[j]?=some y->σ[j]?=some (some v)->Vis X.env.scope y->∃u,RelV v u/\Look X.env s.heap m y u)
  (hn':h'.Ns X.env.locals (λy=>if y=x then v else m y)) (hs:Heap.SameBut X.env.locals s.heap h'):Inv X pins (σ.set i none) H {s with heap:=h',toks:=t'}:=by
 have lt:∀b o,X.s₀.heap.get? b=some o->b≠X.env.locals:=λb o e=>Nat.ne_of_lt (Nat.lt_of_lt_of_le (Heap.lt_size e) I.ok.above);obtain⟨oL,_,_,hoL,_⟩:=id hn;refine⟨I.ok,I.os,I.bare,⟨λb o e n hb hx=>?_,λb o e n hb hx=>?_,I.base.free,λb o e hx=>?_,I.base.tups,I.base.frzs,I.base.tbls⟩,⟨_,hn',λj y w e1 e2 e3=>?_⟩,λy c e=>?_,I.free,I.freeC,λp hp=>?_,λb u e=>?_,by simpa using I.len⟩
 .exact(hs.2 b (lt b o e)).trans (I.base.keep b o e n hb hx)
 .obtain⟨sl,e1⟩:=I.base.slot b o e n hb hx;exact⟨sl,(hs.2 b (lt b o e)).trans e1⟩
 .obtain⟨o',e1⟩:=I.base.there b o e hx;exact⟨o',(hs.2 b (lt b o e)).trans e1⟩
 .by_cases hj:j=i
  .subst hj;rw[List.getElem?_set] at e2;simp only[if_true] at e2
   split at e2<;>cases e2
  .rw [List.getElem?_set_ne (Ne.symm hj)] at e2;obtain⟨u,r,q⟩:=hl j y w e1 e2 e3;refine⟨u,r,?_⟩;rcases q with⟨k,e⟩|⟨k,c,e,z⟩
   .refine .inl ⟨k,?_⟩;have ny:y≠x:=λe=>hj (nodup_ix hN e1 (e ▸ hi));simp[ny,e]
   .exact .inr ⟨k,c,e,z.sameBut hs (I.cne y c e)⟩
 .obtain⟨w,z⟩:=I.cell y c e;exact⟨w,z.sameBut hs (I.cne y c e)⟩
 .obtain⟨e,n,ne,nf,d⟩:=I.pin p hp;exact⟨(hs.2 p.1 ne).trans e,n,ne,nf,d⟩
 .refine(I.hok b u e).stay (λc w hc q=>(hs.2 c ?_).trans q) (λ_ q=>q) λ_ _ q=>q;rintro rfl;rcases hc with rfl|hc
  .rw[I.free] at e;cases e
  .rw[I.free] at hc;cases hc
theorem goes_ok{M:Model}{A:Around}{E:Value->Shared->Prop}{i:Nat}{x:Str}{pos:Pos}{Q:Unit->Shared->Prop}(I:Inv X pins σ H s)(hN:X.N.Nodup)(hi:X.N[i]?=some x)(hk:X.env.kindOf x=some .local)
  (h:∀s',Inv X pins (σ.set i none) H s'->Q () s'):wpAny M A (do bindName X.env x .none;unbindBehindTheSuite X.env x pos) Q E s:=by
 obtain⟨m,hn,hl⟩:=I.loc;refine wpAny_nameGoes_keeps hk hn (by rw[I.ok.kind];rfl) λh' v hn' hs=>h _ (I.goes hN hi hn hl hn' hs)
end
def tHitAs(K:W.Frag)(C:Addr)(i:Nat)(ts:TS)(tr:Value->TS):Value->TS:=λcls D σ H=>∃b,PySem.W.exmOne K cls (.ref C)=some b/\if b=true then
  ∃Cx,cls=.ref Cx/\∀ea,H ea=none->ts {nx:=λσ' H'=>D.nx (σ'.set i none) H',rt:=D.rt,bk:=λσ' H'=>D.bk (σ'.set i none) H',ct:=λσ' H'=>D.ct (σ'.set i none) H'} (σ.set i (some (.ref ea))) (upd H ea (excO ea Cx))
 else tr cls D σ H
theorem ph_hitAs{X:Cx}{x n:Str}{C:Addr}{i:Nat}{np pos:Pos}{b₀:Stmt}{suite:List Stmt}{rest:List ExceptHandler}{ts:TS}{tr:Value->TS}(O:Own X)(hg:Gl X x)(hm:X.mg x=some (.ref C))(hN:X.N.Nodup)(hi:X.N[i]?=some n)(hk:X.env.kindOf n=some .local)
  (hlo:X.env.scope.names.lookup n=some .local) (hs:∀ea,PSs (X.held ea) (b₀::suite) ts) (hr:PH X rest tr) (hd:(x==("__debug__":Str))=false:=by decide) :
  PH X (.ExceptHandler (some (.Name x np)) (some n) (b₀::suite) pos::rest) (tHitAs X.K C i ts tr):=by
 intro pins s σ H D ea cls c h;obtain⟨b,hx,h⟩:=h;refine wpAny_handleBy_cons (codeAny_handlers_test (ld_glob (X:=X.held ea) (c.inv.toHeld ea) hg hm ?_ hd)) (by intro q;cases q);refine(PySem.W.exm_one c.inv.kIn c.ty hx).here ?_;cases b with
 | true=>
  rw[if_pos rfl] at h;obtain⟨Cx,rfl,h⟩:=h;refine codeAny_handlers_suite_as (c.again λh' c'=>?_);obtain⟨hn,I'⟩:=c'.track O;refine store_ok (X:=X.held ea) (I'.toHeld ea) hN hi (.inl hlo) (v:=.ref ea) (u:=.ref ea) rfl (λs3 I3=>?_) (.inr hlo);refine wpAny_mono (hs ea pins s3 _ _ _ I3 (h ea hn)) (λf s4 q=>?_) λ_ _ z=>False.elim z;show wpAny _ X.A (do bindName X.env n .none;unbindBehindTheSuite X.env n pos) (λ_ s5=>SP X pins D f s5) X.xe s4;cases f with
  | next=>obtain⟨σ',H',I4,q⟩:=q;exact goes_ok (I4.ofHeld c.inv.ok) hN hi hk λs5 I5=>⟨_,H',I5,q⟩
  | brk=>obtain⟨σ',H',I4,q⟩:=q;exact goes_ok (I4.ofHeld c.inv.ok) hN hi hk λs5 I5=>⟨_,H',I5,q⟩
  | cont=>obtain⟨σ',H',I4,q⟩:=q;exact goes_ok (I4.ofHeld c.inv.ok) hN hi hk λs5 I5=>⟨_,H',I5,q⟩
  | ret u=>obtain⟨v,σ',H',I4,r,q⟩:=q;exact goes_ok (I4.ofHeld c.inv.ok) hN hi hk λs5 I5=>⟨v,_,H',I5,r,q⟩
 | false=>
  rw[if_neg Bool.false_ne_true] at h;exact hr pins s σ H D ea cls c h
def PassS(CX:CXT)(X:Cx)(E:St->XK):Prop:=∀(pins:List (Addr×Obj))(σ:St)(H:Hp)(s:Shared)(e:Value)(s':Shared),Inv X pins σ H s->CX X.stack H s (E σ) e s'->X.xe e s'
theorem passTr{X:Cx}{pins:List (Addr×Obj)}{R:Value->St->Hp->Prop}:PassS (CXx X.prog X.w) (X.tr pins R) (λσ cls _ H'=>R cls σ H'):=λpins' σ H s e s' I h=>⟨pins',σ,H,s,I.trPin,h⟩
def tMakeS(C:Addr)(sp:Sp)(E:St->XK)(t:TA):TE:=λσ H Q=>t σ H λvs H1=>∀x dx,H1 x=none->H1 dx=none->dx≠x →
 sp (.ref x::vs) (upd (upd H1 dx (.own x)) x (.ins C dx [])) (λv H2=>v=.non/\Q (.ref x) H2) (E σ)
section
variable{X:Cx}{CX:CXT}{k:Nat}{f C:Addr}{fd:FuncData}{ps:List Str}{sp:Sp}{E:St->XK}{x:Str}{p pos:Pos}{e:Expr}{es:List Expr}{t:TA}
end
end L2
namespace L2
open PySem PySem.Spec PyProof.Rows PySem.W Builtin Builtin.ObjectAttr Builtin.Getset_descriptor
structure ExcA(K:Frag)(C:Addr):Prop where
 ga:findIn K (.ref C) "__getattribute__"=some (some (.builtin "BaseException.__getattribute__"))
 gx:findIn K (.ref C) "__getattr__"=some none
 ca:findIn K (.ref C) "__class__"=some (some (.builtin "object.__class__"))
 cn:specialIn K (.builtin "object.__class__") "__get__"=some (some (.builtin "getset_descriptor.__get__"))
 ct:takesIn K (.builtin "object.__class__")=some true
 mo:mroIn K C (.type "object")=some true
 mb:mroIn K C (.type "BaseException")=some true
 cl:(clsIn K C).isSome=true
section
variable{K:Frag}{C x:Addr}{h:Heap}{M:Model}
theorem excLookFind(X:K.In h)(T:ExcA K C):Looks M h (find (.ref x) (.ref C) "__class__") (.bind (.builtin "getset_descriptor.__get__") (.builtin "object.__class__")):=by
 have l1:=looks_findIn (M:=M) X T.ca;have l2:Looks M h (getOf (some (.builtin "object.__class__"))) (some (.builtin "getset_descriptor.__get__")):=looks_specialIn X T.cn;have l3:=looks_takesIn (M:=M) X T.ct;refine l1.andThen (l2.andThen ?_);have l4:Looks M h (dataDescriptor? (some (.builtin "object.__class__")) (some (.builtin "getset_descriptor.__get__"))) (some (.builtin "getset_descriptor.__get__",.builtin "object.__class__")):=l3.andThen .now;exact l4.andThen (Looks.tag .now)
variable{prog:Program}{w:World}{A:Around}{E:Value->Shared->Prop}{s:Shared}
theorem excClassGet{R:Result->Shared->Prop}{tp:Value}(X:K.In s.heap)(LT:Looks (model prog w) s.heap (typeOf (.ref x)) (.ref C))(T:ExcA K C)(h:R (.ok (.ret (.ref C))) s) :
  codeAny (model prog w) A (.call (.builtin "getset_descriptor.__get__") ⟨[.builtin "object.__class__",.ref x,tp],[]⟩) R s:=by
 obtain⟨hh,gg,dd,tt,oo⟩:=s;have lm:=looks_mroIn (M:=model prog w) X T.mo;refine codeAny_call_builtin KF.slot_gs.plain KF.entry_gs
  (KF.slot_gs.check _ _ _ _ _ _ _ _ KF.type_class (KF.args_gs _ _ _) ?_)
 unfold Builtin.«getset_descriptor.__get__»;unfold descrGet;rw[dga_obj];refine wpAny_bind (wpAny_pure ?_);unfold descrGetter descrCheckInstance;unfold descrNameAndClass isInstance;simp only[KF.owner_class]
 repeat lk
 refine⟨Code.quiet_builtin _ (by decide +kernel),
  codeAny_builtin KF.entry_class ?_⟩
 unfold Builtin.«object.__class__»;unfold shownTypeOf
 repeat lk
 first|exact h|skip
theorem excCheckGa{nameV:Value}{Q:Unit->Shared->Prop}(X:K.In s.heap)(LT:Looks M s.heap (typeOf (.ref x)) (.ref C))(T:ExcA K C)(hq:Q () s) :
  wpAny M A (checkBuiltinCall "BaseException.__getattribute__" ⟨[.ref x,nameV],[]⟩) Q E s:=by
 obtain⟨hh,gg,dd,tt,oo⟩:=s;have lm:=looks_mroIn (M:=M) X T.mb;have li:Looks M hh (isInstance (.ref x) (.type "BaseException")) true:=LT.andThen lm;have k1:builtinKind "BaseException.__getattribute__"=some .slot:=by decide +kernel
 have k2:splitId "BaseException.__getattribute__"=some ("BaseException","__getattribute__"):=by decide +kernel
 have ar:=F.args_bexc_ga (.ref x) nameV;simp only[checkBuiltinCall,k1,k2];refine wpAny_bind (li.at ?_)
 repeat (any_goals (first|assumption|wp_step))
 all_goals first|exact hq|skip
theorem excGetEntry{tk:Tok}{Q:Fin->Shared->Prop}(X:K.In s.heap)(LT:Looks (model prog w) s.heap (typeOf (.ref x)) (.ref C))(T:ExcA K C)(hq:Q (.done (.ret (.ref C))) s) :
  wpAny (model prog w) A (Builtin.«object.__getattribute__» ⟨[.ref x,.str "__class__" tk],[]⟩) Q E s:=by
 have lf:=excLookFind (x:=x) (M:=model prog w) X T;unfold Builtin.«object.__getattribute__»;refine wpAny_bind (wpAny_pure ?_);refine wpAny_bind (wpAny_pure ?_);refine wpAny_bind (LT.here (wpAny_bind (lf.here ?_)));show wpAny _ _ (holding _ (call _ [_,.ref x,.ref C]) >>= ret) _ _ _;refine wpAny_bind (wpAny_holding (wpAny_call (excClassGet X LT T ?_)));exact wpAny_pure hq
theorem excClassAttr{Q:Option Value->Shared->Prop}(X:K.In s.heap)(LT:Looks (model prog w) s.heap (typeOf (.ref x)) (.ref C))(T:ExcA K C)(h:Q (some (.ref C)) {s with toks:=s.toks+1}) :
  wpAny (model prog w) A (getAttr? (.ref x) "__class__") Q E s:=by
 have lg:=looks_findIn (M:=model prog w) X T.ga;have lx:=looks_findIn (M:=model prog w) X T.gx;obtain⟨hh,gg,dd,tt,oo⟩:=s;have bd:=F.attr_ValueError.ga.bind (.ref x);unfold getAttr? getAttrBy?;unfold getAttrBy;refine wpAny_bind (wpAny_mkText (wpAny_bind (wpAny_attempt (wpAny_holding ?_))));refine wpAny_bind (LT.at (wpAny_bind (lg.at ?_)));show wpAny _ _ (getAttrByItsOwn (.ref x) _ (.ref C) (.builtin "BaseException.__getattribute__") false false) _ _ _;unfold getAttrByItsOwn;show wpAny _ _ (typeLookup (.ref C) "__getattr__" >>= _) _ _ _;refine wpAny_bind (lx.at ?_);refine wpAny_bind (wpAny_attempt (wpAny_holding ?_));show wpAny _ _ (boundAndCalled (.builtin "BaseException.__getattribute__") (.ref x) _) _ _ _;unfold boundAndCalled;rw[bd];refine wpAny_bind (wpAny_pure ?_);refine wpAny_call (codeAny_call_builtin F.attr_ValueError.ga.plain F.entry_bexc_ga (excCheckGa X LT T (excGetEntry X LT T ?_)));refine wpAny_pure ?_;exact wpAny_pure h
theorem kitx_exc{K:Frag}{x C:Addr}(T:ExcA K C):KitX K (.ref x) (.ref C) (λh=>∃o vs,h.get? x=some o/\o.cls=.ref C/\o.data=.fields vs) where
 ty:=λM h _ p=>by
  obtain⟨o,vs,e1,e2,_⟩:=p;exact e2 ▸ (Looks.ld e1).andThen .now
 it:=λM h X _=>by
  have c:=T.cl;unfold clsIn at c
  split at c
  .rename_i c' d' cd' sl' ho
   intro A' Q' E' s' k q;unfold isType;unfold loadHead;exact wpAny_bind (wpAny_loadPart (k _ _ (X _ _ ho)) (wpAny_pure q))
  .cases c
 ne:=λh tp dd its n sl X htp=>by
  refine Bool.eq_false_iff.mpr λq=>?_;have e:C=tp:=Value.ref.inj (beq_iff_eq.mp q);subst e;have c:=T.cl;unfold clsIn at c
  split at c
  .rename_i c' d' cd' sl' ho
   have z:=(X _ _ ho).symm.trans htp;cases z
  .cases c
 ca:=λ{prog w A E Q s} X p k=>by
  obtain⟨o,vs,e1,e2,_⟩:=p;exact excClassAttr X (e2 ▸ (Looks.ld e1).andThen .now) T k
end
theorem vals_refsX:∀{ds:List Addr}{cs:List Value},Vals (ds.map V.ref) cs->cs=ds.map Value.ref
 | [],_,.nil=>rfl
 | d::ds,_,.cons r t=>by
  have e:=vals_refsX (ds:=ds) t;have r:_=Value.ref d:=r;rw[r,e];rfl
def rIsi(K:Frag):List V->Hp->VK->Prop:=λvs H Q=>∃a C b,H a=some (excO a C)/\ExcA K C/\Q (.bl b) H ∧
  ((∃D,vs=[.ref a,.ref D]/\kitOne K (.ref C) (.ref D)=some b)\/(∃T,vs=[.ref a,.ty T]/\kitOne K (.ref C) (.type T)=some b) ∨
   ∃(t:Addr)(ds:List Addr),vs=[.ref a,.ref t]/\H t=some (.tup (ds.map V.ref))/\kitAny K (.ref C) (ds.map Value.ref)=some b)
theorem call_isi{X:Cx}:CallR X (.builtin "isinstance") (rIsi X.K):=by
 intro pins s σ H vs us Q I r h;obtain⟨a,C,b,ha,T,q,h⟩:=h;obtain⟨φ,_,_⟩:=(show ObjOk X.prog X.w H s.heap a (excO a C) from I.hok a _ ha);have fin:∀tk,EP X pins σ Q (.bool b) {s with toks:=tk}:=λtk=>⟨.bl b,H,I.tok tk,rfl,q⟩;rcases h with⟨D,rfl,e⟩|⟨T',rfl,e⟩|⟨t,ds,rfl,et,e⟩
 .obtain⟨u,v,rfl,r1,r2⟩:=vals2 r;cases(show u=Value.ref a from r1);cases(show v=Value.ref D from r2);exact kia_one (kitx_exc T) I.kIn φ e (λz=>nomatch z) fin
 .obtain⟨u,v,rfl,r1,r2⟩:=vals2 r;cases(show u=Value.ref a from r1);cases(show v=Value.type T' from r2);exact kia_one (kitx_exc T) I.kIn φ e (λz=>nomatch z) fin
 .obtain⟨u,v,rfl,r1,r2⟩:=vals2 r;cases(show u=Value.ref a from r1);cases(show v=Value.ref t from r2);obtain⟨_,its,rv,o,h1,h2,n,h3⟩:=(show ObjOk X.prog X.w H s.heap t (.tup (ds.map V.ref)) from I.hok t _ et);obtain rfl:=vals_refsX rv;obtain⟨oc,od,oda,osl⟩:=o;dsimp only at h2 h3;subst h2 h3;exact kia_tup (kitx_exc T) I.kIn φ h1 e (λz=>nomatch z) fin
end L2
namespace Sx
open PySem.W PyProof.Rows
def Wp{α:Type}(N:Nat)(lt:Nat->Nat->Bool):KasT α->(α->Prop)->Prop
 | .ret a,Q=>Q a
 | .ask i j k,Q=>i<N/\j<N/\Wp N lt (k (lt i j)) Q
theorem Wp.bind{α β:Type}{N:Nat}{lt:Nat->Nat->Bool}{f:α->KasT β}{Q:β->Prop}:∀(t:KasT α),Wp N lt t (λa=>Wp N lt (f a) Q)->Wp N lt (t.bind f) Q
 | .ret _,h=>h
 | .ask _ _ k,⟨h1,h2,h⟩=>⟨h1,h2,Wp.bind (k _) h⟩
section
variable{O:KeyOrd}(key:Nat->O.α)
def KP(p:Array Nat)(i:Nat):O.α:=key (p[i]?.getD 0)
def Up(p:Array Nat)(k:Nat):Prop:=∀i j,i<=j->j<k->O.kle (KP key p i) (KP key p j)
def Down(p:Array Nat)(k:Nat):Prop:=∀i j,i<=j->j<k->O.kle (KP key p j) (KP key p i)
def ltK(i j:Nat):Bool:=O.blt (key i) (key j)
def PB(N:Nat)(p:Array Nat):Prop:=p.Perm (List.range N).toArray
end
theorem PB.size{N:Nat}{p:Array Nat}(h:PB N p):p.size=N:=by
 have:=Array.Perm.size_eq h;simpa using this
theorem PB.below{N:Nat}{p:Array Nat}(h:PB N p){i:Nat}(hi:i<N):p.getD i 0<N:=by
 have hs:=h.size;have hi':i<p.size:=by omega
 have e:p.getD i 0=p[i]:=by simp[Array.getD,hi']
 have hm:p[i]∈(List.range N).toArray:=(Array.Perm.mem_iff h).mp (Array.getElem_mem hi');rw[e];simpa using hm
theorem getD_eq(p:Array Nat)(i:Nat):p.getD i 0=p[i]?.getD 0:=by simp
theorem PB.rev{N:Nat}{p:Array Nat}(h:PB N p)(i j:Nat):PB N (kas_rev p i j):=(mirror_perm _ _ _ _).trans h
theorem PB.bub{N:Nat}{p:Array Nat}(h:PB N p)(i j:Nat):PB N (bubble p i j):=(bubble_perm _ _ _).trans h
section
variable{O:KeyOrd}{key:Nat->O.α}{N:Nat}{p:Array Nat}
theorem KP_rev{i j:Nat}(hj:j<=p.size)(k:Nat):KP key (kas_rev p i j) k=if i<=k/\k<j then KP key p (i+j-1-k) else KP key p k:=by
 have e:=getElem?_mirror_all (xs:=p) (i:=i) hj k;unfold KP kas_rev;rw[e];by_cases h:i<=k/\k<j
 .rw[if_pos h,if_pos h]
 .rw[if_neg h,if_neg h]
theorem KP_bub{src d:Nat}(hs:src<p.size)(hd:d<=src)(k:Nat) :
  KP key (bubble p src d) k=if k=src-d then KP key p src else if src-d<k/\k<=src then KP key p (k-1) else KP key p k:=by
 have e:=getElem?_bubble hs d hd k;unfold KP;rw[e];by_cases h:k=src-d
 .rw[if_pos h,if_pos h]
 .rw[if_neg h,if_neg h];by_cases h2:src-d<k/\k<=src
  .rw[if_pos h2,if_pos h2]
  .rw[if_neg h2,if_neg h2]
theorem KP_rev_alike{i j:Nat}(hj:j<=p.size)(he:∀k,i<=k->k<j->KP key p k=KP key p (j-1))(k:Nat):KP key (kas_rev p i j) k=KP key p k:=by
 rw[KP_rev hj];by_cases h:i<=k/\k<j
 .rw[if_pos h,he _ (by omega) (by omega),he k h.1 h.2]
 .rw[if_neg h]
theorem lt_true{i j:Nat}(h:ltK key (p.getD i 0) (p.getD j 0)=true):O.klt (KP key p i) (KP key p j):=by
 rw[getD_eq,getD_eq] at h;exact h
theorem lt_false{i j:Nat}(h:ltK key (p.getD i 0) (p.getD j 0)=false):O.kle (KP key p j) (KP key p i):=by
 rw[getD_eq,getD_eq] at h;exact h
theorem Up.grow{n:Nat}(h:Up key p n)(h1:1<=n)(hn:O.kle (KP key p (n-1)) (KP key p n)):Up key p (n+1):=λi j hij hj=>by
 by_cases e:j<n
 .exact h i j hij e
 .obtain rfl:j=n:=by omega
  by_cases e2:i=j
  .subst e2;exact KeyOrd.kle_refl _
  .exact KeyOrd.kle_trans (h i (j-1) (by omega) (by omega)) hn
theorem Down.grow{n:Nat}(h:Down key p n)(h1:1<=n)(hn:O.kle (KP key p n) (KP key p (n-1))):Down key p (n+1):=λi j hij hj=>by
 by_cases e:j<n
 .exact h i j hij e
 .obtain rfl:j=n:=by omega
  by_cases e2:i=j
  .subst e2;exact KeyOrd.kle_refl _
  .exact KeyOrd.kle_trans hn (h i (j-1) (by omega) (by omega))
theorem place_wp{k:Nat}{Q:Nat->Prop}(hp:PB N p)(hk:k<N)(hu:Up key p k):∀(f l r:Nat),l<=r->r<=k->r-l<=f->(∀i,i<l->O.kle (KP key p i) (KP key p k))->(∀i,r<=i->i<k->O.klt (KP key p k) (KP key p i)) →
  (∀l,l<=k->(∀i,i<l->O.kle (KP key p i) (KP key p k))->(∀i,l<=i->i<k->O.klt (KP key p k) (KP key p i))->Q l)->Wp N (ltK key) (kas_place p k f l r) Q
 | 0,l,r,a,b,c,lo,hi,h=>h l (by omega) lo (λi x y=>hi i (by omega) y)
 | f+1,l,r,a,b,c,lo,hi,h=>by
  unfold kas_place;by_cases e:l>=r
  .rw[if_pos e];exact h l (by omega) lo (λi x y=>hi i (by omega) y)
  .rw[if_neg e];refine⟨hp.below hk,hp.below (by omega),?_⟩;cases d:ltK key (p.getD k 0) (p.getD ((l+r) / 2) 0) with
   | true=>exact place_wp hp hk hu f l ((l+r) / 2) (by omega) (by omega) (by omega) lo (λi x y=>KeyOrd.klt_of_klt_of_kle (lt_true d) (hu _ _ x y)) h
   | false=>exact place_wp hp hk hu f ((l+r) / 2+1) r (by omega) b (by omega) (λi x=>KeyOrd.kle_trans (hu i ((l+r) / 2) (by omega) (by omega)) (lt_false d)) hi h
end
end Sx
namespace Sx
open PySem PySem.W PyProof.Rows
theorem lex_irr:∀a:List Int,HT.lexLt a a=false
 | []=>rfl
 | x::xs=>by rw[HT.lexLt_cons,if_pos rfl];exact lex_irr xs
theorem lex_trans:∀a b c:List Int,HT.lexLt a b=true->HT.lexLt b c=true->HT.lexLt a c=true
 | [],_,[],h1,h2=>by
  rename_i b
  cases b with
  | nil=>exact h1
  | cons y ys=>rw[HT.lexLt_cons_nil] at h2;cases h2
 | [],_,_::_,_,_=>rfl
 | x::xs,[],_,h1,_=>by rw[HT.lexLt_cons_nil] at h1;cases h1
 | x::xs,y::ys,[],_,h2=>by rw[HT.lexLt_cons_nil] at h2;cases h2
 | x::xs,y::ys,z::zs,h1,h2=>by
  rw[HT.lexLt_cons] at h1 h2 ⊢;by_cases e1:x=y
  .subst e1;rw[if_pos rfl] at h1;by_cases e2:x=z
   .rw[if_pos e2] at h2 ⊢;exact lex_trans xs ys zs h1 h2
   .rw[if_neg e2] at h2 ⊢;exact h2
  .rw [if_neg e1] at h1;have l1:x<y:=of_decide_eq_true h1;by_cases e2:y=z
   .subst e2;rw[if_neg e1];exact h1
   .rw[if_neg e2] at h2;have l2:y<z:=of_decide_eq_true h2;rw[if_neg (by omega)];exact decide_eq_true (by omega)
theorem lex_tot:∀a b:List Int,HT.lexLt a b=false->HT.lexLt b a=false->a=b
 | [],[],_,_=>rfl
 | [],_::_,h,_=>by rw[HT.lexLt_nil_cons] at h;cases h
 | _::_,[],_,h=>by rw[HT.lexLt_nil_cons] at h;cases h
 | x::xs,y::ys,h1,h2=>by
  rw[HT.lexLt_cons] at h1 h2;by_cases e:x=y
  .subst e;rw[if_pos rfl] at h1 h2;rw[lex_tot xs ys h1 h2]
  .rw[if_neg e] at h1;rw[if_neg (Ne.symm e)] at h2;have l1:¬x<y:=of_decide_eq_false h1;have l2:¬y<x:=of_decide_eq_false h2;omega
theorem lex_neg(a b c:List Int)(h:HT.lexLt a c=true):HT.lexLt a b=true\/HT.lexLt b c=true:=by
 cases e1:HT.lexLt a b with
 | true=>exact .inl rfl
 | false=>
  refine .inr ?_;cases e2:HT.lexLt b a with
  | true=>exact lex_trans b a c e2 h
  | false=>
   have e:=lex_tot a b e1 e2;subst e;exact h
def lexO:KeyOrd where
 α:=List Int
 blt:=HT.lexLt
 irrefl:=lex_irr
 trans:=lex_trans
 negTrans:=lex_neg
 total:=lex_tot
section
variable{prog:Program}{w:World}{A:Around}{E:Value->Shared->Prop}{s:Shared}
theorem kat_ints{b fin:Bool}{Q:Bool->Shared->Prop}:∀{vs us:List Value}{ns ms:List Int}(i:Nat),IntsAre vs ns->IntsAre us ms->fin=decide (ns.length<ms.length)->Q (HT.lexLt ns ms) s →
  KatLex prog w A b fin Q (vs.zip us) i s
 | _,_,_,_,i,.nil,.nil,e,h=>by
  have e':fin=false:=e;subst e';exact kat_nil h
 | _,_,_,_,i,.nil,.cons _ _ _,e,h=>by
  have e':fin=true:=by rw[e];exact decide_eq_true (by simp)
  subst e';exact kat_nil h
 | _,_,_,_,i,.cons _ _ _,.nil,e,h=>by
  have e':fin=false:=by rw[e];exact decide_eq_false (by simp)
  subst e';exact kat_nil h
 | _,_,_,_,i,.cons a t ha,.cons c u hc,e,h=>by
  rw[List.zip_cons_cons];rw[HT.lexLt_cons] at h;refine kat_cons (wpAny_eqBool_int (kat_go (λq=>?_) λq=>?_))
  .have ac:a=c:=eq_of_beq q;rw[if_pos ac] at h;exact kat_yes (kat_ints (i+1) ha hc (by rw[e];simp) h)
  .have ac:¬a=c:=by simpa using q
   rw[if_neg ac] at h;refine kat_no ?_;cases(b&&i==0) with
   | true=>exact oneLt_int h
   | false=>exact kat_one _ _ (PyProof.Rows.lt_int h)
def TupI(h:Heap)(a:Addr)(t:List Int):Prop:=∃o its n,h.get? a=some o/\o.cls=.type "tuple"/\o.data=.seq its n/\IntsAre its.toList t
theorem TupI.keep{h h':Heap}{a:Addr}{t:List Int}(x:TupI h a t)(k:∀o,h.get? a=some o->h'.get? a=some o):TupI h' a t:=
 let ⟨o,its,n,e,r⟩:=x;⟨o,its,n,k o e,r⟩
theorem lt_tups{x y:Addr}{b:Bool}{t u:List Int}{Q:Bool->Shared->Prop}(hx:TupI s.heap x t)(hy:TupI s.heap y u)(h:Q (HT.lexLt t u) s):wpAny (model prog w) A (keyLt' (tuples' b) (.ref x) (.ref y)) Q E s:=by
 obtain⟨ox,xs,n,ex,_,dx,ix⟩:=hx;obtain⟨oy,ys,k,ey,_,dy,iy⟩:=hy;refine kat_lt ex dx ey dy (kat_ints 0 ix iy ?_ h);rw[<-ix.length,<-iy.length,Array.length_toList,Array.length_toList]
theorem kind_tups{rs:List Addr}{ts:List (List Int)}{Q:SortKind->Shared->Prop}(h2:0<rs.length)(hp:Paired (λr t=>TupI s.heap r t/\t≠[]) rs ts)(h:∀b,Q (tuples' b) s) :
  wpAny (model prog w) A (keyKind' (rs.map Value.ref).toArray) Q E s:=by
 have all:∃fs:List Value,KatTups s.heap (rs.map Value.ref) fs/\fs.length=rs.length/\∀v∈fs,∃i t,v=Value.int i t:=by
  clear h h2
  induction hp with
  | nil=>exact⟨[],trivial,rfl,λv hv=>nomatch hv⟩
  | @cons r t rs ts hr _ ih=>
   obtain⟨fs,k1,k2,k3⟩:=ih;obtain⟨⟨o,its,n,e,c,d,ii⟩,hne⟩:=hr;cases t with
   | nil=>exact absurd rfl hne
   | cons i t=>
    generalize hL:its.toList=L at ii;cases ii with
    | cons _ tk ii'=>
     have h0:its[0]?=some (Value.int i tk):=by rw[<-Array.getElem?_toList,hL];rfl
     refine⟨Value.int i tk::fs,⟨⟨r,o,its,n,rfl,e,c,d,h0⟩,k1⟩,by rw[List.length_cons,List.length_cons,k2],λv hv=>?_⟩;rcases List.mem_cons.mp hv with rfl|hv
     .exact⟨i,tk,rfl⟩
     .exact k3 v hv
 obtain⟨fs,k1,k2,k3⟩:=all;refine kat_kind (T:=.type "int") k1 (by omega) (λv hv=>?_) (by decide) (h _);obtain⟨i,tk,rfl⟩:=k3 v hv;exact Looks.of_pure rfl
structure Sorted(rs:List Addr)(ts:List (List Int))(rs':List Addr)(ts':List (List Int)):Prop where
 perm:(rs'.zip ts').Perm (rs.zip ts)
 len:rs'.length=ts'.length
 ord:ts'.Pairwise λa b=>HT.lexLt b a=false
theorem pair_at{α β:Type}{F:α->β->Prop}:∀{l₁:List α}{l₂:List β}{i:Nat}{a:α},Paired F l₁ l₂->l₁[i]?=some a->∃b,l₂[i]?=some b/\F a b
 | _,_,_,_,.nil,e=>by simp at e
 | _,_,0,_,.cons h _,e=>by simp at e;subst e;exact⟨_,rfl,h⟩
 | _,_,i+1,a,.cons _ t,e=>by
  obtain⟨b,h1,h2⟩:=pair_at (i:=i) (a:=a) t (by simpa using e);exact⟨b,by simpa using h1,h2⟩
end
end Sx
namespace Sx
open PySem PySem.W PySem.Calls PyProof.Rows
def DictE(h:Heap)(d:Addr)(es:Array DictEntry)(ep:Nat):Prop:=∃o,h.get? d=some o/\o.ExactDict/\o.data=.dict es ep
theorem DictE.at{h h':Heap}{d:Addr}{es:Array DictEntry}{ep:Nat}(x:DictE h d es ep)(k:∀o,h.get? d=some o->h'.get? d=some o):DictE h' d es ep:=let ⟨o,e,r⟩:=x;⟨o,k o e,r⟩
theorem DictE.lt{h:Heap}{d:Addr}{es:Array DictEntry}{ep:Nat}(x:DictE h d es ep):d<h.objs.size:=let ⟨_,e,_⟩:=x;Heap.lt_size e
theorem DictE.ty{s:Shared}{d:Addr}{es:Array DictEntry}{ep:Nat}(x:DictE s.heap d es ep):s.TypeIs (.ref d) "dict":=let ⟨o,e,c,_⟩:=x;⟨o,e,c.1⟩
section
variable{prog:Program}{w:World}{A:Around}{E:Value->Shared->Prop}{s:Shared}{d it:Addr}{es:Array DictEntry}{ep i:Nat}
theorem iter_dictE{Q:Value->Shared->Prop}(lo:(d==sysModules)=false)(hm:DictE s.heap d es ep)
  (hQ:Q (.ref s.heap.objs.size) {s with heap:=s.heap.push {cls:=.type "dict_keyiterator",data:=.fields #[.ref d,.int 0 0,.int es.size 0,.int ep 0]}}):wpAny (model prog w) A (pyIter (.ref d)) Q E s:=by
 obtain⟨o,ho,hc,hd⟩:=id hm;have T:=hm.ty;refine wpAny_pyIter_slot T F.slot_dict_iter (wpAny_call_entry F.slot_dict_iter T F.entry_dict_iter ?_ (F.args_dict_iter_1 _));unfold Builtin.«dict.__iter__» Builtin.Dict.dictSlotNone;refine wpAny_bind (wpAny_bind (wpAny_notOrdered_dict T ?_));show wpAny _ _ (pure (Value.ref d)) _ _ s;refine wpAny_pure ?_;show wpAny _ _ (Builtin.Dict.showsAll d >>= _) _ _ s;unfold Builtin.Dict.showsAll;rw[if_neg (by rw[lo];exact Bool.false_ne_true)];refine wpAny_bind (wpAny_pure (wpAny_bind (wpAny_dictEntries ho hd (wpAny_bind (wpAny_dictEpoch ho hd ?_)))));refine wpAny_bind (wpAny_newObj_type (wpAny_pure ⟨_,rfl,"dict_keyiterator",_,⟨_,Heap.get?_push_size _ rfl,rfl⟩,F.slot_dict_keyiterator_next.lookup,?_⟩));simpa[rawInt] using hQ
theorem next_dictE{Q:Option Value->Shared->Prop}{e:DictEntry}(hit:s.heap.IsKeyIter it d i es.size ep)(hm:DictE s.heap d es ep)(hx:es[i]?=some e)
  (hQ:∀h',h'.IsKeyIter it d (i+1) es.size ep->Heap.SameBut it s.heap h'->Q (some e.key) {s with heap:=h'}):wpAny (model prog w) A (pyNext (.ref it)) Q E s:=by
 obtain⟨o,ho,hc,hd⟩:=id hit;obtain⟨od,hod,hcd,hdd⟩:=id hm;obtain⟨hlt,he⟩:=Array.getElem?_eq_some_iff.mp hx;unfold pyNext;refine wpAny_bind (wpAny_attempt (wpAny_callSpecial?_slot (name:=Str.ofString "__next__") hit.typeIs F.slot_dict_keyiterator_next (wpAny_call_entry F.slot_dict_keyiterator_next hit.typeIs F.entry_dict_keyiterator_next ?_ (F.args_dict_keyiterator_next_1 _))));refine wpAny_bind (wpAny_pure (wpAny_bind (wpAny_bind ?_)))
 first|refine wpAny_bind (wpAny_typeNameOfWhole_keyiter hit.typeIs (wpAny_pure ?_))|refine wpAny_bind (wpAny_typeNameOf_keyiter hit.typeIs (wpAny_pure ?_))
 refine wpAny_bind (wpAny_fieldsOf ho hd ?_);simp only[show Builtin.Dict_items.ownsTuple "dict_keyiterator"=false by decide,Bool.false_eq_true,if_false];show wpAny _ _ (if (Value.ref d==Value.none)=true then _ else _) _ _ s;rw[if_neg (show ¬((Value.ref d==Value.none)=true) from Bool.false_ne_true)];refine wpAny_bind (wpAny_pure (wpAny_bind (wpAny_dictEntries hod hdd ?_)));rw[if_neg (by simp)];refine wpAny_bind (wpAny_pure (wpAny_bind (wpAny_dictEpoch hod hdd ?_)));rw[if_neg (by simp)];refine wpAny_pure ?_;simp only[show ¬((i:Int)<0) from by omega,if_false,Int.toNat_natCast,Array.getElem?_eq_getElem hlt];refine wpAny_bind ?_
 first|refine wpAny_bind (wpAny_typeNameOfWhole_keyiter hit.typeIs (wpAny_pure ?_))|refine wpAny_bind (wpAny_typeNameOf_keyiter hit.typeIs (wpAny_pure ?_))
 refine wpAny_bind (wpAny_isOneOf_keyiter hit.typeIs ?_);show wpAny _ _ (setField (.ref it) 1 (rawInt ((i:Int)+1)) >>= _) _ _ s;refine wpAny_bind (wpAny_setField ho hd (by simp) ?_);have hit':(s.heap.update it (Obj.mapFields (·.setIfInBounds 1 (rawInt ((i:Int)+1))))).IsKeyIter it d (i+1) es.size ep:=
  ⟨_,Heap.get?_update_self _ ho (Obj.isFreed_of_fields (Obj.data_mapFields hd _)),(Obj.cls_mapFields ..).trans hc,by rw[Obj.data_mapFields hd];simp[rawInt]⟩
 refine wpAny_bind (wpAny_holding (wpAny_bind (wpAny_isOneOf_keyiter (s:={s with heap:=s.heap.update it (Obj.mapFields (·.setIfInBounds 1 (rawInt ((i:Int)+1))))}) hit'.typeIs ?_)));show wpAny _ _ (pure es[i].key) _ _ _;refine wpAny_pure (wpAny_pure ⟨_,rfl,wpAny_pure ?_⟩);rw[he];exact hQ _ hit' (Heap.SameBut.update ..)
theorem end_dictE{Q:Option Value->Shared->Prop}(hh:A.handled=none)(hit:s.heap.IsKeyIter it d i es.size ep)(hm:DictE s.heap d es ep)(hx:es.size<=i)
  (hQ:∀h',Heap.ExtBut it s.heap h'->Q none {s with heap:=h'}):wpAny (model prog w) A (pyNext (.ref it)) Q E s:=by
 obtain⟨o,ho,hc,hd⟩:=id hit;obtain⟨od,hod,hcd,hdd⟩:=id hm;unfold pyNext;refine wpAny_bind (wpAny_attempt (wpAny_callSpecial?_slot (name:=Str.ofString "__next__") hit.typeIs F.slot_dict_keyiterator_next (wpAny_call_entry F.slot_dict_keyiterator_next hit.typeIs F.entry_dict_keyiterator_next ?_ (F.args_dict_keyiterator_next_1 _))));refine wpAny_bind (wpAny_pure (wpAny_bind (wpAny_bind ?_)))
 first|refine wpAny_bind (wpAny_typeNameOfWhole_keyiter hit.typeIs (wpAny_pure ?_))|refine wpAny_bind (wpAny_typeNameOf_keyiter hit.typeIs (wpAny_pure ?_))
 refine wpAny_bind (wpAny_fieldsOf ho hd ?_);simp only[show Builtin.Dict_items.ownsTuple "dict_keyiterator"=false by decide,Bool.false_eq_true,if_false];show wpAny _ _ (if (Value.ref d==Value.none)=true then _ else _) _ _ s;rw[if_neg (show ¬((Value.ref d==Value.none)=true) from Bool.false_ne_true)];refine wpAny_bind (wpAny_pure (wpAny_bind (wpAny_dictEntries hod hdd ?_)));rw[if_neg (by simp)];refine wpAny_bind (wpAny_pure (wpAny_bind (wpAny_dictEpoch hod hdd ?_)));rw[if_neg (by simp)];refine wpAny_pure ?_;simp only[show ¬((i:Int)<0) from by omega,if_false,Int.toNat_natCast,Array.getElem?_eq_none hx];refine wpAny_bind ?_
 first|refine wpAny_bind (wpAny_typeNameOfWhole_keyiter hit.typeIs (wpAny_pure ?_))|refine wpAny_bind (wpAny_typeNameOf_keyiter hit.typeIs (wpAny_pure ?_))
 show wpAny _ _ (setField (.ref it) 0 .none >>= _) _ _ s;refine wpAny_bind (wpAny_setField ho hd (by simp) ?_);show wpAny _ _ (newExc (.type "StopIteration") [] >>= _) _ _ _;refine wpAny_bind ?_;simp only[newExc,newTuple];refine wpAny_bind (wpAny_newObj_type ?_ (by size_fits));refine wpAny_bind (m:=firstArgMember _ _) (wpAny_of_eq (a:=Value.none) (by first|rfl|(simp only[firstArgMember];rfl)) ?_);refine wpAny_newObj_type ?_ (by size_fits);simp only[raiseNew];refine wpAny_bind (wpAny_handled ?_);rw[show A.in1.handled=none from hh];refine wpAny_bind (wpAny_pure (wpAny_throw ?_));refine wpAny_bind (wpAny_isInstance (T:="StopIteration") (b:=true) ⟨_,Heap.get?_push_size _ rfl,rfl⟩ isSubtype_stop ?_);exact wpAny_pure (hQ _ (((Heap.SameBut.update ..).extBut.push _).push _))
end
theorem walks_dictE{prog:Program}{w:World}{A:Around}(hh:A.handled=none)(I d:Addr)(hne:d≠I)(es:Array DictEntry)(ep:Nat) :
  Walks prog w A I [I,d] [I] es.size (λi v=>∃e,es[i]?=some e/\v=e.key) (λi h=>h.IsKeyIter I d i es.size ep/\DictE h d es ep) where
 sub:=λb hb=>by simp at hb;simp[hb]
 frame:=λ_ _ _ st hk=>⟨st.1.at λo e=>hk I (by simp) o e,st.2.at λo e=>hk d (by simp) o e⟩
 item:=λi s Q E hi st hQ=>by
  refine next_dictE (e:=es[i]) st.1 st.2 (by simp[hi]) λh' hit' hs'=>?_;exact hQ _ h' s.toks ⟨_,by simp[hi],rfl⟩ ⟨hit',st.2.at λo e=>hs'.extBut d o hne e⟩ λb o hb e=>hs'.extBut b o (λh=>hb (by simp[h])) e
 done:=λs Q E st hQ=>end_dictE hh st.1 st.2 (Nat.le_refl _) λh' he'=>hQ h' s.toks λb o hb e=>he' b o (λh=>hb (by simp[h])) e
 self:=λ_ _ _ _ st hQ=>wpAny_pyIter_keyiter st.1 hQ
theorem src_dictE{prog:Program}{w:World}{d:Addr}{es:Array DictEntry}{ep:Nat}(lo:(d==sysModules)=false) :
  KdlSrc prog w "dict" d d es.size (λi v=>∃e,es[i]?=some e/\v=e.key) (λh=>DictE h d es ep) where
 type:=λ_ hm=>hm.ty
 there:=λ_ hm=>⟨hm.lt,hm.lt⟩
 keep:=λ_ _ hm hk=>hm.at λo e=>hk d (.inl rfl) o e
 notList:=by decide
 notTuple:=by decide
 hint:=λ_ _ _ _ hm hq=>kdl_hint_dict hm.ty hq
 iter:=λ_ _ hh hm=>⟨_,_,(λ_ _ hq=>iter_dictE lo hm hq),walks_dictE hh _ d (Nat.ne_of_lt hm.lt) es ep,⟨⟨_,Heap.get?_push_size _ rfl,rfl,rfl⟩,hm.at λ_ e=>Heap.get?_push_of_some _ e⟩⟩
end Sx
namespace L2
open PySem PySem.Spec PyProof.Rows
abbrev TupsH(H:Hp)(rs:List Addr)(ts:List (List Int)):Prop:=Paired (λr t=>H r=some (.tup (t.map V.int))/\t≠[]) rs ts
section
variable{X:Cx}{pins:List (Addr×Obj)}{σ:St}{H:Hp}{s:Shared}
theorem Inv.tupI(I:Inv X pins σ H s){r:Addr}{t:List Int}(e:H r=some (.tup (t.map V.int))):Sx.TupI s.heap r t:=by
 obtain⟨_,its,rv,o,h1,h2,n,h3⟩:=(show ObjOk X.prog X.w H s.heap r (.tup (t.map V.int)) from I.hok r _ e);exact⟨o,its.toArray,n,h1,h2,h3,by simpa using intsAre_of rv⟩
theorem Inv.tupsI(I:Inv X pins σ H s):∀{rs:List Addr}{ts:List (List Int)},TupsH H rs ts->Paired (λr t=>Sx.TupI s.heap r t/\t≠[]) rs ts
 | _,_,.nil=>.nil
 | _,_,.cons h t=>.cons ⟨I.tupI h.1,h.2⟩ (I.tupsI t)
theorem vals_refs:∀(rs:List Addr),Vals (rs.map V.ref) (rs.map Value.ref)
 | []=>.nil
 | _::r=>.cons rfl (vals_refs r)
theorem refs_of:∀{rs:List Addr}{us:List Value},Vals (rs.map V.ref) us->us=rs.map Value.ref
 | [],_,h=>by rw[List.map_nil] at h;cases h;rfl
 | r::rs,_,h=>by
  rw[List.map_cons] at h;cases h with
  | cons h1 h2=>rw[refs_of h2,List.map_cons];cases h1;rfl
end
section
variable{X:Cx}
end
end L2
namespace Mt
def lo(a b:Int):Int:=if b<a then b else a
def hi(a b:Int):Int:=if b>a then b else a
abbrev Tri:=Int×Int×Int
def bad(m a b:Int):Prop:=a<0\/m<=a\/b<0\/m<=b\/a=b
instance (m a b:Int):Decidable (bad m a b):=by unfold bad;infer_instance
def tri(t:Tri):List Int:=[t.1,t.2.1,t.2.2]
def key(t:Tri):List Int:=[lo t.1 t.2.1,hi t.1 t.2.1]
def row(t:Tri):List Int:=key t++[t.2.2]
inductive Res|bad|twice|good
 deriving DecidableEq
def scan(m:Int):List Tri->List (List Int)->Res
 | [],_=>.good
 | t::r,seen=>if bad m t.1 t.2.1 then .bad else if seen.any (λk=>decide (k=key t))=true then .twice else scan m r (seen++[key t])
theorem scan_cons(m:Int)(t:Tri)(r:List Tri)(seen:List (List Int)):scan m (t::r) seen=if bad m t.1 t.2.1 then .bad else if seen.any (λk=>decide (k=key t))=true then .twice else scan m r (seen++[key t]):=rfl
theorem scan_good{m:Int}:∀{T:List Tri}{seen:List (List Int)},scan m T seen=.good->seen.Nodup->(seen++T.map key).Nodup/\∀t∈T,¬bad m t.1 t.2.1
 | [],seen,_,hn=>⟨by simpa using hn,λt ht=>nomatch ht⟩
 | t :: r,seen,h,hn=>by
  unfold scan at h;by_cases hb:bad m t.1 t.2.1
  .rw[if_pos hb] at h;cases h
  .rw [if_neg hb] at h;by_cases hk:seen.any (λk=>decide (k=key t))=true
   .rw[if_pos hk] at h;cases h
   .rw [if_neg hk] at h;have hk':key t∉seen:=λhm=>hk (List.any_eq_true.mpr ⟨_,hm,decide_eq_true rfl⟩);have hn':(seen++[key t]).Nodup:=by
     rw[List.nodup_append];refine⟨hn,by simp,λa ha b hb'=>?_⟩;rw[List.mem_singleton] at hb';subst hb';exact λe=>hk' (e ▸ ha)
    obtain⟨h1,h2⟩:=scan_good h hn';refine⟨by simpa using h1,λu hu=>?_⟩;rcases List.mem_cons.mp hu with rfl|hu
    .exact hb
    .exact h2 u hu
theorem key_range{m:Int}{t:Tri}(h:¬bad m t.1 t.2.1):0<=lo t.1 t.2.1/\lo t.1 t.2.1<hi t.1 t.2.1/\hi t.1 t.2.1<m:=by
 unfold bad at h;unfold lo hi
 split<;>split<;>omega
end Mt
namespace L2
open PySem PySem.Spec PyProof.Rows
def Xc(X:Cx)(pins:List (Addr×Obj))(scope:Scope)(cl:List (Str×Addr))(C:Addr)(N:List Str)(s:Shared)(H:Hp)(fp:List Addr):Cx where
 prog:=X.prog
 w:=X.w
 K:=X.K
 mg:=X.mg
 base:=X.base
 A:=X.A
 N:=N
 s₀:=s
 H₀:=H
 env:=compEnvC scope cl C X.env
 outer:=X.stack
 stack:=X.stack
 ex:=fp
 fn:=λx=>(cl.lookup x).isNone
 calm:=X.calm
 pn:=X.pn++pins
 xe:=λ_ _=>False
def σC(own:Nat)(js:List Nat)(σ:St):St:=List.replicate own none++js.map λj=>(σ[j]?).getD none
structure Caps(X:Cx)(scope:Scope)(cl:List (Str×Addr))(own caps:List Str)(js:List Nat):Prop where
 clos:closureFor scope X.env=pure cl
 sub:∀x c,cl.lookup x=some c->X.env.cells.lookup x=some c
 kind:scope.kind=.function
 nocell:∀y∈scope.names,y.2≠.cell
 names:∀y∈scope.names,y.2=.local->scope.names.lookup y.1=some .local
 has:∀x,((relabel scope X.env).names.lookup x=some .cell\/(relabel scope X.env).names.lookup x=some .free)->∃c,cl.lookup x=some c
 capl:caps.length=js.length
 cap:∀(i:Nat)(x:Str),caps[i]?=some x->∃j:Nat,js[i]?=some j/\X.N[j]?=some x/\X.env.scope.names.lookup x=some .cell/\(cl.lookup x).isSome=true/\(relabel scope X.env).names.lookup x=some .cell
section
variable{X:Cx}{pins:List (Addr×Obj)}{σ:St}{H:Hp}{s:Shared}{scope:Scope}{cl:List (Str×Addr)}{own caps:List Str}{js:List Nat}
theorem Inv.offC{C:Addr}{h':Heap}{t':Nat}(I:Inv X pins σ H s)(f:FpOk X pins H C)(hs:Heap.SameBut C s.heap h'):Inv X pins σ H {s with heap:=h',toks:=t'}:=by
 obtain⟨f0,f1,f2,f3,f4,f5⟩:=f;exact I.turned (λb o hb e=>(hs.2 b hb).trans e) f0 f1 f3 f4 f5
theorem xc_ok{fp:List Addr}{C:Addr}{H1:Hp}(I:Inv X pins σ H1 s)(K:Caps X scope cl own caps js)(hC:s.heap.objs.size<=C)(hf:∀b∈fp,FpOk X pins H1 b)(ho:∀b∈fp,∃o,s.heap.get? b=some o) :
  (Xc X pins scope cl C (own++caps) s H1 fp).Ok:=by
 refine⟨I.ok.mod,K.kind,I.ok.glob,I.ok.blt,hC,λx y c h1 h2=>I.ok.inj x y c (K.sub x c h1) (K.sub y c h2),λx hx=>K.has x hx,λx c h1 h2=>?_,I.ok.hd,I.ok.frames,.inl rfl,λb hb=>?_,I.bs,Nat.le_trans I.ok.bsz I.sz,λb o e hb=>?_,λb hb hm=>?_,I.stack,I.stkFree⟩
 .have h1:(cl.lookup x).isNone=true:=h1;have h2:cl.lookup x=some c:=h2;rw[h2] at h1;cases h1
 .obtain⟨o,e⟩:=ho b hb;refine⟨λz=>?_,λx c h z=>(hf b hb).2.2.2.2.1 x c (K.sub x c h) z⟩;have:b<C:=Nat.lt_of_lt_of_le (Heap.lt_size e) hC;rw[z] at this;exact absurd this (Nat.lt_irrefl _)
 .rcases(hf b hb).2.2.2.1 with z|z
  .exact I.ok.noex b o e z
  .exact absurd (Nat.lt_of_lt_of_le (Heap.lt_size e) (Nat.le_trans I.ok.bsz z)) (Nat.lt_irrefl _)
 .rcases List.mem_cons.mp (I.stkSub b hm) with z|z
  .exact(hf b hb).2.1 z
  .exact(hf b hb).2.2.1 z
theorem xc_inv{fp:List Addr}{D C:Addr}{H1:Hp}{s4:Shared}{mC:Str->Option Value}(I:Inv X pins σ H1 s)(K:Caps X scope cl own caps js)(hC:s.heap.objs.size<=C)(hD:s.heap.objs.size<=D)(hDC:D≠C)
  (hf:∀b∈fp,FpOk X pins H1 b) (ho:∀b∈fp,∃o,s.heap.get? b=some o) (h4:∃h' tk,s4={s with heap:=h',toks:=tk}) (k4:∀b o,s.heap.get? b=some o->s4.heap.get? b=some o) (hn:s4.heap.Ns C mC)
  (hl:s4.heap.get? D=some {cls:=.type "list",data:=.seq #[] 0}):Inv (Xc X pins scope cl C (own++caps) s H1 fp) [] (σC own.length js σ) (upd H1 D (.lst [])) s4:=by
 obtain⟨h',tk,rfl⟩:=h4;have hfr:H1 D=none:=I.hok.fresh hD;have hlen:(σC own.length js σ).length=(own++caps).length:=by
  unfold σC;rw[List.length_append,List.length_append,List.length_replicate,List.length_map,K.capl]
 have celK:∀c v,s.heap.IsCell c v->h'.IsCell c v:=λc v ⟨o,e,d⟩=>⟨o,k4 c o e,d⟩;have cold:∀x c,cl.lookup x=some c->c<s.heap.objs.size:=λx c e=>by
  obtain⟨v,z⟩:=I.cell x c (K.sub x c e);exact z.lt
 refine⟨xc_ok I K hC hf ho,rfl,I.bare,Un.laid k4 hD hfr,⟨mC,hn,λi x v e1 e2 e3=>?_⟩,λx c e=>?_,?_,λx c e=>?_,λp hp=>?_,I.hok.laid k4 hD ?_,hlen⟩
 .have hi:own.length<=i:=by
   by_cases hi:i<own.length
   .exfalso;unfold σC at e2;rw[List.getElem?_append_left (by rw[List.length_replicate];exact hi),List.getElem?_replicate,if_pos hi] at e2;cases e2
   .omega
  obtain⟨k,rfl⟩:∃k,i=own.length+k:=⟨i-own.length,by omega⟩;have e1:(own++caps)[own.length+k]?=some x:=e1;rw[List.getElem?_append_right (by omega),Nat.add_sub_cancel_left] at e1;obtain⟨j,j1,j2,j3,j4,j5⟩:=K.cap k x e1;unfold σC at e2;rw[List.getElem?_append_right (by rw[List.length_replicate];omega),List.length_replicate,Nat.add_sub_cancel_left,List.getElem?_map,j1] at e2;have e2:(σ[j]?).getD none=some v:=Option.some.inj e2;have e4:σ[j]?=some (some v):=by
   cases q:σ[j]? with
   | none=>rw[q] at e2;cases e2
   | some y=>rw[q] at e2;exact congrArg some e2
  obtain⟨m,_,hl'⟩:=I.loc;obtain⟨u,ru,lk⟩:=hl' j x v j2 e4 (.inr (.inl j3));refine⟨u,ru,?_⟩;rcases lk with⟨hk,_⟩|⟨_,c,hc,hcell⟩
  .have hk:X.env.scope.names.lookup x=some .local:=hk;rw[j3] at hk;cases hk
  .obtain⟨c',hc'⟩:=Option.isSome_iff_exists.mp j4;have:=K.sub x c' hc';rw[hc] at this;cases this;exact .inr ⟨.inl j5,c,hc',celK _ _ hcell⟩
 .obtain⟨v,z⟩:=I.cell x c (K.sub x c e);exact⟨v,celK _ _ z⟩
 .show upd H1 D (.lst []) C=none;rw[upd_ne (Ne.symm hDC)];exact I.hok.fresh hC
 .rw[upd_ne (Nat.ne_of_lt (Nat.lt_of_lt_of_le (cold x c e) hD))];exact I.freeC x c (K.sub x c e)
 .have hp:p∈X.pn++pins:=by
   have:p∈(X.pn++pins)++[]:=hp;simpa using this
  obtain⟨e,n,ne,nf,d⟩:=I.pin p hp;have hlt:=Heap.lt_size e;refine⟨k4 _ _ e,by rw[upd_ne (Nat.ne_of_lt (Nat.lt_of_lt_of_le hlt hD))];exact n,Nat.ne_of_lt (Nat.lt_of_lt_of_le hlt hC),λhm=>?_,d⟩;rcases List.mem_cons.mp (I.stkSub _ hm) with z|z
  .exact ne z
  .exact nf z
 .exact⟨Nat.zero_le _,[],0,.nil,hl⟩
theorem xc_back{fp:List Addr}{C:Addr}{N:List Str}{H1 H':Hp}{σ':St}{pl:List (Addr×Obj)}{s':Shared}(I:Inv X pins σ H1 s)(hf:∀b∈fp,FpOk X pins H1 b)(J:Inv (Xc X pins scope cl C N s H1 fp) pl σ' H' s'):Inv X pins σ H' s':=
 I.call' J.os J.base J.hok J.bare λb hb=>⟨(hf b hb).2.2.2.1,(hf b hb).2.1,(hf b hb).2.2.2.2.1,(hf b hb).2.2.2.2.2⟩
end
def tTurns(J:It)(g:TG)(tt:TT)(te:TE)(σ0:St)(D:Addr)(Qd:Hp->Prop)(H1:Hp):Prop:=
 ∃W:Nat->Nat->List V->St->Hp->Prop,(∃m,W 0 m [] σ0 (upd H1 D (.lst [])))/\∀i m ys σ1 H2,W i m ys σ1 H2->H2 D=some (.lst ys) ∧
  ((J.stop i H2/\Qd H2)\/(J.go i H2/\ys.length<sizeLine/\∀x H3,J.yld i H2 x H3->g x σ1 H3 λσ2 H4=>tt σ2 H4 λc H5=>
   if c=true then te σ2 H5 λy H6=>H6 D=some (.lst ys)/\∃m',m'<m/\W (i+1) m' (ys++[y]) σ2 (upd H6 D (.lst (ys++[y]))) else ∃m',m'<m/\W (i+1) m' ys σ2 H5))
def PTs(X:Cx)(ifs:List Expr)(t:TT):Prop:=
 ∀(pins:List (Addr×Obj))(s:Shared)(σ:St)(H:Hp)(Q:Bool->Hp->Prop),Inv X pins σ H s->t σ H Q →
  wpAny (model X.prog X.w) X.A (forIn ifs true λc r=>if r=true then do let ok <-isTrue c X.env (eval c X.env);pure (ForInStep.yield ok) else pure (ForInStep.yield r)) (TP X pins σ Q) X.xe s
def tYes:TT:=λ_ H Q=>Q true H
theorem pts_nil{X:Cx}:PTs X [] tYes:=λ_ _ _ H _ I h=>wpAny_tests_nil ⟨H,I,h⟩
theorem pts_one{X:Cx}{c:Expr}{t:TT}(h:PT X c t):PTs X [c] t:=λpins s σ H Q I hw=>wpAny_tests_one (h pins s σ H Q I hw)
section
variable{X:Cx}{pins:List (Addr×Obj)}{σ:St}{H:Hp}{s:Shared}{scope:Scope}{cl:List (Str×Addr)}{own caps:List Str}{js:List Nat}
variable{tg iter elt:Expr}{ifs:List Expr}{pos:Pos}{g:TG}{tt:TT}{te:TE}
theorem comp_loop{J:It}{fp:List Addr}{it D C:Addr}{tn:Nat->Heap->Prop}{H1:Hp}{σ0:St}{Qd:Hp->Prop}{RR:Result->Shared->Prop}{s4:Shared}
  (hc:X.calm=true) (T:Turn X.prog X.w X.K tg J fp it tn)
  (hg:PG (Xc X pins scope cl C (own++caps) s H1 fp) tg g) (ht:PTs (Xc X pins scope cl C (own++caps) s H1 fp) ifs tt) (he:PE (Xc X pins scope cl C (own++caps) s H1 fp) elt te)
  (hf:∀b∈fp,FpOk X pins H1 b)
  (J0:Inv (Xc X pins scope cl C (own++caps) s H1 fp) [] σ0 (upd H1 D (.lst [])) s4) (st0:tn 0 s4.heap) (hfD:∀b∈fp,b≠D)
  (turns:tTurns J g tt te σ0 D Qd H1)
  (fin:∀σ' H' s',Inv (Xc X pins scope cl C (own++caps) s H1 fp) [] σ' H' s'->Qd H'->RR (.ok .next) s') :
  codeAny (model X.prog X.w) X.A (.compLoop (.ListComp elt [⟨tg,iter,ifs,0⟩] scope pos) 0 (.ref it) (.ref D) (compEnvC scope cl C X.env)) RR s4:=by
 obtain⟨W,⟨m0,w0⟩,turn⟩:=turns;have stat:∀{H':Hp},(∀b∈fp,H' b=none)->∀b∈fp,FpOk (Xc X pins scope cl C (own++caps) s H1 fp) [] H' b:=λ{H'} hn b hb=>by
  refine⟨hn b hb,(J0.ok.exf b hb).1,J0.ok.exfs b hb,.inl hb,λx c e=>(J0.ok.exf b hb).2 x c e,λp hp=>?_⟩;have hp:p∈X.pn++pins:=by
   have:p∈(X.pn++pins)++[]:=hp;simpa using this
  exact(hf b hb).2.2.2.2.2 p hp
 refine codeAny_loop rfl (λn s'=>∃i ys σ' H',Inv (Xc X pins scope cl C (own++caps) s H1 fp) [] σ' H' s'/\tn i s'.heap/\(∀b∈fp,H' b=none)/\W i n ys σ' H') (λn s' hI=>?_) m0
  ⟨0,[],_,_,J0,st0,λb hb=>by rw[upd_ne (hfD b hb)];exact(hf b hb).1,w0⟩
 obtain⟨i,ys,σ2,H2,I2,st,fr,w2⟩:=hI;show wpAny _ X.A ((compTurn (.ListComp elt [⟨tg,iter,ifs,0⟩] scope pos) 0 (.ref it) (.ref D) (compEnvC scope cl C X.env)).onRaise (λx=>do noteFrame x (compEnvC scope cl C X.env);theTreesLotGoes x)) _ _ s';refine wpAny_noted (wpAny_noRaise ?_);rw[compTurn_list];obtain⟨hD,alt⟩:=turn i n ys σ2 H2 w2;rcases alt with⟨stop,qd⟩|⟨go,hz,step⟩
 .refine wpAny_bind (wpAny_standAt (wpAny_bind (thn (T.done (Xc X pins scope cl C (own++caps) s H1 fp) rfl rfl rfl hc i [] s' σ2 H2 (λ_ _=>False) I2 (stat fr) st stop) λr s5 ⟨hr,I5⟩=>?_)));subst hr;exact wpAny_pure (fin _ _ _ I5 qd)
 .refine wpAny_bind (wpAny_standAt (wpAny_bind (thn (T.item (Xc X pins scope cl C (own++caps) s H1 fp) rfl rfl rfl hc i [] s' σ2 H2 (λ_ _=>False) I2 (stat fr) st go) λr s5 ⟨u,hr,h5⟩=>?_)));subst hr;refine wpAny_bind (thn h5 λ_ s6 ⟨x,H6,I6,r6,y6,st6,fr6⟩=>?_);have I6':=I6.pinned (stat fr6) (T.obj _ _ st6);refine wpAny_bind (thn (hg _ s6 σ2 H6 x u _ I6' r6 (step x H6 y6)) λ_ s7 ⟨σ7,H7,I7,q7⟩=>?_);refine wpAny_bind (thn (ht _ s7 σ7 H7 _ I7 q7) λok s8 ⟨H8,I8,q8⟩=>?_);have again:∀{H9:Hp}{ys':List V}{m:Nat}{s9:Shared},Inv (Xc X pins scope cl C (own++caps) s H1 fp) ([]++pinsAt fp s6.heap) σ7 H9 s9->m<n->W (i+1) m ys' σ7 H9 →
    ∃m,m<n/\∃i ys σ' H',Inv (Xc X pins scope cl C (own++caps) s H1 fp) [] σ' H' s9/\tn i s9.heap/\(∀b∈fp,H' b=none)/\W i m ys σ' H':=λ{H9 ys' m s9} I9 hm w9=>by
   refine⟨m,hm,i+1,ys',σ7,H9,I9.unpinned,T.keep _ _ _ st6 λb hb o e=>(I9.pin (b,o) (List.mem_append_right _ (List.mem_append_right _ (mem_pinsAt hb e)))).1,λb hb=>?_,w9⟩;obtain⟨o,e,_⟩:=T.obj _ _ st6 b hb;exact(I9.pin (b,o) (List.mem_append_right _ (List.mem_append_right _ (mem_pinsAt hb e)))).2.1
  cases ok with
  | false=>
   rw[if_neg Bool.false_ne_true] at q8;obtain⟨m,hm,w8⟩:=q8;exact wpAny_pure ⟨rfl,again I8 hm w8⟩
  | true=>
   rw[if_pos rfl] at q8;refine wpAny_bind (wpAny_bind (thn (he _ s8 σ7 H8 _ I8 q8) λy s9 ⟨yv,H9,I9,r9,hD9,m,hm,w9⟩=>?_));refine wpAny_bind (thn (mt_append _ s9 σ7 H9 (.ref D) [yv] (.ref D) [y] (λ_ H10=>H10=upd H9 D (.lst (ys++[yv]))) I9 rfl (.cons r9 .nil) ⟨D,ys,yv,rfl,rfl,hD9,hz,rfl⟩) λ_ s10 ⟨_,H10,I10,_,e10⟩=>?_);subst e10;exact wpAny_pure (wpAny_pure ⟨rfl,again I10 hm w9⟩)
theorem comp_block{J:It}{fp:List Addr}{it:Addr}{tn:Nat->Heap->Prop}{H1:Hp}{Qd:Addr->Hp->Prop}{RR:Value->Addr->Result->Shared->Prop}{E:Value->Shared->Prop}
  (hc:X.calm=true) (I:Inv X pins σ H1 s) (K:Caps X scope cl own caps js) (T:Turn X.prog X.w X.K tg J fp it tn) (st0:tn 0 s.heap) (hf:∀b∈fp,FpOk X pins H1 b)
  (hg:∀C,PG (Xc X pins scope cl C (own++caps) s H1 fp) tg g) (ht:∀C,PTs (Xc X pins scope cl C (own++caps) s H1 fp) ifs tt) (he:∀C,PE (Xc X pins scope cl C (own++caps) s H1 fp) elt te)
  (turns:∀D,H1 D=none->tTurns J g tt te (σC own.length js σ) D (Qd D) H1)
  (fin:∀D C H' s',Inv X pins σ H' s'->FpOk X pins H' C->(∃m,s'.heap.Ns C m)->Qd D H'->RR (.ref D) C (.ok .next) s') :
  wpAny (model X.prog X.w) X.A (newList []) (λacc s₃=>wpAny (model X.prog X.w) X.A (newFunctionEnv scope X.env.globals cl [] X.env.qual none .none (some X.env)) (λcenv s₄=>
   codeAny (model X.prog X.w) X.A (.compStart (.ListComp elt [⟨tg,iter,ifs,0⟩] scope pos) 0 (.ref it) acc {cenv with scope:=relabel scope X.env}) (RR acc cenv.locals) s₄) E s₃) E s:=by
 have hold:∀b∈fp,∃o,s.heap.get? b=some o:=λb hb=>let ⟨o,e,_⟩:=T.obj 0 _ st0 b hb;⟨o,e⟩;refine wpAny_newObj_type (wpAny_newFunctionEnv K.nocell (by intro y hy;simp at hy) (λh₁ hns₁ hsb₁=>?_) K.kind);dsimp only at hns₁ hsb₁ ⊢;generalize hH2:s.heap.push {cls:=.type "list",dict:=none,data:=.seq ([]:List Value).toArray}=H2 at hns₁ hsb₁ ⊢;have hsz:H2.objs.size=s.heap.objs.size+1:=by rw[<-hH2,Heap.size_push]
 have k4:∀b o,s.heap.get? b=some o->h₁.get? b=some o:=λb o e=>by
  have hlt:=Heap.lt_size e;refine(hsb₁.2 b (Nat.ne_of_lt (hsz ▸ Nat.lt_succ_of_lt hlt))).trans (Heap.get?_push_of_some _ ?_);rw[<-hH2];exact Heap.get?_push_of_some _ e
 have hlist:h₁.get? s.heap.objs.size=some {cls:=.type "list",data:=.seq #[] 0}:=by
  refine(hsb₁.2 _ (Nat.ne_of_lt (hsz ▸ Nat.lt_succ_self _))).trans (Heap.get?_push_of_some _ ?_);rw[<-hH2];exact Heap.get?_push_size _ rfl
 have hfr:H1 s.heap.objs.size=none:=I.hok.fresh (Nat.le_refl _);have J0:=xc_inv (C:=H2.objs.size) (D:=s.heap.objs.size) (s4:={s with heap:=h₁,toks:=s.toks+([]:List (Str×Value)).length}) I K (hsz ▸ Nat.le_succ _) (Nat.le_refl _) (Nat.ne_of_lt (hsz ▸ Nat.lt_succ_self _)) hf hold ⟨_,_,rfl⟩ k4 hns₁ hlist;have hfD:∀b∈fp,b≠s.heap.objs.size:=λb hb z=>by
  obtain⟨o,e⟩:=hold b hb;have hlt:=Heap.lt_size e;rw[z] at hlt;exact absurd hlt (Nat.lt_irrefl _)
 have st1:tn 0 h₁:=T.keep 0 _ _ st0 λb hb o e=>k4 b o e;have loop:∀s₃:Shared,s₃={s with heap:=h₁,toks:=s.toks+([]:List (Str×Value)).length} →
   codeAny (model X.prog X.w) X.A (.compLoop (.ListComp elt [⟨tg,iter,ifs,0⟩] scope pos) 0 (.ref it) (.ref s.heap.objs.size) (compEnvC scope cl H2.objs.size X.env)) (RR (.ref s.heap.objs.size) H2.objs.size) s₃:=by
  rintro s₃ rfl;refine comp_loop hc T (hg _) (ht _) (he _) hf J0 st1 hfD (turns _ hfr) λσ' H' s' J' qd=>?_;have hC:H' H2.objs.size=none:=J'.free;obtain⟨m,hn,_⟩:=J'.loc;exact fin _ _ _ _ (xc_back I hf J') (I.fpOk (by omega) hC) ⟨m,hn⟩ qd
 exact codeAny_compStart_list (loop _ rfl) (T.self _ 0 _ _ _ st1 (loop _ rfl))
def tComp(wi:TI)(g:TG)(tt:TT)(te:TE)(own:Nat)(js:List Nat):TE:=λσ H Q=>wi σ H λJ H1=>∀D,H1 D=none->tTurns J g tt te (σC own js σ) D (λH'=>Q (.ref D) H') H1
theorem pe_comp{wi:TI}(hc:X.calm=true)(K:Caps X scope cl own caps js)(hi:PI X tg iter wi)
  (hg:∀pins C s H1 fp,PG (Xc X pins scope cl C (own++caps) s H1 fp) tg g) (ht:∀pins C s H1 fp,PTs (Xc X pins scope cl C (own++caps) s H1 fp) ifs tt) (he:∀pins C s H1 fp,PE (Xc X pins scope cl C (own++caps) s H1 fp) elt te)
  (hs:∀x,foldedSetIterable iter X.env x=pure x:=by intro _;rfl):PE X (.ListComp elt [⟨tg,iter,ifs,0⟩] scope pos) (tComp wi g tt te own.length js):=by
 intro pins s σ H Q I h;rw[eval_ListComp];refine wpAny_comprehension_free (use:=none) rfl hs K.clos K.kind K.names (thn (hi pins s σ H _ I h) λv s1 h1=>thn h1 λitv s2 h2=>?_);obtain⟨it,fp,tn,J,H1,e,I2,T,st,f,q⟩:=h2;subst e;refine comp_block (Qd:=λD H'=>Q (.ref D) H') (RR:=λacc C=>compPost (model X.prog X.w) X.A X.xe none (EP X pins σ Q) acc C) hc I2 K T st f (λC=>hg _ C _ _ _) (λC=>ht _ C _ _ _) (λC=>he _ C _ _ _) q ?_;intro D C H' s' I' fC ⟨m,hn⟩ qd;exact⟨m,hn,λh' hs'=>⟨.ref D,H',I'.offC (t':=s'.toks) fC hs',rfl,qd⟩⟩
def tCompSet(i:Nat)(wi:TI)(g:TG)(tt:TT)(te:TE)(own:Nat)(js:List Nat):TS:=λD σ H=>wi σ H λJ H1=>∀d,H1 d=none->tTurns J g tt te (σC own js σ) d (λH'=>D.nx (σ.set i (some (.ref d))) H') H1
theorem ps_comp{wi:TI}{i:Nat}{y:Str}{py spos:Pos}(hc:X.calm=true)(K:Caps X scope cl own caps js)(hi:PI X tg iter wi)
  (hg:∀pins C s H1 fp,PG (Xc X pins scope cl C (own++caps) s H1 fp) tg g) (ht:∀pins C s H1 fp,PTs (Xc X pins scope cl C (own++caps) s H1 fp) ifs tt) (he:∀pins C s H1 fp,PE (Xc X pins scope cl C (own++caps) s H1 fp) elt te)
  (hN:X.N.Nodup) (hy:X.N[i]?=some y) (hyl:X.env.scope.names.lookup y=some .local)
  (hsw:swapsWith (.ListComp elt [⟨tg,iter,ifs,0⟩] scope pos) (some (.Name y py)) spos.line X.env=pure true)
  (hs:∀x,foldedSetIterable iter X.env x=pure x:=by intro _;rfl):PS X (.Assign [.Name y py] (.ListComp elt [⟨tg,iter,ifs,0⟩] scope pos) spos) (tCompSet i wi g tt te own.length js):=by
 intro pins s σ H D I h;rw[exec_Assign_Name_used _ _ _ _ hsw];refine wpAny_bind (wpAny_standAt (wpAny_bind ?_));show wpAny _ X.A (do let _ <-comprehension (.ListComp elt [⟨tg,iter,ifs,0⟩] scope pos) scope X.env _ (newList []) false (eval iter X.env) (some (assign (.Name y py) X.env))) _ _ s;refine wpAny_bind (thn (wpAny_comprehension_free (use:=some (assign (.Name y py) X.env)) (Q:=λ_ s'=>SP X pins D .next s') rfl hs K.clos K.kind K.names (thn (hi pins s σ H _ I h) λv s1 h1=>thn h1 λitv s2 h2=>?_)) λ_ s' hq=>wpAny_pure (wpAny_pure hq));obtain⟨it,fp,tn,J,H1,e,I2,T,st,f,q⟩:=h2;subst e;refine comp_block (Qd:=λd H'=>D.nx (σ.set i (some (.ref d))) H') (RR:=λacc C=>compPost (model X.prog X.w) X.A X.xe (some (assign (.Name y py) X.env)) (λ_ s'=>SP X pins D .next s') acc C) hc I2 K T st f (λC=>hg _ C _ _ _) (λC=>ht _ C _ _ _) (λC=>he _ C _ _ _) q ?_;intro d C H' s' I' fC ⟨m,hn⟩ qd;show wpAny _ X.A (assign (.Name y py) X.env (.ref d)) _ _ _;refine wpAny_assign_Name (store_ok2 I' hN hy (.inl hyl) (show RelV (.ref d) (.ref d) from rfl) (λs3 I3 ⟨a,sb,ha⟩=>?_) (.inr hyl));have hCa:C≠a:=by
  rcases ha with z|z
  .rw[z];exact fC.2.1
  .exact λz2=>fC.2.2.2.2.1 y a z z2.symm
 exact⟨m,hn.sameBut sb hCa,λh' hs'=>⟨_,H',I3.offC (t':=s3.toks) fC hs',qd⟩⟩
end
end L2
namespace Sx
open PySem PySem.W PyProof.Rows
theorem ints_fun:∀{vs:List Value}{a b:List Int},IntsAre vs a->IntsAre vs b->a=b
 | _,_,_,.nil,.nil=>rfl
 | _,_,_,.cons n t h,.cons _ _ h'=>by rw[ints_fun h h']
theorem ints_at:∀{vs:List Value}{ns:List Int}{i:Nat}{v:Value},IntsAre vs ns->vs[i]?=some v->∃t,v=.int (ns.getD i 0) t
 | _,_,_,_,.nil,e=>by simp at e
 | _,_,0,_,.cons n t _,e=>by simp at e;subst e;exact⟨t,rfl⟩
 | _,_,i+1,v,.cons n t h,e=>by
  obtain⟨t',e'⟩:=ints_at (i:=i) (v:=v) h (by simpa using e);exact⟨t',by simpa using e'⟩
theorem all_eq:∀(t u:List Int),((List.range (min t.length u.length)).all (λj=>t.getD j 0==u.getD j 0)&&t.length==u.length)=decide (t=u):=by
 intro t u;rw[Bool.eq_iff_iff,Bool.and_eq_true,List.all_eq_true,beq_iff_eq,decide_eq_true_iff];constructor
 .rintro⟨h1,h2⟩;apply List.ext_getElem h2;intro i hi hj;have:=h1 i (List.mem_range.mpr (by omega));simpa[hi,hj] using this
 .rintro rfl;exact⟨λi _=>by simp,rfl⟩
theorem eqAt_tups{A:Around}{s:Shared}{a b:Addr}{t u:List Int}(ha:TupI s.heap a t)(hb:TupI s.heap b u)(hu:A.units<cLine):SeqAt.EqAt A s (.ref a) (.ref b) (decide (t=u)):=by
 obtain⟨oa,ia,na,ea,ca,da,pa⟩:=ha;obtain⟨ob,ib,nb,eb,cb,db,pb⟩:=hb;by_cases e:a=b
 .subst e;rw[ea] at eb;cases eb;rw[da] at db;injection db with d1 _
  subst d1;have:=ints_fun pa pb;subst this;rw[decide_eq_true rfl];exact SeqAt.EqAt.same _
 .have la:ia.size=t.length:=by rw[<-pa.length,Array.length_toList]
  have lb:ib.size=u.length:=by rw[<-pb.length,Array.length_toList]
  have:=SeqAt.RcAt.tuples (A:=A) (s:=s) (l:=a) (b:=b) (items:=ia) (items2:=ib) (e:=λj=>t.getD j 0==u.getD j 0) ⟨oa,ea,ca,na,da⟩ ⟨ob,eb,cb,nb,db⟩ hu λj h1 h2=>by
   obtain⟨t1,e1⟩:=ints_at (i:=j) (v:=ia[j]) pa (by simp[h1]);obtain⟨t2,e2⟩:=ints_at (i:=j) (v:=ib[j]) pb (by simp[h2]);rw[e1,e2];exact SeqAt.EqAt.int_int _ _ _ _
  rw[la,lb,all_eq] at this;exact SeqAt.EqAt.of_refs e this
end Sx
namespace L2
open PySem PySem.Spec PyProof.Rows
theorem ints_inj:∀{a b:List Int},a.map V.int=b.map V.int->a=b
 | [],[],_=>rfl
 | [],_::_,e=>by simp at e
 | _::_,[],e=>by simp at e
 | x::xs,y::ys,e=>by
  rw[List.map_cons,List.map_cons] at e;injection e with e1 e2
  injection e1 with e1
  rw[e1,ints_inj e2]
section
variable{X:Cx}
open Classical in
noncomputable def isT(H:Hp)(t:List Int):Value->Bool
 | .ref r=>decide (H r=some (.tup (t.map V.int)))
 | _=>false
theorem isT_ref{H:Hp}{t u:List Int}{r:Addr}(h:H r=some (.tup (u.map V.int))):isT H t (.ref r)=decide (u=t):=by
 classical
 unfold isT;rw[Bool.eq_iff_iff,decide_eq_true_iff,decide_eq_true_iff,h];constructor
 .intro e;injection e with e
  injection e with e
  exact ints_inj e
 .rintro rfl;rfl
theorem any_isT{H:Hp}{t:List Int}:∀{rs:List Addr}{ts:List (List Int)},TupsH H rs ts->(rs.map Value.ref).any (isT H t)=ts.any (λu=>decide (u=t))
 | _,_,.nil=>rfl
 | _,_,.cons h r=>by rw[List.map_cons,List.any_cons,List.any_cons,isT_ref h.1,any_isT r]
theorem op_notInT(hu:X.A.units+1<cLine):OpR X (compareOp .NotIn) (λx y H Q=>∃b t p rs ts,x=.ref b/\H b=some (.tup (t.map V.int))/\y=.ref p/\SqL X.K H p (rs.map V.ref)/\TupsH H rs ts/\Q (.bl (!ts.any λu=>decide (u=t))) H):=by
 intro pins s σ H x y v u Q I rx ry h;obtain⟨b,t,p,rs,ts,rfl,hb,rfl,hq,hp,q⟩:=h;cases rx;cases ry;obtain⟨its,rv,pl,hz⟩:=I.list hq;have ei:=refs_of rv;subst ei;refine SeqAt.notIn_listAt (isT H t) pl.isList (λv hv=>?_) ⟨.bl _,H,I,rfl,?_⟩
 .have hv':v∈rs.map Value.ref:=by simpa using hv
  obtain⟨r,hr,rfl⟩:=List.mem_map.mp hv';obtain⟨i,hi,e⟩:=List.getElem_of_mem hr;obtain⟨t',_,ht,_⟩:=Sx.pair_at (i:=i) (a:=r) hp (by rw[<-e];simp[hi]);rw[isT_ref ht];exact Sx.eqAt_tups (I.tupI ht) (I.tupI hb) hu
 .rw[show(rs.map Value.ref).toArray.any (isT H t)=(rs.map Value.ref).any (isT H t) by simp,any_isT hp];exact q
end
theorem yes_of{σ:St}{H:Hp}{A B:Hp->Prop}(h:A H):tYes σ H λc H5=>if c=true then A H5 else B H5:=by
 show if true=true then A H else B H
 rw[if_pos rfl];exact h
def Nxt(n i:Nat)(Pv:Nat->List V->St->Hp->Prop)(ys:List V)(σ:St)(H:Hp):Prop:=∃m',m'<n-i/\m'=n-(i+1)/\i+1<=n/\Pv (i+1) ys σ H
theorem Nxt.mk{n i:Nat}{Pv:Nat->List V->St->Hp->Prop}{ys:List V}{σ:St}{H:Hp}(hi:i<n)(h:Pv (i+1) ys σ H):Nxt n i Pv ys σ H:=⟨n-(i+1),by omega,rfl,hi,h⟩
theorem turns_list{K:W.Frag}{a D:Addr}{xs:List V}{g:TG}{tt:TT}{te:TE}{σ0:St}{Qd:Hp->Prop}{H1:Hp}(Pv:Nat->List V->St->Hp->Prop)(h0:Pv 0 [] σ0 (upd H1 D (.lst [])))
  (hD:∀i ys σ H,Pv i ys σ H->H D=some (.lst ys)/\ys.length<sizeLine/\SqL K H a xs)
  (hs:∀i x ys σ H,xs[i]?=some x->Pv i ys σ H->g x σ H λσ2 H4=>tt σ2 H4 λc H5=>if c=true then te σ2 H5 λy H6=>H6 D=some (.lst ys)/\Nxt xs.length i Pv (ys++[y]) σ2 (upd H6 D (.lst (ys++[y]))) else Nxt xs.length i Pv ys σ2 H5)
  (hd:∀ys σ H,Pv xs.length ys σ H->Qd H):tTurns (Itl K a) g tt te σ0 D Qd H1:=by
 refine⟨λi m ys σ H=>m=xs.length-i/\i<=xs.length/\Pv i ys σ H,⟨xs.length,by simp,Nat.zero_le _,h0⟩,?_⟩;rintro i m ys σ H ⟨rfl,hi,p⟩;obtain⟨d1,d2,d3⟩:=hD i ys σ H p;refine⟨d1,?_⟩;by_cases hlt:i<xs.length
 .refine .inr ⟨⟨xs,xs[i],d3,by simp[hlt]⟩,d2,λx H3 y=>?_⟩;obtain⟨e,y⟩:=y;subst e;exact hs i x ys σ _ (y xs d3) p
 .have e:i=xs.length:=by omega
  subst e;exact .inl ⟨⟨xs,d3,Nat.le_refl _⟩,hd ys σ H p⟩
theorem turns_range{lo:Int}{n:Nat}{D:Addr}{g:TG}{tt:TT}{te:TE}{σ0:St}{Qd:Hp->Prop}{H1:Hp}(Pv:Nat->List V->St->Hp->Prop)(h0:Pv 0 [] σ0 (upd H1 D (.lst [])))
  (hD:∀i ys σ H,Pv i ys σ H->H D=some (.lst ys)/\ys.length<sizeLine)
  (hs:∀i ys σ H,i<n->Pv i ys σ H->g (.int (lo+i)) σ H λσ2 H4=>tt σ2 H4 λc H5=>if c=true then te σ2 H5 λy H6=>H6 D=some (.lst ys)/\Nxt n i Pv (ys++[y]) σ2 (upd H6 D (.lst (ys++[y]))) else Nxt n i Pv ys σ2 H5)
  (hd:∀ys σ H,Pv n ys σ H->Qd H):tTurns (Itr lo n) g tt te σ0 D Qd H1:=by
 refine⟨λi m ys σ H=>m=n-i/\i<=n/\Pv i ys σ H,⟨n,by simp,Nat.zero_le _,h0⟩,?_⟩;rintro i m ys σ H ⟨rfl,hi,p⟩;obtain⟨d1,d2⟩:=hD i ys σ H p;refine⟨d1,?_⟩;by_cases hlt:i<n
 .refine .inr ⟨hlt,d2,λx H3 y=>?_⟩;obtain⟨e,y⟩:=y;subst e y;exact hs i ys σ _ hlt p
 .have e:i=n:=by omega
  subst e;exact .inl ⟨Nat.le_refl _,hd ys σ H p⟩
theorem paired_zip{α β:Type}{F:α->β->Prop}:∀{l:List α}{m:List β},Paired F l m->∀p∈l.zip m,F p.1 p.2
 | _,_,.nil,p,hp=>by simp at hp
 | _,_,.cons h t,p,hp=>by
  rcases List.mem_cons.mp hp with rfl|hp
  .exact h
  .exact paired_zip t p hp
theorem zip_paired{α β:Type}{F:α->β->Prop}:∀{l:List α}{m:List β},l.length=m.length->(∀p∈l.zip m,F p.1 p.2)->Paired F l m
 | [],[],_,_=>.nil
 | [],_::_,e,_=>by simp at e
 | _::_,[],e,_=>by simp at e
 | a::l,b::m,e,h=>.cons (h (a,b) (.head _)) (zip_paired (by simpa using e) λp hp=>h p (.tail _ hp))
theorem TupsH.sorted{H:Hp}{rs rs':List Addr}{ts ts':List (List Int)}(h:TupsH H rs ts)(S:Sx.Sorted rs ts rs' ts'):TupsH H rs' ts'/\ts'.Perm ts/\rs'.length=rs.length:=by
 have l1:=Paired.length h;have e:=S.perm.length_eq;rw[List.length_zip,List.length_zip] at e;have e2:=S.len;refine⟨zip_paired S.len λp hp=>paired_zip h p (S.perm.mem_iff.mp hp),?_,by omega⟩;have q:=S.perm.map (·.2);rw[List.map_snd_zip (by omega),List.map_snd_zip (by omega)] at q;exact q
theorem paired_snoc{α β:Type}{F:α->β->Prop}:∀{l:List α}{m:List β}{a:α}{b:β},Paired F l m->F a b->Paired F (l++[a]) (m++[b])
 | _,_,_,_,.nil,h=>.cons h .nil
 | _,_,_,_,.cons q t,h=>.cons q (paired_snoc t h)
theorem vals_bls:∀{bs:List Bool}{us:List Value},Vals (bs.map V.bl) us->us=bs.map Value.bool
 | [],_,h=>by rw[List.map_nil] at h;cases h;rfl
 | b::bs,_,h=>by
  rw[List.map_cons] at h;cases h with
  | cons h1 h2=>rw[vals_bls h2,List.map_cons];cases h1;rfl
end L2
namespace Sx
open PySem PySem.W PyProof.Rows
theorem all_eqI(t u:List Int)(hl:t.length=u.length):(List.range t.length).all (λj=>t.getD j 0==u.getD j 0)=decide (t=u):=by
 rw[Bool.eq_iff_iff,List.all_eq_true,decide_eq_true_iff];constructor
 .intro h1;apply List.ext_getElem hl;intro i hi hj;have:=h1 i (List.mem_range.mpr hi);simpa[hi,hj] using this
 .rintro rfl;exact λi _=>by simp
def LstI(h:Heap)(a:Addr)(t:List Int):Prop:=∃its:Array Value,h.IsList a its/\IntsAre its.toList t
section
variable{A:Around}{s:Shared}{a b:Addr}{t u:List Int}
theorem rcAt_ints(ha:LstI s.heap a t)(hb:LstI s.heap b u)(hu:A.units<cLine):SeqAt.RcAt A s (.ref a) (.ref b) (decide (t=u)):=by
 obtain⟨ia,la,pa⟩:=ha;obtain⟨ib,lb,pb⟩:=hb;have sa:ia.size=t.length:=by rw[<-pa.length,Array.length_toList]
 have sb:ib.size=u.length:=by rw[<-pb.length,Array.length_toList]
 by_cases hl:t.length=u.length
 .have:=SeqAt.RcAt.lists (A:=A) (e:=λj=>t.getD j 0==u.getD j 0) la lb (by omega) hu λj h1 h2=>by
   obtain⟨t1,e1⟩:=ints_at (i:=j) (v:=ia[j]) pa (by simp[h1]);obtain⟨t2,e2⟩:=ints_at (i:=j) (v:=ib[j]) pb (by simp[h2]);rw[e1,e2];exact SeqAt.EqAt.int_int _ _ _ _
  rw[sa,all_eqI t u hl] at this;exact this
 .have:=SeqAt.RcAt.lists_lengths (A:=A) la lb (by rw[sa,sb];simpa using hl) hu;rw[show decide (t=u)=false from decide_eq_false λe=>hl (by rw[e])];exact this
end
theorem intsAre_at:∀{vs:List Value}{t:List Int},vs.length=t.length->(∀(j:Nat) v,vs[j]?=some v->∃tk,v=.int (t.getD j 0) tk)->IntsAre vs t
 | [],[],_,_=>.nil
 | [],_::_,e,_=>by simp at e
 | _::_,[],e,_=>by simp at e
 | v::vs,n::t,e,h=>by
  obtain⟨tk,rfl⟩:=h 0 v rfl;exact .cons n tk (intsAre_at (by simpa using e) λj v hv=>by simpa using h (j+1) v (by simpa using hv))
end Sx
namespace L2
open PySem PySem.Spec PyProof.Rows
abbrev LsH(H:Hp)(rs:List Addr)(ts:List (List Int)):Prop:=Paired (λr t=>H r=some (.lst (t.map V.int))) rs ts
section
variable{X:Cx}{pins:List (Addr×Obj)}{σ:St}{H:Hp}{s:Shared}
theorem Inv.lstI{a:Addr}{t:List Int}(I:Inv X pins σ H s)(hq:SqL X.K H a (t.map V.int)):Sx.LstI s.heap a t:=by
 obtain⟨its,rv,pl,hz⟩:=I.list hq;exact⟨its.toArray,pl.isList,by simpa using intsAre_of rv⟩
theorem op_eqI(hu:X.A.units<cLine):OpR X (compareOp .Eq) (λx y H Q=>∃(a b:Addr)(t u:List Int),x=.ref a/\y=.ref b/\SqL X.K H a (t.map V.int)/\SqL X.K H b (u.map V.int)/\Q (.bl (decide (t=u))) H):=by
 intro pins s σ H x y v u Q I rx ry h;obtain⟨a,b,t,w,rfl,rfl,ha,hb,q⟩:=h;cases rx;cases ry;exact Sx.rcAt_ints (I.lstI ha) (I.lstI hb) hu X.prog X.w _ _ ⟨.bl _,H,I,rfl,q⟩
theorem call_isV:CallR X (.builtin "isinstance") (λvs H Q=>∃(x:V)(T:String)(t:Value)(b:Bool),vs=[x,.ty T]/\TyOf X.K H x t/\PySem.W.kitOne X.K t (.type T)=some b/\Q (.bl b) H):=by
 intro pins s σ H vs us Q I r h;obtain⟨x,T,t,b,rfl,ty,e,q⟩:=h;obtain⟨u,v,rfl,r1,r2⟩:=vals2 r;cases(show v=Value.type T from r2);exact isinst_ok I r1 ty e λtk=>⟨.bl b,H,I.tok tk,rfl,q⟩
theorem call_sortedDI(hc:X.calm=true):CallR X (.builtin "sorted") (λxs H Q=>∃(a:Addr)(kvs:List (Key×V))(t:List Int),xs=[.ref a]/\H a=some (.dK kvs)/\kvs.map (·.1)=t.map Sum.inl/\t.length<64 ∧
  ∀(t':List Int)(p:Addr),t'.Perm t->t'.Pairwise (·<=·)->H p=none->Q (.ref p) (upd H p (.lst (t'.map V.int)))):=by
 intro pins s σ H xs us Q I r h;obtain⟨a,kvs,t,rfl,ha,hk,h64,q⟩:=h;obtain⟨u,rfl,ru⟩:=vals1 r;cases ru;obtain⟨z,lo,vs,rel,dd⟩:=dk_of I.hok ha;obtain⟨ep,hat⟩:=dd.dictAt;have l1:kvs.length=vs.length:=Paired.length rel;have l2:kvs.length=t.length:=by have:=congrArg List.length hk;simpa using this
 refine Calls.call_function_entry kind_sorted plain_sorted entry_sorted (args_sorted1 _) ?_;unfold Builtin.«sorted»;refine wpAny_bind (m:=checkCount "sorted" 1 1 _) (wpAny_pure (wpAny_bind (PySem.W.kdu_collect (A:=X.A.in1) (PySem.W.kdl_dict lo) (I.ok.hd hc) hat (by omega) λh' tk acc hkp hacc=>?_)));have hsz:acc.toList.length=t.length:=by rw[Array.length_toList,hacc.1];omega
 have hi:IntsAre acc.toList t:=Sx.intsAre_at hsz λj v hv=>by
  obtain⟨k,x,e1,e2⟩:=hacc.2 j v (by simpa using hv);have hj:j<kvs.length:=by have:=(List.getElem?_eq_some_iff.mp e1).1;omega
  obtain⟨p,ep',hp,_⟩:=Sx.pair_at (i:=j) (a:=kvs[j]) rel (by simp[hj]);rw[e1] at ep';cases ep';have e3:(kvs.map (·.1))[j]?=some k:=by rw[List.getElem?_map,List.getElem?_eq_getElem hj];exact congrArg some hp
  rw[hk,List.getElem?_map] at e3;cases e4:t[j]? with
  | none=>rw[e4] at e3;cases e3
  | some n=>
   rw[e4] at e3;cases e3;obtain⟨tk',rfl⟩:=Value.isInt_shape (k:=n) (v:=v) e2;exact⟨tk',by simp[e4]⟩
 have I1:Inv X pins σ H {s with heap:=h',toks:=tk}:=I.kept hkp;refine wpAny_bind (wpAny_newList ?_ (by rw[hsz,sizeLine_eq];omega));have ho:(h'.push {cls:=.type "list",data:=.seq acc.toList.toArray}).get? h'.objs.size=some (seqObj "list" acc.toList.toArray 0):=Heap.get?_push_size _ rfl;refine wpAny_bind (wpAny_holding (wpAny_call_entry slot_list_sort ⟨_,ho,rfl⟩ entry_list_sort (list_sort_tree (s:={s with heap:=h'.push {cls:=.type "list",data:=.seq acc.toList.toArray},toks:=tk}) ho hi (by omega) λout ns' a1 a2 a3=>⟨_,rfl,?_⟩) (args_list_sort _)));obtain⟨e,he⟩:=sortedHeap_at (out:=out) ho;have hfr:H h'.objs.size=none:=I1.hok.fresh (Nat.le_refl _);have hln:=a2.length_eq;refine wpAny_pure ⟨_,rfl,⟨.ref h'.objs.size,_,I1.laid (a:=h'.objs.size) (o:=.lst (ns'.map V.int)) (t':=tk) (λb o z=>?_) (Nat.le_refl _) ⟨by rw[List.length_map,sizeLine_eq];omega,out.toList,e,vals_ints a1,he⟩,rfl,q ns' _ a2 a3 hfr⟩⟩;have hlt:=Heap.lt_size z;exact(sortedHeap_old (Nat.ne_of_lt hlt) (by rw[size_push'];exact Nat.lt_succ_of_lt hlt)).trans (Heap.get?_push_of_some _ z)
end
end L2
namespace G13
abbrev Tri:=Int×Int×Int
def tied(T:List Tri)(x y:Int):Prop:=∃t∈T,(t.1=x/\t.2.1=y)\/(t.1=y/\t.2.1=x)
inductive Reach (T:List Tri) (O:List Int) (x:Int):Int->Prop
 | refl:Reach T O x x
 | step {y z:Int}:Reach T O x y->tied T y z->z∉O->Reach T O x z
section
variable{T:List Tri}{O:List Int}{x y z m:Int}
def pts(m:Int):List Int:=(List.range m.toNat).map λ(i:Nat)=>(i:Int)
open Classical in
noncomputable def comp(m:Int)(T:List Tri)(O:List Int)(x:Int):List Int:=(pts m).filter λy=>decide (Reach T O x y)
def first(T:List Tri)(O:List Int)(x:Int):Prop:=x∉O/\∀y,0<=y->y<x->y∉O->¬Reach T O y x
def met(m:Int)(T:List Tri)(O:List Int)(i:Int)(y:Int):Prop:=y∈O\/∃x,0<=x/\x<i/\first T O x/\y∈comp m T O x
def good(m:Int)(T:List Tri):Prop:=∀t∈T,0<=t.1/\t.1<m/\0<=t.2.1/\t.2.1<m
open Classical in
noncomputable def firsts(m:Int)(T:List Tri)(O:List Int)(i:Int):List Int:=(pts i).filter λx=>decide (first T O x)
noncomputable def partsTo(m:Int)(T:List Tri)(O:List Int)(i:Int):List (List Int):=(firsts m T O i).map (comp m T O)
structure Hangs(T:List Tri)(P:List Int)(h:Int):Prop where
 ex:∃O:List Int,(∀y∈P,Reach T O h y)/\∀y∈P,∀z,tied T y z->z∉O->z∈P
def plc:Nat->List (List Int)->List (Int×Nat)
 | _,[]=>[]
 | k,c::r=>c.map (λy=>(y,k))++plc (k+1) r
end
end G13
namespace Ts
open PySem PyProof.Rows
def gallop':Bool->Keyed->Array Keyed->Nat->Nat->Nat->StateT SortSt Sem (Option Nat):=sortPriv% PySem.Builtin.gallop
def mergeLo':Array Keyed->Array Keyed->StateT SortSt Sem (Array Keyed):=sortPriv% PySem.Builtin.mergeLo
def mergeHi':Array Keyed->Array Keyed->StateT SortSt Sem (Array Keyed):=sortPriv% PySem.Builtin.mergeHi
section
variable{prog:Program}{w:World}{A:Around}{E:Value->Shared->Prop}{s:Shared}{κ:SortKind}{O:KeyOrd}{key:Keyed->O.α}{Good:Keyed->Prop}
def LtOk(prog:Program)(w:World)(A:Around)(E:Value->Shared->Prop)(s:Shared)(κ:SortKind)(O:KeyOrd)(key:Keyed->O.α)(Good:Keyed->Prop):Prop:=
 ∀x y,Good x->Good y->∀(Q:Option Bool->SortSt->Prop)(st:SortSt),kindOf st=κ->Q (some (O.blt (key x) (key y))) st->wpS (model prog w) A E s (lt' x y) Q st
def bnd(O:KeyOrd)(key:Keyed->O.α)(l:Bool)(k x:Keyed):Bool:=if l=true then O.blt (key x) (key k) else !(O.blt (key k) (key x))
theorem elem_ok{arr:Array Keyed}{i:Nat}{x:Keyed}{Q:Keyed->SortSt->Prop}{st:SortSt}(hx:arr[i]?=some x)(h:Q x st):wpS (model prog w) A E s (elem' arr i) Q st:=by
 rw[elem'_eq,hx];exact wpS_pure h
theorem beyond_ok{l:Bool}{k x:Keyed}{arr:Array Keyed}{i:Nat}{Q:Option Bool->SortSt->Prop}{st:SortSt}(L:LtOk prog w A E s κ O key Good)(hk:Good k)(gx:Good x)(hx:arr[i]?=some x)(hst:kindOf st=κ)(h:Q (some (bnd O key l k x)) st) :
  wpS (model prog w) A E s (do let y <-elem' arr i;if l=true then lt' y k else do {let r <-lt' k y;pure (r.map λz=>!z)}) Q st:=by
 refine wpS_bind (elem_ok hx ?_);unfold bnd at h;cases l with
 | true=>
  rw[if_pos rfl] at h ⊢;exact L x k gx hk _ st hst h
 | false=>
  rw[if_neg Bool.false_ne_true] at h ⊢;exact wpS_bind (L k x hk gx _ st hst (wpS_pure h))
theorem bin_ok{n:Nat}{bb:Nat->Bool}{st:SortSt}{f:Nat->Option (Option Nat)×Nat×Nat->StateT SortSt Sem (ForInStep (Option (Option Nat)×Nat×Nat))}{Q:Option (Option Nat)×Nat×Nat->SortSt->Prop}
  (mono:∀i j,i<=j->j<n->bb j=true->bb i=true)
  (h1:∀x lo hi (R:ForInStep (Option (Option Nat)×Nat×Nat)->SortSt->Prop),hi<=lo->R (.done (none,lo,hi)) st->wpS (model prog w) A E s (f x (none,lo,hi)) R st)
  (h2:∀x lo hi (R:ForInStep (Option (Option Nat)×Nat×Nat)->SortSt->Prop),lo<hi->hi<=n->R (.yield (none,if bb (lo+(hi-lo) / 2)=true then lo+(hi-lo) / 2+1 else lo,if bb (lo+(hi-lo) / 2)=true then hi else lo+(hi-lo) / 2)) st->wpS (model prog w) A E s (f x (none,lo,hi)) R st)
  {lo hi:Nat} (hl:lo<=hi) (hh:hi<=n) (ha:∀i,i<lo->bb i=true) (hb:∀i,hi<=i->i<n->bb i=false)
  (h:∀lo r,r<=n->(∀i,i<r->bb i=true)->(∀i,r<=i->i<n->bb i=false)->Q (none,lo,r) st):wpS (model prog w) A E s (forIn [0:n] (none,lo,hi) f) Q st:=by
 refine wpS_forRange (I:=λi c st'=>st'=st/\∃lo hi,c=(none,lo,hi)/\lo<=hi/\hi<=n/\hi-lo+i<=n/\(∀i,i<lo->bb i=true)/\∀i,hi<=i->i<n->bb i=false) ?_ ?_ ⟨rfl,lo,hi,rfl,hl,hh,by omega,ha,hb⟩
 .rintro i c st' _ hi' ⟨rfl,lo,hi,rfl,hl,hh,hz,ha,hb⟩;by_cases e:hi<=lo
  .obtain rfl:lo=hi:=by omega
   exact h1 i lo lo _ e (h lo lo hh ha hb)
  .refine h2 i lo hi _ (by omega) hh ⟨rfl,_,_,rfl,?_⟩;cases q:bb (lo+(hi-lo) / 2) with
   | true=>
    rw[if_pos rfl,if_pos rfl];exact⟨by omega,hh,by omega,λj hj=>mono j _ (by omega) (by omega) q,hb⟩
   | false=>
    rw[if_neg Bool.false_ne_true,if_neg Bool.false_ne_true];refine⟨by omega,by omega,by omega,ha,λj hj hjn=>?_⟩;cases z:bb j with
    | false=>rfl
    | true=>rw[mono _ j hj hjn z] at q;cases q
 .rintro c st' ⟨rfl,lo,hi,rfl,hl,hh,hz,ha,hb⟩;obtain rfl:lo=hi:=by omega
  exact h lo lo hh ha hb
theorem gallop_ok{l:Bool}{k:Keyed}{arr:Array Keyed}{b n hint:Nat}{Q:Option Nat->SortSt->Prop}{st:SortSt}{bb:Nat->Bool}(L:LtOk prog w A E s κ O key Good)(hk:Good k)
  (hg:∀i,i<n->∃x,arr[b+i]?=some x/\Good x/\bnd O key l k x=bb i) (mono:∀i j,i<=j->j<n->bb j=true->bb i=true) (hh:hint<n) (hst:kindOf st=κ)
  (h:∀r,r<=n->(∀i,i<r->bb i=true)->(∀i,r<=i->i<n->bb i=false)->Q (some r) st):wpS (model prog w) A E s (gallop' l k arr b n hint) Q st:=by
 have down:∀i j,bb i=false->i<=j->j<n->bb j=false:=λi j hi hij hj=>by
  cases z:bb j with
  | false=>rfl
  | true=>rw[mono i j hij hj z] at hi;cases hi
 unfold gallop';obtain⟨x,hx,gx,ex⟩:=hg hint hh;refine wpS_bind (beyond_ok L hk gx hx hst ?_);rw[ex];dsimp only;cases q:bb hint with
 | true=>
  rw[if_pos rfl];refine wpS_bind (wpS_mono (wpS_forRange (I:=λi c st'=>st'=st/\∃last ofs,c=(none,last,ofs)/\hint+last<n/\bb (hint+last)=true/\last<ofs/\i+1<=ofs)
   (Q:=λc st'=>st'=st/\∃last ofs,c=(none,last,ofs)/\hint+last<n/\bb (hint+last)=true/\last<ofs/\(n-hint<=ofs\/(hint+ofs<n/\bb (hint+ofs)=false))) ?_ ?_ ⟨rfl,0,1,rfl,hh,q,by omega,by omega⟩) ?_)
  .rintro i c st' _ hi ⟨rfl,last,ofs,rfl,l1,l2,l3,l4⟩;dsimp only;by_cases e:ofs>=n-hint
   .rw[if_pos e];exact wpS_pure ⟨rfl,last,ofs,rfl,l1,l2,l3,.inl e⟩
   .rw[if_neg e];obtain⟨y,hy,gy,ey⟩:=hg (hint+ofs) (by omega);refine wpS_bind (beyond_ok L hk gy hy hst ?_);rw[ey];dsimp only;cases z:bb (hint+ofs) with
    | false=>exact wpS_pure ⟨rfl,last,ofs,rfl,l1,l2,l3,.inr ⟨by omega,z⟩⟩
    | true=>exact wpS_pure ⟨rfl,ofs,2*ofs+1,rfl,by omega,z,by omega,by omega⟩
  .rintro c st' ⟨rfl,last,ofs,rfl,l1,l2,l3,l4⟩;exact⟨rfl,last,ofs,rfl,l1,l2,l3,.inl (by omega)⟩
  .rintro c st' ⟨rfl,last,ofs,rfl,l1,l2,l3,l4⟩;dsimp only;refine wpS_bind (bin_ok (bb:=bb) mono ?_ ?_ (by omega) (by omega) (λi hi=>mono i _ (by omega) l1 l2) (λi hi hin=>?_) λlo r r1 r2 r3=>?_)
   .intro x lo hi R hle hR;dsimp only;rw[if_pos hle];exact wpS_pure hR
   .intro x lo hi R hlt hn hR;dsimp only;rw[if_neg (by omega)];obtain⟨y,hy,gy,ey⟩:=hg (lo+(hi-lo) / 2) (by omega);refine wpS_bind (beyond_ok L hk gy hy hst ?_);rw[ey];dsimp only;cases z:bb (lo+(hi-lo) / 2) with
    | false=>
     rw[z] at hR;exact wpS_pure hR
    | true=>
     rw[z] at hR;exact wpS_pure hR
   .rcases l4 with l4|⟨l4,l5⟩
    .omega
    .exact down (hint+ofs) i l5 (by omega) hin
   .exact wpS_pure (h r r1 r2 r3)
 | false=>
  rw[if_neg Bool.false_ne_true];refine wpS_bind (wpS_mono (wpS_forRange (I:=λi c st'=>st'=st/\∃last ofs,c=(none,last,ofs)/\last<=hint/\bb (hint-last)=false/\last<ofs/\i+1<=ofs)
   (Q:=λc st'=>st'=st/\∃last ofs,c=(none,last,ofs)/\last<=hint/\bb (hint-last)=false/\last<ofs/\(hint+1<=ofs\/(ofs<=hint/\bb (hint-ofs)=true))) ?_ ?_ ⟨rfl,0,1,rfl,by omega,q,by omega,by omega⟩) ?_)
  .rintro i c st' _ hi ⟨rfl,last,ofs,rfl,l1,l2,l3,l4⟩;dsimp only;by_cases e:ofs>=hint+1
   .rw[if_pos e];exact wpS_pure ⟨rfl,last,ofs,rfl,l1,l2,l3,.inl e⟩
   .rw[if_neg e];obtain⟨y,hy,gy,ey⟩:=hg (hint-ofs) (by omega);refine wpS_bind (beyond_ok L hk gy hy hst ?_);rw[ey];dsimp only;cases z:bb (hint-ofs) with
    | true=>exact wpS_pure ⟨rfl,last,ofs,rfl,l1,l2,l3,.inr ⟨by omega,z⟩⟩
    | false=>exact wpS_pure ⟨rfl,ofs,2*ofs+1,rfl,by omega,z,by omega,by omega⟩
  .rintro c st' ⟨rfl,last,ofs,rfl,l1,l2,l3,l4⟩;exact⟨rfl,last,ofs,rfl,l1,l2,l3,.inl (by omega)⟩
  .rintro c st' ⟨rfl,last,ofs,rfl,l1,l2,l3,l4⟩;dsimp only;refine wpS_bind (bin_ok (bb:=bb) mono ?_ ?_ (by omega) (by omega) (λi hi=>?_) (λi hi hin=>down _ i l2 (by omega) hin) λlo r r1 r2 r3=>?_)
   .intro x lo hi R hle hR;dsimp only;rw[if_pos hle];exact wpS_pure hR
   .intro x lo hi R hlt hn hR;dsimp only;rw[if_neg (by omega)];obtain⟨y,hy,gy,ey⟩:=hg (lo+(hi-lo) / 2) (by omega);refine wpS_bind (beyond_ok L hk gy hy hst ?_);rw[ey];dsimp only;cases z:bb (lo+(hi-lo) / 2) with
    | false=>
     rw[z] at hR;exact wpS_pure hR
    | true=>
     rw[z] at hR;exact wpS_pure hR
   .rcases l4 with l4|⟨l4,l5⟩
    .omega
    .exact mono i (hint-ofs) (by omega) (by omega) l5
   .exact wpS_pure (h r r1 r2 r3)
end
section
variable{O:KeyOrd}{key:Keyed->O.α}
def Le(O:KeyOrd)(key:Keyed->O.α)(x y:Keyed):Prop:=O.kle (key x) (key y)
theorem Le.trans{x y z:Keyed}(h:Le O key x y)(k:Le O key y z):Le O key x z:=KeyOrd.kle_trans h k
theorem le_of_lt{x y:Keyed}(h:O.blt (key x) (key y)=true):Le O key x y:=KeyOrd.kle_of_klt h
theorem le_of_nlt{x y:Keyed}(h:O.blt (key x) (key y)=false):Le O key y x:=h
structure Mg(O:KeyOrd)(key:Keyed->O.α)(al bl:List Keyed)(out:Array Keyed)(ia ib:Nat):Prop where
 perm:out.toList.Perm (al.take ia++bl.take ib)
 srt:out.toList.Pairwise (Le O key)
 ale:∀x∈out.toList,∀y∈al.drop ia,Le O key x y
 ble:∀x∈out.toList,∀y∈bl.drop ib,Le O key x y
variable{al bl:List Keyed}{out:Array Keyed}{ia ib:Nat}
theorem take_add(l:List Keyed)(i k:Nat):l.take (i+k)=l.take i++(l.drop i).take k:=by
 rw[List.take_add]
theorem drop_add'(l:List Keyed)(i k:Nat):l.drop (i+k)=(l.drop i).drop k:=by rw[List.drop_drop]
theorem Mg.app{k:Nat}{more:Array Keyed}(M:Mg O key al bl out ia ib)(sa:al.Pairwise (Le O key))(hm:more.toList=(al.drop ia).take k)(h:∀x∈(al.drop ia).take k,∀y∈bl.drop ib,Le O key x y):Mg O key al bl (out++more) (ia+k) ib:=by
 have sd:(al.drop ia).Pairwise (Le O key):=sa.sublist (List.drop_sublist _ _);have sp:(al.drop ia).take k++(al.drop ia).drop k=al.drop ia:=List.take_append_drop _ _;have sc:=sd;rw[<-sp,List.pairwise_append] at sc;refine⟨?_,?_,λx hx y hy=>?_,λx hx y hy=>?_⟩
 .rw[Array.toList_append,hm,take_add];refine(M.perm.append_right _).trans ?_;rw[List.append_assoc,List.append_assoc];exact List.Perm.append_left _ List.perm_append_comm
 .rw[Array.toList_append,hm,List.pairwise_append];exact⟨M.srt,sc.1,λx hx y hy=>M.ale x hx y (List.mem_of_mem_take hy)⟩
 .rw[drop_add'] at hy;rw[Array.toList_append,hm] at hx;rcases List.mem_append.mp hx with hx|hx
  .exact M.ale x hx y (List.mem_of_mem_drop hy)
  .exact sc.2.2 x hx y hy
 .rw[Array.toList_append,hm] at hx;rcases List.mem_append.mp hx with hx|hx
  .exact M.ble x hx y hy
  .exact h x hx y hy
theorem Mg.swap(M:Mg O key al bl out ia ib):Mg O key bl al out ib ia:=⟨M.perm.trans List.perm_append_comm,M.srt,M.ble,M.ale⟩
theorem Mg.push{x:Keyed}(M:Mg O key al bl out ia ib)(sa:al.Pairwise (Le O key))(hx:al[ia]?=some x)(h:∀y∈bl.drop ib,Le O key x y):Mg O key al bl (out.push x) (ia+1) ib:=by
 have e:(al.drop ia).take 1=[x]:=by
  obtain⟨hi,ex⟩:=List.getElem?_eq_some_iff.mp hx;rw[List.drop_eq_getElem_cons hi,ex];rfl
 have:=M.app (k:=1) (more:=#[x]) sa (by rw[e]) (by rw[e];intro z hz y hy;rw[List.mem_singleton] at hz;subst hz;exact h y hy)
 rwa [Array.append_singleton] at this
def Done(O:KeyOrd)(key:Keyed->O.α)(al bl:List Keyed)(r:Array Keyed):Prop:=r.toList.Perm (al++bl)/\r.toList.Pairwise (Le O key)
theorem Mg.fin{xs ys:Array Keyed}(M:Mg O key al bl out ia ib)(sa:al.Pairwise (Le O key))(sb:bl.Pairwise (Le O key))(hx:xs.toList=al.drop ia)(hy:ys.toList=bl.drop ib)(h:∀x∈al.drop ia,∀y∈bl.drop ib,Le O key x y):Done O key al bl (out++xs++ys):=by
 constructor
 .rw[Array.toList_append,Array.toList_append,hx,hy];have e1:al.Perm (al.take ia++al.drop ia):=by rw[List.take_append_drop]
  have e2:bl.Perm (bl.take ib++bl.drop ib):=by rw[List.take_append_drop]
  refine((M.perm.append_right _).append_right _).trans ?_;refine List.Perm.trans ?_ (e1.append e2).symm;rw[List.append_assoc,List.append_assoc,List.append_assoc];refine List.Perm.append_left _ ?_;rw[<-List.append_assoc,<-List.append_assoc];exact List.Perm.append_right _ List.perm_append_comm
 .rw[Array.toList_append,Array.toList_append,hx,hy,List.pairwise_append,List.pairwise_append];refine⟨⟨M.srt,sa.sublist (List.drop_sublist _ _),M.ale⟩,sb.sublist (List.drop_sublist _ _),λx hx y hy=>?_⟩;rcases List.mem_append.mp hx with hx|hx
  .exact M.ble x hx y hy
  .exact h x hx y hy
theorem Done.swap{r:Array Keyed}(D:Done O key bl al r):Done O key al bl r:=⟨D.1.trans List.perm_append_comm,D.2⟩
theorem ext_drop(a:Array Keyed)(i:Nat):(a.extract i a.size).toList=a.toList.drop i:=by
 rw[Array.toList_extract,List.extract_eq_take_drop];rw[List.take_of_length_le (by rw[List.length_drop,Array.length_toList];exact Nat.le_refl _)]
theorem ext_take(a:Array Keyed)(i k:Nat):(a.extract i (i+k)).toList=(a.toList.drop i).take k:=by
 rw[Array.toList_extract,List.extract_eq_take_drop,Nat.add_sub_cancel_left]
theorem drop_nil{l:List Keyed}{i:Nat}(h:l.length<=i):∀x∈l.drop i,False:=λx hx=>by
 rw[List.drop_of_length_le h] at hx;cases hx
theorem drop_at{l:List Keyed}{i:Nat}{x:Keyed}(h:x∈l.drop i):∃j,i<=j/\l[j]?=some x:=by
 obtain⟨j,hj,e⟩:=List.getElem_of_mem h;rw[List.length_drop] at hj;refine⟨i+j,by omega,?_⟩;rw[<-e];simp
theorem take_at{l:List Keyed}{i k:Nat}{x:Keyed}(h:x∈(l.drop i).take k):∃j,j<k/\l[i+j]?=some x:=by
 obtain⟨j,hj,e⟩:=List.getElem_of_mem h;rw[List.length_take,List.length_drop] at hj;refine⟨j,by omega,?_⟩;rw[<-e];simp
theorem le_at{l:List Keyed}(sl:l.Pairwise (Le O key)){i j:Nat}{x y:Keyed}(hx:l[i]?=some x)(hy:l[j]?=some y)(h:i<=j):Le O key x y:=by
 by_cases e:i=j
 .subst e;rw[hx] at hy;cases hy;exact KeyOrd.kle_refl _
 .obtain⟨h1,e1⟩:=List.getElem?_eq_some_iff.mp hx;obtain⟨h2,e2⟩:=List.getElem?_eq_some_iff.mp hy;rw[List.pairwise_iff_getElem] at sl;have:=sl i j h1 h2 (by omega);rw[e1,e2] at this;exact this
end
section
variable{prog:Program}{w:World}{A:Around}{E:Value->Shared->Prop}{s:Shared}{κ:SortKind}{O:KeyOrd}{key:Keyed->O.α}{Good:Keyed->Prop}
structure Sm(κ:SortKind)(st st':SortSt):Prop where
 kind:kindOf st'=κ
 arr:arrOf st'=arrOf st
 pend:pendingOf st'=pendingOf st
 fail:failedOf st'=failedOf st
theorem arr_at{a:Array Keyed}{i:Nat}(h:i<a.size):∃x,a[i]?=some x/\a.toList[i]?=some x:=⟨a[i],by simp[h],by simp[h]⟩
theorem gal_right{a:Array Keyed}{ia:Nat}{y:Keyed}{Q:Option Nat->SortSt->Prop}{st:SortSt}(L:LtOk prog w A E s κ O key Good)(ga:∀x∈a.toList,Good x)(gy:Good y)(sa:a.toList.Pairwise (Le O key))(hi:ia<a.size)(hst:kindOf st=κ)
  (h:∀k,ia+k<=a.size->(∀x∈(a.toList.drop ia).take k,Le O key x y)->(∀x∈a.toList.drop (ia+k),Le O key y x)->Q (some k) st):wpS (model prog w) A E s (gallop' false y a ia (a.size-ia) 0) Q st:=by
 have at_:∀i,i<a.size-ia->∃x,a[ia+i]?=some x/\a.toList[ia+i]?=some x:=λi hi=>arr_at (by omega);have key':∀i,i<a.size-ia->∃x,a[ia+i]?=some x/\Good x/\bnd O key false y x=(match a[ia+i]? with|some x=>!(O.blt (key y) (key x))|none=>false):=λi hi=>by
  obtain⟨x,h1,h2⟩:=at_ i hi;refine⟨x,h1,ga x (List.mem_of_getElem? h2),?_⟩;rw[h1];rfl
 refine gallop_ok (bb:=λi=>match a[ia+i]? with|some x=>!(O.blt (key y) (key x))|none=>false) L gy key' (λi j hij hj hb=>?_) (by omega) hst λr r1 r2 r3=>h r (by omega) (λx hx=>?_) (λx hx=>?_)
 .obtain ⟨x,h1,h2⟩:=at_ i (by omega);obtain⟨z,h3,h4⟩:=at_ j hj;simp only[h1,h3] at hb ⊢;have lz:Le O key z y:=by
   have:O.blt (key y) (key z)=false:=by simpa using hb
   exact this
  have:Le O key x y:=(le_at sa h2 h4 (by omega)).trans lz;have:O.blt (key y) (key x)=false:=this;rw[this];rfl
 .obtain⟨j,hj,ej⟩:=take_at hx;have:=r2 j hj;have e:a[ia+j]?=some x:=by simpa using ej
  simp only[e] at this;have:O.blt (key y) (key x)=false:=by simpa using this
  exact this
 .obtain⟨j,hj,ej⟩:=drop_at hx;have hjl:j<a.size:=by have:=(List.getElem?_eq_some_iff.mp ej).1;simpa using this
  have e:a[ia+(j-ia)]?=some x:=by rw[show ia+(j-ia)=j by omega];simpa using ej
  have:=r3 (j-ia) (by omega) (by omega);simp only[e] at this;have:O.blt (key y) (key x)=true:=by simpa using this
  exact le_of_lt this
theorem gal_left{b:Array Keyed}{ib:Nat}{x:Keyed}{Q:Option Nat->SortSt->Prop}{st:SortSt}(L:LtOk prog w A E s κ O key Good)(gb:∀x∈b.toList,Good x)(gx:Good x)(sb:b.toList.Pairwise (Le O key))(hi:ib<b.size)(hst:kindOf st=κ)
  (h:∀k,ib+k<=b.size->(∀y∈(b.toList.drop ib).take k,Le O key y x)->(∀y∈b.toList.drop (ib+k),Le O key x y)->Q (some k) st):wpS (model prog w) A E s (gallop' true x b ib (b.size-ib) 0) Q st:=by
 have at_:∀i,i<b.size-ib->∃x,b[ib+i]?=some x/\b.toList[ib+i]?=some x:=λi hi=>arr_at (by omega);have key':∀i,i<b.size-ib->∃y,b[ib+i]?=some y/\Good y/\bnd O key true x y=(match b[ib+i]? with|some y=>O.blt (key y) (key x)|none=>false):=λi hi=>by
  obtain⟨y,h1,h2⟩:=at_ i hi;refine⟨y,h1,gb y (List.mem_of_getElem? h2),?_⟩;rw[h1];rfl
 refine gallop_ok (bb:=λi=>match b[ib+i]? with|some y=>O.blt (key y) (key x)|none=>false) L gx key' (λi j hij hj hb=>?_) (by omega) hst λr r1 r2 r3=>h r (by omega) (λy hy=>?_) (λy hy=>?_)
 .obtain⟨y,h1,h2⟩:=at_ i (by omega);obtain⟨z,h3,h4⟩:=at_ j hj;simp only[h1,h3] at hb ⊢;exact KeyOrd.klt_of_kle_of_klt (le_at sb h2 h4 (by omega)) hb
 .obtain⟨j,hj,ej⟩:=take_at hy;have:=r2 j hj;have e:b[ib+j]?=some y:=by simpa using ej
  simp only[e] at this;exact le_of_lt this
 .obtain⟨j,hj,ej⟩:=drop_at hy;have hjl:j<b.size:=by have:=(List.getElem?_eq_some_iff.mp ej).1;simpa using this
  have e:b[ib+(j-ib)]?=some y:=by rw[show ib+(j-ib)=j by omega];simpa using ej
  have:=r3 (j-ib) (by omega) (by omega);simp only[e] at this;exact this
structure Cu(O:KeyOrd)(key:Keyed->O.α)(a b:Array Keyed)(out:Array Keyed)(ia ib:Nat):Prop where
 mg:Mg O key a.toList b.toList out ia ib
 la:ia+1<a.size
 lb:ib<b.size
abbrev Fi(O:KeyOrd)(key:Keyed->O.α)(a b r:Array Keyed):Prop:=Done O key a.toList b.toList r
section
variable{a b out:Array Keyed}{ia ib:Nat}
theorem fin_b(M:Mg O key a.toList b.toList out ia ib)(sa:a.toList.Pairwise (Le O key))(sb:b.toList.Pairwise (Le O key))(h:(ib==b.size)=true):Fi O key a b (out++a.extract ia a.size++b.extract ib b.size):=
 M.fin sa sb (ext_drop _ _) (ext_drop _ _) λ_ _ y hy=>(drop_nil (by rw[Array.length_toList];exact Nat.le_of_eq (beq_iff_eq.mp h).symm) y hy).elim
theorem fin_a(M:Mg O key a.toList b.toList out ia ib)(sa:a.toList.Pairwise (Le O key))(sb:b.toList.Pairwise (Le O key))(h:(ia==a.size)=true):Fi O key a b (out++a.extract ia a.size++b.extract ib b.size):=
 M.fin sa sb (ext_drop _ _) (ext_drop _ _) λx hx _ _=>(drop_nil (by rw[Array.length_toList];exact Nat.le_of_eq (beq_iff_eq.mp h).symm) x hx).elim
theorem fin_last(M:Mg O key a.toList b.toList out ia ib)(sa:a.toList.Pairwise (Le O key))(sb:b.toList.Pairwise (Le O key))(hl:∀y∈b.toList,∀x,a.toList[a.size-1]?=some x->Le O key y x)(h:(ia+1==a.size)=true) :
  Fi O key a b (out++b.extract ib b.size++a.extract ia a.size):=by
 refine(M.swap.fin sb sa (ext_drop _ _) (ext_drop _ _) λy hy x hx=>?_).swap;obtain⟨j,hj,ej⟩:=drop_at hx;have hjl:j<a.size:=by have:=(List.getElem?_eq_some_iff.mp ej).1;simpa using this
 have h:=beq_iff_eq.mp h;exact hl y (List.mem_of_mem_drop hy) x (by rw[show a.size-1=j by omega];exact ej)
end
theorem ite_ok{α:Type}{c:Prop}[Decidable c]{m1 m2:StateT SortSt Sem α}{Q:α->SortSt->Prop}{st:SortSt}(h1:c->wpS (model prog w) A E s m1 Q st)(h2:¬c->wpS (model prog w) A E s m2 Q st):wpS (model prog w) A E s (if c then m1 else m2) Q st:=by
 by_cases h:c
 .rw[if_pos h];exact h1 h
 .rw[if_neg h];exact h2 h
theorem ext_zero(a:Array Keyed)(i:Nat):a.extract i (i+0)=#[]:=by
 apply Array.ext';rw[ext_take,List.take_zero]
theorem ne_of_beq{m n:Nat}(h:¬(m==n)=true):m≠n:=λz=>h (beq_iff_eq.mpr z)
theorem go{G:Prop}(k:∀G':Prop,(G->G')->G'):G:=k G id
theorem iteT{α:Type}{c:Prop}[Decidable c]{m1 m2:StateT SortSt Sem α}{Q:α->SortSt->Prop}{st:SortSt}(h:c)(h1:wpS (model prog w) A E s m1 Q st):wpS (model prog w) A E s (if c then m1 else m2) Q st:=by rw[if_pos h];exact h1
theorem iteF{α:Type}{c:Prop}[Decidable c]{m1 m2:StateT SortSt Sem α}{Q:α->SortSt->Prop}{st:SortSt}(h:¬c)(h1:wpS (model prog w) A E s m2 Q st):wpS (model prog w) A E s (if c then m1 else m2) Q st:=by rw[if_neg h];exact h1
theorem bindFor{σ β γ:Type}{a b:Nat}{f:Nat->β->StateT σ Sem (ForInStep β)}{k:β->StateT σ Sem γ}{R:γ->σ->Prop}{c:β}{st:σ}(I:Nat->β->σ->Prop)(Q:β->σ->Prop)
  (step:∀(i:Nat)(c:β)(st:σ),a<=i->i<b->I i c st->wpS (model prog w) A E s (f i c) (λr st'=>match r with|ForInStep.done c'=>Q c' st' | ForInStep.yield c'=>I (i+1) c' st') st)
  (fin:∀(c:β)(st:σ),I (max a b) c st->Q c st) (h0:I a c st) (post:∀(c:β)(st':σ),Q c st'->wpS (model prog w) A E s (k c) R st'):wpS (model prog w) A E s (forIn [a:b] c f >>= k) R st:=wpS_bind (wpS_mono (wpS_forRange I step fin h0) post)
theorem ite_two{α:Type}{c:Prop}[Decidable c]{m:Nat->StateT SortSt Sem α}{x y:Nat}{Q:α->SortSt->Prop}{st:SortSt}(h:∀z,wpS (model prog w) A E s (m z) Q st):wpS (model prog w) A E s (if c then m x else m y) Q st:=ite_ok (λ_=>h _) (λ_=>h _)
theorem join2{α:Type}{jp:PUnit->Array Keyed->Nat->StateT SortSt Sem α}{m:StateT SortSt Sem α}{Q:α->SortSt->Prop}{st:SortSt}(I:Array Keyed->Nat->Prop)(hj:∀o i,I o i->wpS (model prog w) A E s (jp () o i) Q st)(h:(∀o i,I o i->wpS (model prog w) A E s (jp () o i) Q st)->wpS (model prog w) A E s m Q st):wpS (model prog w) A E s m Q st:=h hj
theorem mergeLo_ok{a b:Array Keyed}{st:SortSt}{Q:Array Keyed->SortSt->Prop}(L:LtOk prog w A E s κ O key Good)(ga:∀x∈a.toList,Good x)(gb:∀x∈b.toList,Good x)(sa:a.toList.Pairwise (Le O key))(sb:b.toList.Pairwise (Le O key))
  (na:0<a.size) (nb:0<b.size) (hf:∀x,a.toList[0]?=some x->∀y,b.toList[0]?=some y->Le O key y x) (hl:∀y∈b.toList,∀x,a.toList[a.size-1]?=some x->Le O key y x) (hst:kindOf st=κ)
  (h:∀r st',Fi O key a b r->Sm κ st st'->Q r st'):wpS (model prog w) A E s (mergeLo' a b) Q st:=by
 unfold mergeLo';refine wpS_bind (wpS_lift (wpAny_rule ⟨rfl,?_⟩))
 try dsimp -zeta only
 obtain⟨y0,hy0,ly0⟩:=arr_at nb;have s0:Sm κ st st:=⟨hst,rfl,rfl,rfl⟩;have la0:∀x∈a.toList.drop 0,Le O key y0 x:=λx hx=>by
  obtain⟨j,_,ej⟩:=drop_at hx;obtain⟨x0,_,lx0⟩:=arr_at na;exact(hf x0 lx0 y0 ly0).trans (le_at sa lx0 ej (Nat.zero_le _))
 have M0:Mg O key a.toList b.toList #[y0] 0 1:=by
  have:Mg O key b.toList a.toList #[] 0 0:=⟨by simp,by simp,λx hx=>(by simp at hx),λx hx=>(by simp at hx)⟩;have:=(this.push sb ly0 la0).swap;simpa using this
 refine wpS_bind (elem_ok hy0 ?_);refine ite_ok (λe1=>?_) (λe1=>?_)
 .skip
  exact wpS_pure (h _ _ (fin_b M0 sa sb e1) s0)
 skip
 refine ite_ok (λe2=>?_) (λe2=>?_)
 .skip
  exact wpS_pure (h _ _ (fin_last M0 sa sb hl e2) s0)
 skip
 have e1':1≠b.size:=λz=>e1 (beq_iff_eq.mpr z);have e2':0+1≠a.size:=λz=>e2 (beq_iff_eq.mpr z);refine wpS_bind (wpS_get ?_);refine bindFor
  (I:=λi c st'=>Sm κ st st'/\∃out ia ib g,c=(none,out,ia,ib,g)/\Cu O key a b out ia ib/\i+1<=ia+ib)
  (Q:=λc st'=>Sm κ st st'/\∃r out ia ib g,c=(some r,out,ia,ib,g)/\Fi O key a b r) ?step ?fin ⟨s0,_,_,_,_,rfl,⟨M0,by omega,by omega⟩,by omega⟩ ?post
 case post=>
  intro c st' hh;refine go λ_ bk0=>?_;obtain⟨s1,r,out,ia,ib,g,rfl,F⟩:=hh;refine bk0 ?_;exact wpS_pure (h r st' F s1)
 case fin=>
  intro c st' hh;refine go λ_ bk0=>?_;obtain⟨s1,out,ia,ib,g,rfl,C,hz⟩:=hh;refine bk0 ?_;exfalso;have:=C.la;have:=C.lb;omega
 case step=>
  intro i c st' _ _ hh;refine go λ_ bk0=>?_;obtain⟨s1,out,ia,ib,g,rfl,C,hz⟩:=hh;refine bk0 ?_
  try dsimp -zeta only
  refine bindFor
   (I:=λ_ c st'=>Sm κ st st'/\∃out ia ib ac bc,c=(none,out,ia,ib,ac,bc)/\Cu O key a b out ia ib/\i+1<=ia+ib)
   (Q:=λc st'=>Sm κ st st'/\((∃r out ia ib ac bc,c=(some r,out,ia,ib,ac,bc)/\Fi O key a b r)\/∃out ia ib ac bc,c=(none,out,ia,ib,ac,bc)/\Cu O key a b out ia ib/\i+1<=ia+ib)) ?step1 ?fin1 ⟨s1,_,_,_,_,_,rfl,C,hz⟩ ?post1
  case fin1=>exact λc st' h=>⟨h.1,.inr h.2⟩
  case step1=>
   intro j c st2 _ _ hh;refine go λ_ bk0=>?_;obtain⟨s2,out,ia,ib,ac,bc,rfl,C,hz⟩:=hh;refine bk0 ?_
   try dsimp -zeta only
   obtain⟨y,hy,ly⟩:=arr_at C.lb;obtain⟨x,hx,lx⟩:=arr_at (show ia<a.size by have:=C.la;omega);have la:=C.la;have lb:=C.lb;refine wpS_bind (elem_ok hy (wpS_bind (elem_ok hx (wpS_bind (L y x (gb y (List.mem_of_getElem? ly)) (ga x (List.mem_of_getElem? lx)) _ _ s2.kind ?_)))));cases q:O.blt (key y) (key x) with
   | true=>
    try dsimp -zeta only
    refine iteT rfl ?_;refine wpS_bind (elem_ok hy ?_);have M1:=(C.mg.swap.push sb ly λz hz=>by
     obtain⟨j,hj,ej⟩:=drop_at hz;exact(le_of_lt q).trans (le_at sa lx ej hj)).swap
    refine ite_ok (λf1=>?_) (λf1=>?_)
    .skip
     exact wpS_pure ⟨s2,.inl ⟨_,_,_,_,_,_,rfl,fin_b M1 sa sb f1⟩⟩
    .skip
     have f1':ib+1≠b.size:=λz=>f1 (beq_iff_eq.mpr z);have C1:Cu O key a b (out.push y) ia (ib+1):=⟨M1,la,by omega⟩
     first|refine ite_ok (λ_=>?_) (λ_=>?_)|split
     .exact wpS_pure ⟨s2,.inr ⟨_,_,_,_,_,rfl,C1,by omega⟩⟩
     .exact wpS_pure ⟨s2,_,_,_,_,_,rfl,C1,by omega⟩
   | false=>
    try dsimp -zeta only
    refine iteF Bool.false_ne_true ?_;refine wpS_bind (elem_ok hx ?_);have M1:=C.mg.push sa lx λz hz=>by
     obtain⟨j,hj,ej⟩:=drop_at hz;exact(le_of_nlt q).trans (le_at sb ly ej hj)
    refine ite_ok (λf1=>?_) (λf1=>?_)
    .skip
     exact wpS_pure ⟨s2,.inl ⟨_,_,_,_,_,_,rfl,fin_last M1 sa sb hl f1⟩⟩
    .skip
     have f1':ia+1+1≠a.size:=λz=>f1 (beq_iff_eq.mpr z);have C1:Cu O key a b (out.push x) (ia+1) ib:=⟨M1,by omega,lb⟩
     first|refine ite_ok (λ_=>?_) (λ_=>?_)|split
     .exact wpS_pure ⟨s2,.inr ⟨_,_,_,_,_,rfl,C1,by omega⟩⟩
     .exact wpS_pure ⟨s2,_,_,_,_,_,rfl,C1,by omega⟩
  case post1=>
   intro c st2 hh;refine go λ_ bk0=>?_;obtain⟨s2,⟨r,out,ia,ib,ac,bc,rfl,F⟩|⟨out,ia,ib,ac,bc,rfl,C,hz⟩⟩:=hh
   all_goals refine bk0 ?_
   .exact wpS_pure ⟨s2,r,_,_,_,_,rfl,F⟩
   try dsimp -zeta only
   refine wpS_bind (wpS_lift (wpAny_rule ⟨rfl,?_⟩));refine bindFor
    (I:=λj c st'=>Sm κ st st'/\∃out ia ib g ac bc,c=(none,out,ia,ib,g,ac,bc)/\Cu O key a b out ia ib/\i+1+j<=ia+ib)
    (Q:=λc st'=>Sm κ st st'/\((∃r out ia ib g ac bc,c=(some r,out,ia,ib,g,ac,bc)/\Fi O key a b r)\/∃out ia ib g ac bc,c=(none,out,ia,ib,g,ac,bc)/\Cu O key a b out ia ib/\i+2<=ia+ib)) ?step2 ?fin2 ⟨s2,_,_,_,_,_,_,rfl,C,hz⟩ ?post2
   case fin2=>
    intro c st' hh;refine go λ_ bk0=>?_;obtain⟨s3,out,ia,ib,g,ac,bc,rfl,C,hz⟩:=hh;refine bk0 ?_;exact⟨s3,.inr ⟨_,_,_,_,_,_,rfl,C,by omega⟩⟩
   case post2=>
    intro c st3 hh;refine go λ_ bk0=>?_;obtain⟨s3,⟨r,out,ia,ib,g,ac,bc,rfl,F⟩|⟨out,ia,ib,g,ac,bc,rfl,C,hz⟩⟩:=hh
    all_goals refine bk0 ?_
    .exact wpS_pure ⟨s3,r,_,_,_,_,rfl,F⟩
    .dsimp only;refine wpS_bind (wpS_modify ?_);exact wpS_pure ⟨⟨s3.kind,s3.arr,s3.pend,s3.fail⟩,_,_,_,_,rfl,C,by omega⟩
   case step2=>
    intro j c st3 _ _ hh;refine go λ_ bk0=>?_;obtain⟨s3,out,ia,ib,g,ac,bc,rfl,C,hz⟩:=hh;refine bk0 ?_;obtain⟨y,hy,ly⟩:=arr_at C.lb;have la:=C.la;have lb:=C.lb;have gy:=gb y (List.mem_of_getElem? ly)
    try dsimp -zeta only
    extract_lets u0 u1 u2 u3 u4 u5 u6 u7 u8 u9 u10 v1 jp v2
    refine ite_two (m:=jp ()) (λmg=>?_);dsimp -zeta only [jp];clear jp v2;refine wpS_bind (wpS_modify ?_);refine wpS_bind (elem_ok hy ?_);refine wpS_bind (gal_right L ga gy sa (show ia<a.size from Nat.lt_of_succ_lt la) s3.kind λk hk k1 k2=>?_)
    try dsimp -zeta only
    extract_lets ac2 jp2 out2 ia2
    have M1:Mg O key a.toList b.toList (out++a.extract ia (ia+k)) (ia+k) ib:=C.mg.app sa (ext_take _ _ _) λx hx z hz=>by
     obtain⟨j,hj,ej⟩:=drop_at hz;exact(k1 x hx).trans (le_at sb ly ej hj)
    refine join2 (jp:=jp2) (λo i'=>Mg O key a.toList b.toList o i' ib/\(∀x∈a.toList.drop i',Le O key y x)/\i'+1<a.size/\ia<=i') (λo i' hI=>?rest) (λhj=>?here)
    case here=>
     refine ite_ok (λhk0=>ite_ok (λf1=>wpS_pure ⟨⟨s3.kind,s3.arr,s3.pend,s3.fail⟩,.inl ⟨_,_,_,_,_,_,_,rfl,fin_last M1 sa sb hl f1⟩⟩) (λf1=>ite_ok (λf2=>wpS_pure ⟨⟨s3.kind,s3.arr,s3.pend,s3.fail⟩,.inl ⟨_,_,_,_,_,_,_,rfl,fin_a M1 sa sb f2⟩⟩) (λf2=>hj _ _ ⟨M1,k2,?_,Nat.le_add_right _ _⟩))) (λhk0=>?_)
     .have:=ne_of_beq f1;have:=ne_of_beq f2;show ia+k+1<a.size;have h1:ia2=ia+k:=rfl;omega
     .obtain rfl:k=0:=by omega
      rw[ext_zero,Array.append_empty] at M1;exact hj _ _ ⟨M1,k2,la,Nat.le_refl _⟩
    clear hk k1 k2 M1;dsimp -zeta only [jp2];clear jp2 out2 ia2;obtain⟨MI,kI,lI,leI⟩:=hI;have M2:=(MI.swap.push sb ly kI).swap;refine wpS_bind (elem_ok hy ?_)
    try dsimp -zeta only
    extract_lets out3
    refine ite_ok (λf3=>wpS_pure ⟨⟨s3.kind,s3.arr,s3.pend,s3.fail⟩,.inl ⟨_,_,_,_,_,_,_,rfl,fin_b M2 sa sb f3⟩⟩) (λf3=>?_);have lb1:ib+1<b.size:=by
     have:=ne_of_beq f3;have h1:v1=ib+1:=rfl;omega
    obtain⟨x,hx,lx⟩:=arr_at (Nat.lt_of_succ_lt lI);have gx:=ga x (List.mem_of_getElem? lx);refine wpS_bind (elem_ok hx ?_);refine wpS_bind (gal_left L gb gx sb lb1 s3.kind λk' hk' k1' k2'=>?_)
    try dsimp -zeta only
    extract_lets bc3 jp3 out4 ib4
    have M3:=(M2.swap.app (k:=k') (more:=b.extract (ib+1) (ib+1+k')) sb (ext_take _ _ _) λz hz u hu=>by
     obtain⟨j,hj,ej⟩:=drop_at hu;exact(k1' z hz).trans (le_at sa lx ej hj)).swap
    refine join2 (jp:=jp3) (λo i2=>Mg O key a.toList b.toList o i' i2/\(∀y∈b.toList.drop i2,Le O key x y)/\i2<b.size/\ib+1<=i2) (λo i2 hI=>?rest2) (λhj=>?here2)
    case here2=>
     refine ite_ok (λh1=>ite_ok (λf4=>wpS_pure ⟨⟨s3.kind,s3.arr,s3.pend,s3.fail⟩,.inl ⟨_,_,_,_,_,_,_,rfl,fin_b M3 sa sb f4⟩⟩) (λf4=>hj _ _ ⟨M3,k2',?_,Nat.le_add_right _ _⟩)) (λh1=>?_)
     .have:=ne_of_beq f4;have h1:ib4=ib+1+k':=rfl;show ib+1+k'<b.size;omega
     .obtain rfl:k'=0:=by omega
      rw[ext_zero,Array.append_empty] at M3;exact hj _ _ ⟨M3,k2',lb1,Nat.le_refl _⟩
    clear hk' k1' k2' M3 M2;dsimp -zeta only [jp3];clear jp3 out4 ib4;obtain⟨MI2,kI2,lI2,leI2⟩:=hI;have M4:=MI2.push sa lx kI2;refine wpS_bind (elem_ok hx ?_)
    try dsimp -zeta only
    extract_lets out5 ia5
    refine ite_ok (λf5=>wpS_pure ⟨⟨s3.kind,s3.arr,s3.pend,s3.fail⟩,.inl ⟨_,_,_,_,_,_,_,rfl,fin_last M4 sa sb hl f5⟩⟩) (λf5=>?_);have f5':i'+1+1≠a.size:=ne_of_beq f5;have C5:Cu O key a b (o.push x) (i'+1) i2:=⟨M4,by omega,lI2⟩;exact ite_ok (λ_=>wpS_pure ⟨⟨s3.kind,s3.arr,s3.pend,s3.fail⟩,.inr ⟨_,_,_,_,_,_,rfl,C5,by omega⟩⟩) (λ_=>wpS_pure ⟨⟨s3.kind,s3.arr,s3.pend,s3.fail⟩,_,_,_,_,_,_,rfl,C5,by omega⟩)
end
def rv(O:KeyOrd):KeyOrd where
 α:=O.α
 blt:=λx y=>O.blt y x
 irrefl:=O.irrefl
 trans:=λa b c h1 h2=>O.trans c b a h2 h1
 negTrans:=λa b c h=>(O.negTrans c b a h).symm
 total:=λa b h1 h2=>O.total a b h2 h1
section
variable{O:KeyOrd}{key:Keyed->O.α}
abbrev Mh(O:KeyOrd)(key:Keyed->O.α)(a b out:Array Keyed)(na nb:Nat):Prop:=Mg (rv O) key a.toList.reverse b.toList.reverse out (a.size-na) (b.size-nb)
theorem srt_rev{l:List Keyed}(h:l.Pairwise (Le O key)):l.reverse.Pairwise (Le (rv O) key):=by
 rw[List.pairwise_reverse];exact h
theorem rev_drop(l:List Keyed){n:Nat}(h:n<=l.length):l.reverse.drop (l.length-n)=(l.take n).reverse:=by
 rw[List.drop_reverse]
 congr 2
 omega
variable{a b out:Array Keyed}{na nb:Nat}
theorem mem_rest{x:Keyed}(h:na<=a.size)(hx:x∈a.toList.reverse.drop (a.size-na)):x∈a.toList.take na:=by
 have:=rev_drop a.toList (n:=na) (by rw[Array.length_toList];exact h);rw[Array.length_toList] at this;rw[this] at hx;exact List.mem_reverse.mp hx
theorem Mh.push{x:Keyed}(M:Mh O key a b out na nb)(sa:a.toList.Pairwise (Le O key))(h0:0<na)(h1:na<=a.size)(h2:nb<=b.size)(hx:a.toList[na-1]?=some x)(h:∀y∈b.toList.take nb,Le O key y x):Mh O key a b (out.push x) (na-1) nb:=by
 have e:a.toList.reverse[a.size-na]?=some x:=by
  rw[List.getElem?_reverse (by rw[Array.length_toList];omega),Array.length_toList];rw[show a.size-1-(a.size-na)=na-1 by omega];exact hx
 have:=Mg.push M (srt_rev sa) e λy hy=>h y (mem_rest h2 hy);show Mg (rv O) key _ _ _ (a.size-(na-1)) _;rw[show a.size-(na-1)=a.size-na+1 by omega];exact this
theorem ext_mid(a:Array Keyed)(m n:Nat):(a.extract m n).toList=(a.toList.take n).drop m:=by
 rw[Array.toList_extract,List.extract_eq_take_drop,List.drop_take]
theorem Mh.app{m:Nat}(M:Mh O key a b out na nb)(sa:a.toList.Pairwise (Le O key))(hm:m<=na)(h1:na<=a.size)(h2:nb<=b.size)(h:∀x∈(a.toList.take na).drop m,∀y∈b.toList.take nb,Le O key y x):Mh O key a b (out++(a.extract m na).reverse) m nb:=by
 have e:(a.toList.reverse.drop (a.size-na)).take (na-m)=((a.toList.take na).drop m).reverse:=by
  have:=rev_drop a.toList (n:=na) (by rw[Array.length_toList];exact h1);rw[Array.length_toList] at this;rw[this,List.take_reverse]
  congr 2
  rw[List.length_take,Array.length_toList];omega
 have:=Mg.app (k:=na-m) (more:=(a.extract m na).reverse) M (srt_rev sa) (by rw[Array.toList_reverse,ext_mid,e]) (by rw[e];exact λx hx y hy=>h x (List.mem_reverse.mp hx) y (mem_rest h2 hy));show Mg (rv O) key _ _ _ (a.size-m) _;rw[show a.size-m=a.size-na+(na-m) by omega];exact this
theorem done_rv{al bl:List Keyed}{r x:Array Keyed}(D:Done (rv O) key al.reverse bl.reverse r)(e:x.toList=r.toList.reverse):Done O key al bl x:=by
 constructor
 .rw[e];exact(List.reverse_perm _).trans (D.1.trans ((List.reverse_perm al).append (List.reverse_perm bl)))
 .rw[e,List.pairwise_reverse];exact D.2
theorem Mh.finB(M:Mh O key a b out na nb)(sa:a.toList.Pairwise (Le O key))(sb:b.toList.Pairwise (Le O key))(h1:na<=a.size)(h2:nb<=b.size)(h:∀x∈a.toList.take na,∀y∈b.toList.take nb,Le O key y x) :
  Done O key a.toList b.toList (b.extract 0 nb++a.extract 0 na++out.reverse):=by
 have ra:=rev_drop a.toList (n:=na) (by rw[Array.length_toList];exact h1);have rb:=rev_drop b.toList (n:=nb) (by rw[Array.length_toList];exact h2);rw[Array.length_toList] at ra rb;refine done_rv (Mg.fin (xs:=(a.toList.take na).reverse.toArray) (ys:=(b.toList.take nb).reverse.toArray) M (srt_rev sa) (srt_rev sb) ra.symm rb.symm λx hx y hy=>h x (mem_rest h1 hx) y (mem_rest h2 hy)) ?_;simp only[Array.toList_append,Array.toList_reverse,ext_mid,List.drop_zero,List.reverse_append,List.reverse_reverse,List.append_assoc]
theorem Mh.swap(M:Mh O key a b out na nb):Mh O key b a out nb na:=Mg.swap M
theorem Mh.finA(M:Mh O key a b out na nb)(sa:a.toList.Pairwise (Le O key))(sb:b.toList.Pairwise (Le O key))(h1:na<=a.size)(h2:nb<=b.size)(h:(na==0)=true\/(nb==0)=true) :
  Done O key a.toList b.toList (a.extract 0 na++b.extract 0 nb++out.reverse):=by
 refine(M.swap.finB sb sa h2 h1 λy hy x hx=>?_).swap;exfalso;rcases h with h|h
 .rw[beq_iff_eq.mp h] at hx;simp at hx
 .rw[beq_iff_eq.mp h] at hy;simp at hy
end
section
variable{prog:Program}{w:World}{A:Around}{E:Value->Shared->Prop}{s:Shared}{κ:SortKind}{O:KeyOrd}{key:Keyed->O.α}{Good:Keyed->Prop}
theorem gal_r{a:Array Keyed}{b n hint:Nat}{y:Keyed}{Q:Option Nat->SortSt->Prop}{st:SortSt}(L:LtOk prog w A E s κ O key Good)(gy:Good y)(ga:∀i,i<n->∃x,a[b+i]?=some x/\Good x)
  (sa:∀i j x z,i<=j->j<n->a[b+i]?=some x->a[b+j]?=some z->Le O key x z) (hi:hint<n) (hst:kindOf st=κ)
  (h:∀r,r<=n->(∀i x,i<r->a[b+i]?=some x->Le O key x y)->(∀i x,r<=i->i<n->a[b+i]?=some x->O.blt (key y) (key x)=true)->Q (some r) st):wpS (model prog w) A E s (gallop' false y a b n hint) Q st:=by
 have key':∀i,i<n->∃x,a[b+i]?=some x/\Good x/\bnd O key false y x=(match a[b+i]? with|some x=>!(O.blt (key y) (key x))|none=>false):=λi hi=>by
  obtain⟨x,h1,h2⟩:=ga i hi;refine⟨x,h1,h2,?_⟩;rw[h1];rfl
 refine gallop_ok (bb:=λi=>match a[b+i]? with|some x=>!(O.blt (key y) (key x))|none=>false) L gy key' (λi j hij hj hb=>?_) hi hst λr r1 r2 r3=>h r r1 (λi x hi ei=>?_) (λi x hi hn ei=>?_)
 .obtain ⟨x,h1,_⟩:=ga i (by omega);obtain⟨z,h3,_⟩:=ga j hj;simp only[h1,h3] at hb ⊢;have lz:Le O key z y:=by
   have:O.blt (key y) (key z)=false:=by simpa using hb
   exact this
  have:Le O key x y:=(sa i j x z hij hj h1 h3).trans lz;have:O.blt (key y) (key x)=false:=this;rw[this];rfl
 .have:=r2 i hi;simp only[ei] at this;have:O.blt (key y) (key x)=false:=by simpa using this
  exact this
 .have:=r3 i hi hn;simp only[ei] at this;simpa using this
theorem gal_l{a:Array Keyed}{b n hint:Nat}{y:Keyed}{Q:Option Nat->SortSt->Prop}{st:SortSt}(L:LtOk prog w A E s κ O key Good)(gy:Good y)(ga:∀i,i<n->∃x,a[b+i]?=some x/\Good x)
  (sa:∀i j x z,i<=j->j<n->a[b+i]?=some x->a[b+j]?=some z->Le O key x z) (hi:hint<n) (hst:kindOf st=κ)
  (h:∀r,r<=n->(∀i x,i<r->a[b+i]?=some x->O.blt (key x) (key y)=true)->(∀i x,r<=i->i<n->a[b+i]?=some x->Le O key y x)->Q (some r) st):wpS (model prog w) A E s (gallop' true y a b n hint) Q st:=by
 have key':∀i,i<n->∃x,a[b+i]?=some x/\Good x/\bnd O key true y x=(match a[b+i]? with|some x=>O.blt (key x) (key y)|none=>false):=λi hi=>by
  obtain⟨x,h1,h2⟩:=ga i hi;refine⟨x,h1,h2,?_⟩;rw[h1];rfl
 refine gallop_ok (bb:=λi=>match a[b+i]? with|some x=>O.blt (key x) (key y)|none=>false) L gy key' (λi j hij hj hb=>?_) hi hst λr r1 r2 r3=>h r r1 (λi x hi ei=>?_) (λi x hi hn ei=>?_)
 .obtain⟨x,h1,_⟩:=ga i (by omega);obtain⟨z,h3,_⟩:=ga j hj;simp only[h1,h3] at hb ⊢;exact KeyOrd.klt_of_kle_of_klt (sa i j x z hij hj h1 h3) hb
 .have:=r2 i hi;simp only[ei] at this;exact this
 .have:=r3 i hi hn;simp only[ei] at this;exact this
structure Ch(O:KeyOrd)(key:Keyed->O.α)(a b out:Array Keyed)(na nb:Nat):Prop where
 mg:Mh O key a b out na nb
 a0:0<na
 a1:na<=a.size
 b0:1<nb
 b1:nb<=b.size
theorem mid_at{l:List Keyed}{m n:Nat}{x:Keyed}(h:x∈(l.take n).drop m):∃j,m<=j/\j<n/\l[j]?=some x:=by
 obtain⟨j,hj,ej⟩:=drop_at h;have hl:=(List.getElem?_eq_some_iff.mp ej).1;rw[List.length_take] at hl;rw[List.getElem?_take] at ej;rw[if_pos (by omega)] at ej;exact⟨j,hj,by omega,ej⟩
theorem tk_at{l:List Keyed}{n:Nat}{x:Keyed}(h:x∈l.take n):∃j,j<n/\l[j]?=some x:=by
 obtain⟨j,_,h2,h3⟩:=mid_at (m:=0) (l:=l) (n:=n) (x:=x) (by rw[List.drop_zero];exact h);exact⟨j,h2,h3⟩
theorem join3{α:Type}{jp:PUnit->Nat->Array Keyed->StateT SortSt Sem α}{m:StateT SortSt Sem α}{Q:α->SortSt->Prop}{st:SortSt}(I:Nat->Array Keyed->Prop)(hj:∀n o,I n o->wpS (model prog w) A E s (jp () n o) Q st)(h:(∀n o,I n o->wpS (model prog w) A E s (jp () n o) Q st)->wpS (model prog w) A E s m Q st):wpS (model prog w) A E s m Q st:=h hj
theorem mergeHi_ok{a b:Array Keyed}{st:SortSt}{Q:Array Keyed->SortSt->Prop}(L:LtOk prog w A E s κ O key Good)(ga:∀x∈a.toList,Good x)(gb:∀x∈b.toList,Good x)(sa:a.toList.Pairwise (Le O key))(sb:b.toList.Pairwise (Le O key))
  (na:0<a.size) (nb:0<b.size) (hf:∀x,a.toList[0]?=some x->∀y,b.toList[0]?=some y->Le O key y x) (hl:∀y∈b.toList,∀x,a.toList[a.size-1]?=some x->Le O key y x) (hst:kindOf st=κ)
  (h:∀r st',Fi O key a b r->Sm κ st st'->Q r st'):wpS (model prog w) A E s (mergeHi' a b) Q st:=by
 have at_a:∀i,i<a.size->∃x,a[i]?=some x/\a.toList[i]?=some x/\Good x:=λi hi=>by
  obtain⟨x,h1,h2⟩:=arr_at hi;exact⟨x,h1,h2,ga x (List.mem_of_getElem? h2)⟩
 have at_b:∀i,i<b.size->∃x,b[i]?=some x/\b.toList[i]?=some x/\Good x:=λi hi=>by
  obtain⟨x,h1,h2⟩:=arr_at hi;exact⟨x,h1,h2,gb x (List.mem_of_getElem? h2)⟩
 have sg:∀{c:Array Keyed},c.toList.Pairwise (Le O key)->∀n,n<=c.size->∀i j x z,i<=j->j<n->c[0+i]?=some x->c[0+j]?=some z->Le O key x z:=λ{c} sc n hn i j x z hij hj hx hz=>by
  rw[Nat.zero_add] at hx hz;exact le_at sc (by simpa using hx) (by simpa using hz) hij
 have low:∀{n m},m=1->∀x∈a.toList.take n,∀y∈b.toList.take m,Le O key y x:=λ{n m} hm x hx y hy=>by
  obtain⟨i,_,ei⟩:=tk_at hx;obtain⟨j,hj,ej⟩:=tk_at hy;obtain rfl:j=0:=by omega
  obtain⟨x0,_,lx0,_⟩:=at_a 0 na;exact(hf x0 lx0 y ej).trans (le_at sa lx0 ei (Nat.zero_le _))
 unfold mergeHi';refine wpS_bind (wpS_lift (wpAny_rule ⟨rfl,?_⟩))
 try dsimp -zeta only
 obtain⟨x0,hx0,lx0,_⟩:=at_a (a.size-1) (by omega);have s0:Sm κ st st:=⟨hst,rfl,rfl,rfl⟩;have M0:Mh O key a b #[x0] (a.size-1) b.size:=by
  have:Mh O key a b #[] a.size b.size:=by
   show Mg (rv O) key _ _ #[] (a.size-a.size) (b.size-b.size);rw[Nat.sub_self,Nat.sub_self];exact⟨by simp,by simp,λx hx=>(by simp at hx),λx hx=>(by simp at hx)⟩
  have:=Mh.push this sa na (Nat.le_refl _) (Nat.le_refl _) lx0 λy hy=>hl y (List.mem_of_mem_take hy) x0 lx0;simpa using this
 refine wpS_bind (elem_ok hx0 ?_);refine ite_ok (λe1=>wpS_pure (h _ _ (M0.finA sa sb (by omega) (Nat.le_refl _) (.inl e1)) s0)) (λe1=>ite_ok (λe2=>wpS_pure (h _ _ (M0.finB sa sb (by omega) (Nat.le_refl _) (low (beq_iff_eq.mp e2))) s0)) (λe2=>?_));have e1':=ne_of_beq e1;have e2':=ne_of_beq e2;refine wpS_bind (wpS_get ?_);refine bindFor
  (I:=λi c st'=>Sm κ st st'/\∃na nb out g,c=(none,na,nb,out,g)/\Ch O key a b out na nb/\i+1+na+nb<=a.size+b.size)
  (Q:=λc st'=>Sm κ st st'/\∃r na nb out g,c=(some r,na,nb,out,g)/\Fi O key a b r) ?step ?fin ⟨s0,_,_,_,_,rfl,⟨M0,by omega,by omega,by omega,by omega⟩,by omega⟩ ?post
 case post=>
  intro c st' hh;refine go λ_ bk0=>?_;obtain⟨s1,r,na,nb,out,g,rfl,F⟩:=hh;refine bk0 ?_;exact wpS_pure (h r st' F s1)
 case fin=>
  intro c st' hh;refine go λ_ bk0=>?_;obtain⟨s1,na,nb,out,g,rfl,C,hz⟩:=hh;refine bk0 ?_;exfalso;have:=C.a0;omega
 case step=>
  intro i c st' _ _ hh;refine go λ_ bk0=>?_;obtain⟨s1,na,nb,out,g,rfl,C,hz⟩:=hh;refine bk0 ?_
  try dsimp -zeta only
  refine bindFor
   (I:=λ_ c st'=>Sm κ st st'/\∃na nb out ac bc,c=(none,na,nb,out,ac,bc)/\Ch O key a b out na nb/\i+1+na+nb<=a.size+b.size)
   (Q:=λc st'=>Sm κ st st'/\((∃r na nb out ac bc,c=(some r,na,nb,out,ac,bc)/\Fi O key a b r)\/∃na nb out ac bc,c=(none,na,nb,out,ac,bc)/\Ch O key a b out na nb/\i+1+na+nb<=a.size+b.size)) ?step1 ?fin1 ⟨s1,_,_,_,_,_,rfl,C,hz⟩ ?post1
  case fin1=>exact λc st' h=>⟨h.1,.inr h.2⟩
  case step1=>
   intro j c st2 _ _ hh;refine go λ_ bk0=>?_;obtain⟨s2,na,nb,out,ac,bc,rfl,C,hz⟩:=hh;refine bk0 ?_
   try dsimp -zeta only
   obtain⟨M,a0,a1,b0,b1⟩:=C;obtain⟨y,hy,ly,gy⟩:=at_b (nb-1) (by omega);obtain⟨x,hx,lx,gx⟩:=at_a (na-1) (by omega);refine wpS_bind (elem_ok hy (wpS_bind (elem_ok hx (wpS_bind (L y x gy gx _ _ s2.kind ?_)))));cases q:O.blt (key y) (key x) with
   | true=>
    try dsimp -zeta only
    refine iteT rfl ?_;refine wpS_bind (elem_ok hx ?_);have M1:=M.push sa a0 a1 b1 lx λz hz=>by
     obtain⟨j,hj,ej⟩:=tk_at hz;exact(le_at sb ej ly (by omega)).trans (le_of_lt q)
    refine ite_ok (λf1=>wpS_pure ⟨s2,.inl ⟨_,_,_,_,_,_,rfl,M1.finA sa sb (by omega) b1 (.inl f1)⟩⟩) (λf1=>?_);have f1':=ne_of_beq f1;refine ite_ok (λ_=>wpS_pure ⟨s2,.inr ⟨_,_,_,_,_,rfl,⟨M1,by omega,by omega,b0,b1⟩,by omega⟩⟩) (λ_=>wpS_pure ⟨s2,_,_,_,_,_,rfl,⟨M1,by omega,by omega,b0,b1⟩,by omega⟩)
   | false=>
    try dsimp -zeta only
    refine iteF Bool.false_ne_true ?_;refine wpS_bind (elem_ok hy ?_);have M1:=(Mh.push M.swap sb (by omega) b1 a1 ly λz hz=>by
     obtain⟨j,hj,ej⟩:=tk_at hz;exact(le_at sa ej lx (by omega)).trans (le_of_nlt q)).swap
    refine ite_ok (λf1=>wpS_pure ⟨s2,.inl ⟨_,_,_,_,_,_,rfl,M1.finB sa sb a1 (by omega) (low (beq_iff_eq.mp f1))⟩⟩) (λf1=>?_);have f1':=ne_of_beq f1;refine ite_ok (λ_=>wpS_pure ⟨s2,.inr ⟨_,_,_,_,_,rfl,⟨M1,a0,a1,by omega,by omega⟩,by omega⟩⟩) (λ_=>wpS_pure ⟨s2,_,_,_,_,_,rfl,⟨M1,a0,a1,by omega,by omega⟩,by omega⟩)
  case post1=>
   intro c st2 hh;refine go λ_ bk0=>?_;obtain⟨s2,⟨r,na,nb,out,ac,bc,rfl,F⟩|⟨na,nb,out,ac,bc,rfl,C,hz⟩⟩:=hh
   all_goals refine bk0 ?_
   .exact wpS_pure ⟨s2,r,_,_,_,_,rfl,F⟩
   try dsimp -zeta only
   refine wpS_bind (wpS_lift (wpAny_rule ⟨rfl,?_⟩));refine bindFor
    (I:=λj c st'=>Sm κ st st'/\∃na nb out g ac bc,c=(none,na,nb,out,g,ac,bc)/\Ch O key a b out na nb/\i+1+j+na+nb<=a.size+b.size)
    (Q:=λc st'=>Sm κ st st'/\((∃r na nb out g ac bc,c=(some r,na,nb,out,g,ac,bc)/\Fi O key a b r)\/∃na nb out g ac bc,c=(none,na,nb,out,g,ac,bc)/\Ch O key a b out na nb/\i+2+na+nb<=a.size+b.size)) ?step2 ?fin2 ⟨s2,_,_,_,_,_,_,rfl,C,hz⟩ ?post2
   case fin2=>
    intro c st' hh;refine go λ_ bk0=>?_;obtain⟨s3,na,nb,out,g,ac,bc,rfl,C,hz⟩:=hh;refine bk0 ?_;exact⟨s3,.inr ⟨_,_,_,_,_,_,rfl,C,by omega⟩⟩
   case post2=>
    intro c st3 hh;refine go λ_ bk0=>?_;obtain⟨s3,⟨r,na,nb,out,g,ac,bc,rfl,F⟩|⟨na,nb,out,g,ac,bc,rfl,C,hz⟩⟩:=hh
    all_goals refine bk0 ?_
    .exact wpS_pure ⟨s3,r,_,_,_,_,rfl,F⟩
    .dsimp only;refine wpS_bind (wpS_modify ?_);exact wpS_pure ⟨⟨s3.kind,s3.arr,s3.pend,s3.fail⟩,_,_,_,_,rfl,C,by omega⟩
   case step2=>
    intro j c st3 _ _ hh;refine go λ_ bk0=>?_;obtain⟨s3,na,nb,out,g,ac,bc,rfl,C,hz⟩:=hh;refine bk0 ?_;obtain⟨M,a0,a1,b0,b1⟩:=C;obtain⟨y,hy,ly,gy⟩:=at_b (nb-1) (by omega)
    try dsimp -zeta only
    extract_lets u0 u1 u2 u3 u4 u5 u6 u7 u8 u9 u10 v1 jp v2
    refine ite_two (m:=jp ()) (λmg=>?_);dsimp -zeta only [jp];clear jp v2;refine wpS_bind (wpS_modify ?_);refine wpS_bind (elem_ok hy ?_);refine wpS_bind (gal_r L gy (λi hi=>by obtain⟨x,h1,_,h2⟩:=at_a (0+i) (by have:i<na:=hi;omega);exact⟨x,h1,h2⟩) (sg sa na a1) (show na-1<na from by omega) s3.kind λm hm k1 k2=>?_)
    try dsimp -zeta only
    have hm:m<=na:=hm
    extract_lets kk ac2 jp2 out2 na2
    have up:∀x∈(a.toList.take na).drop m,Le O key y x:=λx hx=>by
     obtain⟨j,h1,h2,h3⟩:=mid_at hx;exact le_of_lt (k2 j x h1 h2 (by rw[Nat.zero_add];simpa using h3))
    have dn:∀x∈a.toList.take m,Le O key x y:=λx hx=>by
     obtain⟨j,h1,h2⟩:=tk_at hx;exact k1 j x h1 (by rw[Nat.zero_add];simpa using h2)
    have M1:=M.app sa hm a1 b1 λx hx z hz=>by
     obtain⟨j,h1,h2⟩:=tk_at hz;exact(le_at sb h2 ly (by omega)).trans (up x hx)
    have ekk:kk=na-m:=rfl;refine join3 (jp:=jp2) (λn o=>Mh O key a b o n nb/\(∀x∈a.toList.take n,Le O key x y)/\0<n/\n<=na) (λn o hI=>?rest) (λhj=>?here)
    case here=>
     refine ite_ok (λhk0=>ite_ok (λf1=>wpS_pure ⟨⟨s3.kind,s3.arr,s3.pend,s3.fail⟩,.inl ⟨_,_,_,_,_,_,_,rfl,M1.finA sa sb (by omega) b1 (.inl f1)⟩⟩) (λf1=>hj _ _ ⟨M1,dn,?_,hm⟩)) (λhk0=>?_)
     .have:=ne_of_beq f1;have e2:na2=m:=rfl;show 0<m;omega
     .obtain rfl:m=na:=by omega
      have ez:a.extract m m=#[]:=by
       apply Array.ext';rw[ext_mid,List.drop_of_length_le (by rw[List.length_take];omega)]
      rw[ez,Array.reverse_empty,Array.append_empty] at M1;exact hj _ _ ⟨M1,dn,a0,Nat.le_refl _⟩
    clear hm k1 k2 M1 up dn ekk;dsimp -zeta only [jp2];clear jp2 out2 na2;obtain⟨MI,kI,lI,leI⟩:=hI;have M2:=(Mh.push MI.swap sb (by omega) b1 (by omega) ly kI).swap
    try dsimp -zeta only
    refine wpS_bind (elem_ok hy ?_)
    try dsimp -zeta only
    extract_lets out3
    have ev:v1=nb-1:=rfl;refine ite_ok (λf3=>wpS_pure ⟨⟨s3.kind,s3.arr,s3.pend,s3.fail⟩,.inl ⟨_,_,_,_,_,_,_,rfl,M2.finB sa sb (by omega) (by omega) (low (beq_iff_eq.mp f3))⟩⟩) (λf3=>?_);have f3':nb-1≠1:=ne_of_beq f3;obtain⟨x,hx,lx,gx⟩:=at_a (n-1) (by omega);refine wpS_bind (elem_ok hx ?_);refine wpS_bind (gal_l L gx (λi hi=>by obtain⟨x,h1,_,h2⟩:=at_b (0+i) (by have:i<nb-1:=hi;omega);exact⟨x,h1,h2⟩) (sg sb (nb-1) (by omega)) (show nb-1-1<nb-1 from by omega) s3.kind λm' hm' k1' k2'=>?_)
    try dsimp -zeta only
    have hm':m'<=nb-1:=hm'
    extract_lets kk bc3 jp3 out4 nb4
    have ekk:kk=nb-1-m':=rfl;have up':∀z∈(b.toList.take (nb-1)).drop m',Le O key x z:=λz hz=>by
     obtain⟨j,h1,h2,h3⟩:=mid_at hz;exact k2' j z h1 h2 (by rw[Nat.zero_add];simpa using h3)
    have dn':∀z∈b.toList.take m',Le O key z x:=λz hz=>by
     obtain⟨j,h1,h2⟩:=tk_at hz;exact le_of_lt (k1' j z h1 (by rw[Nat.zero_add];simpa using h2))
    have M3:=(Mh.app M2.swap sb hm' (by omega) (by omega) λz hz u hu=>by
     obtain⟨j,h1,h2⟩:=tk_at hu;exact(le_at sa h2 lx (by omega)).trans (up' z hz)).swap
    refine join3 (jp:=jp3) (λn2 o=>Mh O key a b o n n2/\(∀z∈b.toList.take n2,Le O key z x)/\1<n2/\n2<=nb-1) (λn2 o hI=>?rest2) (λhj=>?here2)
    case here2=>
     refine ite_ok (λh1=>ite_ok (λf4=>wpS_pure ⟨⟨s3.kind,s3.arr,s3.pend,s3.fail⟩,.inl ⟨_,_,_,_,_,_,_,rfl,M3.finB sa sb (by omega) (by omega) (low (beq_iff_eq.mp f4))⟩⟩) (λf4=>ite_ok (λf6=>wpS_pure ⟨⟨s3.kind,s3.arr,s3.pend,s3.fail⟩,.inl ⟨_,_,_,_,_,_,_,rfl,M3.finA sa sb (by omega) (by omega) (.inr f6)⟩⟩) (λf6=>hj _ _ ⟨M3,dn',?_,hm'⟩))) (λh1=>?_)
     .have:=ne_of_beq f4;have:=ne_of_beq f6;have e2:nb4=m':=rfl;show 1<m';omega
     .obtain rfl:m'=nb-1:=by omega
      have ez':b.extract (nb-1) (nb-1)=#[]:=by
       apply Array.ext';rw[ext_mid,List.drop_of_length_le (by rw[List.length_take];omega)]
      rw[ez',Array.reverse_empty,Array.append_empty] at M3;exact hj _ _ ⟨M3,dn',by omega,Nat.le_refl _⟩
    clear hm' k1' k2' M3 M2 up' dn' ekk;dsimp -zeta only [jp3];clear jp3 out4 nb4;obtain⟨MI2,kI2,lI2,leI2⟩:=hI;have M4:=MI2.push sa lI (by omega) (by omega) lx kI2
    try dsimp -zeta only
    try extract_lets na5
    refine wpS_bind (elem_ok hx ?_)
    try dsimp -zeta only
    extract_lets out5
    refine ite_ok (λf5=>wpS_pure ⟨⟨s3.kind,s3.arr,s3.pend,s3.fail⟩,.inl ⟨_,_,_,_,_,_,_,rfl,M4.finA sa sb (by omega) (by omega) (.inl f5)⟩⟩) (λf5=>?_);have f5':n-1≠0:=ne_of_beq f5;have C5:Ch O key a b (o.push x) (n-1) n2:=⟨M4,by omega,by omega,lI2,by omega⟩;exact ite_ok (λ_=>wpS_pure ⟨⟨s3.kind,s3.arr,s3.pend,s3.fail⟩,.inr ⟨_,_,_,_,_,_,rfl,C5,by omega⟩⟩) (λ_=>wpS_pure ⟨⟨s3.kind,s3.arr,s3.pend,s3.fail⟩,_,_,_,_,_,_,rfl,C5,by omega⟩)
end
def sg(a:Array Keyed)(lo n:Nat):List Keyed:=(a.toList.drop lo).take n
theorem sg_add(a:Array Keyed)(lo m n:Nat):sg a lo (m+n)=sg a lo m++sg a (lo+m) n:=by
 unfold sg;rw[take_add,drop_add']
theorem sg_all(a:Array Keyed)(lo n:Nat):a.toList=a.toList.take lo++sg a lo n++a.toList.drop (lo+n):=by
 unfold sg;rw[drop_add',List.append_assoc,List.take_append_drop,List.take_append_drop]
theorem sg_len{a:Array Keyed}{lo n:Nat}(h:lo+n<=a.size):(sg a lo n).length=n:=by
 unfold sg;rw[List.length_take,List.length_drop,Array.length_toList];omega
theorem sg_at{a:Array Keyed}{lo n:Nat}{x:Keyed}(h:x∈sg a lo n):∃j,j<n/\a[lo+j]?=some x:=by
 obtain⟨j,hj,ej⟩:=take_at h;exact⟨j,hj,by simpa using ej⟩
theorem sg_get{a:Array Keyed}{lo n i:Nat}(h:i<n):(sg a lo n)[i]?=a[lo+i]?:=by
 unfold sg;rw[List.getElem?_take,if_pos h,List.getElem?_drop];simp
theorem sg_congr{a b:Array Keyed}{lo n:Nat}(h:∀i,i<n->a[lo+i]?=b[lo+i]?):sg a lo n=sg b lo n:=by
 apply List.ext_getElem?;intro i;by_cases hi:i<n
 .rw[sg_get hi,sg_get hi,h i hi]
 .unfold sg;rw[List.getElem?_take,List.getElem?_take,if_neg hi,if_neg hi]
theorem ext_sg(a:Array Keyed)(lo n:Nat):(a.extract lo (lo+n)).toList=sg a lo n:=ext_take a lo n
theorem wr_at:∀(l:List Keyed)(m b:Nat)(a:Array Keyed)(i:Nat),b+m+l.length<=a.size →
  ((l.zipIdx m).foldl (λa (x:Keyed×Nat)=>a.setIfInBounds (b+x.2) x.1) a)[i]?=if b+m<=i/\i<b+m+l.length then l[i-(b+m)]? else a[i]?
 | [],m,b,a,i,h=>by
  rw[if_neg (by simp)];rfl
 | x::l,m,b,a,i,h=>by
  rw[List.length_cons] at h;rw[List.zipIdx_cons,List.foldl_cons,wr_at l (m+1) b _ i (by rw[Array.size_setIfInBounds];omega)];by_cases c:b+(m+1)<=i/\i<b+(m+1)+l.length
  .rw[if_pos c,if_pos (by rw[List.length_cons];omega),show i-(b+m)=(i-(b+(m+1)))+1 by omega,List.getElem?_cons_succ]
  .rw [if_neg c,Array.getElem?_setIfInBounds];by_cases e:b+m=i
   .rw[if_pos e,if_pos (by omega),if_pos (by rw[List.length_cons];omega),<-e,Nat.sub_self];rfl
   .rw[if_neg e,if_neg (by rw[List.length_cons];omega)]
def Frm(a a':Array Keyed)(lo n:Nat):Prop:=∀i,¬(lo<=i/\i<lo+n)->a'[i]?=a[i]?
theorem Frm.refl(a:Array Keyed)(lo n:Nat):Frm a a lo n:=λ_ _=>rfl
theorem Frm.trans{a b c:Array Keyed}{lo n:Nat}(h:Frm a b lo n)(k:Frm b c lo n):Frm a c lo n:=λi hi=>(k i hi).trans (h i hi)
theorem perm_of_frm{a a':Array Keyed}{lo n:Nat}(hs:a'.size=a.size)(h:Frm a a' lo n)(hp:(sg a' lo n).Perm (sg a lo n)):a'.toList.Perm a.toList:=by
 have e1:a'.toList.take lo=a.toList.take lo:=by
  apply List.ext_getElem?;intro i;rw[List.getElem?_take,List.getElem?_take];by_cases hi:i<lo
  .rw[if_pos hi,if_pos hi];have:=h i (by omega);simpa using this
  .rw[if_neg hi,if_neg hi]
 have e2:a'.toList.drop (lo+n)=a.toList.drop (lo+n):=by
  apply List.ext_getElem?;intro i;rw[List.getElem?_drop,List.getElem?_drop];have:=h (lo+n+i) (by omega);simpa using this
 rw[sg_all a' lo n,sg_all a lo n,e1,e2];exact(hp.append_left _).append_right _
section
variable{O:KeyOrd}{key:Keyed->O.α}
theorem pw_app{l m:List Keyed}(hl:l.Pairwise (Le O key))(hm:m.Pairwise (Le O key))(h:∀x∈l,∀y∈m,Le O key x y):(l++m).Pairwise (Le O key):=List.pairwise_append.mpr ⟨hl,hm,h⟩
theorem seg_at{a:Array Keyed}{lo n i j:Nat}{x y:Keyed}(h:(sg a lo n).Pairwise (Le O key))(hij:i<=j)(hj:j<n)(ex:a[lo+i]?=some x)(ey:a[lo+j]?=some y):Le O key x y:=
 le_at h ((sg_get (by omega)).trans ex) ((sg_get hj).trans ey) hij
end
section
variable{prog:Program}{w:World}{A:Around}{E:Value->Shared->Prop}{s:Shared}{κ:SortKind}{O:KeyOrd}{key:Keyed->O.α}{Good:Keyed->Prop}
structure Kp(κ:SortKind)(a₀:Array Keyed)(st:SortSt):Prop where
 kind:kindOf st=κ
 perm:(arrOf st).toList.Perm a₀.toList
 fail:failedOf st=none
theorem Kp.size{a₀:Array Keyed}{st:SortSt}(K:Kp κ a₀ st):(arrOf st).size=a₀.size:=by
 have:=K.perm.length_eq;simpa using this
theorem Kp.good{a₀:Array Keyed}{st:SortSt}(K:Kp κ a₀ st)(g:∀x∈a₀.toList,Good x){i:Nat}(h:i<a₀.size):∃x,(arrOf st)[i]?=some x/\Good x:=by
 obtain⟨x,h1,h2⟩:=arr_at (a:=arrOf st) (i:=i) (by rw[K.size];exact h);exact⟨x,h1,g x (K.perm.mem_iff.mp (List.mem_of_getElem? h2))⟩
theorem set_ok{x:SortSt}{Q:PUnit->SortSt->Prop}{st:SortSt}(h:Q ⟨⟩ x):wpS (model prog w) A E s (set x:StateT SortSt Sem PUnit) Q st:=by
 have:wpS (model prog w) A E s (modify (λ_=>x):StateT SortSt Sem PUnit) Q st:=wpS_modify h;exact this
theorem mergeAt_ok{a₀:Array Keyed}{st:SortSt}{i sa na nb p q:Nat}{Q:Bool->SortSt->Prop}(L:LtOk prog w A E s κ O key Good)(g:∀x∈a₀.toList,Good x)(K:Kp κ a₀ st)
  (h1:(pendingOf st)[i]?=some (sa,na,p)) (h2:(pendingOf st)[i+1]?=some (sa+na,nb,q)) (pa:0<na) (pb:0<nb) (hs:sa+na+nb<=a₀.size)
  (sA:(sg (arrOf st) sa na).Pairwise (Le O key)) (sB:(sg (arrOf st) (sa+na) nb).Pairwise (Le O key))
  (h:∀st',Kp κ a₀ st'->pendingOf st'=((pendingOf st).setIfInBounds i (sa,na+nb,p)).eraseIdxIfInBounds (i+1)->(sg (arrOf st') sa (na+nb)).Pairwise (Le O key)->Frm (arrOf st) (arrOf st') sa (na+nb)->Q true st') :
  wpS (model prog w) A E s (mergeAt' i) Q st:=by
 have gd:∀i,i<a₀.size->∃x,(arrOf st)[i]?=some x/\Good x:=λi hi=>K.good g hi;have sz:=K.size;unfold mergeAt';refine wpS_bind (wpS_get ?_);dsimp only;rw[h1,h2];dsimp only;refine wpS_bind (set_ok ?_);obtain⟨y0,ey0,gy0⟩:=gd (sa+na) (by omega);refine wpS_bind (elem_ok ey0 ?_);refine wpS_bind (gal_r (key:=key) L gy0 (λi hi=>gd _ (by omega)) (λi j x z hij hj ex ez=>seg_at sA hij hj ex ez) pa K.kind λk hk rA rB=>?_);dsimp only;have eA:sg (arrOf st) sa na=sg (arrOf st) sa k++sg (arrOf st) (sa+k) (na-k):=by rw[<-sg_add];congr 1;omega
 have leY:∀y∈sg (arrOf st) (sa+na) nb,Le O key y0 y:=λy hy=>by
  obtain⟨j,hj,ej⟩:=sg_at hy;exact seg_at sB (Nat.zero_le j) hj ey0 ej
 have leA1:∀x∈sg (arrOf st) sa k,Le O key x y0:=λx hx=>by
  obtain⟨j,hj,ej⟩:=sg_at hx;exact rA j x hj ej
 have ltA2:∀x∈sg (arrOf st) (sa+k) (na-k),O.blt (key y0) (key x)=true:=λx hx=>by
  obtain⟨j,hj,ej⟩:=sg_at hx;exact rB (k+j) x (by omega) (by omega) (by rw[<-Nat.add_assoc];exact ej)
 refine ite_ok (λe=>wpS_pure (h _ ⟨K.kind,K.perm,K.fail⟩ rfl ?_ (Frm.refl _ _ _))) (λe=>?_)
 .show(sg (arrOf st) sa (na+nb)).Pairwise (Le O key);have ek:k=na:=by have:=beq_iff_eq.mp e;omega
  subst ek;rw[sg_add];exact pw_app sA sB λx hx y hy=>(leA1 x hx).trans (leY y hy)
 have hk':k<na:=by have:=ne_of_beq e;omega
 obtain⟨x0,ex0,gx0⟩:=gd (sa+k+(na-k)-1) (by omega);refine wpS_bind (elem_ok ex0 ?_);refine wpS_bind (gal_l (key:=key) L gx0 (λi hi=>gd _ (by omega)) (λi j x z hij hj ex ez=>seg_at sB hij hj ex ez) (by omega) K.kind λr hr qA qB=>?_);dsimp only;have eB:sg (arrOf st) (sa+na) nb=sg (arrOf st) (sa+na) r++sg (arrOf st) (sa+na+r) (nb-r):=by rw[<-sg_add];congr 1;omega
 have eX:sa+k+(na-k)-1=sa+(na-1):=by omega
 have leX:∀x∈sg (arrOf st) sa na,Le O key x x0:=λx hx=>by
  obtain⟨j,hj,ej⟩:=sg_at hx;exact seg_at sA (i:=j) (j:=na-1) (by omega) (by omega) ej (eX ▸ ex0)
 have ltB1:∀y∈sg (arrOf st) (sa+na) r,O.blt (key y) (key x0)=true:=λx hx=>by
  obtain⟨j,hj,ej⟩:=sg_at hx;exact qA j x hj ej
 have leB2:∀y∈sg (arrOf st) (sa+na+r) (nb-r),Le O key x0 y:=λx hx=>by
  obtain⟨j,hj,ej⟩:=sg_at hx;exact qB (r+j) x (by omega) (by omega) (by rw[<-Nat.add_assoc];exact ej)
 refine ite_ok (λe=>wpS_pure (h _ ⟨K.kind,K.perm,K.fail⟩ rfl ?_ (Frm.refl _ _ _))) (λe=>?_)
 .show(sg (arrOf st) sa (na+nb)).Pairwise (Le O key);have er:r=0:=beq_iff_eq.mp e;subst er;rw[sg_add];exact pw_app sA sB λx hx y hy=>(leX x hx).trans (leB2 y hy)
 have hr0:0<r:=by have:=ne_of_beq e;omega
 have eXs:((arrOf st).extract (sa+k) (sa+na)).toList=sg (arrOf st) (sa+k) (na-k):=by rw[<-ext_sg];congr 2;omega
 have eYs:((arrOf st).extract (sa+na) (sa+na+r)).toList=sg (arrOf st) (sa+na) r:=ext_sg _ _ _;have lX:(sg (arrOf st) (sa+k) (na-k)).length=na-k:=sg_len (by omega);have lY:(sg (arrOf st) (sa+na) r).length=r:=sg_len (by omega);have pA2:(sg (arrOf st) (sa+k) (na-k)).Pairwise (Le O key):=by rw[eA] at sA;exact(List.pairwise_append.mp sA).2.1
 have pB1:(sg (arrOf st) (sa+na) r).Pairwise (Le O key):=by rw[eB] at sB;exact(List.pairwise_append.mp sB).1
 have szX:((arrOf st).extract (sa+k) (sa+na)).size=na-k:=by rw[<-Array.length_toList,eXs,lX]
 have szY:((arrOf st).extract (sa+na) (sa+na+r)).size=r:=by rw[<-Array.length_toList,eYs,lY]
 have gX:∀x∈((arrOf st).extract (sa+k) (sa+na)).toList,Good x:=λx hx=>by
  rw[eXs] at hx;obtain⟨j,hj,ej⟩:=sg_at hx;obtain⟨z,e1,e2⟩:=gd (sa+k+j) (by omega);rw[e1] at ej;cases ej;exact e2
 have gY:∀x∈((arrOf st).extract (sa+na) (sa+na+r)).toList,Good x:=λx hx=>by
  rw[eYs] at hx;obtain⟨j,hj,ej⟩:=sg_at hx;obtain⟨z,e1,e2⟩:=gd (sa+na+j) (by omega);rw[e1] at ej;cases ej;exact e2
 have hf:∀x,((arrOf st).extract (sa+k) (sa+na)).toList[0]?=some x->∀y,((arrOf st).extract (sa+na) (sa+na+r)).toList[0]?=some y->Le O key y x:=λx ex y ey=>by
  rw[eXs] at ex;rw[eYs,sg_get hr0,Nat.add_zero,ey0] at ey;cases ey;exact le_of_lt (ltA2 x (List.mem_of_getElem? ex))
 have hl:∀y∈((arrOf st).extract (sa+na) (sa+na+r)).toList,∀x,((arrOf st).extract (sa+k) (sa+na)).toList[((arrOf st).extract (sa+k) (sa+na)).size-1]?=some x->Le O key y x:=λy hy x ex=>by
  rw[eYs] at hy;rw[szX,eXs,sg_get (by omega),show sa+k+(na-k-1)=sa+k+(na-k)-1 by omega,ex0] at ex;cases ex;exact le_of_lt (ltB1 y hy)
 have fin:∀(m:Array Keyed)(st':SortSt),Fi O key ((arrOf st).extract (sa+k) (sa+na)) ((arrOf st).extract (sa+na) (sa+na+r)) m →
   kindOf st'=κ->arrOf st'=arrOf st->pendingOf st'=((pendingOf st).setIfInBounds i (sa,na+nb,p)).eraseIdxIfInBounds (i+1)->failedOf st'=none →
   Q true (setArr st' (m.toList.zipIdx.foldl (λa (x:Keyed×Nat)=>a.setIfInBounds (sa+k+x.2) x.1) (arrOf st'))):=λm st' F c1 c2 c3 c4=>by
  obtain⟨mp,ms⟩:=F;rw[eXs,eYs] at mp;have ml:m.toList.length=na-k+r:=by rw[mp.length_eq,List.length_append,lX,lY]
  rw[c2];generalize ea:m.toList.zipIdx.foldl (λa (x:Keyed×Nat)=>a.setIfInBounds (sa+k+x.2) x.1) (arrOf st)=a';have at':∀i,a'[i]?=if sa+k<=i/\i<sa+k+(na-k+r) then m.toList[i-(sa+k)]? else (arrOf st)[i]?:=λi=>by
   have:=wr_at m.toList 0 (sa+k) (arrOf st) i (by rw[ml];omega);rw[ea,ml] at this;exact this
  have sz':a'.size=(arrOf st).size:=by
   rw[<-ea];have:∀(l:List (Keyed×Nat))(a:Array Keyed),(l.foldl (λa (x:Keyed×Nat)=>a.setIfInBounds (sa+k+x.2) x.1) a).size=a.size:=by
    intro l
    induction l with
    | nil=>intro a;rfl
    | cons x l ih=>intro a;rw[List.foldl_cons,ih,Array.size_setIfInBounds]
   exact this _ _
  have fr:Frm (arrOf st) a' (sa+k) (na-k+r):=λi hi=>by rw[at' i,if_neg hi]
  have em:sg a' (sa+k) (na-k+r)=m.toList:=by
   apply List.ext_getElem?;intro i;by_cases hi:i<na-k+r
   .rw[sg_get hi,at',if_pos (by omega)]
    congr 1;omega
   .rw[List.getElem?_eq_none (by rw[sg_len (by omega)];omega),List.getElem?_eq_none (by omega)]
  have fr':Frm (arrOf st) a' sa (na+nb):=λi hi=>fr i (by omega);refine h _ ⟨c1,?_,c4⟩ c3 ?_ fr'
  .show a'.toList.Perm _;refine(perm_of_frm sz' fr ?_).trans K.perm;rw[em,sg_add,show sa+k+(na-k)=sa+na by omega];exact mp
  .show (sg a' sa (na+nb)).Pairwise _;have e1:sg a' sa k=sg (arrOf st) sa k:=sg_congr λj hj=>fr _ (by omega);have e2:sg a' (sa+na+r) (nb-r)=sg (arrOf st) (sa+na+r) (nb-r):=sg_congr λj hj=>fr _ (by omega);rw[show na+nb=k+(na-k+r)+(nb-r) by omega,sg_add,sg_add,em,e1,show sa+(k+(na-k+r))=sa+na+r by omega,e2];have mm:∀x∈m.toList,x∈sg (arrOf st) (sa+k) (na-k)\/x∈sg (arrOf st) (sa+na) r:=λx hx=>List.mem_append.mp (mp.mem_iff.mp hx);have pA1:(sg (arrOf st) sa k).Pairwise (Le O key):=by rw[eA] at sA;exact(List.pairwise_append.mp sA).1
   have pB2:(sg (arrOf st) (sa+na+r) (nb-r)).Pairwise (Le O key):=by rw[eB] at sB;exact(List.pairwise_append.mp sB).2.1
   have x0m:∀x∈m.toList,Le O key x x0:=λx hx=>by
    rcases mm x hx with q|q
    .exact leX x (by rw[eA];exact List.mem_append_right _ q)
    .exact le_of_lt (ltB1 x q)
   have my0:∀x∈m.toList,Le O key y0 x:=λx hx=>by
    rcases mm x hx with q|q
    .exact le_of_lt (ltA2 x q)
    .exact leY x (by rw[eB];exact List.mem_append_left _ q)
   refine pw_app (pw_app pA1 ms λx hx y hy=>(leA1 x hx).trans (my0 y hy)) pB2 λx hx y hy=>?_;rcases List.mem_append.mp hx with q|q
   .exact(leX x (by rw[eA];exact List.mem_append_left _ q)).trans (leB2 y hy)
   .exact(x0m x q).trans (leB2 y hy)
 refine ite_ok (λ_=>wpS_bind (mergeLo_ok L gX gY (by rw[eXs];exact pA2) (by rw[eYs];exact pB1) (by rw[szX];omega) (by rw[szY];exact hr0) hf hl K.kind λm st' F S=>?_)) (λ_=>wpS_bind (mergeHi_ok L gX gY (by rw[eXs];exact pA2) (by rw[eYs];exact pB1) (by rw[szX];omega) (by rw[szY];exact hr0) hf hl K.kind λm st' F S=>?_))
 all_goals
  refine wpS_bind (wpS_modify (wpS_bind (wpS_get (wpS_pure ?_))));have this:=fin m st' F S.kind S.arr S.pend (S.fail.trans K.fail);have ef:failedOf st'=none:=S.fail.trans K.fail;show Q (failedOf st').isNone _;rw[ef];exact this
end
section
variable{O:KeyOrd}{key:Keyed->O.α}
def kk(key:Keyed->O.α)(a:Array Keyed)(lo i:Nat):O.α:=key (a[lo+i]?.getD (Value.none,Value.none))
def Inc(O:KeyOrd)(key:Keyed->O.α)(a:Array Keyed)(lo n:Nat):Prop:=∀i j,i<=j->j<n->O.kle (kk key a lo i) (kk key a lo j)
def Dec(O:KeyOrd)(key:Keyed->O.α)(a:Array Keyed)(lo n:Nat):Prop:=∀i j,i<=j->j<n->O.kle (kk key a lo j) (kk key a lo i)
theorem kk_congr{a b:Array Keyed}{lo i j:Nat}(h:a[lo+i]?=b[lo+j]?):kk key a lo i=kk key b lo j:=by
 unfold kk;rw[h]
theorem inc_one(a:Array Keyed)(lo:Nat){n:Nat}(h:n<=1):Inc O key a lo n:=λi j hij hj=>(show i=j by omega) ▸ O.irrefl _
theorem inc_snoc{a:Array Keyed}{lo n:Nat}(h:Inc O key a lo n)(hn:1<=n)(e:O.blt (kk key a lo n) (kk key a lo (n-1))=false):Inc O key a lo (n+1):=λi j hij hj=>by
 rcases Nat.lt_or_ge j n with q|q
 .exact h i j hij q
 obtain rfl:j=n:=by omega
 rcases Nat.lt_or_ge i j with z|z
 .exact KeyOrd.kle_trans (h i (j-1) (by omega) (by omega)) e
 .obtain rfl:i=j:=by omega
  exact O.irrefl _
theorem dec_snoc{a:Array Keyed}{lo n:Nat}(h:Dec O key a lo n)(hn:1<=n)(e:O.kle (kk key a lo n) (kk key a lo (n-1))):Dec O key a lo (n+1):=λi j hij hj=>by
 rcases Nat.lt_or_ge j n with q|q
 .exact h i j hij q
 obtain rfl:j=n:=by omega
 rcases Nat.lt_or_ge i j with z|z
 .exact KeyOrd.kle_trans e (h i (j-1) (by omega) (by omega))
 .obtain rfl:i=j:=by omega
  exact O.irrefl _
theorem dec_congr{a b:Array Keyed}{lo n:Nat}(h:Dec O key a lo n)(e:∀k,kk key b lo k=kk key a lo k):Dec O key b lo n:=λi j hij hj=>by
 rw[e,e];exact h i j hij hj
theorem inc_seg{a:Array Keyed}{lo n:Nat}(h:Inc O key a lo n):(sg a lo n).Pairwise (Le O key):=by
 rw[List.pairwise_iff_getElem];intro i j hi hj hij;have li:(sg a lo n).length<=n:=by unfold sg;rw[List.length_take];omega
 have hi':i<n:=by omega
 have hj':j<n:=by omega
 have ei:a[lo+i]?=some (sg a lo n)[i]:=(sg_get hi').symm.trans (List.getElem?_eq_getElem hi);have ej:a[lo+j]?=some (sg a lo n)[j]:=(sg_get hj').symm.trans (List.getElem?_eq_getElem hj);have:=h i j (Nat.le_of_lt hij) hj';unfold kk at this;rw[ei,ej] at this;exact this
theorem kk_mir{a:Array Keyed}{lo x y:Nat}(h:lo+y<=a.size)(k:Nat):kk key (mirror a (lo+x) (lo+y) ((lo+y-(lo+x)) / 2)) lo k=if x<=k/\k<y then kk key a lo (x+y-1-k) else kk key a lo k:=by
 have e:=getElem?_mirror_all (i:=lo+x) h (lo+k);by_cases c:x<=k/\k<y
 .rw[if_pos (by omega)] at e;rw[if_pos c];refine kk_congr (e.trans ?_)
  congr 1;omega
 .rw[if_neg (by omega)] at e;rw[if_neg c];exact kk_congr e
theorem kk_mir_eq{a:Array Keyed}{lo x y:Nat}(h:lo+y<=a.size)(he:∀k,x<=k->k<y->kk key a lo k=kk key a lo (y-1))(k:Nat):kk key (mirror a (lo+x) (lo+y) ((lo+y-(lo+x)) / 2)) lo k=kk key a lo k:=by
 rw[kk_mir h]
 split
 .rw[he _ (by omega) (by omega),he k (by omega) (by omega)]
 .rfl
theorem kk_bub{a:Array Keyed}{lo k l:Nat}(h:lo+k<a.size)(hl:l<=k)(i:Nat):kk key (bubble a (lo+k) (lo+k-(lo+l))) lo i=if i=l then kk key a lo k else if l<i/\i<=k then kk key a lo (i-1) else kk key a lo i:=by
 have e:=getElem?_bubble h (lo+k-(lo+l)) (by omega) (lo+i);by_cases c:i=l
 .rw[if_pos (by omega)] at e;rw[if_pos c];exact kk_congr e
 .rw [if_neg (by omega)] at e;rw[if_neg c];by_cases c2:l<i/\i<=k
  .rw[if_pos (by omega)] at e;rw[if_pos c2];refine kk_congr (e.trans ?_)
   congr 1;omega
  .rw[if_neg (by omega)] at e;rw[if_neg c2];exact kk_congr e
end
section
variable{prog:Program}{w:World}{A:Around}{E:Value->Shared->Prop}{s:Shared}{κ:SortKind}{O:KeyOrd}{key:Keyed->O.α}{Good:Keyed->Prop}{a₀:Array Keyed}
structure Cr(κ:SortKind)(a₀:Array Keyed)(st0:SortSt)(lo nrem:Nat)(st:SortSt):Prop where
 kp:Kp κ a₀ st
 pend:pendingOf st=pendingOf st0
 frm:Frm (arrOf st0) (arrOf st) lo nrem
theorem Cr.mir{st0 st:SortSt}{lo nrem x y:Nat}(C:Cr κ a₀ st0 lo nrem st)(h:y<=nrem)(hs:lo+nrem<=a₀.size):Cr κ a₀ st0 lo nrem (setArr st (mirror (arrOf st) (lo+x) (lo+y) ((lo+y-(lo+x)) / 2))):=
 ⟨⟨C.kp.kind,(Array.perm_iff_toList_perm.mp (mirror_perm _ _ _ _)).trans C.kp.perm,C.kp.fail⟩,C.pend,C.frm.trans λi hi=>by
  show(mirror (arrOf st) (lo+x) (lo+y) ((lo+y-(lo+x)) / 2))[i]?=_;rw[getElem?_mirror_all (by rw[C.kp.size];omega),if_neg (by omega)]⟩
theorem Cr.bub{st0 st:SortSt}{lo nrem k l:Nat}(C:Cr κ a₀ st0 lo nrem st)(hl:l<=k)(h:k<nrem)(hs:lo+nrem<=a₀.size):Cr κ a₀ st0 lo nrem (setArr st (bubble (arrOf st) (lo+k) (lo+k-(lo+l)))):=
 ⟨⟨C.kp.kind,(Array.perm_iff_toList_perm.mp (bubble_perm _ _ _)).trans C.kp.perm,C.kp.fail⟩,C.pend,C.frm.trans λi hi=>by
  show(bubble (arrOf st) (lo+k) (lo+k-(lo+l)))[i]?=_;rw[getElem?_bubble (by rw[C.kp.size];omega) _ (by omega),if_neg (by omega),if_neg (by omega)]⟩
theorem ltAt_ok{st:SortSt}{lo i j i' j':Nat}{Q:Option Bool->SortSt->Prop}(L:LtOk prog w A E s κ O key Good)(g:∀x∈a₀.toList,Good x)(K:Kp κ a₀ st)(ei:i'=lo+i)(ej:j'=lo+j)(hi:lo+i<a₀.size)(hj:lo+j<a₀.size)
  (h:Q (some (O.blt (kk key (arrOf st) lo i) (kk key (arrOf st) lo j))) st):wpS (model prog w) A E s (ltAt' i' j') Q st:=by
 subst ei;subst ej;obtain⟨x,ex,gx⟩:=K.good g hi;obtain⟨y,ey,gy⟩:=K.good g hj;unfold kk at h;rw[ex,ey] at h;rw[ltAt'_eq];refine wpS_bind (wpS_get ?_);refine wpS_bind (elem_ok ex ?_);refine wpS_bind (elem_ok ey ?_);exact L x y gx gy Q st K.kind h
theorem asc_ok{st:SortSt}{lo a nrem:Nat}{f:Nat->Option (Option Nat)×Nat->StateT SortSt Sem (ForInStep (Option (Option Nat)×Nat))}{Q:Option (Option Nat)×Nat->SortSt->Prop}(ha:1<=a)(han:a<=nrem)
  (hf:∀x n (R:ForInStep (Option (Option Nat)×Nat)->SortSt->Prop),1<=n->n<nrem->(O.blt (kk key (arrOf st) lo n) (kk key (arrOf st) lo (n-1))=true->R (.done (none,n)) st)->(O.blt (kk key (arrOf st) lo n) (kk key (arrOf st) lo (n-1))=false->R (.yield (none,n+1)) st)->wpS (model prog w) A E s (f x (none,n)) R st)
  (hs:Inc O key (arrOf st) lo a) (h:∀n,a<=n->n<=nrem->Inc O key (arrOf st) lo n->(n=nrem\/O.klt (kk key (arrOf st) lo n) (kk key (arrOf st) lo (n-1)))->Q (none,n) st) :
  wpS (model prog w) A E s (forIn [a:nrem] (none,a) f) Q st:=by
 refine wpS_forRange (I:=λx c z=>z=st/\c=(none,x)/\Inc O key (arrOf st) lo x) (λx c z l1 l2=>?_) (λc z=>?_) ⟨rfl,rfl,hs⟩
 .rintro⟨rfl,rfl,up⟩;exact hf x x _ (by omega) l2 (λe=>h x l1 (by omega) up (.inr e)) λe=>⟨rfl,rfl,inc_snoc up (by omega) e⟩
 .rintro⟨rfl,rfl,up⟩;obtain e:max a nrem=nrem:=by omega
  rw[e] at up ⊢;exact h nrem han (Nat.le_refl nrem) up (.inl rfl)
theorem desc_ok{st0 st:SortSt}{lo a nrem:Nat}{f:Nat->Option (Option Nat)×Nat×Nat->StateT SortSt Sem (ForInStep (Option (Option Nat)×Nat×Nat))}{Q:Option (Option Nat)×Nat×Nat->SortSt->Prop}(hz:lo+nrem<=a₀.size)(ha:1<=a)(han:a<=nrem)
  (C:Cr κ a₀ st0 lo nrem st)
  (hf:∀x n neq st' (R:ForInStep (Option (Option Nat)×Nat×Nat)->SortSt->Prop),Cr κ a₀ st0 lo nrem st'->1<=n->n<nrem->neq+1<=n →
   (O.blt (kk key (arrOf st') lo n) (kk key (arrOf st') lo (n-1))=true->neq>0->R (.yield (none,n+1,0)) (setArr st' (mirror (arrOf st') (lo+(n-(neq+1))) (lo+n) ((lo+n-(lo+(n-(neq+1)))) / 2)))) →
   (O.blt (kk key (arrOf st') lo n) (kk key (arrOf st') lo (n-1))=true->¬neq>0->R (.yield (none,n+1,0)) st') →
   (O.blt (kk key (arrOf st') lo n) (kk key (arrOf st') lo (n-1))=false->O.blt (kk key (arrOf st') lo (n-1)) (kk key (arrOf st') lo n)=true->R (.done (none,n,neq)) st') →
   (O.blt (kk key (arrOf st') lo n) (kk key (arrOf st') lo (n-1))=false->O.blt (kk key (arrOf st') lo (n-1)) (kk key (arrOf st') lo n)=false->R (.yield (none,n+1,neq+1)) st') →
   wpS (model prog w) A E s (f x (none,n,neq)) R st')
  (hs:Dec O key (arrOf st) lo a)
  (h:∀m neq st',Cr κ a₀ st0 lo nrem st'->a<=m->m<=nrem->Dec O key (arrOf st') lo m->neq+1<=m->(∀i,m-(neq+1)<=i->i<m->kk key (arrOf st') lo i=kk key (arrOf st') lo (m-1))->Q (none,m,neq) st') :
  wpS (model prog w) A E s (forIn [a:nrem] (none,a,0) f) Q st:=by
 refine wpS_forRange (I:=λx c z=>∃m,c=(none,x,m)/\Cr κ a₀ st0 lo nrem z/\Dec O key (arrOf z) lo x/\m+1<=x/\∀i,x-(m+1)<=i->i<x->kk key (arrOf z) lo i=kk key (arrOf z) lo (x-1))
  (λx c z l1 l2=>?_) (λc z=>?_) ⟨0,rfl,C,hs,ha,λi _ _=>by congr 1;omega⟩
 .rintro ⟨m,rfl,C',dn,lm,sm⟩;have fits:lo+x<=(arrOf z).size:=by rw[C'.kp.size];omega
  have last:∀(b:Array Keyed) i,x+1-(0+1)<=i->i<x+1->kk key b lo i=kk key b lo (x+1-1):=λb i _ _=>by congr 1;omega
  refine hf x x m z _ C' (by omega) l2 lm (λe q=>⟨0,rfl,C'.mir (by omega) hz,?_,by omega,last _⟩) (λe q=>⟨0,rfl,C',dec_snoc dn (by omega) (KeyOrd.kle_of_klt e),by omega,last _⟩) (λe q=>h x m z C' l1 (by omega) dn lm sm) (λe q=>?_)
  .exact dec_congr (dec_snoc dn (by omega) (KeyOrd.kle_of_klt e)) (kk_mir_eq fits sm)
  .have same:kk key (arrOf z) lo x=kk key (arrOf z) lo (x-1):=KeyOrd.kle_antisymm q e;refine⟨m+1,rfl,C',dec_snoc dn (by omega) q,by omega,λi i1 i2=>?_⟩;rw[Nat.add_sub_cancel];rcases Nat.lt_or_ge i x with y|y
   .exact(sm i (by omega) y).trans same.symm
   .obtain rfl:i=x:=by omega
    rfl
 .rintro⟨m,rfl,C',dn,lm,sm⟩;obtain e:max a nrem=nrem:=by omega
  rw[e] at dn lm sm ⊢;exact h nrem m z C' han (Nat.le_refl nrem) dn lm sm
theorem countRun_ok{st:SortSt}{lo nrem:Nat}{Q:Option Nat->SortSt->Prop}(L:LtOk prog w A E s κ O key Good)(g:∀x∈a₀.toList,Good x)(K:Kp κ a₀ st)(h1:1<=nrem)(hz:lo+nrem<=a₀.size)
  (h:∀m st',Cr κ a₀ st lo nrem st'->1<=m->m<=nrem->Inc O key (arrOf st') lo m->Q (some m) st'):wpS (model prog w) A E s (countRun' lo nrem) Q st:=by
 have C0:Cr κ a₀ st lo nrem st:=⟨K,rfl,Frm.refl _ _ _⟩;have stp:∀st' n (R:Option Bool->SortSt->Prop),Kp κ a₀ st'->1<=n->n<nrem->(∀b,O.blt (kk key (arrOf st') lo n) (kk key (arrOf st') lo (n-1))=b->R (some b) st')->wpS (model prog w) A E s (ltAt' (lo+n) (lo+n-1)) R st':=λst' n R K' a b hR=>
  ltAt_ok (key:=key) L g K' rfl (show lo+n-1=lo+(n-1) by omega) (by omega) (by omega) (hR _ rfl)
 unfold countRun';refine wpS_bind (asc_ok (key:=key) (lo:=lo) (Nat.le_refl 1) h1 (λx n R a b r1 r2=>wpS_bind (stp st n _ K a b λc e=>?_)) (inc_one _ _ (Nat.le_refl 1)) λn n1 n2 hs hor=>?_)
 .cases c with
  | true=>exact wpS_pure (r1 e)
  | false=>exact wpS_pure (r2 e)
 dsimp only;refine ite_ok (λe=>wpS_pure (h n st C0 n1 n2 hs)) λe=>?_;have hlt:O.klt (kk key (arrOf st) lo n) (kk key (arrOf st) lo (n-1)):=hor.resolve_left (ne_of_beq e);have hnn:n<nrem:=by have:=ne_of_beq e;omega
 refine ite_ok (λhgt=>?_) (λhgt=>?_)
 .refine wpS_bind (ltAt_ok (key:=key) L g K (show lo=lo+0 from rfl) (show lo+n-1=lo+(n-1) by omega) (by omega) (by omega) ?_);dsimp only;refine ite_ok (λ_=>wpS_pure (h n st C0 n1 n2 hs)) λhrose=>?_;have hsz:lo+n<=(arrOf st).size:=by rw[K.size];omega
  have hall:∀k,0<=k->k<n->kk key (arrOf st) lo k=kk key (arrOf st) lo (n-1):=by
   intro k _ hk;have a1:=hs 0 k (by omega) hk;have a2:=hs k (n-1) (by omega) (by omega);have a3:O.kle (kk key (arrOf st) lo (n-1)) (kk key (arrOf st) lo 0):=by
    have z:O.blt (kk key (arrOf st) lo 0) (kk key (arrOf st) lo (n-1))=false:=by simpa using hrose
    exact z
   exact KeyOrd.kle_antisymm a2 (KeyOrd.kle_trans a3 a1)
  refine wpS_bind (wpS_reverse ?_);have C1:=C0.mir (x:=0) (y:=n) n2 hz;have flat:Dec O key (arrOf st) lo n:=λi j hij hj=>by
   rw[hall i (Nat.zero_le i) (by omega),hall j (Nat.zero_le j) hj];exact O.irrefl _
  have D1:Dec O key (arrOf (setArr st (mirror (arrOf st) (lo+0) (lo+n) ((lo+n-(lo+0)) / 2)))) lo (n+1):=dec_congr (dec_snoc flat n1 (KeyOrd.kle_of_klt hlt)) (kk_mir_eq hsz hall);change wpS (model prog w) A E s _ Q (setArr st (mirror (arrOf st) (lo+0) (lo+n) ((lo+n-(lo+0)) / 2)))
  revert C1 D1
  generalize setArr st (mirror (arrOf st) (lo+0) (lo+n) ((lo+n-(lo+0)) / 2))=st1;intro C1 D1;refine wpS_bind (wpS_lift (wpAny_rule ⟨rfl,?_⟩));refine wpS_bind (desc_ok (key:=key) hz (by omega) (by omega) C1 (λx n neq st' R C' a b c r1 r2 r3 r4=>wpS_bind (stp st' n _ C'.kp a b λc1 e1=>?_)) D1 λm neq st2 C2 m1 m2 D2 q1 q2=>?_)
  .cases c1 with
   | true=>
    dsimp only;rw[if_pos rfl];refine ite_ok (λhq=>wpS_bind (wpS_reverse (wpS_pure ?_))) λhq=>wpS_pure (r2 e1 hq);rw[show lo+n-(neq+1)=lo+(n-(neq+1)) by omega];exact r1 e1 hq
   | false=>
    dsimp only;rw[if_neg Bool.false_ne_true];refine wpS_bind (ltAt_ok (key:=key) L g C'.kp (show lo+n-1=lo+(n-1) by omega) rfl (by omega) (by omega) ?_);dsimp only;exact ite_ok (λhq=>wpS_pure (r3 e1 hq)) λhq=>wpS_pure (r4 e1 (by simpa using hq))
  .dsimp only;have hsz2:lo+m<=(arrOf st2).size:=by rw[C2.kp.size];omega
   have tl:∀st3,Cr κ a₀ st lo nrem st3->Dec O key (arrOf st3) lo m->Inc O key (arrOf (setArr st3 (mirror (arrOf st3) (lo+0) (lo+m) ((lo+m-(lo+0)) / 2)))) lo m:=λst3 C3 D3 i j hij hj=>by
    show O.kle (kk key (mirror (arrOf st3) _ _ _) lo i) (kk key (mirror (arrOf st3) _ _ _) lo j);have hsz3:lo+m<=(arrOf st3).size:=by rw[C3.kp.size];omega
    rw[kk_mir hsz3,kk_mir hsz3,if_pos (by omega),if_pos (by omega)];exact D3 _ _ (by omega) (by omega)
   refine ite_ok (λhq=>wpS_bind (wpS_reverse ?_)) (λhq=>?_)
   .have C3:=C2.mir (x:=m-(neq+1)) (y:=m) m2 hz;rw[show lo+m-(neq+1)=lo+(m-(neq+1)) by omega];have D3:Dec O key (arrOf (setArr st2 (mirror (arrOf st2) (lo+(m-(neq+1))) (lo+m) ((lo+m-(lo+(m-(neq+1)))) / 2)))) lo m:=dec_congr D2 (kk_mir_eq hsz2 q2)
    revert C3 D3
    generalize setArr st2 (mirror (arrOf st2) (lo+(m-(neq+1))) (lo+m) ((lo+m-(lo+(m-(neq+1)))) / 2))=st3;intro C3 D3;refine wpS_bind (wpS_reverse ?_);have C4:=Cr.mir (x:=0) C3 m2 hz;have D4:=tl st3 C3 D3;refine wpS_bind (asc_ok (key:=key) (lo:=lo) (st:=setArr st3 (mirror (arrOf st3) (lo+0) (lo+m) ((lo+m-(lo+0)) / 2))) (by omega) m2 (λx n R a b r1 r2=>wpS_bind (stp _ n _ C4.kp a b λc e=>?_)) D4 λn n1 n2 hs hor=>wpS_pure (h n _ C4 (by omega) n2 hs));cases c with
    | true=>exact wpS_pure (r1 e)
    | false=>exact wpS_pure (r2 e)
   .refine wpS_bind (wpS_reverse ?_);have C4:=Cr.mir (x:=0) C2 m2 hz;have D4:=tl st2 C2 D2;refine wpS_bind (asc_ok (key:=key) (lo:=lo) (st:=setArr st2 (mirror (arrOf st2) (lo+0) (lo+m) ((lo+m-(lo+0)) / 2))) (by omega) m2 (λx n R a b r1 r2=>wpS_bind (stp _ n _ C4.kp a b λc e=>?_)) D4 λn n1 n2 hs hor=>wpS_pure (h n _ C4 (by omega) n2 hs));cases c with
    | true=>exact wpS_pure (r1 e)
    | false=>exact wpS_pure (r2 e)
 .have hn1':n=1:=by omega
  subst hn1';have C1:=C0;have D1:Dec O key (arrOf st) lo (1+1):=dec_snoc (λi j hij hj=>(show i=j by omega) ▸ O.irrefl _) (Nat.le_refl 1) (KeyOrd.kle_of_klt hlt);refine wpS_bind (wpS_lift (wpAny_rule ⟨rfl,?_⟩));refine wpS_bind (desc_ok (key:=key) hz (by omega) (by omega) C1 (λx n neq st' R C' a b c r1 r2 r3 r4=>wpS_bind (stp st' n _ C'.kp a b λc1 e1=>?_)) D1 λm neq st2 C2 m1 m2 D2 q1 q2=>?_)
  .cases c1 with
   | true=>
    dsimp only;rw[if_pos rfl];refine ite_ok (λhq=>wpS_bind (wpS_reverse (wpS_pure ?_))) λhq=>wpS_pure (r2 e1 hq);rw[show lo+n-(neq+1)=lo+(n-(neq+1)) by omega];exact r1 e1 hq
   | false=>
    dsimp only;rw[if_neg Bool.false_ne_true];refine wpS_bind (ltAt_ok (key:=key) L g C'.kp (show lo+n-1=lo+(n-1) by omega) rfl (by omega) (by omega) ?_);dsimp only;exact ite_ok (λhq=>wpS_pure (r3 e1 hq)) λhq=>wpS_pure (r4 e1 (by simpa using hq))
  .dsimp only;have hsz2:lo+m<=(arrOf st2).size:=by rw[C2.kp.size];omega
   have tl:∀st3,Cr κ a₀ st lo nrem st3->Dec O key (arrOf st3) lo m->Inc O key (arrOf (setArr st3 (mirror (arrOf st3) (lo+0) (lo+m) ((lo+m-(lo+0)) / 2)))) lo m:=λst3 C3 D3 i j hij hj=>by
    show O.kle (kk key (mirror (arrOf st3) _ _ _) lo i) (kk key (mirror (arrOf st3) _ _ _) lo j);have hsz3:lo+m<=(arrOf st3).size:=by rw[C3.kp.size];omega
    rw[kk_mir hsz3,kk_mir hsz3,if_pos (by omega),if_pos (by omega)];exact D3 _ _ (by omega) (by omega)
   refine ite_ok (λhq=>wpS_bind (wpS_reverse ?_)) (λhq=>?_)
   .have C3:=C2.mir (x:=m-(neq+1)) (y:=m) m2 hz;rw[show lo+m-(neq+1)=lo+(m-(neq+1)) by omega];have D3:Dec O key (arrOf (setArr st2 (mirror (arrOf st2) (lo+(m-(neq+1))) (lo+m) ((lo+m-(lo+(m-(neq+1)))) / 2)))) lo m:=dec_congr D2 (kk_mir_eq hsz2 q2)
    revert C3 D3
    generalize setArr st2 (mirror (arrOf st2) (lo+(m-(neq+1))) (lo+m) ((lo+m-(lo+(m-(neq+1)))) / 2))=st3;intro C3 D3;refine wpS_bind (wpS_reverse ?_);have C4:=Cr.mir (x:=0) C3 m2 hz;have D4:=tl st3 C3 D3;refine wpS_bind (asc_ok (key:=key) (lo:=lo) (st:=setArr st3 (mirror (arrOf st3) (lo+0) (lo+m) ((lo+m-(lo+0)) / 2))) (by omega) m2 (λx n R a b r1 r2=>wpS_bind (stp _ n _ C4.kp a b λc e=>?_)) D4 λn n1 n2 hs hor=>wpS_pure (h n _ C4 (by omega) n2 hs));cases c with
    | true=>exact wpS_pure (r1 e)
    | false=>exact wpS_pure (r2 e)
   .refine wpS_bind (wpS_reverse ?_);have C4:=Cr.mir (x:=0) C2 m2 hz;have D4:=tl st2 C2 D2;refine wpS_bind (asc_ok (key:=key) (lo:=lo) (st:=setArr st2 (mirror (arrOf st2) (lo+0) (lo+m) ((lo+m-(lo+0)) / 2))) (by omega) m2 (λx n R a b r1 r2=>wpS_bind (stp _ n _ C4.kp a b λc e=>?_)) D4 λn n1 n2 hs hor=>wpS_pure (h n _ C4 (by omega) n2 hs));cases c with
    | true=>exact wpS_pure (r1 e)
    | false=>exact wpS_pure (r2 e)
theorem binarySort_ok{st:SortSt}{lo n ok:Nat}{Q:Bool->SortSt->Prop}(L:LtOk prog w A E s κ O key Good)(g:∀x∈a₀.toList,Good x)(K:Kp κ a₀ st)(hz:lo+n<=a₀.size)(hok:ok<=n)(hs:Inc O key (arrOf st) lo ok)
  (h:∀st',Cr κ a₀ st lo n st'->Inc O key (arrOf st') lo n->Q true st'):wpS (model prog w) A E s (binarySort' lo n ok) Q st:=by
 unfold binarySort';refine wpS_bind (wpS_mono (wpS_forRange (I:=λx c z=>c=(none,())/\Cr κ a₀ st lo n z/\Inc O key (arrOf z) lo (min x n)) (Q:=λc z=>c=(none,())/\Cr κ a₀ st lo n z/\Inc O key (arrOf z) lo n) (λk c z l1 l2=>?_) (λc z=>?_) ⟨rfl,⟨K,rfl,Frm.refl _ _ _⟩,?_⟩) λc z=>?_)
 .rintro ⟨rfl,C,up⟩;obtain ek:min k n=k:=by omega
  rw[ek] at up;obtain⟨kf,kn⟩:lo+k<a₀.size/\lo+k<(arrOf z).size:=⟨by omega,by rw[C.kp.size];omega⟩;refine wpS_bind (wpS_mono (wpS_forRange
   (I:=λx c y=>y=z/\∃u v,c=(none,u,v)/\u<=v/\v<=k/\v-u+x<=k/\(∀i,i<u->O.kle (kk key (arrOf z) lo i) (kk key (arrOf z) lo k))/\∀i,v<=i->i<k->O.klt (kk key (arrOf z) lo k) (kk key (arrOf z) lo i))
   (Q:=λc y=>y=z/\∃u v,c=(none,u,v)/\u<=k/\(∀i,i<u->O.kle (kk key (arrOf z) lo i) (kk key (arrOf z) lo k))/\∀i,u<=i->i<k->O.klt (kk key (arrOf z) lo k) (kk key (arrOf z) lo i))
   (λx c y _ l3=>?_) (λc y=>?_) ⟨rfl,0,k,rfl,Nat.zero_le k,Nat.le_refl k,by omega,λ_ q=>absurd q (Nat.not_lt_zero _),λ_ q1 q2=>absurd q2 (by omega)⟩) λc y=>?_)
  .rintro⟨rfl,u,v,rfl,uv,vk,le,below,above⟩;dsimp only;refine ite_ok (λq=>?_) (λq=>wpS_bind (ltAt_ok (key:=key) L g C.kp rfl rfl kf (by omega) ?_))
   .obtain rfl:u=v:=by omega
    exact wpS_pure ⟨rfl,u,u,rfl,vk,below,above⟩
   .dsimp only;refine ite_ok (λq2=>wpS_pure ⟨rfl,u,(u+v) / 2,rfl,by omega,by omega,by omega,below,λi i1 i2=>KeyOrd.klt_of_klt_of_kle q2 (up _ i i1 i2)⟩) (λq2=>wpS_pure ⟨rfl,(u+v) / 2+1,v,rfl,by omega,by omega,by omega,λi i1=>?_,above⟩);refine KeyOrd.kle_trans (up i ((u+v) / 2) (by omega) (by omega)) ?_;exact KeyOrd.kle_of_not_klt q2
  .rintro⟨rfl,u,v,rfl,uv,vk,le,below,above⟩;obtain rfl:u=v:=by omega
   exact⟨rfl,u,u,rfl,vk,below,above⟩
  .rintro ⟨rfl,u,v,rfl,uk,below,above⟩;refine wpS_bind (wpS_modify (wpS_pure ⟨rfl,C.bub uk l2 hz,?_⟩));obtain e1:min (k+1) n=k+1:=by omega
   rw[e1];intro i j hij hj;show O.kle (kk key (bubble (arrOf y) (lo+k) (lo+k-(lo+u))) lo i) (kk key (bubble (arrOf y) (lo+k) (lo+k-(lo+u))) lo j);rw[kk_bub kn uk,kk_bub kn uk];rcases Nat.lt_trichotomy i u with iu|iu|iu
   .rw [if_neg (by omega),if_neg (by omega)];rcases Nat.lt_trichotomy j u with ju|ju|ju
    .rw[if_neg (by omega),if_neg (by omega)];exact up i j hij (by omega)
    .rw[if_pos ju];exact below i iu
    .rw[if_neg (by omega),if_pos (by omega)];exact up i (j-1) (by omega) (by omega)
   .rw [if_pos iu];rcases Nat.lt_or_ge u j with ju|ju
    .rw[if_neg (by omega),if_pos (by omega)];exact KeyOrd.kle_of_klt (above (j-1) (by omega) (by omega))
    .rw[if_pos (by omega)];exact O.irrefl _
   .rw[if_neg (by omega),if_pos (by omega),if_neg (by omega),if_pos (by omega)];exact up (i-1) (j-1) (by omega) (by omega)
 .rintro⟨e,C,up⟩;obtain e1:min (max (max ok 1) n) n=n:=by omega
  rw[e1] at up;exact⟨e,C,up⟩
 .rcases Nat.lt_or_ge ok 1 with q|q
  .exact inc_one _ _ (by omega)
  .obtain e1:min (max ok 1) n=ok:=by omega
   rw[e1];exact hs
 .rintro⟨rfl,C,up⟩;exact wpS_pure (h z C up)
end
def rl(p:Array (Nat×Nat×Nat)):List (Nat×Nat):=p.toList.map λt=>(t.1,t.2.1)
section
variable{O:KeyOrd}{key:Keyed->O.α}
def Rn(O:KeyOrd)(key:Keyed->O.α)(a:Array Keyed):Nat->List (Nat×Nat)->Nat->Prop
 | lo,[],hi=>lo=hi
 | lo,t::l,hi=>t.1=lo/\0<t.2/\(sg a lo t.2).Pairwise (Le O key)/\Rn O key a (lo+t.2) l hi
theorem Rn.le{a:Array Keyed}:∀{l:List (Nat×Nat)}{lo hi:Nat},Rn O key a lo l hi->lo+l.length<=hi
 | [],_,_,h=>Nat.le_of_eq h
 | _::l,_,_,⟨_,h2,_,h4⟩=>by
  have:=Rn.le h4;rw[List.length_cons];omega
theorem Rn.keep{a b:Array Keyed}:∀{l:List (Nat×Nat)}{lo hi:Nat},Rn O key a lo l hi->(∀i,lo<=i->i<hi->b[i]?=a[i]?)->Rn O key b lo l hi
 | [],_,_,h,_=>h
 | t::l,lo,hi,⟨h1,h2,h3,h4⟩,e=>by
  have:=Rn.le h4;refine⟨h1,h2,?_,Rn.keep h4 λi i1 i2=>e i (by omega) i2⟩;rw[sg_congr (b:=a) λi hi=>e _ (by omega) (by omega)];exact h3
theorem Rn.app{a:Array Keyed}:∀{l m:List (Nat×Nat)}{lo mid hi:Nat},Rn O key a lo l mid->Rn O key a mid m hi->Rn O key a lo (l++m) hi
 | [],_,_,_,_,h,k=>by cases h;exact k
 | _::l,_,_,_,_,⟨h1,h2,h3,h4⟩,k=>⟨h1,h2,h3,Rn.app h4 k⟩
theorem Rn.split{a:Array Keyed}:∀{l m:List (Nat×Nat)}{lo hi:Nat},Rn O key a lo (l++m) hi->∃mid,Rn O key a lo l mid/\Rn O key a mid m hi
 | [],_,lo,_,h=>⟨lo,rfl,h⟩
 | _::l,_,_,_,⟨h1,h2,h3,h4⟩=>by
  obtain⟨mid,q1,q2⟩:=Rn.split h4;exact⟨mid,⟨h1,h2,h3,q1⟩,q2⟩
theorem Rn.push{a b:Array Keyed}{l:List (Nat×Nat)}{lo hi n:Nat}(h:Rn O key a lo l hi)(e:∀i,lo<=i->i<hi->b[i]?=a[i]?)(hn:0<n)(hs:(sg b hi n).Pairwise (Le O key)):Rn O key b lo (l++[(hi,n)]) (hi+n):=
 Rn.app (h.keep e) ⟨rfl,hn,hs,rfl⟩
theorem rl_push(p:Array (Nat×Nat×Nat))(t:Nat×Nat×Nat):rl (p.push t)=rl p++[(t.1,t.2.1)]:=by
 unfold rl;rw[Array.toList_push,List.map_append];rfl
theorem rl_len(p:Array (Nat×Nat×Nat)):(rl p).length=p.size:=by
 unfold rl;rw[List.length_map,Array.length_toList]
theorem rl_mod(p:Array (Nat×Nat×Nat))(i:Nat)(f:Nat×Nat×Nat->Nat×Nat×Nat)(hf:∀t,((f t).1,(f t).2.1)=(t.1,t.2.1)):rl (p.modify i f)=rl p:=by
 unfold rl;apply List.ext_getElem?;intro j;simp only[List.getElem?_map,Array.getElem?_toList,Array.getElem?_modify]
 split
 .cases p[j]? with
  | none=>rfl
  | some t=>simp only[Option.map_some];rw[hf t]
 .rfl
theorem two_at{p:Array (Nat×Nat×Nat)}{i:Nat}(h:i+1<p.size):∃l t u m,p.toList=l++t::u::m/\l.length=i/\p[i]?=some t/\p[i+1]?=some u:=by
 refine⟨p.toList.take i,p[i],p[i+1],p.toList.drop (i+2),?_,by rw[List.length_take,Array.length_toList];omega,by simp,by simp⟩;have e1:p.toList.drop i=p[i]::p.toList.drop (i+1):=by rw[List.drop_eq_getElem_cons (by simpa using(by omega:i<p.size))];rfl
 have e2:p.toList.drop (i+1)=p[i+1]::p.toList.drop (i+2):=by rw[List.drop_eq_getElem_cons (by simpa using h)];rfl
 rw[<-e2,<-e1,List.take_append_drop]
theorem rl_two{p:Array (Nat×Nat×Nat)}{i:Nat}{l m:List (Nat×Nat×Nat)}{t u v:Nat×Nat×Nat}(e:p.toList=l++t::u::m)(hl:l.length=i) :
  ((p.setIfInBounds i v).eraseIdxIfInBounds (i+1)).toList=l++v::m:=by
 subst hl;rw[Array.toList_eraseIdxIfInBounds,Array.toList_setIfInBounds,e,List.set_append_right _ _ (Nat.le_refl _),Nat.sub_self,List.set_cons_zero,List.eraseIdx_append_of_length_le (by omega),Nat.add_sub_cancel_left];rfl
end
section
variable{prog:Program}{w:World}{A:Around}{E:Value->Shared->Prop}{s:Shared}{κ:SortKind}{O:KeyOrd}{key:Keyed->O.α}{Good:Keyed->Prop}{a₀:Array Keyed}
structure Pd(κ:SortKind)(O:KeyOrd)(key:Keyed->O.α)(a₀:Array Keyed)(hi:Nat)(st:SortSt):Prop where
 kp:Kp κ a₀ st
 run:Rn O key (arrOf st) 0 (rl (pendingOf st)) hi
 fits:hi<=a₀.size
theorem mergeTwo_ok{st:SortSt}{hi i:Nat}{Q:Bool->SortSt->Prop}(L:LtOk prog w A E s κ O key Good)(g:∀x∈a₀.toList,Good x)(P:Pd κ O key a₀ hi st)(hi':i+1<(pendingOf st).size)
  (h:∀st',Pd κ O key a₀ hi st'->(pendingOf st').size+1=(pendingOf st).size->(∀i,hi<=i->(arrOf st')[i]?=(arrOf st)[i]?)->Q true st'):wpS (model prog w) A E s (mergeAt' i) Q st:=by
 obtain⟨l,⟨sa,na,p⟩,⟨sb,nb,q⟩,m,ep,hl,e1,e2⟩:=two_at hi';have R:=P.run;unfold rl at R;rw[ep,List.map_append] at R;obtain⟨mid,R1,r1,r2,r3,r4,r5,r6,R2⟩:=Rn.split R;dsimp only at r1 r2 r3 r4 r5 r6 R2;subst r1;subst r4;have lim:=Rn.le R2;refine mergeAt_ok L g P.kp e1 e2 r2 r5 (by have:=P.fits;omega) r3 r6 λst' K' e3 sS fr=>h st' ⟨K',?_,P.fits⟩ ?_ λi i1=>fr i (by omega)
 .unfold rl;rw[e3,rl_two ep hl,List.map_append];refine Rn.app (R1.keep λi i1 i2=>fr i (by omega)) ⟨rfl,by show 0<na+nb;omega,sS,?_⟩;show Rn O key (arrOf st') (sa+(na+nb)) _ hi;rw[<-Nat.add_assoc];exact R2.keep λi i1 i2=>fr i (by omega)
 .have l1:=congrArg List.length (rl_two (v:=(sa,na+nb,p)) ep hl);have l2:=congrArg List.length ep;rw[<-e3] at l1;rw[Array.length_toList] at l1 l2;rw[l1,l2,List.length_append,List.length_append];simp only[List.length_cons];omega
theorem Pd.kpSet{st:SortSt}{hi:Nat}{p:Array (Nat×Nat×Nat)}(P:Pd κ O key a₀ hi st)(e:rl p=rl (pendingOf st)):Pd κ O key a₀ hi (setPending st p):=
 ⟨⟨P.kp.kind,P.kp.perm,P.kp.fail⟩,by
  show Rn O key (arrOf st) 0 (rl p) hi;rw[e];exact P.run,P.fits⟩
theorem Pd.push{st:SortSt}{lo n q:Nat}(P:Pd κ O key a₀ lo st)(hn:1<=n)(hf:lo+n<=a₀.size)(S:(sg (arrOf st) lo n).Pairwise (Le O key)):Pd κ O key a₀ (lo+n) (setPending st ((pendingOf st).push (lo,n,q))):=
 ⟨⟨P.kp.kind,P.kp.perm,P.kp.fail⟩,by
  show Rn O key (arrOf st) 0 (rl ((pendingOf st).push (lo,n,q))) (lo+n);rw[rl_push];exact P.run.push (λ_ _ _=>rfl) hn S,hf⟩
theorem sortRuns_ok{st:SortSt}{Q:Unit->SortSt->Prop}(L:LtOk prog w A E s κ O key Good)(g:∀x∈a₀.toList,Good x)(K:Kp κ a₀ st)(h0:pendingOf st=#[])(h1:1<=a₀.size)
  (h:∀st',Kp κ a₀ st'->(arrOf st').toList.Pairwise (Le O key)->Q () st'):wpS (model prog w) A E s sortRuns' Q st:=by
 rw[sortRuns'_eq];refine wpS_bind (wpS_get ?_);dsimp only;rw[K.size];have P0:Pd κ O key a₀ 0 st:=⟨K,by rw[h0];rfl,Nat.zero_le _⟩;refine wpS_bind (wpS_mono (wpS_forRange (I:=λx c z=>∃lo,c=(none,lo)/\Pd κ O key a₀ lo z/\(x<=lo\/lo=a₀.size)) (Q:=λc z=>c=(none,a₀.size)/\Pd κ O key a₀ a₀.size z) (λx c z l1 l2=>?_) (λc z=>?_) ⟨0,rfl,P0,.inl (Nat.le_refl 0)⟩) λc z=>?_)
 .rintro ⟨lo,rfl,P,le⟩;dsimp only;refine ite_ok (λq=>wpS_pure ?_) (λq=>?_)
  .obtain rfl:lo=a₀.size:=by have:=P.fits;omega
   exact⟨rfl,P⟩
  have old:∀{n:Nat}{z':SortSt},Cr κ a₀ z lo n z'->Pd κ O key a₀ lo z':=λC=>⟨C.kp,by rw[C.pend];exact P.run.keep λi _ i2=>C.frm i (by omega),P.fits⟩;refine wpS_bind (countRun_ok L g P.kp (by omega) (by omega) λm z1 C1 m1 m2 up1=>?_);dsimp only;refine ite_ok (λmr=>?_) (λ_=>?_)
  .refine wpS_bind (wpS_lift (wpAny_rule ⟨rfl,?_⟩));refine wpS_bind (binarySort_ok L g C1.kp (by omega) (by omega) up1 λz2 C2 up2=>?_);have hn:1<=min (a₀.size-lo) (minRun' a₀.size a₀.size 0):=by omega
   have hf:lo+min (a₀.size-lo) (minRun' a₀.size a₀.size 0)<=a₀.size:=by omega
   rw[if_neg (by simp)];have P2:Pd κ O key a₀ lo z2:=old (n:=a₀.size-lo) ⟨C2.kp,C2.pend.trans C1.pend,C1.frm.trans λi hi=>C2.frm i (by omega)⟩;refine wpS_bind (wpS_get ?_);cases eb:(pendingOf z2).back? with
   | none=>
    dsimp only;exact wpS_bind (wpS_modify (wpS_pure ⟨lo+(min (a₀.size-lo) (minRun' a₀.size a₀.size 0)),rfl,Pd.push P2 hn hf (inc_seg up2),.inl (by omega)⟩))
   | some t=>
    obtain⟨s1,n1,pw⟩:=t;dsimp only;refine wpS_bind (wpS_mono (wpS_forRange (I:=λ_ c y=>c=(none,())/\Pd κ O key a₀ lo y/\(sg (arrOf y) lo (min (a₀.size-lo) (minRun' a₀.size a₀.size 0))).Pairwise (Le O key)) (Q:=λc y=>c=(none,())/\Pd κ O key a₀ lo y/\(sg (arrOf y) lo (min (a₀.size-lo) (minRun' a₀.size a₀.size 0))).Pairwise (Le O key)) (λx' c y _ _=>?_) (λ_ _ hh=>hh) ⟨rfl,P2,(inc_seg up2)⟩) λc y=>?_)
    .rintro⟨rfl,P2,S2⟩;refine wpS_bind (wpS_get ?_);by_cases q2:(pendingOf y).size>1
     .obtain⟨t,et⟩:∃t,(pendingOf y)[(pendingOf y).size-2]?=some t:=⟨_,getElem?_pos _ _ (by omega)⟩;rw[if_pos q2,et];dsimp only;refine ite_ok (λ_=>wpS_pure ⟨rfl,P2,S2⟩) λ_=>wpS_bind (mergeTwo_ok L g P2 (by omega) λy' P3 _ fr=>?_);rw[if_neg (by simp)];refine wpS_pure ⟨rfl,P3,?_⟩;rw[sg_congr (b:=arrOf y) λi _=>fr _ (Nat.le_add_right lo i)];exact S2
     .rw[if_neg q2];exact wpS_pure ⟨rfl,P2,S2⟩
    .rintro⟨rfl,P2,S2⟩;dsimp only;refine wpS_bind (wpS_modify (wpS_bind (wpS_modify (wpS_pure ⟨lo+(min (a₀.size-lo) (minRun' a₀.size a₀.size 0)),rfl,?_,.inl (by omega)⟩))));exact Pd.push (P2.kpSet (rl_mod _ _ _ λ_=>rfl)) hn hf S2
  .have hn:1<=m:=m1;have hf:lo+m<=a₀.size:=by omega
   refine wpS_bind (wpS_get ?_);cases eb:(pendingOf z1).back? with
   | none=>
    dsimp only;exact wpS_bind (wpS_modify (wpS_pure ⟨lo+m,rfl,Pd.push (old C1) hn hf (inc_seg up1),.inl (by omega)⟩))
   | some t=>
    obtain⟨s1,n1,pw⟩:=t;dsimp only;refine wpS_bind (wpS_mono (wpS_forRange (I:=λ_ c y=>c=(none,())/\Pd κ O key a₀ lo y/\(sg (arrOf y) lo m).Pairwise (Le O key)) (Q:=λc y=>c=(none,())/\Pd κ O key a₀ lo y/\(sg (arrOf y) lo m).Pairwise (Le O key)) (λx' c y _ _=>?_) (λ_ _ hh=>hh) ⟨rfl,(old C1),(inc_seg up1)⟩) λc y=>?_)
    .rintro⟨rfl,P2,S2⟩;refine wpS_bind (wpS_get ?_);by_cases q2:(pendingOf y).size>1
     .obtain⟨t,et⟩:∃t,(pendingOf y)[(pendingOf y).size-2]?=some t:=⟨_,getElem?_pos _ _ (by omega)⟩;rw[if_pos q2,et];dsimp only;refine ite_ok (λ_=>wpS_pure ⟨rfl,P2,S2⟩) λ_=>wpS_bind (mergeTwo_ok L g P2 (by omega) λy' P3 _ fr=>?_);rw[if_neg (by simp)];refine wpS_pure ⟨rfl,P3,?_⟩;rw[sg_congr (b:=arrOf y) λi _=>fr _ (Nat.le_add_right lo i)];exact S2
     .rw[if_neg q2];exact wpS_pure ⟨rfl,P2,S2⟩
    .rintro⟨rfl,P2,S2⟩;dsimp only;refine wpS_bind (wpS_modify (wpS_bind (wpS_modify (wpS_pure ⟨lo+m,rfl,?_,.inl (by omega)⟩))));exact Pd.push (P2.kpSet (rl_mod _ _ _ λ_=>rfl)) hn hf S2
 .rintro⟨lo,rfl,P,le⟩;obtain rfl:lo=a₀.size:=by have:=P.fits;omega
  exact⟨rfl,P⟩
 .rintro ⟨rfl,P⟩;dsimp only;have few:(pendingOf z).size<=a₀.size:=by have:=Rn.le P.run;rw[rl_len] at this;omega
  refine wpS_bind (wpS_mono (wpS_forRange (I:=λx c y=>c=(none,())/\Pd κ O key a₀ a₀.size y/\(pendingOf y).size+x<=a₀.size+1) (Q:=λc y=>c=(none,())/\Pd κ O key a₀ a₀.size y/\(pendingOf y).size<=1) (λx c y _ l2=>?_) (λc y=>?_) ⟨rfl,P,by omega⟩) λc y=>?_)
  .rintro⟨rfl,P2,le⟩;refine wpS_bind (wpS_get ?_);refine ite_ok (λq=>wpS_pure ⟨rfl,P2,q⟩) λq=>?_;have go:∀i,i+1<(pendingOf y).size->wpS (model prog w) A E s (mergeAt' i) (λb z=>b=true/\Pd κ O key a₀ a₀.size z/\(pendingOf z).size+(x+1)<=a₀.size+1) y:=λi hi=>
    mergeTwo_ok L g P2 hi λz P3 e _=>⟨rfl,P3,by omega⟩
   refine wpS_bind (wpS_mono (go _ ?_) ?_)
   .have pick:∀(c:Prop)[Decidable c],(if c then (pendingOf y).size-2-1 else (pendingOf y).size-2)+1<(pendingOf y).size:=λc _=>by split<;>omega
    exact pick _
   .rintro b z ⟨rfl,P3,e⟩;rw[if_neg (by simp)];exact wpS_pure ⟨rfl,P3,e⟩
  .rintro⟨rfl,P2,le⟩;exact⟨rfl,P2,by omega⟩
  .rintro ⟨rfl,P2,le⟩;refine wpS_pure (h y P2.kp ?_);have R:=P2.run;have sz:=P2.kp.size;rw[<-rl_len] at le
   revert R le
   generalize rl (pendingOf y)=l;intro le R
   match l,le,R with
   | [],_,R=>exact absurd (show 0=a₀.size from R) (by omega)
   | [t],_,⟨_,_,R3,R4⟩=>
    have e:t.2=(arrOf y).size:=by rw[sz];simpa[Rn] using R4
    rw[e] at R3;have:sg (arrOf y) 0 (arrOf y).size=(arrOf y).toList:=by
     unfold sg;rw[List.drop_zero,List.take_of_length_le (by simp)]
    rw[this] at R3;exact R3
   | _::_::_,le,_=>simp at le
end
end Ts
namespace Sx
open PySem PySem.W PyProof.Rows
theorem ints_inj:∀{vs:List Value}{ns ms:List Int},IntsAre vs ns->IntsAre vs ms->ns=ms
 | _,_,_,.nil,.nil=>rfl
 | _,_,_,.cons _ _ a,.cons _ _ b=>by rw[ints_inj a b]
theorem TupI.inj{h:Heap}{a:Addr}{t u:List Int}(x:TupI h a t)(y:TupI h a u):t=u:=by
 obtain⟨o,its,n,e1,_,e2,e3⟩:=x;obtain⟨o',its',n',f1,_,f2,f3⟩:=y;rw[e1] at f1;cases f1;rw[e2] at f2;cases f2;exact ints_inj e3 f3
open Classical in
noncomputable def tOf(h:Heap)(r:Addr):List Int:=if q:∃t,TupI h r t then Classical.choose q else []
theorem tOf_eq{h:Heap}{r:Addr}{t:List Int}(x:TupI h r t):tOf h r=t:=by
 have q:∃t,TupI h r t:=⟨t,x⟩;unfold tOf;rw[dif_pos q];exact(Classical.choose_spec q).inj x
noncomputable def kf(h:Heap)(x:Keyed):List Int:=match x.1 with|.ref r=>tOf h r|_=>[]
def dup(r:Addr):Keyed:=(.ref r,.ref r)
def und(x:Keyed):Addr:=match x.2 with|.ref r=>r|_=>0
section
variable{prog:Program}{w:World}{A:Around}{E:Value->Shared->Prop}{s:Shared}
theorem lt_ok{b:Bool}:Ts.LtOk prog w A E s (tuples' b) lexO (kf s.heap) (λx=>∃r t,x=dup r/\TupI s.heap r t):=by
 rintro x y ⟨r,t,rfl,hr⟩ ⟨q,u,rfl,hq⟩ Q st hk h;rw[lt'_eq];refine wpS_bind (wpS_get ?_);rw[hk];refine wpS_bind (wpS_lift (wpAny_attempt (lt_tups hr hq ⟨rfl,?_⟩)));refine wpS_pure ?_;have e1:kf s.heap (dup r)=t:=tOf_eq hr;have e2:kf s.heap (dup q)=u:=tOf_eq hq;rw[e1,e2] at h;exact h
theorem zip_dup(rs:List Addr):((rs.map Value.ref).toArray.zip (rs.map Value.ref).toArray).toList=rs.map dup:=by
 simp only[Array.toList_zip,List.toList_toArray];rw[List.zip_map'];rfl
theorem ts_of{h:Heap}:∀{rs:List Addr}{ts:List (List Int)},Paired (λr t=>TupI h r t/\t≠[]) rs ts->ts=rs.map (tOf h)
 | _,_,.nil=>rfl
 | _,_,.cons x t=>by rw[List.map_cons,<-ts_of t,tOf_eq x.1]
theorem zip_self{f:Addr->List Int}:∀(l:List Addr),l.zip (l.map f)=l.map λr=>(r,f r)
 | []=>rfl
 | _::l=>by rw[List.map_cons,List.zip_cons_cons,zip_self l,List.map_cons]
theorem sorted_dup{h:Heap}{rs:List Addr}{ts:List (List Int)}{l:List Keyed}(hp:Paired (λr t=>TupI h r t/\t≠[]) rs ts)(pm:l.Perm (rs.map dup))(pw:l.Pairwise (Ts.Le lexO (kf h))) :
  Sorted rs ts (l.map und) ((l.map und).map (tOf h))/\l=(l.map und).map dup:=by
 have e0:∀m:List Addr,(m.map dup).map und=m:=λm=>by rw[List.map_map];exact(List.map_congr_left λ_ _=>rfl).trans (List.map_id _)
 have bk0:l=(l.map und).map dup:=by
  rw[List.map_map];refine(List.map_id _).symm.trans (List.map_congr_left λx hx=>?_);obtain⟨r,_,rfl⟩:=List.mem_map.mp (pm.mem_iff.mp hx);rfl
 have pr:(l.map und).Perm rs:=by
  have:=pm.map und
  rwa [e0] at this
 refine⟨⟨?_,by simp,?_⟩,bk0⟩
 .rw[zip_self,ts_of hp,zip_self];exact pr.map _
 .rw[List.pairwise_map];rw[bk0,List.pairwise_map] at pw;exact pw.imp λq=>q
theorem sort_treeB{a:Addr}{rs:List Addr}{ts:List (List Int)}{n:Nat}{P:PySem.Fin->Shared->Prop}(ho:s.heap.get? a=some (seqObj "list" (rs.map Value.ref).toArray n))(hb:rs.length<=1000000)
  (hp:Paired (λr t=>TupI s.heap r t/\t≠[]) rs ts) (hna:a∉rs)
  (h:∀rs' ts' h' c,Sorted rs ts rs' ts'->(∀b o,b≠a->s.heap.get? b=some o->h'.get? b=some o)->h'.get? a=some (seqObj "list" (rs'.map Value.ref).toArray c)->P (.done (.ret .none)) {s with heap:=h'}) :
  wpAny (model prog w) A (Builtin.«list.sort» ⟨[.ref a],[]⟩) P E s:=by
 have hl:rs.length=ts.length:=Paired.length hp;have hlt:a<s.heap.objs.size:=Heap.lt_size ho;rw[list_sort_plain];refine wpAny_bind (listItems_at ho rfl (wpAny_bind (listUpdate_at ho rfl ?_ (by rw[List.size_toArray,List.length_map,sizeLine_eq];omega) (Nat.zero_le _))));obtain⟨e1,ho1⟩:∃e1,(s.heap.update a (Obj.mapSeq λ_=>(#[]:Array Value))).get? a=some (seqObj "list" #[] e1):=⟨_,get?_update_seq ho λ_=>#[]⟩;have sb:=Heap.SameBut.update s.heap a (Obj.mapSeq λ_=>(#[]:Array Value));refine wpAny_bind (seqEpoch_at ho1 rfl (wpAny_bind (wpAny_newTuple ?_ (by rw[Array.length_toList,List.size_toArray,List.length_map,sizeLine_eq];omega))));refine wpAny_bind (wpAny_newList (wpAny_holding ?_) (Nat.zero_le _));generalize hh2:(Heap.push (Heap.push (s.heap.update a (Obj.mapSeq λ_=>(#[]:Array Value))) _) _)=h2;have old:∀b o,b≠a->s.heap.get? b=some o->h2.get? b=some o:=λb o hb e=>by
  rw[<-hh2];exact Heap.get?_push_of_some _ (Heap.get?_push_of_some _ ((sb.2 b hb).trans e))
 have ho2:h2.get? a=some (seqObj "list" #[] e1):=by
  rw[<-hh2];exact Heap.get?_push_of_some _ (Heap.get?_push_of_some _ ho1)
 have fin:∀(rs':List Addr)(ts':List (List Int)),Sorted rs ts rs' ts'->∀(out:Array Value),out=(rs'.map Value.ref).toArray →
   P (.done (.ret .none)) {s with heap:=h2.update a (Obj.mapSeq λ_=>out)}:=λrs' ts' hS out eo=>by
  subst eo;refine h rs' ts' _ _ hS (λb o hb e=>?_) (get?_update_seq ho2 λ_=>(rs'.map Value.ref).toArray);exact((Heap.SameBut.update h2 a (Obj.mapSeq λ_=>(rs'.map Value.ref).toArray)).2 b hb).trans (old b o hb e)
 have hsz:(rs.map Value.ref).toArray.size=rs.length:=by rw[List.size_toArray,List.length_map]
 dsimp only;by_cases h2':(rs.map Value.ref).toArray.size<2
 .rw [if_pos h2',if_pos h2'];refine wpAny_bind (wpAny_pure ?_);rw[StateT.run_pure];refine wpAny_bind (wpAny_pure ?_);dsimp only;have eo:(arrOf (SortSt.mk' general' ((rs.map Value.ref).toArray.zip (rs.map Value.ref).toArray) #[] 7 none)).map (λx=>x.2)=(rs.map Value.ref).toArray:=by
   show((rs.map Value.ref).toArray.zip (rs.map Value.ref).toArray).map (λx=>x.2)=_;apply Array.toList_inj.mp;simp only[Array.toList_map,Array.toList_zip,List.toList_toArray];exact List.map_snd_zip (Nat.le_refl _)
  refine wpAny_bind (seqEpoch_at ho2 rfl (wpAny_bind (listUpdate_at ho2 rfl ?_ (Nat.zero_le _) (by rw[eo,hsz,sizeLine_eq];omega))));simp only[bne_self_eq_false,Bool.false_eq_true,if_false];refine wpAny_pure (fin rs ts ⟨List.Perm.refl _,hl,?_⟩ _ eo);rw[List.pairwise_iff_getElem];intro i j hi hj hij;exfalso;omega
 .rw [if_neg h2',if_neg h2'];have hp2:Paired (λr t=>TupI h2 r t/\t≠[]) rs ts:=by
   clear fin h;have go:∀{l:List Addr}{m:List (List Int)},Paired (λr t=>TupI s.heap r t/\t≠[]) l m->(∀r∈l,r≠a)->Paired (λr t=>TupI h2 r t/\t≠[]) l m:=by
    intro l m q
    induction q with
    | nil=>intro _;exact .nil
    | cons hr _ ih=>intro hn;exact .cons ⟨hr.1.keep λo e=>old _ o (hn _ (.head _)) e,hr.2⟩ (ih λr hr'=>hn r (.tail _ hr'))
   exact go hp λr hr z=>hna (z ▸ hr)
  refine wpAny_bind (kind_tups (s:={s with heap:=h2}) (by omega) hp2 λb=>?_);have gd:∀x∈((rs.map Value.ref).toArray.zip (rs.map Value.ref).toArray).toList,∃r t,x=dup r/\TupI h2 r t:=λx hx=>by
   rw[zip_dup] at hx;obtain⟨r,hr,rfl⟩:=List.mem_map.mp hx;obtain⟨i,hi,e⟩:=List.getElem_of_mem hr;obtain⟨t,_,ht,_⟩:=pair_at (i:=i) (a:=r) hp2 (by rw[<-e];simp[hi]);exact⟨r,t,rfl,ht⟩
  have sz0:((rs.map Value.ref).toArray.zip (rs.map Value.ref).toArray).size=rs.length:=by rw[<-Array.length_toList,zip_dup,List.length_map]
  have run:wpS (model prog w) A E {s with heap:=h2} sortRuns' (λ_ st'=>failedOf st'=none/\(arrOf st').toList.Perm (rs.map dup)/\(arrOf st').toList.Pairwise (Ts.Le lexO (kf h2))) (SortSt.mk' (tuples' b) ((rs.map Value.ref).toArray.zip (rs.map Value.ref).toArray) #[] 7 none):=
   Ts.sortRuns_ok (a₀:=(rs.map Value.ref).toArray.zip (rs.map Value.ref).toArray) (lt_ok (s:={s with heap:=h2})) gd ⟨rfl,List.Perm.refl _,rfl⟩ rfl (by omega) λst' K' pw=>⟨K'.fail,by rw[<-zip_dup];exact K'.perm,pw⟩
  refine wpAny_bind (wpAny_mono run ?_ λ_ _ e=>e);rintro⟨⟨⟩,st'⟩ s' ⟨rfl,hf,pm,pw⟩;dsimp only at hf pm pw ⊢;obtain⟨hS,bk0⟩:=sorted_dup hp2 pm pw;have eo:(arrOf st').map (λx=>x.2)=(((arrOf st').toList.map und).map Value.ref).toArray:=by
   apply Array.toList_inj.mp;rw[Array.toList_map,List.toList_toArray];generalize hl2:(arrOf st').toList.map und=m at bk0 ⊢;rw[bk0,List.map_map];rfl
  refine wpAny_bind (seqEpoch_at ho2 rfl (wpAny_bind (listUpdate_at ho2 rfl ?_ (Nat.zero_le _) ?_)))
  .rw[hf];simp only[bne_self_eq_false,Bool.false_eq_true,if_false];exact wpAny_pure (fin _ _ hS _ eo)
  .show((arrOf st').map (λx=>x.2)).size<=_;have:=pm.length_eq;rw[List.length_map,Array.length_toList] at this;rw[Array.size_map,this,sizeLine_eq];omega
end
end Sx
namespace L2
open PySem PySem.Spec PyProof.Rows
section
variable{X:Cx}{pins:List (Addr×Obj)}{σ:St}{H:Hp}{s:Shared}
theorem sort_newB{A:Around}{E:Value->Shared->Prop}{Q:Value->Shared->Prop}{rs:List Addr}{ts:List (List Int)}{h1:Heap}{tk:Nat}(I:Inv X pins σ H s)(k1:∀b o,s.heap.get? b=some o->h1.get? b=some o)
  (hp:TupsH H rs ts) (h64:rs.length<=1000000) (h:∀rs' ts' s' p,Sx.Sorted rs ts rs' ts'->H p=none->Inv X pins σ (upd H p (.lst (rs'.map V.ref))) s'->Q (.ref p) s') :
  wpAny (model X.prog X.w) A (newList (rs.map Value.ref)) (λl s'=>wpAny (model X.prog X.w) A (call (.builtin "list.sort") [l]) (λ_ s''=>Q l s'') E s') E {s with heap:=h1,toks:=tk}:=by
 have I1:Inv X pins σ H {s with heap:=h1,toks:=tk}:=I.kept k1;refine wpAny_newList ?_ (by rw[List.length_map,sizeLine_eq];omega);have ho:(h1.push {cls:=.type "list",data:=.seq (rs.map Value.ref).toArray}).get? h1.objs.size=some (seqObj "list" (rs.map Value.ref).toArray 0):=Heap.get?_push_size _ rfl;have hfr:H h1.objs.size=none:=I1.hok.fresh (Nat.le_refl _);have hne:h1.objs.size∉rs:=λhm=>by
  obtain⟨i,hi,e⟩:=List.getElem_of_mem hm;obtain⟨t,_,q,_⟩:=Sx.pair_at (i:=i) (a:=h1.objs.size) hp (by rw[<-e];simp[hi]);rw[hfr] at q;cases q
 have I2:Inv X pins σ H {s with heap:=h1.push {cls:=.type "list",data:=.seq (rs.map Value.ref).toArray},toks:=tk}:=I1.kept λb o e=>Heap.get?_push_of_some _ e;refine wpAny_call_entry slot_list_sort ⟨_,ho,rfl⟩ entry_list_sort (Sx.sort_treeB (s:={s with heap:=h1.push {cls:=.type "list",data:=.seq (rs.map Value.ref).toArray},toks:=tk}) ho h64 (I2.tupsI hp) hne λrs' ts' h' c hS hk hl=>⟨_,rfl,?_⟩) (args_list_sort _);refine h rs' ts' _ h1.objs.size hS hfr (I1.laid (a:=h1.objs.size) (λb o e=>hk b o (Nat.ne_of_lt (Heap.lt_size e)) (Heap.get?_push_of_some _ e)) (Nat.le_refl _) ?_);have hlen:rs'.length=rs.length:=by
  have e:=hS.perm.length_eq;have e2:=hS.len;have e3:=Paired.length hp;simp only[List.length_zip] at e;omega
 exact⟨by rw[List.length_map,sizeLine_eq];omega,rs'.map Value.ref,c,vals_refs rs',hl⟩
end
section
variable{X:Cx}
theorem call_sortedLB:CallR X (.builtin "sorted") (λxs H Q=>∃a rs ts,xs=[.ref a]/\SqL X.K H a (rs.map V.ref)/\rs.length<=1000000/\TupsH H rs ts ∧
  ∀rs' ts' p,Sx.Sorted rs ts rs' ts'->H p=none->Q (.ref p) (upd H p (.lst (rs'.map V.ref)))):=by
 intro pins s σ H xs us Q I r h;obtain⟨a,rs,ts,rfl,hq,h64,hp,q⟩:=h;obtain⟨u,rfl,ru⟩:=vals1 r;cases ru;obtain⟨its,rv,pl,hz⟩:=I.list hq;have ei:=refs_of rv;subst ei;refine Calls.call_function_entry kind_sorted plain_sorted entry_sorted (args_sorted1 _) ?_;unfold Builtin.«sorted»;refine wpAny_bind (m:=checkCount "sorted" 1 1 _) (wpAny_pure (wpAny_bind (collect_list pl.isList ?_ (by rw[List.length_map,sizeLine_eq];omega))));have fin:=sort_newB (A:=X.A.in1) (E:=X.xe) (Q:=λv s'=>EP X pins σ Q v s') (h1:=(s.heap.push (seqObj "list" #[] 0)).update s.heap.objs.size (Obj.mapSeq (·++(rs.map Value.ref).toArray))) (tk:=s.toks) I (λb o e=>
  ((Heap.SameBut.update _ _ _).2 b (Nat.ne_of_lt (Heap.lt_size e))).trans (Heap.get?_push_of_some _ e)) hp h64 λrs' ts' s' p hS hf I'=>⟨.ref p,_,I',rfl,q rs' ts' p hS hf⟩
 refine wpAny_bind (wpAny_mono fin (λl s' hl=>wpAny_bind (wpAny_holding (wpAny_mono hl (λ_ s'' hq'=>wpAny_pure ⟨_,rfl,hq'⟩) λ_ _ e=>e))) λ_ _ e=>e)
theorem call_sortedDB(hc:X.calm=true):CallR X (.builtin "sorted") (λxs H Q=>∃a kvs ts,xs=[.ref a]/\H a=some (.dT kvs)/\kvs.map (·.1)=ts.map (·.map Sum.inl)/\(∀t∈ts,t≠[])/\kvs.length<=1000000 ∧
  ∀rs rs' ts' p,TupsH H rs ts->Sx.Sorted rs ts rs' ts'->H p=none->Q (.ref p) (upd H p (.lst (rs'.map V.ref)))):=by
 intro pins s σ H xs us Q I r h;obtain⟨a,kvs,ts,rfl,ha,hk,hne,h64,q⟩:=h;obtain⟨u,rfl,ru⟩:=vals1 r;cases ru;obtain⟨z,lo,xs,rel,o,es,ep,e1,e2,e3,e4,_⟩:=(show ObjOk X.prog X.w H s.heap a (.dT kvs) from I.hok a _ ha);have hT:∀{l:List (List Key×V)}{m:List (List Key×Addr×Value)}{ts:List (List Int)},KT H l m->l.map (·.1)=ts.map (·.map Sum.inl)->(∀t∈ts,t≠[])->TupsH H (m.map (·.2.1)) ts:=by
  intro l m ts q
  induction q generalizing ts with
  | nil=>
   intro e _;cases ts with
   | nil=>exact .nil
   | cons t ts=>simp at e
  | @cons p q' ps qs hq t ih=>
   intro e hn;cases ts with
   | nil=>simp at e
   | cons t0 ts=>
    rw[List.map_cons,List.map_cons] at e;injection e with ea eb
    refine .cons ⟨?_,hn t0 (.head _)⟩ (ih eb λt ht=>hn t (.tail _ ht));have:=hq.2.1;rw[ea,List.map_map] at this;exact this
 have hp:TupsH H (xs.map (·.2.1)) ts:=hT rel hk hne;have hl1:xs.length=kvs.length:=(Paired.length rel).symm;have hsz:es.size=xs.length:=by rw[<-Array.length_toList,e4,List.length_map]
 refine Calls.call_function_entry kind_sorted plain_sorted entry_sorted (args_sorted1 _) ?_;unfold Builtin.«sorted»;refine wpAny_bind (m:=checkCount "sorted" 1 1 _) (wpAny_pure (wpAny_bind (PySem.W.kdu_collect (A:=X.A.in1) (Sx.src_dictE lo) (I.ok.hd hc) ⟨o,e1,e2,e3⟩ (by rw[hsz,hl1];exact z) λh' tk acc hkp hacc=>?_)));have ea:acc.toList=(xs.map (·.2.1)).map Value.ref:=by
  have ha':acc.size=es.size:=hacc.1;apply List.ext_getElem?;intro j;rw[Array.getElem?_toList,List.map_map,List.getElem?_map];cases ej:acc[j]? with
  | none=>
   have:acc.size<=j:=by simpa using ej
   rw[List.getElem?_eq_none (by omega)];rfl
  | some v=>
   obtain⟨en,h1,rfl⟩:=hacc.2 j v ej;have h2:es.toList[j]?=some en:=by rw[Array.getElem?_toList];exact h1
   rw[e4,List.getElem?_map] at h2;cases ex:xs[j]? with
   | none=>rw[ex] at h2;cases h2
   | some x=>rw[ex] at h2;cases h2;rfl
 have fin:=sort_newB (A:=X.A.in1) (E:=X.xe) (Q:=λv s'=>EP X pins σ Q v s') (h1:=h') (tk:=tk) I hkp hp (by rw[List.length_map];omega) λrs' ts' s' p hS hf I'=>⟨.ref p,_,I',rfl,q _ rs' ts' p hp hS hf⟩;rw[ea];refine wpAny_bind (wpAny_mono fin (λl s' hl=>wpAny_bind (wpAny_holding (wpAny_mono hl (λ_ s'' hq'=>wpAny_pure ⟨_,rfl,hq'⟩) λ_ _ e=>e))) λ_ _ e=>e)
end
end L2
namespace Rv
open PySem PySem.W PyProof.Rows
abbrev RIT:String:="list_reverseiterator"
theorem slot_next:Slot RIT "__next__" "list_reverseiterator.__next__":=.of (owner:=RIT) (n:="__next__") (by rw[typeLookup_type,builtinLookup_eq_fast];kernel_rfl) (by decide +kernel) (by decide +kernel) (by decide +kernel) (by first|exact .inl (by decide +kernel)|exact .inr (by decide +kernel)) (by rw[isSubtype_type];kernel_rfl)
theorem slot_iter:Slot RIT "__iter__" "list_reverseiterator.__iter__":=.of (owner:=RIT) (n:="__iter__") (by rw[typeLookup_type,builtinLookup_eq_fast];kernel_rfl) (by decide +kernel) (by decide +kernel) (by decide +kernel) (by first|exact .inl (by decide +kernel)|exact .inr (by decide +kernel)) (by rw[isSubtype_type];kernel_rfl)
theorem slot_hint:Slot RIT "__length_hint__" "list_reverseiterator.__length_hint__":=.of (owner:=RIT) (n:="__length_hint__") (by rw[typeLookup_type,builtinLookup_eq_fast];kernel_rfl) (by decide +kernel) (by decide +kernel) (by decide +kernel) (by first|exact .inl (by decide +kernel)|exact .inr (by decide +kernel)) (by rw[isSubtype_type];kernel_rfl)
theorem no_len:typeLookup (.type RIT) "__len__"=pure none:=by rw[typeLookup_type,builtinLookup_eq_fast];kernel_rfl
theorem entry_next:entryFor table "list_reverseiterator.__next__"=some Builtin.«list_reverseiterator.__next__»:=entryFor_of_tree (by kernel_rfl)
theorem entry_iter:entryFor table "list_reverseiterator.__iter__"=some Builtin.«dict_keyiterator.__iter__»:=entryFor_alias (id':="dict_keyiterator.__iter__") (by kernel_rfl) (by first|rfl|decide +kernel|(unfold String.splitOn;simp +decide [String.splitOnAux])) (by decide +kernel) (by kernel_rfl)
theorem owner_rit:Manifest.owners.lookup (String.ofList ['r','o','t','a','r','e','t','i','e','s','r','e','v','e','r','_','t','s','i','l'].reverse)=some Manifest.sig_list_reverseiterator:=by kernel_rfl
theorem args_next(a:Value):argsOk "list_reverseiterator.__next__" ⟨[a],[]⟩:=by
 unfold argsOk;rw[signature?_of (id:="list_reverseiterator.__next__") (n:=['_','_','t','x','e','n','_','_']) (o:=['r','o','t','a','r','e','t','i','e','s','r','e','v','e','r','_','t','s','i','l']) (by kernel_rfl) owner_rit];kernel_rfl
theorem args_iter(a:Value):argsOk "list_reverseiterator.__iter__" ⟨[a],[]⟩:=by
 unfold argsOk;rw[signature?_of (id:="list_reverseiterator.__iter__") (n:=['_','_','r','e','t','i','_','_']) (o:=['r','o','t','a','r','e','t','i','e','s','r','e','v','e','r','_','t','s','i','l']) (by kernel_rfl) owner_rit];kernel_rfl
def IsRit(h:Heap)(it l:Addr)(k:Int):Prop:=∃(o:Obj)(t:Tok),h.get? it=some o/\o.cls=.type RIT/\o.data=.fields #[.ref l,.int (k-1) t]
section
variable{prog:Program}{w:World}{A:Around}{E:Value->Shared->Prop}{s:Shared}{it l:Addr}{k:Int}{xs:Array Value}
theorem IsRit.ty(h:IsRit s.heap it l k):s.TypeIs (.ref it) RIT:=let ⟨o,_,e,c,_⟩:=h;⟨o,e,c⟩
theorem IsRit.at{h h':Heap}(x:IsRit h it l k)(q:∀o,h.get? it=some o->h'.get? it=some o):IsRit h' it l k:=let ⟨o,t,e,r⟩:=x;⟨o,t,q o e,r⟩
theorem next_item{i:Nat}{x:Value}{Q:Option Value->Shared->Prop}(hi:IsRit s.heap it l ((i:Int)+1))(hl:s.heap.IsList l xs)(hx:xs[i]?=some x)
  (hQ:∀h',IsRit h' it l i->Heap.SameBut it s.heap h'->Q (some x) {s with heap:=h'}):wpAny (model prog w) A (pyNext (.ref it)) Q E s:=by
 obtain⟨o,t,ho,hc,hd⟩:=id hi;obtain⟨ol,hol,_,nl,hdl⟩:=hl;rw[show(i:Int)+1-1=(i:Int) by omega] at hd;unfold pyNext;refine wpAny_bind (wpAny_attempt (wpAny_callSpecial?_slot (name:=Str.ofString "__next__") hi.ty slot_next (wpAny_call_entry slot_next hi.ty entry_next ?_ (args_next _))));show wpAny _ _ (field (.ref it) 1 >>= _) _ _ s;refine wpAny_bind (wpAny_field ho hd (x:=.int i t) rfl ?_);show wpAny _ _ (if (i:Int)<0 then _ else _) _ _ s;rw[if_neg (show ¬((i:Int)<0) by omega)];show wpAny _ _ (field (.ref it) 0 >>= _) _ _ s;refine wpAny_bind (wpAny_field ho hd (x:=.ref l) rfl ?_);show wpAny _ _ (seqItems? (.ref l) >>= _) _ _ s;refine wpAny_bind (wpAny_seqItems hol hdl ?_);simp only[Int.toNat_natCast,hx];refine wpAny_bind (wpAny_setField ho hd (by simp) (wpAny_pure ⟨x,rfl,wpAny_pure (hQ _ ⟨_,0,Heap.get?_update_self _ ho (Obj.isFreed_of_fields (Obj.data_mapFields hd _)),(Obj.cls_mapFields ..).trans hc,?_⟩ (Heap.SameBut.update ..))⟩));rw[Obj.data_mapFields hd];simp[rawInt]
theorem next_end{Q:Option Value->Shared->Prop}(hh:A.handled=none)(hi:IsRit s.heap it l 0)
  (hQ:∀h',(∀b o,s.heap.get? b=some o->h'.get? b=some o)->Q none {s with heap:=h'}):wpAny (model prog w) A (pyNext (.ref it)) Q E s:=by
 obtain⟨o,t,ho,hc,hd⟩:=id hi;unfold pyNext;refine wpAny_bind (wpAny_attempt (wpAny_callSpecial?_slot (name:=Str.ofString "__next__") hi.ty slot_next (wpAny_call_entry slot_next hi.ty entry_next ?_ (args_next _))));show wpAny _ _ (field (.ref it) 1 >>= _) _ _ s;refine wpAny_bind (wpAny_field ho hd (x:=.int (0-1) t) rfl ?_);show wpAny _ _ (if ((0:Int)-1)<0 then _ else _) _ _ s;rw[if_pos (by decide)];refine wpAny_bind (wpAny_rule (wpAny_bind ?_));show wpAny _ _ (newExc (.type "StopIteration") [] >>= _) _ _ _;refine wpAny_bind ?_;simp only[newExc,newTuple];refine wpAny_bind (wpAny_newObj_type ?_ (by size_fits));refine wpAny_bind (m:=firstArgMember _ _) (wpAny_of_eq (a:=Value.none) (by first|rfl|(simp only[firstArgMember];rfl)) ?_);refine wpAny_newObj_type ?_ (by size_fits);simp only[raiseNew];refine wpAny_bind (wpAny_handled ?_);rw[show A.in1.handled=none from hh];refine wpAny_bind (wpAny_pure (wpAny_throw ?_));refine wpAny_bind (wpAny_isInstance (T:="StopIteration") (b:=true) ⟨_,Heap.get?_push_size _ rfl,rfl⟩ isSubtype_stop ?_);exact wpAny_pure (hQ _ λb o e=>Heap.get?_push_of_some _ (Heap.get?_push_of_some _ e))
theorem iter_self{Q:Value->Shared->Prop}(hi:IsRit s.heap it l k)(h:Q (.ref it) s):wpAny (model prog w) A (pyIter (.ref it)) Q E s:=by
 refine wpAny_pyIter_slot hi.ty slot_iter (wpAny_call_entry slot_iter hi.ty entry_iter ?_ (args_iter _));show wpAny _ _ (ret (.ref it)) _ _ s;exact wpAny_pure ⟨_,rfl,RIT,_,hi.ty,slot_next.lookup,h⟩
theorem walks(hh:A.handled=none)(hne:l≠it)(n:Nat)(hn:n=xs.size) :
  Walks prog w A it [it,l] [it] n (λi v=>xs[n-1-i]?=some v) (λi h=>IsRit h it l ((n:Int)-i)/\h.IsList l xs) where
 sub:=λb hb=>by simp at hb;simp[hb]
 frame:=λ_ _ _ st q=>⟨st.1.at λo e=>q it (by simp) o e,st.2.at λo e=>q l (by simp) o e⟩
 item:=λi s Q E hi st hQ=>by
  obtain⟨st1,st2⟩:=st;have e:(n:Int)-(i:Nat)=((n-1-i:Nat):Int)+1:=by omega
  rw[e] at st1;refine next_item (i:=n-1-i) (x:=xs[n-1-i]'(by omega)) st1 st2 (by simp) λh' r sb=>hQ _ h' s.toks (by simp) ⟨?_,st2.at λo e=>sb.extBut l o hne e⟩ λb o hb e=>sb.extBut b o (λz=>hb (by simp[z])) e;rw[show(n:Int)-((i+1:Nat):Int)=((n-1-i:Nat):Int) by omega];exact r
 done:=λs Q E st hQ=>by
  have r:=st.1;rw[show(n:Int)-(n:Nat)=0 by omega] at r;exact next_end hh r λh' q=>hQ h' s.toks λb o _ e=>q b o e
 self:=λ_ _ _ _ st hQ=>iter_self st.1 hQ
theorem hint{Q:Bool->Shared->Prop}(hT:s.TypeIs (.ref it) RIT)(h:Q false s):wpAny (model prog w) A (Builtin.List.listLengthHint (.ref it)) Q E s:=by
 unfold Builtin.List.listLengthHint;refine wpAny_bind (wpAny_specialOf hT no_len ?_);show wpAny _ A (specialOf (Value.ref it) (Str.ofString "__length_hint__") >>= _) _ _ _;refine wpAny_bind (wpAny_specialOf hT slot_hint.lookup ?_);generalize hid:("list_reverseiterator.__length_hint__":String)=id0
 wp_delta
 rw[show splitId id0=some (RIT,"__length_hint__") from by subst hid;decide +kernel];subst hid;refine wpAny_bind (wpAny_isInstance (T:=RIT) (b:=true) hT (by rw[isSubtype_type];kernel_rfl) ?_);refine wpAny_ite_split (λhab=>absurd hab (by decide)) (λ_=>?_);refine wpAny_ite_split (λ_=>?_) (λhab=>absurd (by decide +kernel) hab);refine wpAny_ite_split (λhab=>absurd hab (by decide +kernel)) (λ_=>?_);exact wpAny_pure h
end
theorem mro_rev:mroOf (.type "reversed")=pure [.type "reversed",.type "object"]:=by rw[mroOf_type];kernel_rfl
theorem lookup_rev:typeLookup (.type "reversed") "__new__"=pure (some (.builtin "reversed.__new__")):=by rw[typeLookup_type,builtinLookup_eq_fast];kernel_rfl
theorem slot_rinit:Slot "reversed" "__init__" "object.__init__":=.of (owner:="object") (n:="__init__") (by rw[typeLookup_type,builtinLookup_eq_fast];kernel_rfl) (by decide +kernel) (by decide +kernel) (by decide +kernel) (by first|exact .inl (by decide +kernel)|exact .inr (by decide +kernel)) (by rw[isSubtype_type];kernel_rfl)
theorem called_rev:TypeCalled "reversed" "reversed.__new__" "object.__init__":=⟨by decide +kernel,by decide +kernel,⟨_,_,mro_rev⟩,madeBy_type mro_rev lookup_rev (by decide +kernel),by decide +kernel,by rw[isSubtype_type];kernel_rfl,slot_rinit⟩
theorem tcall_rev(a:Value):checkTypeCall "reversed" ⟨[a],[]⟩=pure ():=by kernel_rfl
theorem ncall_rev(a:Value):checkBuiltinCall "reversed.__new__" ⟨[.type "reversed",a],[]⟩=pure ():=by kernel_rfl
theorem entry_rev:entryFor table "reversed.__new__"=some Builtin.«reversed.__new__»:=entryFor_of_tree (by kernel_rfl)
theorem sub_rit:isSubtype (.type RIT) (.type "reversed")=pure false:=by rw[isSubtype_type];kernel_rfl
theorem sub_rev:isSubtype (.type "reversed") (.type "reversed")=pure true:=by rw[isSubtype_type];kernel_rfl
section
variable{prog:Program}{w:World}{A:Around}{E:Value->Shared->Prop}{s:Shared}
theorem callType_away{T newId initId T2:String}{Bn:Builtin}{args:List Value}{S:PySem.Spec}{Q:Value->Shared->Prop}(ft:TypeCalled T newId initId)(hct:checkTypeCall T ⟨args,[]⟩=pure ())(hcn:checkBuiltinCall newId ⟨.type T::args,[]⟩=pure ())
  (entryN:entryFor table newId=some Bn) (g:Meets (Bn ⟨.type T::args,[]⟩) S) (sub:isSubtype (.type T2) (.type T)=pure false) (h:S A.in1 (wants (λobj s₁=>s₁.TypeIs obj T2/\Q obj s₁) E) s):wpAny (model prog w) A (call (.type T) args) Q E s:=by
 obtain⟨c,tl,hmro⟩:=ft.mro;have f1:=ft.made;have f2:=ft.notType;have f3:=ft.canCreate;refine wpAny_call (codeAny_of_tree ?_);show wpAny _ _ (callAny (.type T) _) _ _ _;refine wpAny_pure ⟨Code.quiet_builtin _ (by decide +kernel),codeAny_builtin F.entry_type_call ?_⟩;rw[Around.under_plain (weight_type_call_type T args []) (units_type_call_type T args [])]
 repeat (any_goals (first|assumption|wp_step))
 refine codeAny_mono (codeAny_call_builtin ft.plain entryN (wpAny_of_eq hcn (g prog w A.in1 _ s h))) λr s₁ hr=>?_;cases r with
 | error e=>exact hr
 | ok fl=>
  cases fl with
  | ret obj=>
   obtain⟨hT,hq⟩:=hr
   repeat (any_goals (first|assumption|wp_step))
  | _=>exact hr.elim
theorem meets_lrev(l:Addr)(xs:Array Value) :
  Meets (Builtin.«list.__reversed__» ⟨[.ref l],[]⟩) (λ_ R s=>s.heap.IsList l xs/\R (.ok (.ret (.ref s.heap.objs.size))) {s with heap:=s.heap.push {cls:=.type RIT,data:=.fields #[.ref l,.int ((xs.size:Int)-1) 0]}}):=
 .of_wp λprog w A R s h=>by
  obtain⟨hp,g,d,tk,os⟩:=s;obtain⟨⟨⟨cls,dd,data,sl⟩,ho,hc,n,hd⟩,h⟩:=h;simp only at hc hd;subst hc hd
  wp_walk
  exact⟨_,rfl,h⟩
theorem meets_rev(l:Addr)(xs:Array Value) :
  Meets (Builtin.«reversed.__new__» ⟨[.type "reversed",.ref l],[]⟩) (λ_ R s=>s.heap.IsList l xs/\R (.ok (.ret (.ref s.heap.objs.size))) {s with heap:=s.heap.push {cls:=.type RIT,data:=.fields #[.ref l,.int ((xs.size:Int)-1) 0]}}):=
 .of_wp λprog w A R s h=>by
  obtain⟨hp,g,d,tk,os⟩:=s;obtain⟨hl,h⟩:=h;have hL:Heap.IsList (Shared.heap ⟨hp,g,d,tk,os⟩) l xs:=hl;have hsub:=sub_rev;have hT:Shared.TypeIs ⟨hp,g,d,tk,os⟩ (.ref l) "list":=by obtain⟨o,e,c,_⟩:=hL;exact⟨o,e,c⟩
  have hb:=F.slot_list_reversed.bind (.ref l)
  wp_walk using wpAny_specialOf hT F.slot_list_reversed.lookup
  have step:codeAny (model prog w) A.in1 (Code.call (.builtin "list.__reversed__") ⟨[.ref l],[]⟩) (λr s'=>r=.ok (.ret (.ref hp.objs.size))/\R r s') ⟨hp,g,d,tk,os⟩:=
   codeAny_call_builtin F.slot_list_reversed.plain F.entry_list_reversed (F.slot_list_reversed.check _ _ _ _ _ _ _ _ hT (F.args_list_reversed_1 _) (meets_lrev l xs prog w A.in1 (λr s'=>r=.ok (.ret (.ref hp.objs.size))/\R r s') _ ⟨hl,rfl,h⟩))
  refine codeAny_mono step λr s2 hr=>?_;obtain⟨rfl,hq⟩:=hr;exact wpAny_pure ⟨_,rfl,hq⟩
theorem call_rev{l:Addr}{xs:Array Value}{Q:Value->Shared->Prop}(hl:s.heap.IsList l xs)(h:Q (.ref s.heap.objs.size) {s with heap:=s.heap.push {cls:=.type RIT,data:=.fields #[.ref l,.int ((xs.size:Int)-1) 0]}}):wpAny (model prog w) A (call (.type "reversed") [.ref l]) Q E s:=
 callType_away called_rev (tcall_rev _) (ncall_rev _) entry_rev (meets_rev l xs) sub_rit ⟨hl,⟨_,Heap.get?_push_size _ rfl,rfl⟩,h⟩
theorem extend_it{it l S:Addr}{xs:Array Value}{c₀:Nat}{R:Result->Shared->Prop}(hh:A.handled=none)(hi:IsRit s.heap it l xs.size)(hl:s.heap.IsList l xs)(n1:l≠it)(n2:S≠it)(n3:S≠l)(hn:xs.size<=sizeLine)
  (hS:s.heap.get? S=some {cls:=.type "list",data:=.seq #[] c₀})
  (hR:∀h' tk acc' c',(∀b o,b≠S->b≠it->s.heap.get? b=some o->h'.get? b=some o)->h'.get? S=some {cls:=.type "list",dict:=none,data:=.seq acc' c',slots:=#[]}->ItemsOf (λi v=>xs[xs.size-1-i]?=some v) acc' xs.size->R (.ok (.ret .none)) {s with heap:=h',toks:=tk}) :
  wpAny (model prog w) A.in1 (Builtin.List.listExtendWith (.ref S) (.ref it) .none)
   (λfin s'=>match fin with|.done f=>R (.ok f) s' | .again c'=>c'.quiet=true/\codeAny (model prog w) A c' R s') (λe s'=>R (.error e) s') s:=by
 have W:=walks (prog:=prog) (w:=w) (A:=A.in1) (xs:=xs) hh n1 xs.size rfl;have hf:S∉[it,l]:=by simp[n2,n3]
 unfold Builtin.List.listExtendWith;refine wpAny_bind (wpAny_typeOf hi.ty ?_);obtain⟨d1,d2,d3⟩:Builtin.List.listSameRef (.ref S) (.ref it)=false/\(Value.type RIT==Value.type "list")=false/\(Value.type RIT==Value.type "tuple")=false:=⟨by simp[Builtin.List.listSameRef,n2],by decide,by decide⟩;simp only[d1,d2,d3,Bool.or_false,Bool.false_eq_true,if_false];refine wpAny_bind (iter_self hi (wpAny_bind (wpAny_holding (hint hi.ty ?_))));refine wpAny_ite_split (λz=>absurd z (by decide)) (λ_=>wpAny_pure ⟨plainId_quiet PySem.F.plain_extend_loop _,?_⟩);refine codeAny_extend_loopS W.toS hn S hf .none xs.size 0 s #[] c₀ rfl (Nat.zero_le _) ⟨by simpa using hi,hl⟩ hS (ItemsOf.nil _) λs' acc' c' hm e' ha=>?_;rw[Moved.eq_with hm];exact hR s'.heap s'.toks acc' c' (λb o q1 q2 e=>hm.heap b o (by simp[q1,q2]) e) e' ha
theorem list_it{it l:Addr}{xs:Array Value}{Q:Value->Shared->Prop}(hh:A.handled=none)(hi:IsRit s.heap it l xs.size)(hl:s.heap.IsList l xs)(n1:l≠it)(hn:xs.size<=sizeLine)
  (hQ:∀h' tk acc' c',(∀b o,b≠it->s.heap.get? b=some o->h'.get? b=some o)->h'.get? s.heap.objs.size=some {cls:=.type "list",dict:=none,data:=.seq acc' c',slots:=#[]}->ItemsOf (λi v=>xs[xs.size-1-i]?=some v) acc' xs.size->Q (.ref s.heap.objs.size) {s with heap:=h',toks:=tk}) :
  wpAny (model prog w) A (call (.type "list") [.ref it]) Q E s:=by
 refine callType_codes (Q₁:=λobj z=>obj=.ref s.heap.objs.size/\z={s with heap:=s.heap.push {cls:=.type "list",data:=.seq #[]}}) PySem.F.called_list (PySem.F.typeCall_list_1 _) PySem.F.entry_list_init (code_list_new _ ⟨rfl,rfl⟩) λobj z hz=>?_;obtain⟨rfl,rfl⟩:=hz;have up:∀b o,s.heap.get? b=some o->(s.heap.push {cls:=.type "list",data:=.seq #[]}).get? b=some o:=λb o e=>Heap.get?_push_of_some _ e;have nS:∀{b:Addr}{o:Obj},s.heap.get? b=some o->b≠s.heap.objs.size:=λe=>Nat.ne_of_lt (Heap.lt_size e);obtain⟨oi,_,ei,_⟩:=id hi;obtain⟨ol,el,_⟩:=id hl;have hS:(s.heap.push {cls:=.type "list",data:=.seq #[]}).get? s.heap.objs.size=some {cls:=.type "list",data:=.seq #[]}:=Heap.get?_push_size _ rfl;refine⟨⟨_,hS,rfl⟩,PySem.F.args_list_init_2 _ _,?_⟩;show wpAny _ _ (Builtin.List.listItems (.ref s.heap.objs.size) >>= λold=>Builtin.List.listUpdate (.ref s.heap.objs.size) (λ_=>#[]) >>= λ_=>letGo old.toList.reverse >>= λ_=>Builtin.List.listExtendWith (.ref s.heap.objs.size) (.ref it) .none) _ _ _;unfold Builtin.List.listItems;refine wpAny_bind (wpAny_bind (wpAny_seqItems hS rfl (wpAny_pure ?_)));show wpAny _ _ (updateSeq s.heap.objs.size (λ_=>#[]) >>= _) _ _ _;refine wpAny_bind (wpAny_updateSeq hS rfl (wpAny_bind (wpAny_letGo ?_)));have hS2:=Heap.get?_update_self (Obj.mapSeq (λ_=>(#[]:Array Value))) hS rfl;have k2:∀b o,s.heap.get? b=some o->((s.heap.push {cls:=.type "list",data:=.seq #[]}).update s.heap.objs.size (Obj.mapSeq (λ_=>(#[]:Array Value)))).get? b=some o:=λb o e=>(Heap.get?_update_other _ _ (Ne.symm (nS e))).trans (up b o e);refine extend_it (A:=A.in1) (c₀:=_) hh (hi.at λo e=>k2 _ o e) (hl.at λo e=>k2 _ o e) n1 (Ne.symm (nS ei)) (Ne.symm (nS el)) hn hS2 λh' tk acc' c' q e ha=>⟨rfl,hQ h' tk acc' c' (λb o nb e=>q b o (nS e) nb (k2 b o e)) e ha⟩
end
end Rv
namespace L2
open PySem PySem.Spec PyProof.Rows
def Itz(K:W.Frag)(a b:Addr):It:=
  ⟨λi H=>∃xs ys x y,SqL K H a xs/\SqL K H b ys/\xs[i]?=some x/\ys[i]?=some y,
   λi H x H'=>∃t u v,x=.ref t/\H t=none/\H'=upd H t (.tup [u,v])/\∀xs ys,SqL K H a xs->SqL K H b ys->xs[i]?=some u/\ys[i]?=some v,
   λi H=>∃xs ys,SqL K H a xs/\SqL K H b ys/\(xs.length<=i\/ys.length<=i)⟩
section
variable{X:Cx}{pins:List (Addr×Obj)}{σ:St}{H H':Hp}{s:Shared}{h':Heap}
theorem Inv.turnedL{t':Nat}{ch:List Addr}(I:Inv X pins σ H s)(k:∀b o,b∉ch->s.heap.get? b=some o->h'.get? b=some o)(f:∀b∈ch,FpOk X pins H b)
  (old:∀b u,H b=some u->H' b=some u) (free:∀b o,b∉ch->s.heap.get? b=some o->H b=none->H' b=none) (new:∀b u,H' b=some u->H b=none->ObjOk X.prog X.w H' h' b u):Inv X pins σ H' {s with heap:=h',toks:=t'}:=by
 have out:∀b u,H b=some u->b∉ch:=λb u e z=>by rw[(f b z).1] at e;cases e
 refine I.step (g':=s.gens) (d':=s.drawn) (ch:=ch) (λb hb=>?_) (λb o _ _ hc e _=>k b o hc e) (λb o _ _ hc e _=>⟨o.slots,k b o hc e⟩) free
  (λb o hc e=>⟨o,k b o hc e⟩) (λ_ _ e=>old _ _ e) (λ_ _ _ e=>old _ _ e) (λb ps e=>⟨#[],by rw[old _ _ e];simp⟩) (λm hm=>?_) (λb u e=>?_) I.bare
 .obtain⟨_,g1,_,g3,g4,g5⟩:=f b hb;exact⟨g3,g1,g4,g5⟩
 .obtain⟨o,es,ep,ho,r⟩:=hm;exact⟨o,es,ep,k _ o (λz=>(f _ z).2.1 rfl) ho,r⟩
 .cases q:H b with
  | none=>exact new b u e q
  | some v=>
   have:=old b v q;rw[e] at this;cases this;refine(I.hok b u q).stay (λc o hc w=>k c o ?_ w) (λ_ w=>old _ _ w) λ_ _ w=>old _ _ w;rcases hc with z|z
   .rw[z];exact out b u q
   .exact out c _ z
end
theorem turn_zip{P:Program}{w:World}{K:W.Frag}{elts:List Expr}{x1}{pos:Pos}{z TI TO i1 i2 a b:Addr}(D:ZipApart z TI TO i1 i2 a b) :
  Turn P w K (.Tuple elts x1 pos) (Itz K a b) [z,TI,TO,i1,i2] z (λi h=>IsZip h z TI TO .none/\IsPair h TI (.ref i1) (.ref i2)/\(∃u v,IsPair h TO u v)/\h.IsListIter i1 a i/\h.IsListIter i2 b i) where
 mem:=by simp
 obj:=λi h st c hc=>by
  obtain⟨s1,s2,⟨u,v,s3⟩,⟨o4,e4,_,d4⟩,⟨o5,e5,_,d5⟩⟩:=st;simp only[List.mem_cons,List.not_mem_nil,or_false] at hc;rcases hc with rfl|rfl|rfl|rfl|rfl
  .exact⟨_,s1,λv q=>by cases(show Data.fields _=Data.cell v from q)⟩
  .exact⟨_,s2,λv q=>by cases(show Data.seq _ _=Data.cell v from q)⟩
  .exact⟨_,s3,λv q=>by cases(show Data.seq _ _=Data.cell v from q)⟩
  .exact⟨o4,e4,λv q=>by rw[d4] at q;cases q⟩
  .exact⟨o5,e5,λv q=>by rw[d5] at q;cases q⟩
 keep:=λi h h' st k=>by
  obtain⟨s1,s2,⟨u,v,s3⟩,s4,s5⟩:=st;exact⟨k z (by simp) _ s1,k TI (by simp) _ s2,⟨u,v,k TO (by simp) _ s3⟩,s4.at λo e=>k i1 (by simp) o e,s5.at λo e=>k i2 (by simp) o e⟩
 item:=by
  intro X hP hw hK hc i pins s σ H E I hf st hg;subst hP hw hK;obtain⟨s1,s2,⟨u,v,s3⟩,s4,s5⟩:=st;obtain⟨xs,ys,x,y,hx,hy,ex,ey⟩:=hg;obtain⟨ia,ra,pa,za⟩:=I.list hx;obtain⟨ib,rb,pb,zb⟩:=I.list hy;obtain⟨vx,evx,rx⟩:=Vals.get ra ex;obtain⟨vy,evy,ry⟩:=Vals.get rb ey;refine wpAny_pyNext_zip_item D s1 s2 s3 s4 s5 pa.isList pb.isList (x:=vx) (y:=vy) (by simpa using evx) (by simpa using evy) λh1 a1 a2 a3 a4 a5 a6 a7=>⟨_,rfl,?_⟩;refine wpAny_letOwnedTupleGo_zip a1 λh2 b1 sb=>?_;have nz:∀{c:Addr}{o:Obj},s.heap.get? c=some o->s.heap.objs.size≠c:=λe=>Nat.ne_of_gt (Heap.lt_size e);have hT:H s.heap.objs.size=none:=I.hok.fresh (Nat.le_refl _);have tz:s.heap.objs.size≠z:=nz s1;have kept:∀c o,c∉[z,TI,TO,i1,i2]->s.heap.get? c=some o->h2.get? c=some o:=λc o hc e=>by
   simp only[List.mem_cons,List.not_mem_nil,or_false,not_or] at hc;exact sb.extBut c o hc.1 (a7 c o hc.1 hc.2.2.1 hc.2.2.2.1 hc.2.2.2.2 e)
  have pT:IsPair h2 s.heap.objs.size vx vy:=sb.extBut _ _ tz a5;have I2:Inv X pins σ (upd H s.heap.objs.size (.tup [x,y])) {s with heap:=h2,toks:=s.toks}:=by
   refine I.turnedL kept hf (λc u e=>by rw[upd_ne (ne_of_none e hT)];exact e) (λc o _ e n=>by rw[upd_ne (Ne.symm (nz e))];exact n) λc u e n=>?_;by_cases ec:c=s.heap.objs.size
   .subst ec;rw[upd_same] at e;cases e;exact⟨by show 2<=sizeLine;decide,[vx,vy],.cons rx (.cons ry .nil),_,pT,rfl,0,rfl⟩
   .rw[upd_ne ec,n] at e;cases e
  refine⟨.ref s.heap.objs.size,_,I2,rfl,⟨_,x,y,rfl,hT,rfl,λxs' ys' hx' hy'=>?_⟩,⟨b1,sb.extBut _ _ D.TIz (a7 _ _ D.TIz D.TITO D.TIi1 D.TIi2 s2),⟨_,_,sb.extBut _ _ D.TOz a2⟩,a3.extBut sb.extBut D.i1z,a4.extBut sb.extBut D.i2z⟩,λc hc=>?_⟩
  .rw[I.list_inj hx' hx,I.list_inj hy' hy];exact⟨ex,ey⟩
  .rw [upd_ne λq=>?_]
   .exact(hf c hc).1
   .subst q;simp only[List.mem_cons,List.not_mem_nil,or_false] at hc;obtain⟨_,e4,_⟩:=s4;obtain⟨_,e5,_⟩:=s5;rcases hc with q|q|q|q|q
    .exact nz s1 q
    .exact nz s2 q
    .exact nz s3 q
    .exact nz e4 q
    .exact nz e5 q
 done:=by
  intro X hP hw hK hc i pins s σ H E I hf st hg;subst hP hw hK;obtain⟨s1,s2,⟨u,v,s3⟩,s4,s5⟩:=st;obtain⟨xs,ys,hx,hy,le⟩:=hg;obtain⟨ia,ra,pa,za⟩:=I.list hx;obtain⟨ib,rb,pb,zb⟩:=I.list hy;have la:=Vals.length ra;have lb:=Vals.length rb;refine wpAny_pyNext_zip_end (I.ok.hd hc) D s1 s2 s3 s4 s5 pa.isList pb.isList ?_ λh1 k=>⟨rfl,I.turnedL (t':=s.toks) (λc o hc e=>?_) hf (λ_ _ e=>e) (λ_ _ _ _ e=>e) λc u e n=>by rw[n] at e;cases e⟩
  .rcases le with q|q
   .left;simp;omega
   .right;simp;omega
  .simp only[List.mem_cons,List.not_mem_nil,or_false,not_or] at hc;exact k c o hc.1 hc.2.2.1 hc.2.2.2.1 hc.2.2.2.2 e
 self:=λ_ _ _ _ _ st h=>wpAny_pyIter_zip st.1 h
section
variable{X:Cx}{elts:List Expr}{x1:Nat}{p0:Pos}
theorem boot_zip:bootBuiltins "zip"=some (.type "zip"):=by decide +kernel
def iZip(K:W.Frag)(ta:TA):TI:=λσ H R=>ta σ H λvs H1=>∃a b,vs=[.ref a,.ref b]/\(∃xs,SqL K H1 a xs)/\(∃ys,SqL K H1 b ys)/\R (Itz K a b) H1
theorem pi_zip{a b:Expr}{ta:TA}{p pos:Pos}(hg:Gl X "zip")(hm:X.mg "zip"=none)(ha:PA X [a,b] ta)(hs:starEach [a,b] X.env=[(false,eval a X.env),(false,eval b X.env)]:=by rfl)(hs2:starEach [b] X.env=[(false,eval b X.env)]:=by rfl) :
  PI X (.Tuple elts x1 p0) (.Call (.Name "zip" p) [a,b] [] pos) (iZip X.K ta):=by
 intro pins s σ H R I h;refine Call_ (ld_blt I hg hm boot_zip (PyProof.Rows.callWith_type1 (thn (ha pos pins s σ H _ I h) λus s1 ⟨vs,H1,I1,r1,q1⟩=>?_) (by rw[hs,hs2]) (by rw[hs2];rfl)));obtain⟨l,m,rfl,⟨xs,hx⟩,⟨ys,hy⟩,q⟩:=q1;obtain⟨u,v,rfl,ru,rv⟩:=Vals.two r1;cases ru;cases rv;obtain⟨ia,ra,pa,za⟩:=I1.list hx;obtain⟨ib,rb,pb,zb⟩:=I1.list hy;obtain⟨oa,ea,_⟩:=id pa.isList;obtain⟨ob,eb,_⟩:=id pb.isList;have la:=Heap.lt_size ea;have lb:=Heap.lt_size eb;refine call_zip_2 pa.isList pb.isList λh' c1 c2 c3 c4 c5 c6 k=>?_;refine wpAny_pyIter_zip (s:={s1 with heap:=h'}) c1 ?_;refine⟨_,_,_,_,H1,rfl,I1.kept (t':=s1.toks) k,turn_zip (TI:=s1.heap.objs.size+2) (TO:=s1.heap.objs.size+3) (i1:=s1.heap.objs.size) (i2:=s1.heap.objs.size+1) (zipApart_new la lb),⟨c1,c2,⟨_,_,c3⟩,c4,c5⟩,λc hc=>?_,q⟩;have ge:s1.heap.objs.size<=c:=by
  simp only[List.mem_cons,List.not_mem_nil,or_false] at hc;rcases hc with rfl|rfl|rfl|rfl|rfl<;>first|exact Nat.le_add_right _ _|exact Nat.le_refl _
 exact I1.fpOk ge (I1.hok.fresh ge)
end
def upto(n:Nat):List Int:=(List.range n).map λ(i:Nat)=>(i:Int)
def tLR(ta:TA):TE:=λσ H Q=>ta σ H λvs H1=>∃j:Int,vs=[.int j]/\0<=j/\j<=1000/\∀l,H1 l=none->Q (.ref l) (upd H1 l (.lst ((upto j.toNat).map V.int)))
section
variable{X:Cx}
theorem vals_upto{acc:Array Value}{n:Nat}(h:ItemsOf (λi v=>∃t,v=.int ((0:Int)+i*1) t) acc n):Vals ((upto n).map V.int) acc.toList:=by
 refine zip_paired (by simp[upto,h.1]) λz hz=>?_;obtain⟨i,hi,e⟩:=List.getElem_of_mem hz;rw[List.getElem_zip] at e;subst e;have hl:i<n:=by simp[upto] at hi;omega
 obtain⟨t,et⟩:=h.2 i (acc.toList[i]'(by simp[h.1,hl])) (by simp[h.1,hl]);have e1:((upto n).map V.int)[i]'(by simp[upto,hl])=V.int (i:Int):=by simp[upto]
 dsimp only;rw[et,e1];exact⟨t,by simp⟩
theorem pe_listRange{a:Expr}{ta:TA}{p q pos pos':Pos}(hg:Gl X "list")(hm:X.mg "list"=none)(hg2:Gl X "range")(hm2:X.mg "range"=none)(hc:X.calm=true)(ha:PA X [a] ta)(hs:starEach [a] X.env=[(false,eval a X.env)]:=by rfl)
  (ht:backTo pos (starEach [.Call (.Name "range" q) [a] [] pos'] X.env)=[(false,eval (.Call (.Name "range" q) [a] [] pos') X.env)]:=by rfl)
  (hs1:starEach [.Call (.Name "range" q) [a] [] pos'] X.env=(false,eval (.Call (.Name "range" q) [a] [] pos') X.env)::starEach [] X.env:=by rfl) :
  PE X (.Call (.Name "list" p) [.Call (.Name "range" q) [a] [] pos'] [] pos) (tLR ta):=by
 intro pins s σ H Q I h;refine Call_ (ld_blt I hg hm boot_list (PyProof.Rows.callWith_type1 ?_ hs1 rfl));rw[ht];refine Calls.spliced_cons (Call_ (ld_blt I hg2 hm2 boot_range (PyProof.Rows.callWith_type1 (thn (ha pos' pins s σ H _ I h) λus s1 ⟨vs,H1,I1,r1,q1⟩=>?_) hs rfl)));obtain⟨j,rfl,j0,j1,k⟩:=q1;obtain⟨u,rfl,t,rfl⟩:=Vals.one r1;refine call_range_1 (Calls.spliced_nil ?_);generalize hh2:s1.heap.push _=h2;have I2:Inv X pins σ H1 {s1 with heap:=h2,toks:=s1.toks+1+1}:=I1.kept λb o e=>by rw[<-hh2];exact Heap.get?_push_of_some _ e
 have hr:IsRange h2 s1.heap.objs.size 0 j 1 s1.toks t (s1.toks+1):=by rw[<-hh2];exact IsRange.new ..
 refine call_list_range (n:=j.toNat) (s:={s1 with heap:=h2,toks:=s1.toks+1+1}) (I.ok.hd hc) hr (small_one (by omega) (by omega) (by omega) (by omega)) (by rw[rangeSize_one];split<;>omega) (by omega) λh3 tk acc c k3 e3 hacc=>?_;refine⟨.ref h2.objs.size,_,I2.laid (t':=tk) k3 (Nat.le_refl _) (show ObjOk X.prog X.w _ h3 _ (.lst _) from⟨?_,acc.toList,c,vals_upto hacc,by simpa using e3⟩),rfl,k _ (I2.hok.fresh (Nat.le_refl _))⟩;rw[List.length_map,sizeLine_eq];simp[upto];omega
end
section
variable{X:Cx}{pins:List (Addr×Obj)}{σ:St}{H:Hp}{s:Shared}
end
def tLV(K:W.Frag)(ta:TA):TE:=λσ H Q=>ta σ H λvs H1=>∃a xs,vs=[.ref a]/\SqL K H1 a xs/\∀l,H1 l=none->Q (.ref l) (upd H1 l (.lst xs.reverse))
theorem vals_rev{xs:List V}{its acc:Array Value}(r:Vals xs its.toList)(h:ItemsOf (λi v=>its[its.size-1-i]?=some v) acc its.size):Vals xs.reverse acc.toList:=by
 have e:acc.toList=its.toList.reverse:=by
  apply List.ext_getElem?;intro i;by_cases hi:i<its.size
  .have ha:i<acc.size:=by rw[h.1];exact hi
   have:=h.2 i acc[i] (by simp[ha]);rw[List.getElem?_reverse (by simpa using hi)];simp only[Array.getElem?_toList,Array.length_toList];rw[this];simp[ha]
  .rw[List.getElem?_eq_none (by simp[h.1];omega),List.getElem?_eq_none (by simp;omega)]
 rw[e];exact Vals.reverse r
theorem pe_listRev{X:Cx}{a:Expr}{ta:TA}{p q pos pos':Pos}(hg:Gl X "list")(hm:X.mg "list"=none)(hg2:Gl X "reversed")(hm2:X.mg "reversed"=none)(hc:X.calm=true)(ha:PA X [a] ta)(hs:starEach [a] X.env=[(false,eval a X.env)]:=by rfl)
  (ht:backTo pos (starEach [.Call (.Name "reversed" q) [a] [] pos'] X.env)=[(false,eval (.Call (.Name "reversed" q) [a] [] pos') X.env)]:=by rfl)
  (hs1:starEach [.Call (.Name "reversed" q) [a] [] pos'] X.env=(false,eval (.Call (.Name "reversed" q) [a] [] pos') X.env)::starEach [] X.env:=by rfl) :
  PE X (.Call (.Name "list" p) [.Call (.Name "reversed" q) [a] [] pos'] [] pos) (tLV X.K ta):=by
 intro pins s σ H Q I h;refine Call_ (ld_blt I hg hm boot_list (PyProof.Rows.callWith_type1 ?_ hs1 rfl));rw[ht];refine Calls.spliced_cons (Call_ (ld_blt I hg2 hm2 boot_reversed (PyProof.Rows.callWith_type1 (thn (ha pos' pins s σ H _ I h) λus s1 ⟨vs,H1,I1,r1,q1⟩=>?_) hs rfl)));obtain⟨b,xs,rfl,hx,k⟩:=q1;obtain⟨u,rfl,ru⟩:=Vals.one r1;cases ru;obtain⟨its,rv,pl,hz⟩:=I1.list hx;have le:=Vals.length rv;have hl:=pl.isList;obtain⟨ol,el,_⟩:=id hl;refine Rv.call_rev hl (Calls.spliced_nil ?_);generalize hh2:s1.heap.push _=h2;have up:∀c o,s1.heap.get? c=some o->h2.get? c=some o:=λc o e=>by rw[<-hh2];exact Heap.get?_push_of_some _ e
 have new:h2.get? s1.heap.objs.size=some {cls:=.type Rv.RIT,data:=.fields #[.ref b,.int ((its.toArray.size:Int)-1) 0]}:=by rw[<-hh2];exact Heap.get?_push_size _ rfl
 have I2:Inv X pins σ H1 {s1 with heap:=h2,toks:=s1.toks}:=I1.kept up;have fr:H1 s1.heap.objs.size=none:=I1.hok.fresh (Nat.le_refl _);have fp:FpOk X pins H1 s1.heap.objs.size:=I1.fpOk (Nat.le_refl _) fr;refine Rv.list_it (s:={s1 with heap:=h2,toks:=s1.toks}) (xs:=its.toArray) (I.ok.hd hc) ⟨_,0,new,rfl,rfl⟩ (hl.at λo e=>up _ o e) (Nat.ne_of_lt (Heap.lt_size el)) (by simp;omega) λh3 tk acc c' k3 e3 hacc=>?_;have f2:H1 h2.objs.size=none:=I2.hok.fresh (Nat.le_refl _);have lt:s1.heap.objs.size<h2.objs.size:=Heap.lt_size new;have I3:Inv X pins σ (upd H1 h2.objs.size (.lst xs.reverse)) {s1 with heap:=h3,toks:=tk}:=by
  refine Inv.turnedL (s:={s1 with heap:=h2,toks:=s1.toks}) (t':=tk) (ch:=[s1.heap.objs.size]) I2 (λc o hc e=>k3 c o (by simpa using hc) e) (λc hc=>by rw[List.mem_singleton.mp hc];exact fp) (λc u e=>by rw[upd_ne (ne_of_none e f2)];exact e) (λc o _ e n=>by rw[upd_ne (Nat.ne_of_lt (Heap.lt_size e))];exact n) λc u e n=>?_;by_cases ec:c=h2.objs.size
  .subst ec;rw[upd_same] at e;cases e;exact⟨by rw[List.length_reverse];exact hz,acc.toList,c',vals_rev rv hacc,by simpa using e3⟩
  .rw[upd_ne ec,n] at e;cases e
 exact⟨.ref h2.objs.size,_,I3,rfl,k _ f2⟩
def unlike(t:List Int):Nat:=(firstMet (λi=>t.getD i 0) t.length).length
def tLenSet(K:W.Frag)(ta:TA):TE:=λσ H Q=>ta σ H λvs H1=>∃(a:Addr)(t:List Int),vs=[.ref a]/\SqL K H1 a (t.map V.int)/\t.length<=1000/\Q (.int (unlike t)) H1
theorem boot_set:bootBuiltins "set"=some (.type "set"):=by decide +kernel
end L2
namespace Mt
end Mt
namespace L2
open PySem PySem.Spec PyProof.Rows
theorem PSs.imp{X:Cx}{st:List Stmt}{t t':TS}(h:PSs X st t)(i:∀D σ H,t' D σ H->t D σ H):PSs X st t':=λpins s σ H D I q=>h pins s σ H D I (i D σ H q)
theorem TupsH.at'{H H':Hp}{rs:List Addr}{ts:List (List Int)}(h:TupsH H rs ts)(k:∀b xs,H b=some (.tup xs)->H' b=some (.tup xs)):TupsH H' rs ts:=
 zip_paired (Paired.length h) λz hz=>⟨k _ _ (paired_zip h z hz).1,(paired_zip h z hz).2⟩
theorem tup_at{rs:List Addr}{ts:List (List Int)}{H:Hp}{i:Nat}{x:V}(h:TupsH H rs ts)(e:(rs.map V.ref)[i]?=some x):∃r t,x=.ref r/\ts[i]?=some t/\H r=some (.tup (t.map V.int)):=by
 rw[List.getElem?_map] at e;cases er:rs[i]? with
 | none=>rw[er] at e;cases e
 | some r=>
  rw[er] at e;obtain⟨t,et,ht,_⟩:=Sx.pair_at (i:=i) (a:=r) h er;exact⟨r,t,(Option.some.inj e).symm,et,ht⟩
theorem map_int_at{xs:List Int}{i:Nat}{v:V}(h:(xs.map V.int)[i]?=some v):∃z,v=.int z/\xs[i]?=some z:=by
 rw[List.getElem?_map] at h;cases e:xs[i]? with
 | none=>rw[e] at h;cases h
 | some z=>rw[e] at h;exact⟨z,(Option.some.inj h).symm,rfl⟩
theorem cut_int(ns:List Int)(lo hi:Option Int)(i:Nat)(x:V)(h:(cutV (ns.map V.int) lo hi)[i]?=some x):∃z:Int,x=.int z:=by
 unfold cutV at h;have m:=List.mem_of_getElem? h;have m2:=List.mem_of_mem_drop (List.mem_of_mem_take m);obtain⟨z,_,e⟩:=List.mem_map.mp m2;exact⟨z,e.symm⟩
def cutA{α:Type}(xs:List α)(lo hi:Option Int):List α:=(xs.drop (HT.sIx xs.length 0 lo)).take (HT.sIx xs.length xs.length hi-HT.sIx xs.length 0 lo)
theorem cut_map{α:Type}(f:α->V)(xs:List α)(lo hi:Option Int):cutV (xs.map f) lo hi=(cutA xs lo hi).map f:=by
 unfold cutV cutA;rw[List.length_map,List.map_take,List.map_drop]
theorem sIx_lo(n:Nat){i:Int}(h:0<=i):HT.sIx n 0 (some i)=min i.toNat n:=by
 unfold HT.sIx;dsimp only;rw[if_neg (by omega)]
def Prs(H:Hp)(rs:List Addr):Prop:=∀r∈rs,∃x y:Int,H r=some (.tup [.int x,.int y])
def Two(ts:List (List Int)):Prop:=∀t∈ts,∃x y:Int,t=[x,y]
theorem bt_int:bootBuiltins "int"=some (.type "int"):=by decide +kernel
theorem bt_list:bootBuiltins "list"=some (.type "list"):=by decide +kernel
theorem bt_tuple:bootBuiltins "tuple"=some (.type "tuple"):=by decide +kernel
theorem Same.new'{H:Hp}{p:Addr}{o:HO}(h:H p=none):Same H (upd H p o):=λb u e=>by
 rw[upd_ne (ne_of_none e h)];exact e
section
variable{X:Cx}
theorem size_push_lt{h:Heap}{o:Obj}{b:Addr}(e:b<h.objs.size):b<(h.push o).objs.size:=by
 rw[size_push'];exact Nat.lt_succ_of_lt e
theorem call_sumI(hc:X.calm=true):CallR X (.builtin "sum") (λvs H Q=>∃(a:Addr)(t:List Int),vs=[.ref a]/\SqL X.K H a (t.map V.int)/\Q (.int t.sum) H):=by
 intro pins s σ H vs us Q I r h;obtain⟨a,t,rfl,hq,q⟩:=h;obtain⟨u,rfl,ru⟩:=vals1 r;cases ru;obtain⟨its,rv,pl,hz⟩:=I.list hq;have hi:=intsAre_of rv;have hlen:its.length=t.length:=hi.length;have hl:=pl.isList;have hlt:a<s.heap.objs.size:=by obtain⟨_,e,_⟩:=hl;exact Heap.lt_size e
 refine PySem.call_sum_walkAnyS (wpAny_pyIter_list hl ?_);refine⟨s.heap.objs.size,[s.heap.objs.size,a],[s.heap.objs.size],_,its.toArray.size,_,_,λi=>t.getD i 0,rfl,(Walks.list (A:=X.A.in1) (I.ok.hd hc) _ a (Nat.ne_of_lt hlt) its.toArray).toS,
  ⟨⟨_,Heap.get?_push_size _ rfl,rfl,rfl⟩,hl.push _⟩,λb hb=>?_,λi v hP=>?_,λs' t' mv=>?_⟩
 .rcases List.mem_cons.mp hb with rfl|hb
  .rw[size_push'];exact Nat.lt_succ_self _
  .rw[List.mem_singleton] at hb;subst hb;exact size_push_lt hlt
 .exact Sx.ints_at (i:=i) (v:=v) hi (by simpa using hP)
 .have e:=mv.eq_with;rw[e];have e2:preSum (λi=>t.getD i 0) its.toArray.size=t.sum:=by
   rw[PyProof.Rows.preSum_getD,List.size_toArray,hlen,List.take_length]
  rw[e2];exact⟨.int t.sum,H,I.kept λb x z=>mv.heap b x (λhm=>by rw[List.mem_singleton.mp hm] at z;exact Nat.lt_irrefl _ (Heap.lt_size z)) (Heap.get?_push_of_some _ z),⟨_,rfl⟩,q⟩
end
def Its(lo st:Int)(n:Nat):It:=⟨λi _=>i<n,λi H x H'=>H'=H/\x=.int (lo+i*st),λi _=>n<=i⟩
section
variable{X:Cx}{tg:Expr}
def iRng02(ta:TA):TI:=λσ H R=>ta σ H λvs H1=>∃j:Int,vs=[.int 0,.int j,.int 2]/\-1<=j/\j<=1000000/\R (Its 0 2 ((j+1) / 2).toNat) H1
def tRevS(K:W.Frag)(te ts:TE):TE:=λσ H Q=>te σ H λx H1=>ts σ H1 λy H2=>y=.int (-1)/\∃a xs,x=.ref a/\SqL K H2 a xs/\∀p,H2 p=none->Q (.ref p) (upd H2 p (.lst xs.reverse))
end
theorem turns_zip{K:W.Frag}{a b D:Addr}{xs ys:List V}{n:Nat}{g:TG}{tt:TT}{te:TE}{σ0:St}{Qd:Hp->Prop}{H1:Hp}(Pv:Nat->List V->St->Hp->Prop)(hx:n<=xs.length)(hy:n<=ys.length)(hn:xs.length<=n\/ys.length<=n)(h0:Pv 0 [] σ0 (upd H1 D (.lst [])))
  (hD:∀i zs σ H,Pv i zs σ H->H D=some (.lst zs)/\zs.length<sizeLine/\SqL K H a xs/\SqL K H b ys)
  (hs:∀i x y t zs σ H,xs[i]?=some x->ys[i]?=some y->i<n->Pv i zs σ H->H t=none->g (.ref t) σ (upd H t (.tup [x,y])) λσ2 H4=>tt σ2 H4 λc H5=>if c=true then te σ2 H5 λz H6=>H6 D=some (.lst zs)/\Nxt n i Pv (zs++[z]) σ2 (upd H6 D (.lst (zs++[z]))) else Nxt n i Pv zs σ2 H5)
  (hd:∀zs σ H,Pv n zs σ H->Qd H):tTurns (Itz K a b) g tt te σ0 D Qd H1:=by
 refine⟨λi m zs σ H=>m=n-i/\i<=n/\Pv i zs σ H,⟨n,by simp,Nat.zero_le _,h0⟩,?_⟩;rintro i m zs σ H ⟨rfl,hi,p⟩;obtain⟨d1,d2,d3,d4⟩:=hD i zs σ H p;refine⟨d1,?_⟩;by_cases hlt:i<n
 .have i1:i<xs.length:=by omega
  have i2:i<ys.length:=by omega
  refine .inr ⟨⟨xs,ys,xs[i],ys[i],d3,d4,by simp[i1],by simp[i2]⟩,d2,λx H3 q=>?_⟩;obtain⟨t,u,v,rfl,ht,rfl,y⟩:=q;obtain⟨y1,y2⟩:=y xs ys d3 d4;exact hs i u v t zs σ _ y1 y2 hlt p ht
 .have e:i=n:=by omega
  subst e;refine .inl ⟨⟨xs,ys,d3,d4,?_⟩,hd zs σ H p⟩;omega
section
variable{X:Cx}{pins:List (Addr×Obj)}{σ:St}{H:Hp}{s:Shared}
theorem Inv.freeze{d:Addr}{o:Obj}{kvs:List (List Key×V)}(I:Inv X pins σ H s)(e:H d=some (.dT kvs))(ho:s.heap.get? d=some o):Inv X pins σ (upd H d (.frz o (.dT kvs))) s:=by
 have k:∀b u,H b=some u->(∀l,u≠.dT l)->upd H d (.frz o (.dT kvs)) b=some u:=λb u eb n=>by
  rw[upd_ne λz=>?_]
  .exact eb
  .rw[z,e] at eb;cases eb;exact n _ rfl
 have st:∀b u,H b=some u->ObjOk X.prog X.w (upd H d (.frz o (.dT kvs))) s.heap b u:=λb u eb=>
  (I.hok b u eb).stay (λ_ _ _ q=>q) (λc q=>k c _ q (by intro l z;cases z)) λc xs q=>k c _ q (by intro l z;cases z)
 have:=I.un (t':=s.toks) (h':=s.heap) (H':=upd H d (.frz o (.dT kvs))) ⟨λb o q _ _ _=>q,λb o q _ _ _=>⟨o.slots,q⟩,λb o q n _=>?_,λb o q _=>⟨o,q⟩,λb xs q=>k b _ q (by intro l z;cases z),λb o u q=>k b _ q (by intro l z;cases z),λb ps q=>⟨#[],by rw[k b _ q (by intro l z;cases z)];simp⟩⟩ λb u q=>?_
 .exact this
 .rw[upd_ne λz=>?_]
  .exact n
  .rw[z,e] at n;cases n
 .by_cases hb:b=d
  .subst hb;rw[upd_same] at q;cases q;exact⟨ho,st _ _ e⟩
  .rw[upd_ne hb] at q;exact st b u q
end
def Itd(d:Addr)(o:Obj)(u:HO)(rs:List Addr):It:=
 ⟨λi H=>i<rs.length/\H d=some (.frz o u),λi H x H'=>H'=H/\∃r,rs[i]?=some r/\x=.ref r,λi H=>rs.length<=i/\H d=some (.frz o u)⟩
theorem turn_dict{P:Program}{w:World}{K:W.Frag}{tg:Expr}(it d:Addr)(o:Obj)(u:HO)(es:Array DictEntry)(ep:Nat)(rs:List Addr)(hx:o.ExactDict)(hd:o.data=.dict es ep)(hk:es.toList.map (·.key)=rs.map Value.ref):Turn P w K tg (Itd d o u rs) [it] it (λi h=>h.IsKeyIter it d i es.size ep) where
 mem:=by simp
 obj:=λi h st b hb=>by
  have e:b=it:=by simpa using hb
  subst e;obtain⟨o,e,c,d⟩:=st;exact⟨o,e,λv z=>by rw[d] at z;cases z⟩
 keep:=λi h h' st k=>st.at λo e=>k it (by simp) o e
 item:=by
  intro X hP hw hK hc i pins s σ H E I hf st hg;subst hP hw hK;obtain⟨hi,hq⟩:=hg;obtain⟨ho,_⟩:=(show ObjOk X.prog X.w H s.heap d (.frz o u) from I.hok d _ hq);have hlen:es.size=rs.length:=by rw[<-Array.length_toList,<-List.length_map (f:=(·.key)),hk,List.length_map]
  have hi':i<es.size:=by omega
  obtain⟨f0,f1,f2,f3,f4,f5⟩:=hf it (by simp);refine Sx.next_dictE (e:=es[i]) st ⟨o,ho,hx,hd⟩ (by simp[hi']) λh' st' sb=>?_;have I1:Inv X pins σ H {s with heap:=h'}:=I.turned (t':=s.toks) (λb o hb e=>(sb.2 b hb).trans e) f0 f1 f3 f4 f5;obtain⟨o',e,c,d'⟩:=id st';have ek:es[i].key=.ref rs[i]:=by
   have:=congrArg (λl=>l[i]?) hk;simpa[hi,hi'] using this
  exact⟨es[i].key,rfl,go_of (s:={s with heap:=h'}) e c d' (by decide) ⟨.ref rs[i],H,I1,ek,⟨rfl,_,by simp[hi],rfl⟩,st',λb hb=>(hf b hb).1⟩⟩
 done:=by
  intro X hP hw hK hc i pins s σ H E I hf st hg;subst hP hw hK;obtain⟨hi,hq⟩:=hg;obtain⟨ho,_⟩:=(show ObjOk X.prog X.w H s.heap d (.frz o u) from I.hok d _ hq);have hlen:es.size=rs.length:=by rw[<-Array.length_toList,<-List.length_map (f:=(·.key)),hk,List.length_map]
  obtain⟨f0,f1,f2,f3,f4,f5⟩:=hf it (by simp);exact Sx.end_dictE (I.ok.hd hc) st ⟨o,ho,hx,hd⟩ (by omega) λh' eb=>⟨rfl,I.turned (t':=s.toks) (λb o hb e=>eb b o hb e) f0 f1 f3 f4 f5⟩
 self:=λ_ _ _ _ _ st h=>wpAny_pyIter_keyiter st h
section
variable{X:Cx}{tg:Expr}
def iDict(tl:TE):TI:=λσ H R=>tl σ H λx H1=>∃(d:Addr)(kvs:List (List Key×V))(ts:List (List Int)),x=.ref d/\H1 d=some (.dT kvs)/\kvs.map (·.1)=ts.map (·.map Sum.inl)/\(∀t∈ts,t≠[])/\∀(o:Obj)(rs:List Addr),TupsH (upd H1 d (.frz o (.dT kvs))) rs ts->R (Itd d o (.dT kvs) rs) (upd H1 d (.frz o (.dT kvs)))
theorem keys_tups{H:Hp}:∀{l:List (List Key×V)}{m:List (List Key×Addr×Value)}{ts:List (List Int)},KT H l m->l.map (·.1)=ts.map (·.map Sum.inl)->(∀t∈ts,t≠[])->TupsH H (m.map (·.2.1)) ts:=by
 intro l m ts q
 induction q generalizing ts with
 | nil=>
  intro e _;cases ts with
  | nil=>exact .nil
  | cons t ts=>simp at e
 | @cons p q' ps qs hq t ih=>
  intro e hn;cases ts with
  | nil=>simp at e
  | cons t0 ts=>
   rw[List.map_cons,List.map_cons] at e;injection e with ea eb
   refine .cons ⟨?_,hn t0 (.head _)⟩ (ih eb λt ht=>hn t (.tail _ ht));have:=hq.2.1;rw[ea,List.map_map] at this;exact this
theorem pi_dict{l:Expr}{tl:TE}(hl:PE X l tl):PI X tg l (iDict tl):=by
 intro pins s σ H R I h;refine thn (hl pins s σ H _ I h) λv s1 ⟨x,H1,I1,r1,q1⟩=>?_;obtain⟨d,kvs,ts,rfl,hd,hk,hne,q⟩:=q1;cases r1;obtain⟨z,lo,xs,rel,o,es,ep,e1,e2,e3,e4,_⟩:=(show ObjOk X.prog X.w H1 s1.heap d (.dT kvs) from I1.hok d _ hd);have hT:TupsH H1 (xs.map (·.2.1)) ts:=keys_tups rel hk hne;have hT':TupsH (upd H1 d (.frz o (.dT kvs))) (xs.map (·.2.1)) ts:=TupsH.at' hT λb ys e=>by rw[upd_ne (ne_of e hd (by intro z;cases z))];exact e
 have I2:=I1.freeze hd e1;refine Sx.iter_dictE lo ⟨o,e1,e2,e3⟩ ?_;refine⟨s1.heap.objs.size,[s1.heap.objs.size],_,Itd d o (.dT kvs) (xs.map (·.2.1)),_,rfl,I2.kept (t':=s1.toks) λb o e=>Heap.get?_push_of_some _ e,turn_dict _ d o _ es ep _ e2 e3 ?_,⟨_,Heap.get?_push_size _ rfl,rfl,rfl⟩,λb hb=>?_,q o _ hT'⟩
 .rw[e4,List.map_map,List.map_map];rfl
 .have e:b=s1.heap.objs.size:=by simpa using hb
  subst e;exact I2.fpOk (Nat.le_refl _) (I2.hok.fresh (Nat.le_refl _))
theorem turns_dict{d:Addr}{o:Obj}{u:HO}{rs:List Addr}{D:Addr}{g:TG}{tt:TT}{te:TE}{σ0:St}{Qd:Hp->Prop}{H1:Hp}(Pv:Nat->List V->St->Hp->Prop)(h0:Pv 0 [] σ0 (upd H1 D (.lst [])))
  (hD:∀i ys σ H,Pv i ys σ H->H D=some (.lst ys)/\ys.length<sizeLine/\H d=some (.frz o u))
  (hs:∀i r ys σ H,rs[i]?=some r->Pv i ys σ H->g (.ref r) σ H λσ2 H4=>tt σ2 H4 λc H5=>if c=true then te σ2 H5 λy H6=>H6 D=some (.lst ys)/\Nxt rs.length i Pv (ys++[y]) σ2 (upd H6 D (.lst (ys++[y]))) else Nxt rs.length i Pv ys σ2 H5)
  (hd:∀ys σ H,Pv rs.length ys σ H->Qd H):tTurns (Itd d o u rs) g tt te σ0 D Qd H1:=by
 refine⟨λi m ys σ H=>m=rs.length-i/\i<=rs.length/\Pv i ys σ H,⟨rs.length,by simp,Nat.zero_le _,h0⟩,?_⟩;rintro i m ys σ H ⟨rfl,hi,p⟩;obtain⟨d1,d2,d3⟩:=hD i ys σ H p;refine⟨d1,?_⟩;by_cases hlt:i<rs.length
 .refine .inr ⟨⟨hlt,d3⟩,d2,λx H3 y=>?_⟩;obtain⟨e,r,er,rfl⟩:=y;subst e;exact hs i r ys σ _ er p
 .have e:i=rs.length:=by omega
  subst e;exact .inl ⟨⟨Nat.le_refl _,d3⟩,hd ys σ H p⟩
theorem for_dict{d:Addr}{o:Obj}{u:HO}{rs:List Addr}{g:TG}{tb:TS}{D:Ends}{σ:St}{H:Hp}(Pv:Nat->St->Hp->Prop)(h0:Pv 0 σ H)(ha:∀i σ H,i<=rs.length->Pv i σ H->H d=some (.frz o u))
  (hs:∀i r σ H,rs[i]?=some r->Pv i σ H->g (.ref r) σ H λσ2 H2=>tb {D with nx:=Pv (i+1),ct:=Pv (i+1),bk:=D.nx} σ2 H2) (hd:∀σ H,Pv rs.length σ H->D.nx σ H) :
  ∃W:Nat->Nat->St->Hp->Prop,(∃m,W 0 m σ H)/\∀i m σ H,W i m σ H →
   ((Itd d o u rs).stop i H/\D.nx σ H)\/((Itd d o u rs).go i H/\∃N:St->Hp->Prop,(∀σ' H',N σ' H'->∃m',m'<m/\W (i+1) m' σ' H')/\∀x H',(Itd d o u rs).yld i H x H'->g x σ H' λσ2 H2=>tb {D with nx:=N,ct:=N,bk:=D.nx} σ2 H2):=by
 refine⟨λi m σ H=>m+i=rs.length/\Pv i σ H,⟨rs.length,rfl,h0⟩,?_⟩;rintro i m σ H ⟨e,p⟩;have q:=ha i σ H (by omega) p;rcases Nat.eq_zero_or_pos m with rfl|pm
 .have e':i=rs.length:=by omega
  subst e';exact .inl ⟨⟨Nat.le_refl _,q⟩,hd σ H p⟩
 .have i1:i<rs.length:=by omega
  refine .inr ⟨⟨i1,q⟩,Pv (i+1),λσ' H' p'=>⟨m-1,by omega,by omega,p'⟩,?_⟩;rintro x H' ⟨rfl,r,er,rfl⟩;exact hs i r σ _ er p
end
section
variable{X:Cx}{pins:List (Addr×Obj)}{σ:St}{H:Hp}{s:Shared}
end
theorem cutA_drop{α:Type}(xs:List α){i:Int}(h:0<=i):cutA xs (some i) none=xs.drop i.toNat:=by
 unfold cutA;rw[sIx_lo _ h];have e:HT.sIx xs.length xs.length none=xs.length:=rfl;rw[e];by_cases q:i.toNat<=xs.length
 .rw[Nat.min_eq_left q,List.take_of_length_le (by rw[List.length_drop];exact Nat.le_refl _)]
 .rw[Nat.min_eq_right (by omega),Nat.sub_self,List.take_zero,List.drop_eq_nil_of_le (by omega)]
theorem inV_ints(x:Int)(t:List Int):inV (.int x) (t.map V.int)=decide (x∈t):=by
 unfold inV;rw[List.any_map,Bool.eq_iff_iff,decide_eq_true_iff,List.any_eq_true];constructor
 .rintro⟨y,hy,e⟩;have e:(y==x)=true:=e;exact beq_iff_eq.mp e ▸ hy
 .exact λh=>⟨x,h,beq_self_eq_true x⟩
theorem flat_ints(us:List Int):(us.map V.int).all flatV=true:=by
 rw[List.all_map];exact List.all_eq_true.mpr λ_ _=>rfl
def alg:List Int->List (List Int)
 | a::b::r=>[Mt.lo a b,Mt.hi a b]::alg (b::r)
 | _=>[]
theorem alg_len:∀t:List Int,(alg t).length=t.length-1
 | []=>rfl
 | [_]=>by simp[alg]
 | a::b::r=>by
  show(alg (b::r)).length+1=_;rw[alg_len (b::r)];simp
theorem alg_get:∀(t:List Int)(i:Nat),i+1<t.length->(alg t)[i]?=some [Mt.lo (t.getD i 0) (t.getD (i+1) 0),Mt.hi (t.getD i 0) (t.getD (i+1) 0)]
 | [],i,h=>by simp at h
 | [_],i,h=>by simp at h
 | a::b::r,0,_=>rfl
 | a::b::r,i+1,h=>by
  have e1:(a::b::r).getD (i+1) 0=(b::r).getD i 0:=rfl;have e2:(a::b::r).getD (i+1+1) 0=(b::r).getD (i+1) 0:=rfl;rw[e1,e2];exact alg_get (b::r) i (by simp only[List.length_cons] at h ⊢;omega)
theorem lo_comm(a b:Int):Mt.lo a b=Mt.lo b a:=by unfold Mt.lo;split<;>split<;>omega
theorem hi_comm(a b:Int):Mt.hi a b=Mt.hi b a:=by unfold Mt.hi;split<;>split<;>omega
theorem alg_snoc:∀(t:List Int)(a b:Int),alg (t++[a,b])=alg (t++[a])++[[Mt.lo a b,Mt.hi a b]]
 | [],a,b=>rfl
 | [x],a,b=>rfl
 | x::y::r,a,b=>by
  show[Mt.lo x y,Mt.hi x y]::alg ((y::r)++[a,b])=[Mt.lo x y,Mt.hi x y]::alg ((y::r)++[a])++[[Mt.lo a b,Mt.hi a b]];rw[alg_snoc (y::r) a b];rfl
def altB:List Bool->Bool
 | a::b::r=>(!decide (a=b))&&altB (b::r)
 | _=>true
def prtP(ps:List (List Int)):List (Key×V):=ps.foldl (λd p=>putK (putK d (.inl (p.getD 0 0)) (.int (p.getD 1 0))) (.inl (p.getD 1 0)) (.int (p.getD 0 0))) []
theorem putK_length{κ:Type}[DecidableEq κ](kvs:List (κ×V))(k:κ)(v:V):(putK kvs k v).length<=kvs.length+1:=by
 unfold putK
 split
 .rw[List.length_map];exact Nat.le_succ _
 .rw[List.length_append];exact Nat.le_refl _
theorem prtP_snoc(ps:List (List Int))(a b:Int):prtP (ps++[[a,b]])=putK (putK (prtP ps) (.inl a) (.int b)) (.inl b) (.int a):=by
 unfold prtP;rw[List.foldl_append];rfl
theorem prtP_len:∀ps:List (List Int),(prtP ps).length<=2*ps.length:=by
 have:∀(ps:List (List Int))(d:List (Key×V)),(ps.foldl (λd p=>putK (putK d (.inl (p.getD 0 0)) (.int (p.getD 1 0))) (.inl (p.getD 1 0)) (.int (p.getD 0 0))) d).length<=d.length+2*ps.length:=by
  intro ps
  induction ps with
  | nil=>exact λd=>Nat.le_refl _
  | cons p ps ih=>
   intro d;have h1:=ih (putK (putK d (.inl (p.getD 0 0)) (.int (p.getD 1 0))) (.inl (p.getD 1 0)) (.int (p.getD 0 0)));have h2:=putK_length (putK d (.inl (p.getD 0 0)) (.int (p.getD 1 0))) (.inl (p.getD 1 0)) (.int (p.getD 0 0));have h3:=putK_length d (.inl (p.getD 0 0)) (.int (p.getD 1 0));rw[List.foldl_cons,List.length_cons];omega
 intro ps;have:=this ps [];rw[List.length_nil] at this;unfold prtP;omega
theorem prtP_none(x:Int):∀ps:List (List Int),Two ps->(valV (prtP ps) (.inl x)=none↔x∉ps.flatten):=by
 have key:∀(ps:List (List Int))(d:List (Key×V)),Two ps->(valV (ps.foldl (λd p=>putK (putK d (.inl (p.getD 0 0)) (.int (p.getD 1 0))) (.inl (p.getD 1 0)) (.int (p.getD 0 0))) d) (.inl x)=none↔valV d (.inl x)=none/\x∉ps.flatten):=by
  intro ps
  induction ps with
  | nil=>intro d _;simp
  | cons p ps ih=>
   intro d h;obtain⟨a,b,rfl⟩:=h p (.head _);rw[List.foldl_cons,ih _ λq hq=>h q (.tail _ hq),valV_put,valV_put];show((if (Sum.inl x:Key)=Sum.inl b then some (V.int a) else if (Sum.inl x:Key)=Sum.inl a then some (V.int b) else valV d (.inl x))=none/\x∉ps.flatten)↔valV d (.inl x)=none/\x∉a::b::ps.flatten;have e:∀y:Int,((Sum.inl x:Key)=Sum.inl y)↔x=y:=λy=>⟨λz=>by injection z,λz=>by rw[z]⟩;simp only[e,List.mem_cons,not_or];by_cases c1:x=b
   .simp[c1]
   .by_cases c2:x=a
    .subst c2;simp[c1]
    .simp[c1,c2]
 intro ps h;have:=key ps [] h;rw[valV_nil] at this;simpa[prtP] using this
def onl(ts us:List (List Int)):List (List Int):=ts.filter λt=>!us.any λu=>decide (u=t)
theorem mem_onl{ts us:List (List Int)}{t:List Int}:t∈onl ts us↔t∈ts/\t∉us:=by
 unfold onl;rw[List.mem_filter];refine and_congr_right λ_=>?_;rw[Bool.not_eq_true',<-Bool.not_eq_true,List.any_eq_true];constructor
 .exact λh z=>h ⟨t,z,decide_eq_true rfl⟩
 .rintro h ⟨u,hu,e⟩;exact h (of_decide_eq_true e ▸ hu)
def xch(ps ts:List (List Int)):List (List Int):=onl ps ts++onl ts ps
theorem mem_xch{ps ts:List (List Int)}{t:List Int}:t∈xch ps ts↔(t∈ps/\t∉ts)\/(t∈ts/\t∉ps):=by
 unfold xch;rw[List.mem_append,mem_onl,mem_onl]
theorem xch_nd{ps ts:List (List Int)}(h:ps.Nodup)(g:ts.Nodup):(xch ps ts).Nodup:=by
 unfold xch;rw[List.nodup_append];refine⟨h.filter _,g.filter _,λa ha b hb e=>?_⟩;subst e;exact(mem_onl.mp hb).2 (mem_onl.mp ha).1
def fitP(ps:List (List Int))(x:Int)(k:List Int):Prop:=k∈ps\/x∉ps.flatten
def IsRow(Ks ps:List (List Int))(t:List Int):Prop:=2<=t.length/\t.Nodup/\(∀k∈alg t,k∈Ks)/\altB ((alg t).map λk=>decide (k∈ps))=true/\fitP ps (t.getD 0 0) ((alg t).getD 0 [])/\fitP ps (t.getD (t.length-1) 0) ((alg t).getD (t.length-2) [])
end L2
namespace L2
def prs:List Int->List (List Int)
 | a::b::r=>[Mt.lo a b,Mt.hi a b]::prs r
 | _=>[]
theorem lohi_perm(a b:Int):List.Perm [Mt.lo a b,Mt.hi a b] [a,b]:=by
 unfold Mt.lo Mt.hi;by_cases h:b<a
 .rw[if_pos h,if_neg (by omega)];exact List.Perm.swap _ _ _
 .rw [if_neg h];by_cases h2:b>a
  .rw[if_pos h2]
  .rw[if_neg h2];have:a=b:=by omega
   rw[this]
end L2
namespace L2
open PySem PySem.Spec PyProof.Rows
def altL(A:List (List Int))(u:Int):Nat->List (List Int)
 | 0=>[]
 | i+1=>altL A u i++(if (i:Int) % 2=u then [A.getD i []] else [])
theorem mem_altL{A:List (List Int)}{u:Int}{x:List Int}:∀{n:Nat},x∈altL A u n↔∃k:Nat,k<n/\(k:Int) % 2=u/\A.getD k []=x
 | 0=>⟨λh=>(nomatch h),λ⟨k,h,_⟩=>absurd h (Nat.not_lt_zero _)⟩
 | n + 1=>by
  show x∈altL A u n++_↔_;rw[List.mem_append,mem_altL (n:=n)];constructor
  .rintro (⟨k,h1,h2⟩|h)
   .exact⟨k,by omega,h2⟩
   .split at h
    .rename_i c
     rw[List.mem_singleton] at h;exact⟨n,Nat.lt_succ_self n,c,h.symm⟩
    .cases h
  .rintro⟨k,h1,h2,h3⟩;by_cases c:k=n
   .subst c;right;rw[if_pos h2,h3];exact .head _
   .exact .inl ⟨k,by omega,h2,h3⟩
theorem getD_inj{A:List (List Int)}(h:A.Nodup){i j:Nat}(hi:i<A.length)(hj:j<A.length)(e:A.getD i []=A.getD j []):i=j:=by
 have h:A.Pairwise (·≠·):=h;rw[List.pairwise_iff_getElem] at h;have e':A[i]=A[j]:=by simpa[hi,hj] using e
 rcases Nat.lt_trichotomy i j with q|q|q
 .exact absurd e' (h i j hi hj q)
 .exact q
 .exact absurd e'.symm (h j i hj hi q)
theorem alg_sub:∀{t:List Int}{k:List Int},k∈alg t->∃x y,k=[x,y]/\x∈t/\y∈t
 | [],k,h=>by simp[alg] at h
 | [_],k,h=>by simp[alg] at h
 | a::b::r,k,h=>by
  rcases List.mem_cons.mp (show k∈[Mt.lo a b,Mt.hi a b]::alg (b::r) from h) with rfl|h
  .refine⟨_,_,rfl,?_,?_⟩
   .unfold Mt.lo;split<;>simp
   .unfold Mt.hi;split<;>simp
  .obtain⟨x,y,e,hx,hy⟩:=alg_sub h;exact⟨x,y,e,.tail _ hx,.tail _ hy⟩
theorem lohi_mem(a b:Int):a=Mt.lo a b\/a=Mt.hi a b:=by unfold Mt.lo Mt.hi;split<;>split<;>omega
theorem alg_nd:∀{t:List Int},t.Nodup->(alg t).Nodup
 | [],_=>by simp[alg]
 | [_],_=>by simp[alg]
 | a::b::r,h=>by
  obtain⟨h1,h2⟩:=List.nodup_cons.mp h;show([Mt.lo a b,Mt.hi a b]::alg (b::r)).Nodup;refine List.nodup_cons.mpr ⟨λz=>?_,alg_nd h2⟩;obtain⟨x,y,e,hx,hy⟩:=alg_sub z;injection e with e1 e2
  injection e2 with e2 _
  rcases lohi_mem a b with q|q
  .exact h1 (by rw[q,e1];exact hx)
  .exact h1 (by rw[q,e2];exact hy)
theorem prs_sub:∀{os:List Int}{k:List Int},k∈prs os->∃a b,k=[Mt.lo a b,Mt.hi a b]/\a∈os/\b∈os
 | [],k,h=>by simp[prs] at h
 | [_],k,h=>by simp[prs] at h
 | a::b::r,k,h=>by
  rcases List.mem_cons.mp (show k∈[Mt.lo a b,Mt.hi a b]::prs r from h) with rfl|h
  .exact⟨a,b,rfl,by simp,by simp⟩
  .obtain⟨x,y,e,hx,hy⟩:=prs_sub h;exact⟨x,y,e,.tail _ (.tail _ hx),.tail _ (.tail _ hy)⟩
theorem lo_in{a b:Int}{os:List Int}(ha:a∈os)(hb:b∈os):Mt.lo a b∈os/\Mt.hi a b∈os:=by
 unfold Mt.lo Mt.hi;constructor<;>split<;>assumption
structure Lay(t rest:List Int)(u:Int)(P:List (List Int)):Prop where
 nd:(t++rest).Nodup
 l2:2<=t.length
 ex:∃R:List (List Int),R.Sublist (prs rest)/\P.Perm (altL (alg t) u (alg t).length++R)
def Itn(K:W.Frag)(a:Addr):It:=
  ⟨λi H=>∃xs x,SqL K H a xs/\xs[i]?=some x,
   λi H x H'=>∃t u,x=.ref t/\H t=none/\H'=upd H t (.tup [.int i,u])/\∀xs,SqL K H a xs->xs[i]?=some u,
   λi H=>∃xs,SqL K H a xs/\xs.length<=i⟩
theorem turn_enum{P:Program}{w:World}{K:W.Frag}{elts:List Expr}{x1}{pos:Pos}{e it a:Addr}(D:e≠it) :
  Turn P w K (.Tuple elts x1 pos) (Itn K a) [e,it] e (λi h=>(∃old,IsEnum h e it i old)/\h.IsListIter it a i) where
 mem:=by simp
 obj:=λi h st c hc=>by
  obtain⟨⟨u,s1⟩,⟨o4,e4,_,d4⟩⟩:=st;simp only[List.mem_cons,List.not_mem_nil,or_false] at hc;rcases hc with rfl|rfl
  .exact⟨_,s1,λv q=>by cases(show Data.fields _=Data.cell v from q)⟩
  .exact⟨o4,e4,λv q=>by rw[d4] at q;cases q⟩
 keep:=λi h h' st k=>by
  obtain⟨⟨u,s1⟩,s4⟩:=st;exact⟨⟨u,k e (by simp) _ s1⟩,s4.at λo q=>k it (by simp) o q⟩
 item:=by
  intro X hP hw hK hc i pins s σ H E I hf st hg;subst hP hw hK;obtain⟨⟨u,s1⟩,s4⟩:=st;obtain⟨xs,x,hx,ex⟩:=hg;obtain⟨ia,ra,pa,za⟩:=I.list hx;obtain⟨vx,evx,rx⟩:=Vals.get ra ex;refine wpAny_pyNext_enum_item s1 s4 pa.isList (x:=vx) (by simpa using evx) D λh1 a1 a2 a3 a4 a5=>⟨_,rfl,?_⟩;refine wpAny_letOwnedTupleGo_enum a1 λh2 b1 sb=>?_;have nz:∀{c:Addr}{o:Obj},s.heap.get? c=some o->s.heap.objs.size≠c:=λe=>Nat.ne_of_gt (Heap.lt_size e);have hT:H s.heap.objs.size=none:=I.hok.fresh (Nat.le_refl _);have tz:s.heap.objs.size≠e:=nz s1;have kept:∀c o,c∉[e,it]->s.heap.get? c=some o->h2.get? c=some o:=λc o hc e=>by
   simp only[List.mem_cons,List.not_mem_nil,or_false,not_or] at hc;exact sb.extBut c o hc.1 (a5 c o hc.1 hc.2 e)
  have pT:=sb.extBut _ _ tz a3;have I2:Inv X pins σ (upd H s.heap.objs.size (.tup [.int i,x])) {s with heap:=h2,toks:=s.toks+1}:=by
   refine I.turnedL kept hf (λc u e=>by rw[upd_ne (ne_of_none e hT)];exact e) (λc o _ e n=>by rw[upd_ne (Ne.symm (nz e))];exact n) λc u e n=>?_;by_cases ec:c=s.heap.objs.size
   .subst ec;rw[upd_same] at e;cases e;exact⟨by show 2<=sizeLine;decide,[.int i s.toks,vx],.cons ⟨_,rfl⟩ (.cons rx .nil),_,pT,rfl,0,rfl⟩
   .rw[upd_ne ec,n] at e;cases e
  refine⟨.ref s.heap.objs.size,_,I2,rfl,⟨_,x,rfl,hT,rfl,λxs' hx'=>?_⟩,⟨⟨_,b1⟩,a2.extBut sb.extBut (Ne.symm D)⟩,λc hc=>?_⟩
  .rw[I.list_inj hx' hx];exact ex
  .rw [upd_ne λq=>?_]
   .exact(hf c hc).1
   .subst q;simp only[List.mem_cons,List.not_mem_nil,or_false] at hc;obtain⟨_,e4,_⟩:=s4;rcases hc with q|q
    .exact nz s1 q
    .exact nz e4 q
 done:=by
  intro X hP hw hK hc i pins s σ H E I hf st hg;subst hP hw hK;obtain⟨⟨u,s1⟩,s4⟩:=st;obtain⟨xs,hx,le⟩:=hg;obtain⟨ia,ra,pa,za⟩:=I.list hx;have la:=Vals.length ra;refine wpAny_pyNext_enum_end (I.ok.hd hc) s1 s4 pa.isList (by simp;omega) λh1 k=>⟨rfl,I.turnedL (t':=s.toks) (λc o hc e=>?_) hf (λ_ _ e=>e) (λ_ _ _ _ e=>e) λc u e n=>by rw[n] at e;cases e⟩;simp only[List.mem_cons,List.not_mem_nil,or_false,not_or] at hc;exact k c o hc.2 e
 self:=λ_ _ _ _ _ st h=>by
  obtain⟨⟨u,s1⟩,_⟩:=st;exact wpAny_pyIter_enum s1 h
section
variable{X:Cx}{elts:List Expr}{x1:Nat}{p0:Pos}
theorem boot_enumerate:bootBuiltins "enumerate"=some (.type "enumerate"):=by decide +kernel
def iEnum(K:W.Frag)(ta:TA):TI:=λσ H R=>ta σ H λvs H1=>∃a,vs=[.ref a]/\(∃xs,SqL K H1 a xs)/\R (Itn K a) H1
theorem pi_enum{a:Expr}{ta:TA}{p pos:Pos}(hg:Gl X "enumerate")(hm:X.mg "enumerate"=none)(ha:PA X [a] ta)(hs:starEach [a] X.env=[(false,eval a X.env)]:=by rfl) :
  PI X (.Tuple elts x1 p0) (.Call (.Name "enumerate" p) [a] [] pos) (iEnum X.K ta):=by
 intro pins s σ H R I h;refine Call_ (ld_blt I hg hm boot_enumerate (PyProof.Rows.callWith_type1 (thn (ha pos pins s σ H _ I h) λus s1 ⟨vs,H1,I1,r1,q1⟩=>?_) hs rfl));obtain⟨l,rfl,⟨xs,hx⟩,q⟩:=q1;obtain⟨u,rfl,ru⟩:=vals1 r1;cases ru;obtain⟨ia,ra,pa,za⟩:=I1.list hx;refine call_enumerate_list pa.isList λh' c1 c2 c3 k=>?_;refine wpAny_pyIter_enum (s:={s1 with heap:=h'}) c1 ?_;refine⟨_,_,_,_,H1,rfl,I1.kept (t':=s1.toks) k,turn_enum (it:=s1.heap.objs.size) (Nat.succ_ne_self _),⟨⟨_,c1⟩,c2⟩,λc hc=>?_,q⟩;have ge:s1.heap.objs.size<=c:=by
  simp only[List.mem_cons,List.not_mem_nil,or_false] at hc;rcases hc with rfl|rfl<;>first|exact Nat.le_add_right _ _|exact Nat.le_refl _
 exact I1.fpOk ge (I1.hok.fresh ge)
end
end L2
namespace Tr
def flat:List (Int×Int)->List Int
 | []=>[]
 | (n,b)::L=>n::b::flat L
def rsw:List (Int×Int)->List (Int×Int)
 | []=>[]
 | (n,b)::L=>rsw L++[(b,n)]
theorem flat_app:∀(L M:List (Int×Int)),flat (L++M)=flat L++flat M
 | [],_=>rfl
 | (n,b)::L,M=>by
  show n::b::flat (L++M)=n::b::(flat L++flat M);rw[flat_app L M]
theorem flat_rsw:∀L:List (Int×Int),flat (rsw L)=(flat L).reverse
 | []=>rfl
 | (n,b)::L=>by
  show flat (rsw L++[(b,n)])=(n::b::flat L).reverse;rw[flat_app,flat_rsw L,List.reverse_cons,List.reverse_cons,List.append_assoc];rfl
theorem mem_rsw:∀{L:List (Int×Int)}{n b:Int},(n,b)∈rsw L↔(b,n)∈L
 | [],_,_=>⟨λh=>(nomatch h),λh=>(nomatch h)⟩
 | (x,y)::L,n,b=>by
  show(n,b)∈rsw L++[(y,x)]↔_;rw[List.mem_append,mem_rsw,List.mem_singleton,List.mem_cons,Prod.mk.injEq,Prod.mk.injEq];constructor
  .rintro(h|⟨rfl,rfl⟩)
   .exact .inr h
   .exact .inl ⟨rfl,rfl⟩
  .rintro(⟨rfl,rfl⟩|h)
   .exact .inr ⟨rfl,rfl⟩
   .exact .inl h
theorem mem_flat:∀{L:List (Int×Int)}{y:Int},y∈flat L↔∃n b,(n,b)∈L/\(y=n\/y=b)
 | [],_=>⟨λh=>(nomatch h),λ⟨_,_,h,_⟩=>(nomatch h)⟩
 | (n,b)::L,y=>by
  show y∈n::b::flat L↔_;rw[List.mem_cons,List.mem_cons,mem_flat];constructor
  .rintro(rfl|rfl|⟨u,v,h,e⟩)
   .exact⟨y,b,.head _,.inl rfl⟩
   .exact⟨n,y,.head _,.inr rfl⟩
   .exact⟨u,v,.tail _ h,e⟩
  .rintro⟨u,v,h,e⟩;cases h with
   | head=>exact e.elim .inl λz=>.inr (.inl z)
   | tail _ h=>exact .inr (.inr ⟨u,v,h,e⟩)
theorem flat_len:∀L:List (Int×Int),(flat L).length=2*L.length
 | []=>rfl
 | (n,b)::L=>by
  show(flat L).length+1+1=2*(L.length+1);rw[flat_len L];omega
structure Sym(nb:Int->List Int)(par:Int->Option Int):Prop where
 tie:∀{x y:Int},y∈nb x->x∈nb y
 mate:∀{x y:Int},par x=some y->par y=some x
 ne:∀{x y:Int},par x=some y->x≠y
section
variable(nb:Int->List Int)(par:Int->Option Int)
def Ch:Int->List (Int×Int)->Prop
 | _,[]=>True
 | x,(n,b)::L=>n∈nb x/\par x≠some n/\par n=some b/\Ch b L
def fin:Int->List (Int×Int)->Int
 | x,[]=>x
 | _,(_,b)::L=>fin b L
theorem fin_app:∀(x:Int)(L M:List (Int×Int)),fin x (L++M)=fin (fin x L) M
 | _,[],_=>rfl
 | _,(_,b)::L,M=>fin_app b L M
theorem ch_app:∀(x:Int)(L M:List (Int×Int)),Ch nb par x (L++M)↔Ch nb par x L/\Ch nb par (fin x L) M
 | _,[],_=>⟨λh=>⟨True.intro,h⟩,λh=>h.2⟩
 | x,(n,b)::L,M=>by
  show(n∈nb x/\par x≠some n/\par n=some b/\Ch nb par b (L++M))↔(n∈nb x/\par x≠some n/\par n=some b/\Ch nb par b L)/\_;rw[ch_app b L M];exact⟨λ⟨h1,h2,h3,h4,h5⟩=>⟨⟨h1,h2,h3,h4⟩,h5⟩,λ⟨⟨h1,h2,h3,h4⟩,h5⟩=>⟨h1,h2,h3,h4,h5⟩⟩
theorem ch_par:∀{x:Int}{L:List (Int×Int)},Ch nb par x L->∀{n b:Int},(n,b)∈L->par n=some b
 | _,_::_,h,_,_,.head _=>h.2.2.1
 | _,_::_,h,_,_,.tail _ m=>ch_par h.2.2.2 m
variable{nb par}
theorem ch_rsw(S:Sym nb par):∀{x y:Int}{M:List (Int×Int)},Ch nb par x M->fin x M∈nb y->par y≠some (fin x M)->M≠[]->Ch nb par y (rsw M)
 | _,_,[],_,_,_,e=>absurd rfl e
 | x,y,(n,b)::M,h,h1,h2,_=>by
  obtain⟨g1,g2,g3,g4⟩:=h;show Ch nb par y (rsw M++[(b,n)]);rw[ch_app];cases M with
  | nil=>exact⟨True.intro,h1,h2,S.mate g3,True.intro⟩
  | cons p M=>
   obtain⟨n2,b2⟩:=p;refine⟨ch_rsw S g4 h1 h2 (by simp),?_⟩;have e:fin y (rsw ((n2,b2)::M))=n2:=by
    show fin y (rsw M++[(b2,n2)])=n2;rw[fin_app];rfl
   rw[e];exact⟨S.tie g4.1,λz=>g4.2.1 (S.mate z),S.mate g3,True.intro⟩
theorem fin_rsw{y n b:Int}{M:List (Int×Int)}:fin y (rsw ((n,b)::M))=n:=by
 show fin y (rsw M++[(b,n)])=n;rw[fin_app];rfl
theorem fin_mem:∀{x:Int}{L:List (Int×Int)},fin x L∈x::flat L
 | x,[]=>.head _
 | x,(n,b)::L=>by
  have:=fin_mem (x:=b) (L:=L);show fin b L∈x::n::b::flat L;exact .tail _ (.tail _ this)
end
abbrev Ts:=List (Int×List (Int×Int))
def keys(T:Ts):List Int:=T.map (·.1)
structure Ok(nb:Int->List Int)(par:Int->Option Int)(root:Int)(T:Ts):Prop where
 nd:(keys T).Nodup
 rt:root∈keys T
 free:par root=none
 ch:∀p L,(p,L)∈T->Ch nb par root L
 en:∀p L,(p,L)∈T->fin root L=p
 un:∀p L,(p,L)∈T->(root::flat L).Nodup
 bk:∀p L,(p,L)∈T->∀n b,(n,b)∈L->b∈keys T
 thr:∀x L1 n b L9,(x,L1++(n,b)::L9)∈T->n∉keys T->∀y∈b::flat L9,∀z M,(z,M)∈T->y∈root::flat M->n∈flat M
theorem mem_keys{T:Ts}{p:Int}{L:List (Int×Int)}(h:(p,L)∈T):p∈keys T:=List.mem_map.mpr ⟨_,h,rfl⟩
theorem keys_mem{T:Ts}{p:Int}(h:p∈keys T):∃L,(p,L)∈T:=by
 obtain⟨⟨q,L⟩,g,rfl⟩:=List.mem_map.mp h;exact⟨L,g⟩
theorem ok0{nb:Int->List Int}{par:Int->Option Int}{root:Int}(h:par root=none):Ok nb par root [(root,[])]:=by
 have one:∀{p L},(p,L)∈([(root,[])]:Ts)->p=root/\L=[]:=λh=>by
  rw[List.mem_singleton,Prod.mk.injEq] at h;exact h
 refine⟨by simp[keys],by simp[keys],h,λp L m=>?_,λp L m=>?_,λp L m=>?_,λp L m n b q=>?_,λx L1 n b L9 m=>?_⟩
 .obtain⟨rfl,rfl⟩:=one m;exact True.intro
 .obtain⟨rfl,rfl⟩:=one m;rfl
 .obtain⟨rfl,rfl⟩:=one m;simp[flat]
 .obtain⟨rfl,rfl⟩:=one m;exact nomatch q
 .have:=(one m).2;simp at this
section
variable{nb:Int->List Int}{par:Int->Option Int}{root:Int}{T:Ts}
theorem Ok.odd(K:Ok nb par root T){z:Int}{M:List (Int×Int)}(h:(z,M)∈T){y:Int}(hy:y∈root::flat M)(n:y∉keys T):∃M1 b M2,M=M1++(y,b)::M2:=by
 rcases List.mem_cons.mp hy with rfl|hy
 .exact absurd K.rt n
 .obtain ⟨u,v,m,e⟩:=mem_flat.mp hy;rcases e with rfl|rfl
  .obtain⟨M1,M2,e⟩:=List.append_of_mem m;exact⟨M1,v,M2,e⟩
  .exact absurd (K.bk z M h _ _ m) n
theorem Ok.on(K:Ok nb par root T)(S:Sym nb par){p near b:Int}{A:List (Int×Int)}(hA:(p,A)∈T)(hn:near∈nb p)(nk:near∉keys T)(hp:par near=some b)(bk:b∉keys T):Ok nb par root (T++[(b,A++[(near,b)])]):=by
 have nin:∀{z M},(z,M)∈T->near∉root::flat M:=λ{z M} h hy=>by
  obtain⟨M1,c,M2,rfl⟩:=K.odd h hy nk;have:=ch_par nb par (K.ch _ _ h) (n:=near) (b:=c) (by simp);rw[hp] at this;cases this;exact bk (K.bk _ _ h near b (by simp))
 have bin:∀{z M},(z,M)∈T->b∉root::flat M:=λ{z M} h hy=>by
  obtain⟨M1,c,M2,rfl⟩:=K.odd h hy bk;have:=ch_par nb par (K.ch _ _ h) (n:=b) (b:=c) (by simp);rw[S.mate hp] at this;cases this;exact nk (K.bk _ _ h b near (by simp))
 have fA:=K.en _ _ hA;have ks:∀x,x∈keys (T++[(b,A++[(near,b)])])↔x∈keys T\/x=b:=λx=>by simp[keys]
 have cs:∀{q L},(q,L)∈T++[(b,A++[(near,b)])]->(q,L)∈T\/(q=b/\L=A++[(near,b)]):=λh=>by
  rcases List.mem_append.mp h with h|h
  .exact .inl h
  .rw[List.mem_singleton,Prod.mk.injEq] at h;exact .inr h
 have eF:flat (A++[(near,b)])=flat A++[near,b]:=flat_app _ _;refine⟨?_,(ks _).mpr (.inl K.rt),K.free,λq L m=>?_,λq L m=>?_,λq L m=>?_,λq L m n c h=>?_,λx L1 n c L9 m nn y hy z M hz hM=>?_⟩
 .show((T++[(b,A++[(near,b)])]).map (·.1)).Nodup;rw[List.map_append,List.nodup_append];refine⟨K.nd,by simp,λx hx y hy e=>?_⟩;have:y=b:=by simpa using hy
  exact bk (this ▸ e ▸ hx)
 .rcases cs m with m|⟨rfl,rfl⟩
  .exact K.ch _ _ m
  .rw[ch_app];refine⟨K.ch _ _ hA,?_⟩;rw[fA];refine⟨hn,λz=>?_,hp,True.intro⟩;have:=S.mate z;rw[hp] at this;cases this;exact bk (mem_keys hA)
 .rcases cs m with m|⟨rfl,rfl⟩
  .exact K.en _ _ m
  .rw[fin_app];rfl
 .rcases cs m with m|⟨rfl,rfl⟩
  .exact K.un _ _ m
  .rw [eF,<-List.cons_append,List.nodup_append];refine⟨K.un _ _ hA,?_,λx hx y hy e=>?_⟩
   .have:=S.ne hp;simp[this]
   .subst e;rcases List.mem_cons.mp hy with rfl|hy
    .exact nin hA hx
    .rw[List.mem_singleton] at hy;subst hy;exact bin hA hx
 .rcases cs m with m|⟨rfl,rfl⟩
  .exact(ks _).mpr (.inl (K.bk _ _ m _ _ h))
  .rcases List.mem_append.mp h with h|h
   .exact(ks _).mpr (.inl (K.bk _ _ hA _ _ h))
   .rw[List.mem_singleton,Prod.mk.injEq] at h;exact(ks _).mpr (.inr h.2)
 .have n1:n∉keys T:=λq=>nn ((ks _).mpr (.inl q));have beh:(∃x0 K1 c0 K2,(x0,K1++(n,c0)::K2)∈T/\y∈c0::flat K2)\/((y=near\/y=b)/\n∈flat (A++[(near,b)])):=by
   rcases cs m with m|⟨_,e⟩
   .exact .inl ⟨x,L1,c,L9,m,hy⟩
   .rcases List.append_eq_append_iff.mp e with⟨a',e1,e2⟩|⟨a',e1,e2⟩
    .-- A=L1++a'
     cases a' with
     | nil=>
      rw[List.nil_append] at e2;cases e2;refine .inr ⟨.inr (by simpa[flat] using hy),?_⟩;rw[eF];simp
     | cons t a'=>
      rw[List.cons_append] at e2;injection e2 with e2 e3
      subst e2 e3;rcases List.mem_cons.mp hy with rfl|hy
      .exact .inl ⟨p,L1,y,a',e1 ▸ hA,.head _⟩
      .rw [flat_app] at hy;rcases List.mem_append.mp hy with hy|hy
       .exact .inl ⟨p,L1,c,a',e1 ▸ hA,.tail _ hy⟩
       .refine .inr ⟨by simpa[flat] using hy,?_⟩;rw[eF,e1,flat_app];simp[flat]
    .have:=congrArg List.length e2;rw[List.length_append] at this;simp at this;have ea:a'=[]:=by
      cases a' with
      | nil=>rfl
      | cons _ _=>simp only[List.length_cons] at this;omega
     subst ea;rw[List.nil_append] at e2;cases e2;refine .inr ⟨.inr (by simpa[flat] using hy),?_⟩;rw[eF];simp
  rcases beh with⟨x0,K1,c0,K2,m0,h0⟩|⟨e,hn'⟩
  .rcases cs hz with hz|⟨rfl,rfl⟩
   .exact K.thr x0 K1 n c0 K2 m0 n1 y h0 z M hz hM
   .have yin:y∈root::flat (K1++(n,c0)::K2):=by
     rw[flat_app];show y∈root::(flat K1++n::c0::flat K2);refine .tail _ (List.mem_append_right _ (.tail _ h0))
    rw[eF] at hM ⊢;rw[<-List.cons_append] at hM;rcases List.mem_append.mp hM with hM|hM
    .exact List.mem_append_left _ (K.thr x0 K1 n c0 K2 m0 n1 y h0 p A hA hM)
    .rcases List.mem_cons.mp hM with rfl|hM
     .exact absurd yin (nin m0)
     .rw[List.mem_singleton] at hM;subst hM;exact absurd yin (bin m0)
  .rcases cs hz with hz' | ⟨rfl,rfl⟩
   .rcases e with e|e
    .exact absurd (e ▸ hM) (nin hz')
    .exact absurd (e ▸ hM) (bin hz')
   .exact hn'
end
end Tr
namespace Tr
def tbM(root:Int)(A:List (Int×Int)):List (Int×Int)->Ts->Ts
 | [],T=>T
 | (n,b)::B,T=>if n∈keys T\/n∈root::flat A then tbM root A B T else tbM root A B (T++[(n,A++rsw ((n,b)::B))])
def Nw(T:Ts)(root:Int)(A B:List (Int×Int))(q:Int)(L:List (Int×Int)):Prop:=∃B1 b B2,B=B1++(q,b)::B2/\q∉keys T/\q∉root::flat A/\L=A++rsw ((q,b)::B2)
theorem keys_snoc{T:Ts}{n:Int}{L:List (Int×Int)}{x:Int}:x∈keys (T++[(n,L)])↔x∈keys T\/x=n:=by simp[keys]
theorem tbM_keys{root:Int}{A:List (Int×Int)}:∀{B:List (Int×Int)}{T:Ts}{x:Int},x∈keys (tbM root A B T)↔x∈keys T\/(x∈B.map (·.1)/\x∉root::flat A)
 | [],T,x=>⟨λh=>.inl h,λh=>h.elim id λz=>(nomatch z.1)⟩
 | (n,b)::B,T,x=>by
  have mc:x∈((n,b)::B).map (·.1)↔x=n\/x∈B.map (·.1):=List.mem_cons;rw[mc];unfold tbM
  split
  .rename_i c
   rw[tbM_keys];constructor
   .rintro(h|⟨h1,h2⟩)
    .exact .inl h
    .exact .inr ⟨.inr h1,h2⟩
   .rintro(h|⟨h1|h1,h2⟩)
    .exact .inl h
    .subst h1;rcases c with c|c
     .exact .inl c
     .exact absurd c h2
    .exact .inr ⟨h1,h2⟩
  .rename_i c
   rw[tbM_keys,keys_snoc];constructor
   .rintro((h|rfl)|⟨h1,h2⟩)
    .exact .inl h
    .exact .inr ⟨.inl rfl,λz=>c (.inr z)⟩
    .exact .inr ⟨.inr h1,h2⟩
   .rintro(h|⟨h1|h1,h2⟩)
    .exact .inl (.inl h)
    .exact .inl (.inr h1)
    .exact .inr ⟨h1,h2⟩
theorem tbM_mem{root:Int}{A:List (Int×Int)}:∀{B:List (Int×Int)}{T:Ts}{q:Int}{L:List (Int×Int)},(q,L)∈tbM root A B T->(q,L)∈T\/Nw T root A B q L
 | [],T,_,_,h=>.inl h
 | (n,b)::B,T,q,L,h=>by
  unfold tbM at h
  split at h
  .rcases tbM_mem h with h|⟨B1,c,B2,e,h1,h2,h3⟩
   .exact .inl h
   .exact .inr ⟨(n,b)::B1,c,B2,by rw[e];rfl,h1,h2,h3⟩
  .rename_i c
   rcases tbM_mem h with h|⟨B1,c',B2,e,h1,h2,h3⟩
   .rcases List.mem_append.mp h with h|h
    .exact .inl h
    .rw[List.mem_singleton,Prod.mk.injEq] at h;obtain⟨rfl,rfl⟩:=h;exact .inr ⟨[],b,B,rfl,λz=>c (.inl z),λz=>c (.inr z),rfl⟩
   .exact .inr ⟨(n,b)::B1,c',B2,by rw[e];rfl,λz=>h1 (keys_snoc.mpr (.inl z)),h2,h3⟩
theorem tbM_nd{root:Int}{A:List (Int×Int)}:∀{B:List (Int×Int)}{T:Ts},(keys T).Nodup->(keys (tbM root A B T)).Nodup
 | [],T,h=>h
 | (n,b)::B,T,h=>by
  unfold tbM
  split
  .exact tbM_nd h
  .rename_i c
   refine tbM_nd ?_;show((T++[(n,A++rsw ((n,b)::B))]).map (·.1)).Nodup;rw[List.map_append,List.nodup_append];refine⟨h,by simp,λx hx y hy e=>?_⟩;have:y=n:=by simpa using hy
   exact c (.inl (this ▸ e ▸ hx))
section
variable{nb:Int->List Int}{par:Int->Option Int}{root:Int}{T:Ts}{pa pb:Int}{A B:List (Int×Int)}
theorem Ok.apart(K:Ok nb par root T)(hA:(pa,A)∈T)(hB:(pb,B)∈T){B1 B2:List (Int×Int)}{q b:Int}(e:B=B1++(q,b)::B2)(nq:q∉keys T)(nA:q∉root::flat A){y:Int}(hy:y∈flat ((q,b)::B2)):y∉root::flat A:=λh=>by
 subst e;rcases List.mem_cons.mp (show y∈q::b::flat B2 from hy) with rfl|hy
 .exact nA h
 .exact nA (.tail _ (K.thr pb B1 q b B2 hB nq y hy pa A hA h))
theorem Ok.nw(K:Ok nb par root T)(S:Sym nb par)(hA:(pa,A)∈T)(hB:(pb,B)∈T)(hn:pb∈nb pa){q:Int}{L:List (Int×Int)}(h:Nw T root A B q L) :
  Ch nb par root L/\fin root L=q/\(root::flat L).Nodup/\∀n b,(n,b)∈L->b∈keys T\/(b∈B.map (·.1)/\b∉root::flat A):=by
 obtain⟨B1,c,B2,e,nq,nA,rfl⟩:=h;have ap:=λ{y} hy=>K.apart hA hB e nq nA (y:=y) hy;have fA:=K.en _ _ hA;have fB:=K.en _ _ hB;have cB:=K.ch _ _ hB;have uB:=K.un _ _ hB;rw[e,ch_app] at cB;rw[e,fin_app] at fB;rw[e,flat_app,<-List.cons_append,List.nodup_append] at uB;refine⟨?_,?_,?_,λn b hnb=>?_⟩
 .rw [ch_app];refine⟨K.ch _ _ hA,?_⟩;rw[fA];refine ch_rsw S cB.2 (by rw[fB];exact hn) (λz=>?_) (by simp);rw[fB] at z;have z':=S.mate z;obtain⟨B3,n3,b3,e3⟩:∃B3 n3 b3,(q,c)::B2=B3++[(n3,b3)]:=by
   rcases List.eq_nil_or_concat ((q,c)::B2) with h|⟨B3,⟨n3,b3⟩,h⟩
   .exact nomatch h
   .exact⟨B3,n3,b3,by rw[h,List.concat_eq_append]⟩
  rw[e3,fin_app] at fB;have fB:b3=pb:=fB;have m3:(n3,b3)∈(q,c)::B2:=by rw[e3];simp
  have p3:=ch_par nb par cB.2 m3;rw[fB] at p3;have p3:=S.mate p3;rw[z'] at p3;cases p3;have pain:pa∈root::flat A:=by have:=fin_mem (x:=root) (L:=A);rwa [fA] at this
  exact ap (mem_flat.mpr ⟨pa,b3,m3,.inl rfl⟩) pain
 .rw[fin_app];exact fin_rsw
 .rw[flat_app,flat_rsw,<-List.cons_append,List.nodup_append];refine⟨K.un _ _ hA,List.pairwise_reverse.mpr (uB.2.1.imp λh=>Ne.symm h),λx hx y hy e'=>?_⟩;subst e';exact ap (List.mem_reverse.mp hy) hx
 .rcases List.mem_append.mp hnb with hnb|hnb
  .exact .inl (K.bk _ _ hA _ _ hnb)
  .have hbn:=mem_rsw.mp hnb;refine .inr ⟨List.mem_map.mpr ⟨(b,n),by rw[e];exact List.mem_append_right _ hbn,rfl⟩,ap (mem_flat.mpr ⟨b,n,hbn,.inl rfl⟩)⟩
def Beh(T:Ts)(n y:Int):Prop:=∃x0 K1 c0 K2,(x0,K1++(n,c0)::K2)∈T/\y∈c0::flat K2
theorem Ok.beh(K:Ok nb par root T)(hA:(pa,A)∈T)(hB:(pb,B)∈T){x:Int}{L:List (Int×Int)}(h:Nw T root A B x L){L1 L9:List (Int×Int)}{n b y:Int}(eL:L=L1++(n,b)::L9)(nk:n∉keys T)(nx:n≠x)(ab:n∈A.map (·.1)->n∈root::flat B)(hy:y∈b::flat L9):Beh T n y:=by
 obtain⟨B1,c,B2,e,nq,nA,rfl⟩:=h;have ap:=λ{y} hy=>K.apart hA hB e nq nA (y:=y) hy;rcases List.append_eq_append_iff.mp eL.symm with⟨a',e1,e2⟩|⟨a',e1,e2⟩
 .cases a' with
  | nil=>
   rw[List.nil_append] at e2;have:(n,b)∈rsw ((x,c)::B2):=by rw[<-e2];simp
   have:=mem_rsw.mp this;exact absurd (K.bk _ _ hB b n (by rw[e];exact List.mem_append_right _ this)) nk
  | cons t a'=>
   rw[List.cons_append] at e2;injection e2 with e2 e3
   subst e2 e3;rcases List.mem_cons.mp hy with rfl|hy
   .exact⟨pa,L1,y,a',e1 ▸ hA,.head _⟩
   .rw [flat_app] at hy;rcases List.mem_append.mp hy with hy|hy
    .exact⟨pa,L1,b,a',e1 ▸ hA,.tail _ hy⟩
    .rw [flat_rsw,List.mem_reverse] at hy;have nA':n∈A.map (·.1):=by rw[e1];simp
     obtain⟨C1,b',C2,eC⟩:=K.odd hB (ab nA') nk;have nin:n∈root::flat A:=by
      rw[e1,flat_app];simp[flat]
     rw[e] at eC;rcases List.append_eq_append_iff.mp eC with⟨d',g1,g2⟩|⟨d',g1,g2⟩
     .-- C1=B1++d'
      cases d' with
      | nil=>
       rw[List.nil_append] at g2;injection g2 with g2 _
       injection g2 with g2 _
       exact absurd g2.symm nx
      | cons t' d'=>
       rw[List.cons_append] at g2;injection g2 with g2 g3
       refine absurd nin (ap (y:=n) ?_);rw[g3];refine mem_flat.mpr ⟨n,b',?_,.inl rfl⟩;simp
     .cases d' with
      | nil=>
       rw[List.nil_append] at g2;injection g2 with g2 _
       injection g2 with g2 _
       exact absurd g2 nx
      | cons t' d'=>
       rw[List.cons_append] at g2;injection g2 with g2 g3
       subst g2 g3;refine⟨pb,C1,b',d'++(x,c)::B2,?_,?_⟩
       .have:B=C1++(n,b')::(d'++(x,c)::B2):=by
         rw[e,g1,List.append_assoc];rfl
        exact this ▸ hB
       .rw[flat_app];exact .tail _ (List.mem_append_right _ hy)
 .-- (n,b) is in what is gone backwards
  have:(n,b)∈rsw ((x,c)::B2):=by rw[e2];simp
  have:=mem_rsw.mp this;exact absurd (K.bk _ _ hB b n (by rw[e];exact List.mem_append_right _ this)) nk
theorem Ok.thrN(K:Ok nb par root T)(hA:(pa,A)∈T)(hB:(pb,B)∈T){z:Int}{M:List (Int×Int)}(h:Nw T root A B z M){n y:Int}(nk:n∉keys T)(hb:Beh T n y)(ba:n∈B.map (·.1)->n∈root::flat A)(hy:y∈root::flat M):n∈flat M:=by
 obtain⟨B1,c,B2,e,nq,nA,rfl⟩:=h;obtain⟨x0,K1,c0,K2,m0,h0⟩:=hb;have inA:n∈root::flat A->n∈flat (A++rsw ((z,c)::B2)):=λh=>by
  rw[flat_app];rcases List.mem_cons.mp h with rfl|h
  .exact absurd K.rt nk
  .exact List.mem_append_left _ h
 rw[flat_app,<-List.cons_append] at hy;rcases List.mem_append.mp hy with hy|hy
 .exact inA (.tail _ (K.thr x0 K1 n c0 K2 m0 nk y h0 pa A hA hy))
 .rw[flat_rsw,List.mem_reverse] at hy;have:y∈root::flat B:=by rw[e,flat_app];exact .tail _ (List.mem_append_right _ hy)
  have nB:=K.thr x0 K1 n c0 K2 m0 nk y h0 pb B hB this;obtain⟨C1,b',C2,eC⟩:=K.odd hB (.tail _ nB) nk;exact inA (ba (by rw[eC];simp))
theorem Ok.bk0(K:Ok nb par root T)(S:Sym nb par)(hA:(pa,A)∈T)(hB:(pb,B)∈T)(hn:pb∈nb pa):Ok nb par root (tbM root B A (tbM root A B T)):=by
 have key:∀x,x∈keys (tbM root B A (tbM root A B T))↔x∈keys T\/(x∈B.map (·.1)/\x∉root::flat A)\/(x∈A.map (·.1)/\x∉root::flat B):=λx=>by
  rw[tbM_keys,tbM_keys,or_assoc]
 have mem:∀{q L},(q,L)∈tbM root B A (tbM root A B T)->(q,L)∈T\/Nw T root A B q L\/Nw T root B A q L:=λh=>by
  rcases tbM_mem h with h|⟨B1,b,B2,e,h1,h2,h3⟩
  .rcases tbM_mem h with h|h
   .exact .inl h
   .exact .inr (.inl h)
  .exact .inr (.inr ⟨B1,b,B2,e,λz=>h1 (tbM_keys.mpr (.inl z)),h2,h3⟩)
 have hn':=S.tie hn;refine⟨tbM_nd (tbM_nd K.nd),(key _).mpr (.inl K.rt),K.free,λp L m=>?_,λp L m=>?_,λp L m=>?_,λp L m n b h=>?_,λx L1 n b L9 m nn y hy z M hz hM=>?_⟩
 .rcases mem m with m|m|m
  .exact K.ch _ _ m
  .exact(K.nw S hA hB hn m).1
  .exact(K.nw S hB hA hn' m).1
 .rcases mem m with m|m|m
  .exact K.en _ _ m
  .exact(K.nw S hA hB hn m).2.1
  .exact(K.nw S hB hA hn' m).2.1
 .rcases mem m with m|m|m
  .exact K.un _ _ m
  .exact(K.nw S hA hB hn m).2.2.1
  .exact(K.nw S hB hA hn' m).2.2.1
 .rcases mem m with m|m|m
  .exact(key _).mpr (.inl (K.bk _ _ m _ _ h))
  .exact(key _).mpr (((K.nw S hA hB hn m).2.2.2 n b h).imp id .inl)
  .exact(key _).mpr (((K.nw S hB hA hn' m).2.2.2 n b h).imp id .inr)
 .have nk:n∉keys T:=λq=>nn ((key _).mpr (.inl q));have ba:n∈B.map (·.1)->n∈root::flat A:=λh=>Classical.byContradiction λc=>nn ((key _).mpr (.inr (.inl ⟨h,c⟩)));have ab:n∈A.map (·.1)->n∈root::flat B:=λh=>Classical.byContradiction λc=>nn ((key _).mpr (.inr (.inr ⟨h,c⟩)));have nx:n≠x:=λq=>nn (q ▸ mem_keys m);have hb:Beh T n y:=by
   rcases mem m with m|m|m
   .exact⟨x,L1,b,L9,m,hy⟩
   .exact K.beh hA hB m rfl nk nx ab hy
   .exact K.beh hB hA m rfl nk nx ba hy
  rcases mem hz with hz|hz|hz
  .obtain⟨x0,K1,c0,K2,m0,h0⟩:=hb;exact K.thr x0 K1 n c0 K2 m0 nk y h0 z M hz hM
  .exact K.thrN hA hB hz nk hb ba hM
  .exact K.thrN hB hA hz nk hb ab hM
end
end Tr
namespace Tr
def tget(T:Ts)(p:Int):List (Int×Int):=((T.find? λq=>decide (q.1=p)).map (·.2)).getD []
theorem tget_mem{T:Ts}{p:Int}(h:p∈keys T):(p,tget T p)∈T:=by
 obtain⟨L,hL⟩:=keys_mem h;unfold tget;cases e:T.find? λq=>decide (q.1=p) with
 | none=>exact absurd (List.find?_eq_none.mp e _ hL) (by simp)
 | some q=>
  have h1:=List.find?_some e;have h2:=List.mem_of_find?_eq_some e;have:q.1=p:=of_decide_eq_true h1;subst this;exact h2
theorem tget_of{T:Ts}(nd:(keys T).Nodup){p:Int}{L:List (Int×Int)}(h:(p,L)∈T):tget T p=L:=by
 have h2:=tget_mem (mem_keys h);have key:∀{T:Ts},(keys T).Nodup->∀{L M},(p,L)∈T->(p,M)∈T->L=M:=by
  intro T
  induction T with
  | nil=>intro _ _ _ h;exact nomatch h
  | cons a T ih=>
   intro nd L M h1 h2;have nd':(a.1::keys T).Nodup:=nd;rw[List.nodup_cons] at nd';cases h1 with
   | head=>
    cases h2 with
    | head=>rfl
    | tail _ h2=>exact absurd (mem_keys h2) nd'.1
   | tail _ h1=>
    cases h2 with
    | head=>exact absurd (mem_keys h1) nd'.1
    | tail _ h2=>exact ih nd'.2 h1 h2
 exact key nd h2 h
def goneM(root:Int)(par:Int->Option Int)(p near:Int)(T:Ts):Ts:=
 if near∈keys T then tbM root (tget T near) (tget T p) (tbM root (tget T p) (tget T near) T)
 else match par near with
  | none=>T
  | some b=>if b∈keys T then T else T++[(b,tget T p++[(near,b)])]
def stepM(root:Int)(par:Int->Option Int)(p:Int)(ns:List Int)(T:Ts):Ts:=ns.foldl (λT near=>goneM root par p near T) T
def runM(root:Int)(par:Int->Option Int)(nb:Int->List Int):Nat->Ts->List Int->Ts
 | 0,T,_=>T
 | _+1,T,[]=>T
 | n+1,T,p::rest=>runM root par nb n (stepM root par p (nb p) T) (rest++(keys (stepM root par p (nb p) T)).drop T.length)
theorem runM_nil{root:Int}{par:Int->Option Int}{nb:Int->List Int}{n:Nat}{T:Ts}:runM root par nb n T []=T:=by cases n<;>rfl
def Ext(T T':Ts):Prop:=∃E,T'=T++E
theorem Ext.refl(T:Ts):Ext T T:=⟨[],(List.append_nil _).symm⟩
theorem Ext.trans{T U V:Ts}(h:Ext T U)(g:Ext U V):Ext T V:=by
 obtain⟨E,rfl⟩:=h;obtain⟨F,rfl⟩:=g;exact⟨E++F,List.append_assoc ..⟩
theorem Ext.mem{T U:Ts}(h:Ext T U){p}(m:p∈T):p∈U:=by
 obtain⟨E,rfl⟩:=h;exact List.mem_append_left _ m
theorem Ext.keys{T U:Ts}(h:Ext T U){p}(m:p∈keys T):p∈Tr.keys U:=by
 obtain⟨L,hL⟩:=keys_mem m;exact mem_keys (h.mem hL)
theorem Ext.len{T U:Ts}(h:Ext T U):T.length<=U.length:=by
 obtain⟨E,rfl⟩:=h;rw[List.length_append];omega
theorem tbM_ext{root:Int}{A:List (Int×Int)}:∀(B:List (Int×Int))(T:Ts),Ext T (tbM root A B T)
 | [],T=>Ext.refl T
 | (n,b)::B,T=>by
  unfold tbM
  split
  .exact tbM_ext B T
  .exact Ext.trans ⟨_,rfl⟩ (tbM_ext B _)
theorem goneM_ext{root:Int}{par:Int->Option Int}{p near:Int}(T:Ts):Ext T (goneM root par p near T):=by
 unfold goneM
 split
 .exact(tbM_ext _ _).trans (tbM_ext _ _)
 .split
  .exact Ext.refl T
  .split
   .exact Ext.refl T
   .exact⟨_,rfl⟩
theorem stepM_ext{root:Int}{par:Int->Option Int}{p:Int}:∀(ns:List Int)(T:Ts),Ext T (stepM root par p ns T)
 | [],T=>Ext.refl T
 | n::ns,T=>(goneM_ext T).trans (stepM_ext ns _)
section
variable{nb:Int->List Int}{par:Int->Option Int}{root:Int}
theorem Ok.gone{T:Ts}(K:Ok nb par root T)(S:Sym nb par){p near:Int}(hp:p∈keys T)(hn:near∈nb p):Ok nb par root (goneM root par p near T):=by
 unfold goneM
 split
 .rename_i h
  exact K.bk0 S (tget_mem hp) (tget_mem h) hn
 .rename_i h
  split
  .exact K
  .rename_i b eb
   split
   .exact K
   .rename_i hb
    exact K.on S (tget_mem hp) hn h eb hb
theorem Ok.step(S:Sym nb par){p:Int}:∀{ns:List Int}{T:Ts},Ok nb par root T->p∈keys T->(∀n∈ns,n∈nb p)->Ok nb par root (stepM root par p ns T)
 | [],_,K,_,_=>K
 | n::ns,T,K,hp,h=>by
  have:=Ok.step S (ns:=ns) (K.gone S hp (h n (.head _))) ((goneM_ext T).keys hp) λm hm=>h m (.tail _ hm);exact this
structure Rg(nb:Int->List Int)(par:Int->Option Int)(m:Int):Prop where
 nb:∀{x y:Int},y∈nb x->0<=y/\y<m
 par:∀{x y:Int},par x=some y->0<=y/\y<m
theorem ch_rg{m:Int}(R:Rg nb par m):∀{x:Int}{L:List (Int×Int)},Ch nb par x L->∀y∈flat L,0<=y/\y<m
 | _,[],_,_,h=>nomatch h
 | x,(n,b)::L,h,y,hy=>by
  rcases List.mem_cons.mp (show y∈n::b::flat L from hy) with rfl|hy
  .exact R.nb h.1
  .rcases List.mem_cons.mp hy with rfl|hy
   .exact R.par h.2.2.1
   .exact ch_rg R h.2.2.2 y hy
theorem Ok.rg{T:Ts}{m:Int}(K:Ok nb par root T)(R:Rg nb par m)(r0:0<=root/\root<m){p:Int}{L:List (Int×Int)}(h:(p,L)∈T):∀y∈root::flat L,0<=y/\y<m:=λy hy=>by
 rcases List.mem_cons.mp hy with rfl|hy
 .exact r0
 .exact ch_rg R (K.ch _ _ h) y hy
theorem nd_le:∀(n:Nat)(l:List Int),l.Nodup->(∀x∈l,0<=x/\x<n)->l.length<=n
 | 0,l,_,h=>by
  cases l with
  | nil=>exact Nat.le_refl _
  | cons a l=>have:=h a (.head _);omega
 | n + 1,l,nd,h=>by
  have h1:(l.filter λx=>decide (x≠(n:Int))).length<=n:=nd_le n _ (nd.filter _) λx hx=>by
   rw[List.mem_filter] at hx;have:=h x hx.1;have:=of_decide_eq_true hx.2;omega
  have h2:(l.filter λx=>!decide (x≠(n:Int))).length<=1:=by
   have g:∀l:List Int,l.Nodup->(l.filter λx=>!decide (x≠(n:Int))).length<=1:=by
    intro l
    induction l with
    | nil=>intro _;exact Nat.zero_le _
    | cons a l ih=>
     intro nd;rw[List.nodup_cons] at nd;by_cases c:a=(n:Int)
     .have:l.filter (λx=>!decide (x≠(n:Int)))=[]:=by
       rw[List.filter_eq_nil_iff];intro x hx z;have:x=(n:Int):=by simpa using z
       exact nd.1 (c ▸ this ▸ hx)
      rw[List.filter_cons,this]
      split<;>simp
     .rw[List.filter_cons,if_neg (by simpa using c)];exact ih nd.2
   exact g l nd
  have h3:∀l:List Int,l.length=(l.filter λx=>decide (x≠(n:Int))).length+(l.filter λx=>!decide (x≠(n:Int))).length:=by
   intro l
   induction l with
   | nil=>rfl
   | cons a l ih=>
    rw[List.filter_cons,List.filter_cons];cases decide (a≠(n:Int)) with
    | true=>simp only[if_true,Bool.not_true,Bool.false_eq_true,if_false,List.length_cons];omega
    | false=>simp only[Bool.false_eq_true,if_false,Bool.not_false,if_true,List.length_cons];omega
  have:=h3 l;omega
theorem Ok.le{T:Ts}{m:Int}(K:Ok nb par root T)(R:Rg nb par m)(r0:0<=root/\root<m):T.length<=m.toNat:=by
 have e:(keys T).length=T.length:=List.length_map ..;rw[<-e];refine nd_le _ _ K.nd λx hx=>?_;obtain⟨L,hL⟩:=keys_mem hx;have h1:=fin_mem (x:=root) (L:=L);rw[K.en _ _ hL] at h1;have:=K.rg R r0 hL x h1;omega
def Alt(nb:Int->List Int)(par:Int->Option Int):Bool->List Int->Prop
 | _,[]=>True
 | _,[_]=>True
 | c,x::y::r=>y∈nb x/\(par x=some y↔c=true)/\Alt nb par (!c) (y::r)
theorem alt_ch(S:Sym nb par){y:Int}(hy:par y=none):∀{x:Int}{L:List (Int×Int)},Ch nb par x L->y∈nb (fin x L)->(nbp:∀{n b},par n=some b->b∈nb n)->Alt nb par false (x::(flat L++[y]))
 | x,[],_,h,_=>⟨h,⟨λz=>(by have:=S.mate z;rw[hy] at this;cases this),λz=>(nomatch z)⟩,True.intro⟩
 | x,(n,b)::L,h,g,nbp=>⟨h.1,⟨λz=>absurd z h.2.1,λz=>(nomatch z)⟩,nbp h.2.2.1,⟨λ_=>rfl,λ_=>h.2.2.1⟩,alt_ch S hy h.2.2.2 g nbp⟩
theorem alt_at:∀{c:Bool}{t:List Int},Alt nb par c t->∀k,k+1<t.length->t.getD (k+1) 0∈nb (t.getD k 0)/\(par (t.getD k 0)=some (t.getD (k+1) 0)↔(c ^^ (k % 2==1))=true)
 | _,[],_,_,h=>absurd h (Nat.not_lt_zero _)
 | _,[_],_,k,h=>absurd h (by simp)
 | c,x::y::r,H,0,_=>⟨H.1,by simpa using H.2.1⟩
 | c,x::y::r,H,k+1,h=>by
  have:=alt_at H.2.2 k (by simpa using h);refine⟨this.1,?_⟩;have e:=this.2;have:((!c) ^^ (k % 2==1))=(c ^^ ((k+1) % 2==1)):=by
   rcases Nat.mod_two_eq_zero_or_one k with z|z
   .have:(k+1) % 2=1:=by omega
    rw[z,this];cases c<;>rfl
   .have:(k+1) % 2=0:=by omega
    rw[z,this];cases c<;>rfl
  rw[this] at e;exact e
structure Bet(nb:Int->List Int)(par:Int->Option Int)(m:Int)(t:List Int):Prop where
 l2:2<=t.length
 ev:t.length % 2=0
 rg:∀x∈t,0<=x/\x<m
 nd:t.Nodup
 f0:par (t.getD 0 0)=none
 f1:par (t.getD (t.length-1) 0)=none
 al:∀k,k+1<t.length->t.getD (k+1) 0∈nb (t.getD k 0)/\(par (t.getD k 0)=some (t.getD (k+1) 0)↔k % 2=1)
theorem Ok.bet{T:Ts}{m:Int}(K:Ok nb par root T)(S:Sym nb par)(R:Rg nb par m)(r0:0<=root/\root<m)(nbp:∀{n b},par n=some b->b∈nb n){p y:Int}{L:List (Int×Int)}(h:(p,L)∈T)(hy:y∈nb p)(yr:y≠root)(yf:par y=none):Bet nb par m (root::flat L++[y]):=by
 have C:=K.ch _ _ h;have len:(root::flat L++[y]).length=2*L.length+2:=by
  rw[List.length_append,List.length_cons,flat_len];rfl
 have hyf:y∈nb (fin root L):=by rw[K.en _ _ h];exact hy
 refine⟨by rw[len];omega,by rw[len];omega,λx hx=>?_,?_,K.free,?_,λk hk=>?_⟩
 .rcases List.mem_append.mp hx with hx|hx
  .exact K.rg R r0 h x hx
  .rw[List.mem_singleton] at hx;exact hx ▸ R.nb hy
 .rw [List.nodup_append];refine⟨K.un _ _ h,by simp,λx hx z hz e=>?_⟩;rw[List.mem_singleton] at hz;subst hz;subst e;rcases List.mem_cons.mp hx with rfl|hx
  .exact yr rfl
  .obtain⟨n,b,hm,e⟩:=mem_flat.mp hx;have pn:=ch_par nb par C hm;rcases e with rfl|rfl
   .rw[yf] at pn;cases pn
   .have:=S.mate pn;rw[yf] at this;cases this
 .have:(root::flat L++[y]).getD ((root::flat L++[y]).length-1) 0=y:=by
   rw[List.length_append];show(root::flat L++[y]).getD ((root::flat L).length) 0=y;simp
  rw[this];exact yf
 .have:=alt_at (alt_ch S yf C hyf nbp) k hk;refine⟨this.1,this.2.trans ?_⟩;simp
def scanM(root:Int)(par:Int->Option Int)(nb:Int->List Int):Ts->Option (List Int)
 | []=>none
 | (p,L)::T=>match (nb p).find? λy=>decide (y≠root/\par y=none) with
  | some y=>some (root::flat L++[y])
  | none=>scanM root par nb T
theorem scan_bet{T:Ts}{m:Int}(K:Ok nb par root T)(S:Sym nb par)(R:Rg nb par m)(r0:0<=root/\root<m)(nbp:∀{n b},par n=some b->b∈nb n):∀{T':Ts},(∀p∈T',p∈T)->∀{t},scanM root par nb T'=some t->Bet nb par m t
 | [],_,_,h=>nomatch h
 | (p,L)::T',sub,t,h=>by
  unfold scanM at h
  split at h
  .rename_i y e
   cases h;have h0:=List.find?_some e;have h1:y≠root/\par y=none:=of_decide_eq_true h0;exact K.bet S R r0 nbp (sub _ (.head _)) (List.mem_of_find?_eq_some e) h1.1 h1.2
  .exact scan_bet K S R r0 nbp (λq hq=>sub q (.tail _ hq)) h
def rowM(m:Nat)(par:Int->Option Int)(nb:Int->List Int)(root:Int):Option (List Int):=scanM root par nb (runM root par nb m [(root,[])] [root])
def betM(m:Nat)(par:Int->Option Int)(nb:Int->List Int):List Int->Option (List Int)
 | []=>none
 | r::rs=>match rowM m par nb r with
  | some t=>some t
  | none=>betM m par nb rs
theorem run_ok(S:Sym nb par):∀{n:Nat}{T:Ts}{as:List Int},Ok nb par root T->(∀a∈as,a∈keys T)->Ok nb par root (runM root par nb n T as)
 | 0,_,_,K,_=>K
 | _+1,_,[],K,_=>K
 | n+1,T,p::rest,K,h=>by
  have K':=Ok.step S (ns:=nb p) K (h p (.head _)) λ_ hn=>hn;refine run_ok S (n:=n) K' λa ha=>?_;rcases List.mem_append.mp ha with ha|ha
  .exact(stepM_ext _ _).keys (h a (.tail _ ha))
  .exact List.mem_of_mem_drop ha
theorem row_bet{m:Int}(S:Sym nb par)(R:Rg nb par m)(r0:0<=root/\root<m)(fr:par root=none)(nbp:∀{n b},par n=some b->b∈nb n){n:Nat}{t:List Int}(h:rowM n par nb root=some t):Bet nb par m t:=
 scan_bet (run_ok S (ok0 fr) λa ha=>by rw[List.mem_singleton] at ha;subst ha;simp[keys]) S R r0 nbp (λ_ q=>q) h
theorem bet_bet{m:Int}(S:Sym nb par)(R:Rg nb par m)(nbp:∀{n b},par n=some b->b∈nb n){n:Nat}:∀{rs:List Int}{t:List Int},(∀r∈rs,(0<=r/\r<m)/\par r=none)->betM n par nb rs=some t->Bet nb par m t
 | [],_,_,h=>nomatch h
 | r::rs,t,hr,h=>by
  unfold betM at h
  split at h
  .rename_i u e
   cases h;exact row_bet S R (hr r (.head _)).1 (hr r (.head _)).2 nbp e
  .exact bet_bet S R nbp (λx hx=>hr x (.tail _ hx)) h
end
end Tr
namespace Tr
abbrev trk(root:Int)(T:Ts)(p:Int):List Int:=root::flat (tget T p)
def Rel(root:Int)(T:Ts)(p q:Int):Prop:=∀n,n∉keys T->(n∈trk root T p↔n∈trk root T q)
theorem Rel.symm{root:Int}{T:Ts}{p q:Int}(h:Rel root T p q):Rel root T q p:=λn hn=>(h n hn).symm
theorem Rel.trans{root:Int}{T:Ts}{p q r:Int}(h:Rel root T p q)(g:Rel root T q r):Rel root T p r:=λn hn=>(h n hn).trans (g n hn)
theorem Ext.get{T T':Ts}(h:Ext T T'){a:Int}(m:a∈Tr.keys T):tget T' a=tget T a:=by
 obtain⟨E,rfl⟩:=h;unfold tget;rw[List.find?_append];cases e:T.find? λq=>decide (q.1=a) with
 | none=>
  obtain⟨L,hL⟩:=keys_mem m;exact absurd (List.find?_eq_none.mp e _ hL) (by simp)
 | some q=>rfl
theorem Rel.ext{root:Int}{T T':Ts}{p q:Int}(h:Rel root T p q)(x:Ext T T')(hp:p∈keys T)(hq:q∈keys T):Rel root T' p q:=λn hn=>by
 show n∈root::flat (tget T' p)↔n∈root::flat (tget T' q);rw[x.get hp,x.get hq];exact h n λz=>hn (x.keys z)
section
variable{nb:Int->List Int}{par:Int->Option Int}{root:Int}
def Dn(par:Int->Option Int)(root:Int)(T:Ts)(p near:Int):Prop:=(near∈keys T/\Rel root T p near)\/(near∉keys T/\(par near=none\/∃b,par near=some b/\b∈keys T))
theorem Ok.goneD{T:Ts}(K:Ok nb par root T)(S:Sym nb par){p near:Int}(hp:p∈keys T):Dn par root (goneM root par p near T) p near:=by
 by_cases c:near∈keys T
 .have e:goneM root par p near T=tbM root (tget T near) (tget T p) (tbM root (tget T p) (tget T near) T):=by unfold goneM;rw[if_pos c]
  have x:Ext T (goneM root par p near T):=goneM_ext T;refine .inl ⟨x.keys c,λn hn=>?_⟩;show n∈root::flat (tget _ p)↔n∈root::flat (tget _ near);rw[x.get hp,x.get c];have nk:n∉keys T:=λz=>hn (x.keys z);have key:n∈keys (goneM root par p near T)↔n∈keys T\/(n∈(tget T near).map (·.1)/\n∉root::flat (tget T p))\/(n∈(tget T p).map (·.1)/\n∉root::flat (tget T near)):=by
   rw[e,tbM_keys,tbM_keys,or_assoc]
  constructor
  .intro h;obtain⟨M1,b,M2,eM⟩:=K.odd (tget_mem hp) h nk;exact Classical.byContradiction λz=>hn (key.mpr (.inr (.inr ⟨by rw[eM];simp,z⟩)))
  .intro h;obtain⟨M1,b,M2,eM⟩:=K.odd (tget_mem c) h nk;exact Classical.byContradiction λz=>hn (key.mpr (.inr (.inl ⟨by rw[eM];simp,z⟩)))
 .cases pn:par near with
  | none=>
   have e:goneM root par p near T=T:=by unfold goneM;rw[if_neg c,pn]
   rw[e];exact .inr ⟨c,.inl pn⟩
  | some b=>
   by_cases cb:b∈keys T
   .have e:goneM root par p near T=T:=by unfold goneM;rw[if_neg c,pn];exact if_pos cb
    rw[e];exact .inr ⟨c,.inr ⟨b,pn,cb⟩⟩
   .have e:goneM root par p near T=T++[(b,tget T p++[(near,b)])]:=by unfold goneM;rw[if_neg c,pn];exact if_neg cb
    rw[e];refine .inr ⟨λz=>?_,.inr ⟨b,pn,keys_snoc.mpr (.inr rfl)⟩⟩;rcases keys_snoc.mp z with z|z
    .exact c z
    .exact S.ne pn z
def Dl(par:Int->Option Int)(root:Int)(T0 T:Ts)(p near:Int):Prop:=Dn par root T p near\/(near∈keys T/\near∉keys T0)
theorem Dn.ext{T T':Ts}{p near:Int}(h:Dn par root T p near)(x:Ext T T')(hp:p∈keys T):Dn par root T' p near\/(near∈keys T'/\near∉keys T):=by
 rcases h with⟨h1,h2⟩|⟨h1,h2⟩
 .exact .inl (.inl ⟨x.keys h1,h2.ext x hp h1⟩)
 .by_cases c:near∈keys T'
  .exact .inr ⟨c,h1⟩
  .exact .inl (.inr ⟨c,h2.imp id λ⟨b,e,hb⟩=>⟨b,e,x.keys hb⟩⟩)
theorem step_dl(S:Sym nb par){p:Int}{T0:Ts}:∀{ns:List Int}{T:Ts},Ok nb par root T->Ext T0 T->p∈keys T0->(∀n∈ns,n∈nb p)->∀{us:List Int},(∀n∈us,Dl par root T0 T p n)->∀n,n∈us\/n∈ns->Dl par root T0 (stepM root par p ns T) p n
 | [],T,_,_,_,_,_,hu,n,hn=>hu n (hn.elim id λz=>nomatch z)
 | y :: ns,T,K,x,hp,h,us,hu,n,hn=>by
  have hpT:=x.keys hp;have x1:Ext T (goneM root par p y T):=goneM_ext T;refine step_dl S (us:=y::us) (K.gone S hpT (h y (.head _))) (x.trans x1) hp (λm hm=>h m (.tail _ hm)) (λm hm=>?_) n ?_
  .rcases List.mem_cons.mp hm with rfl|hm
   .exact .inl (K.goneD S hpT)
   .rcases hu m hm with d|⟨d1,d2⟩
    .rcases d.ext x1 hpT with d|⟨d1,d2⟩
     .exact .inl d
     .exact .inr ⟨d1,λz=>d2 (x.keys z)⟩
    .exact .inr ⟨x1.keys d1,d2⟩
  .rcases hn with hn|hn
   .exact .inl (.tail _ hn)
   .rcases List.mem_cons.mp hn with rfl|hn
    .exact .inl (.head _)
    .exact .inr hn
def Wave(nb:Int->List Int)(par:Int->Option Int)(root:Int)(T:Ts)(as:List Int):Prop:=∀p∈keys T,p∉as->∀y∈nb p,Dn par root T p y\/y∈as
theorem wave_step(S:Sym nb par){T:Ts}{p:Int}{rest:List Int}(K:Ok nb par root T)(hp:p∈keys T)(w:Wave nb par root T (p::rest)):Wave nb par root (stepM root par p (nb p) T) (rest++(keys (stepM root par p (nb p) T)).drop T.length):=by
 have x:Ext T (stepM root par p (nb p) T):=stepM_ext _ _;have new:∀y,y∈keys (stepM root par p (nb p) T)->y∉keys T->y∈(keys (stepM root par p (nb p) T)).drop T.length:=λy hy hn=>by
  obtain⟨E,e⟩:=x;rw[e] at hy ⊢;have ek:keys (T++E)=keys T++keys E:=List.map_append ..;have l:(keys T).length=T.length:=List.length_map ..;rw[ek] at hy ⊢;rw[<-l,List.drop_left];exact(List.mem_append.mp hy).resolve_left hn
 have mine:∀y∈nb p,Dl par root T (stepM root par p (nb p) T) p y:=λy hy=>step_dl S K (Ext.refl T) hp (λ_ h=>h) (us:=[]) (λ_ h=>nomatch h) y (.inr hy);intro q hq nq y hy;have nq1:q∉rest:=λz=>nq (List.mem_append_left _ z);have hqT:q∈keys T:=Classical.byContradiction λz=>nq (List.mem_append_right _ (new q hq z));by_cases c:q=p
 .subst c;rcases mine y hy with d|⟨d1,d2⟩
  .exact .inl d
  .exact .inr (List.mem_append_right _ (new y d1 d2))
 .rcases w q hqT (λz=>(List.mem_cons.mp z).elim c nq1) y hy with d|d
  .rcases d.ext x hqT with d|⟨d1,d2⟩
   .exact .inl d
   .exact .inr (List.mem_append_right _ (new y d1 d2))
  .rcases List.mem_cons.mp d with rfl|d
   .-- the other end has just been gone through
    rcases mine q (S.tie hy) with d|⟨_,d2⟩
    .rcases d with⟨_,d⟩|⟨d,_⟩
     .exact .inl (.inl ⟨x.keys hp,d.symm⟩)
     .exact absurd (x.keys hqT) d
    .exact absurd hqT d2
   .exact .inr (List.mem_append_left _ d)
def Closed(nb:Int->List Int)(par:Int->Option Int)(root:Int)(T:Ts):Prop:=∀p∈keys T,∀y∈nb p,Dn par root T p y
theorem run_closed(S:Sym nb par){m:Int}(R:Rg nb par m)(r0:0<=root/\root<m):∀{n:Nat}{T:Ts}{as:List Int},Ok nb par root T->(∀a∈as,a∈keys T)->Wave nb par root T as->as.length+(m.toNat-T.length)<=n->Closed nb par root (runM root par nb n T as)
 | 0,T,as,K,_,w,h=>by
  have:as=[]:=List.length_eq_zero_iff.mp (by omega);subst this;exact λp hp y hy=>(w p hp (λz=>nomatch z) y hy).resolve_right λz=>nomatch z
 | n+1,T,[],K,_,w,_=>λp hp y hy=>(w p hp (λz=>nomatch z) y hy).resolve_right λz=>nomatch z
 | n+1,T,p::rest,K,sub,w,h=>by
  have hp:=sub p (.head _);have K':=Ok.step S (ns:=nb p) K hp λ_ hn=>hn;have x:Ext T (stepM root par p (nb p) T):=stepM_ext _ _;refine run_closed S R r0 (n:=n) K' (λa ha=>?_) (wave_step S K hp w) ?_
  .rcases List.mem_append.mp ha with ha|ha
   .exact x.keys (sub a (.tail _ ha))
   .exact List.mem_of_mem_drop ha
  .have h1:=K'.le R r0;have h2:=x.len;have h3:(keys (stepM root par p (nb p) T)).length=(stepM root par p (nb p) T).length:=List.length_map ..;rw[List.length_append,List.length_drop,h3];rw[List.length_cons] at h;omega
end
end Tr
namespace Tr
def Ord(T:Ts):Prop:=∀T1 b L n T2,T=T1++(b,L++[(n,b)])::T2->n∉keys T->∀n' b',(n',b')∈L->b'∈keys T1
theorem ord0(root:Int):Ord [(root,[])]:=λT1 b L n T2 e=>by
 exfalso;have h:(b,L++[(n,b)])∈[((root:Int),([]:List (Int×Int)))]:=by rw[e];simp
 rw[List.mem_singleton,Prod.mk.injEq] at h;exact absurd h.2 (by simp)
theorem Ord.snoc{T:Ts}(h:Ord T){q:Int}{M:List (Int×Int)}(hq:∀L n,M=L++[(n,q)]->n∉keys T->∀n' b',(n',b')∈L->b'∈keys T):Ord (T++[(q,M)]):=λT1 b L n T2 e nk n' b' hb=>by
 have nk':n∉keys T:=λz=>nk (keys_snoc.mpr (.inl z));rcases List.eq_nil_or_concat T2 with rfl|⟨T3,t,rfl⟩
 .have e':T++[(q,M)]=T1++[(b,L++[(n,b)])]:=e;obtain⟨e1,e2⟩:=List.append_inj' e' rfl;injection e2 with e2
  injection e2 with e2 e3
  subst e1 e2;exact hq L n e3 nk' n' b' hb
 .rw[List.concat_eq_append,<-List.cons_append,<-List.append_assoc] at e;obtain⟨e1,_⟩:=List.append_inj' e rfl;exact h T1 b L n T3 e1 nk' n' b' hb
theorem Ord.tb{root:Int}{A:List (Int×Int)}:∀{B:List (Int×Int)}{T:Ts},Ord T->(∀n b,(n,b)∈B->b∈keys T)->Ord (tbM root A B T)
 | [],T,h,_=>h
 | (n,b)::B,T,h,hb=>by
  unfold tbM
  split
  .exact Ord.tb h λx y m=>hb x y (.tail _ m)
  .refine Ord.tb (h.snoc λL n' e nk=>?_) λx y m=>keys_snoc.mpr (.inl (hb x y (.tail _ m)));have e':A++rsw B++[(b,n)]=L++[(n',n)]:=by rw[<-e,List.append_assoc];rfl
   obtain⟨_,e2⟩:=List.append_inj' e' rfl;injection e2 with e2
   injection e2 with e2 _
   exact absurd (e2 ▸ hb n b (.head _)) nk
section
variable{nb:Int->List Int}{par:Int->Option Int}{root:Int}
theorem Ord.gone{T:Ts}(o:Ord T)(K:Ok nb par root T){p near:Int}(hp:p∈keys T):Ord (goneM root par p near T):=by
 unfold goneM
 split
 .rename_i c
  refine Ord.tb (Ord.tb o λn b h=>K.bk _ _ (tget_mem c) n b h) λn b h=>?_;exact tbM_keys.mpr (.inl (K.bk _ _ (tget_mem hp) n b h))
 .split
  .exact o
  .split
   .exact o
   .refine o.snoc λL n e _ n' b' h=>?_;obtain⟨e1,_⟩:=List.append_inj' e rfl;exact K.bk _ _ (tget_mem hp) n' b' (e1 ▸ h)
theorem Ord.step(S:Sym nb par){p:Int}:∀{ns:List Int}{T:Ts},Ord T->Ok nb par root T->p∈keys T->(∀n∈ns,n∈nb p)->Ord (stepM root par p ns T)
 | [],_,o,_,_,_=>o
 | y::ns,T,o,K,hp,h=>Ord.step S (ns:=ns) (o.gone K hp) (K.gone S hp (h y (.head _))) ((goneM_ext T).keys hp) λn hn=>h n (.tail _ hn)
theorem run_ord(S:Sym nb par):∀{n:Nat}{T:Ts}{as:List Int},Ord T->Ok nb par root T->(∀a∈as,a∈keys T)->Ord (runM root par nb n T as)
 | 0,_,_,o,_,_=>o
 | _+1,_,[],o,_,_=>o
 | n+1,T,p::rest,o,K,h=>by
  have K':=Ok.step S (ns:=nb p) K (h p (.head _)) λ_ hn=>hn;refine run_ord S (n:=n) (o.step S K (h p (.head _)) λ_ hn=>hn) K' λa ha=>?_;rcases List.mem_append.mp ha with ha|ha
  .exact(stepM_ext _ _).keys (h a (.tail _ ha))
  .exact List.mem_of_mem_drop ha
theorem Ok.base{T:Ts}(K:Ok nb par root T)(S:Sym nb par){b n:Int}{L:List (Int×Int)}(h:(b,L)∈T)(hp:par b=some n):∃L',L=L'++[(n,b)]:=by
 rcases List.eq_nil_or_concat L with rfl|⟨L',⟨x,y⟩,e⟩
 .have:root=b:=K.en _ _ h;rw[<-this,K.free] at hp;exact nomatch hp
 .rw[List.concat_eq_append] at e;subst e;have e:y=b:=by have:=K.en _ _ h;rw[fin_app] at this;exact this
  subst e;have:=S.mate (ch_par nb par (K.ch _ _ h) (n:=x) (b:=y) (by simp));rw[hp] at this;cases this;exact⟨L',rfl⟩
theorem Ok.first{T:Ts}(K:Ok nb par root T){T1 T2:Ts}{b:Int}{L:List (Int×Int)}(e:T=T1++(b,L)::T2):(keys T).idxOf b=T1.length/\∀x∈keys T1,(keys T).idxOf x<T1.length:=by
 have ek:keys T=keys T1++b::keys T2:=by rw[e];simp[keys]
 have l:(keys T1).length=T1.length:=List.length_map ..;have nd:=K.nd;rw[ek,List.nodup_append] at nd;rw[ek];constructor
 .rw[List.idxOf_append,if_neg λh=>nd.2.2 b h b (.head _) rfl,List.idxOf_cons_self,l,Nat.zero_add]
 .intro x hx;rw[List.idxOf_append,if_pos hx,<-l];exact List.idxOf_lt_length_of_mem hx
theorem Ok.uniq{T:Ts}(K:Ok nb par root T)(S:Sym nb par)(o:Ord T){a b n m:Int}(ha:a∈keys T)(hb:b∈keys T)(pa:par a=some n)(pb:par b=some m)(nk:n∉keys T)(mk:m∉keys T)(r:Rel root T a b):a=b:=by
 have ea:=tget_mem ha;have eb:=tget_mem hb;obtain⟨L,eL⟩:=K.base S ea pa;obtain⟨M,eM⟩:=K.base S eb pb;by_cases c:n=m
 .subst c;have:=S.mate pa;rw[S.mate pb] at this;injection this with this
  exact this.symm
 exfalso;have on:∀{n m b:Int}{M:List (Int×Int)},n∉keys T->n≠m->b∈keys T->(b,M++[(m,b)])∈T->n∈root::flat (M++[(m,b)])->∃a',par n=some a'/\(n,a')∈M:=λ{n m b M} nk c bk e h=>by
  rcases List.mem_cons.mp h with rfl|h
  .exact absurd K.rt nk
  obtain⟨x,y,hxy,h⟩:=mem_flat.mp h;rcases h with rfl|rfl
  .rcases List.mem_append.mp hxy with h|h
   .exact⟨y,ch_par nb par (K.ch _ _ e) hxy,h⟩
   .rw[List.mem_singleton,Prod.mk.injEq] at h;exact absurd h.1 c
  .exact absurd (K.bk _ _ e x n hxy) nk
 have r1:n∈root::flat (M++[(m,b)]):=by
  rw[<-eM];refine(r n nk).mp ?_;show n∈root::flat (tget T a);rw[eL,flat_app];simp[flat]
 have r2:m∈root::flat (L++[(n,a)]):=by
  rw[<-eL];refine(r m mk).mpr ?_;show m∈root::flat (tget T b);rw[eM,flat_app];simp[flat]
 rw[eL] at ea;rw[eM] at eb;obtain⟨a',p1,m1⟩:=on nk c hb eb r1;obtain⟨b',p2,m2⟩:=on mk (Ne.symm c) ha ea r2;rw[S.mate pa] at p1;rw[S.mate pb] at p2;cases p1;cases p2;obtain⟨T1,T2,e1⟩:=List.append_of_mem ea;obtain⟨T3,T4,e3⟩:=List.append_of_mem eb;have i1:=o T1 a L n T2 e1 nk m b m2;have i2:=o T3 b M m T4 e3 mk n a m1;have f1:=K.first e1;have f2:=K.first e3;have g1:=f1.2 b i1;have g2:=f2.2 a i2;omega
structure Shut(nb:Int->List Int)(par:Int->Option Int)(root:Int)(T:Ts):Prop where
 ok:Ok nb par root T
 ord:Ord T
 cl:Closed nb par root T
 no:∀p∈keys T,∀y∈nb p,par y=none->y=root
theorem Shut.along(H:Shut nb par root T)(S:Sym nb par)(nbp:∀{n b},par n=some b->b∈nb n):∀{L:List (Int×Int)}{v:Int},v∈keys T->Ch nb par v L->(v::flat L).Nodup->(∀b n,b∈keys T->par b=some n->n∉keys T->Rel root T b v->n∉flat L)->∀n b,(n,b)∈L->b∈keys T
 | [],_,_,_,_,_=>λ_ _ h=>nomatch h
 | (n,b)::L,v,hv,hc,nd,hb=>by
  have hn:n∈nb v:=hc.1;have hp:par n=some b:=hc.2.2.1;have nd':(n::b::flat L).Nodup:=(List.nodup_cons.mp nd).2;have ndb:(b::flat L).Nodup:=(List.nodup_cons.mp nd').2;have key:b∈keys T/\∀c m,c∈keys T->par c=some m->m∉keys T->Rel root T c b->m∉flat L:=by
   rcases H.cl v hv n hn with⟨k,r⟩|⟨k,h⟩
   .have bk:b∈keys T:=Classical.byContradiction λz=>hb n b k hp z r.symm (.tail _ (.head _));refine⟨bk,λc m hc' pc mk rc hm=>?_⟩;rcases H.cl n k b (nbp hp) with⟨_,r2⟩|⟨k2,_⟩
    .exact hb c m hc' pc mk (rc.trans (r2.symm.trans r.symm)) (.tail _ (.tail _ hm))
    .exact k2 bk
   .have bk:b∈keys T:=by
     rcases h with h|⟨b',h1,h2⟩
     .rw[hp] at h;exact nomatch h
     .rw[hp] at h1;cases h1;exact h2
    refine⟨bk,λc m hc' pc mk rc hm=>?_⟩;have e:=H.ok.uniq S H.ord hc' bk pc (S.mate hp) mk k rc;subst e;rw[S.mate hp] at pc;cases pc;exact(List.nodup_cons.mp nd').1 (.tail _ hm)
  intro x y h;rcases List.mem_cons.mp h with h|h
  .injection h with h1 h2
   subst h2;exact key.1
  .exact H.along S nbp key.1 hc.2.2.2 ndb key.2 x y h
theorem Shut.top(H:Shut nb par root T)(S:Sym nb par){b n:Int}(hb:b∈keys T)(hp:par b=some n)(nk:n∉keys T)(r:Rel root T b root):False:=by
 obtain⟨L,e⟩:=H.ok.base S (tget_mem hb) hp;have h:n∈root::flat (tget T root):=(r n nk).mp (by show n∈root::flat (tget T b);rw[e,flat_app];simp[flat]);have e0:tget T root=[]:=by
  have m:=tget_mem H.ok.rt;rcases List.eq_nil_or_concat (tget T root) with e|⟨L',⟨x,y⟩,e⟩
  .exact e
  .rw[List.concat_eq_append] at e;have f:=H.ok.en _ _ m;rw[e,fin_app] at f;have f:y=root:=f;have u:=H.ok.un _ _ m;rw[e,flat_app] at u;refine absurd ?_ (List.nodup_cons.mp u).1;rw[<-f];simp[flat]
 rw[e0] at h;exact nk (List.mem_singleton.mp h ▸ H.ok.rt)
theorem Shut.from(H:Shut nb par root T)(S:Sym nb par)(nbp:∀{n b},par n=some b->b∈nb n){L:List (Int×Int)}(hc:Ch nb par root L)(nd:(root::flat L).Nodup):∀n b,(n,b)∈L->b∈keys T:=
 H.along S nbp H.ok.rt hc nd λ_ _ hb hp nk r _=>H.top S hb hp nk r
theorem Shut.ends(H:Shut nb par root T)(S:Sym nb par)(nbp:∀{n b},par n=some b->b∈nb n){L:List (Int×Int)}(hc:Ch nb par root L)(nd:(root::flat L).Nodup):fin root L∈keys T:=by
 rcases List.eq_nil_or_concat L with rfl|⟨L',⟨x,y⟩,e⟩
 .exact H.ok.rt
 .rw[List.concat_eq_append] at e;subst e;rw[fin_app];exact H.from S nbp hc nd x y (by simp)
theorem Shut.stop(H:Shut nb par root T)(S:Sym nb par)(nbp:∀{n b},par n=some b->b∈nb n){L:List (Int×Int)}(hc:Ch nb par root L)(nd:(root::flat L).Nodup){s:Int}(hs:s∈nb (fin root L))(fs:par s=none):s=root:=
 H.no _ (H.ends S nbp hc nd) s hs fs
theorem scan_none:∀{T:Ts},scanM root par nb T=none->∀p∈keys T,∀y∈nb p,par y=none->y=root
 | [],_,_,h=>nomatch h
 | (p,L)::T,h,q,hq=>by
  unfold scanM at h
  split at h
  .exact nomatch h
  .rename_i e
   rcases List.mem_cons.mp (show q∈p::keys T from hq) with rfl|hq
   .intro y hy fy;have:=List.find?_eq_none.mp e y hy;exact Classical.byContradiction λz=>this (decide_eq_true ⟨z,fy⟩)
   .exact scan_none h q hq
abbrev srch(m:Nat)(par:Int->Option Int)(nb:Int->List Int)(root:Int):Ts:=runM root par nb m [(root,[])] [root]
theorem row_shut{m:Int}(S:Sym nb par)(R:Rg nb par m)(r0:0<=root/\root<m)(fr:par root=none){n:Nat}(hn:m.toNat<=n)(h:rowM n par nb root=none):Shut nb par root (srch n par nb root):=by
 have k0:=ok0 (nb:=nb) fr;have sub:∀a∈[root],a∈keys [(root,([]:List (Int×Int)))]:=λa ha=>by rw[List.mem_singleton] at ha;subst ha;simp[keys]
 refine⟨run_ok S k0 sub,run_ord S (ord0 root) k0 sub,?_,scan_none h⟩;refine run_closed S R r0 k0 sub (λp hp np=>?_) ?_
 .exact absurd (show p∈[root] by simpa[keys] using hp) np
 .show 1+(m.toNat-1)<=n;omega
theorem bet_shut{m:Int}(S:Sym nb par)(R:Rg nb par m){n:Nat}(hn:m.toNat<=n):∀{rs:List Int},(∀r∈rs,(0<=r/\r<m)/\par r=none)->betM n par nb rs=none->∀r∈rs,Shut nb par r (srch n par nb r)
 | [],_,_,_,h=>nomatch h
 | q::rs,hr,h,r,hm=>by
  unfold betM at h
  split at h
  .exact nomatch h
  .rename_i e
   rcases List.mem_cons.mp hm with rfl|hm
   .exact row_shut S R (hr r (.head _)).1 (hr r (.head _)).2 hn e
   .exact bet_shut S R hn (λx hx=>hr x (.tail _ hx)) h r hm
end
end Tr
namespace Tr
section
variable{nb:Int->List Int}{par oth:Int->Option Int}{r:Int}
inductive Wk (par oth:Int->Option Int) (r:Int):List (Int×Int)->Int->Prop
 | nil:Wk par oth r [] r
 | snoc {L:List (Int×Int)}{v n b:Int}:Wk par oth r L v->oth v=some n->par n=some b->Wk par oth r (L++[(n,b)]) b
structure WkOk(nb:Int->List Int)(par oth:Int->Option Int)(r:Int)(L:List (Int×Int))(v:Int):Prop where
 nd:(r::flat L).Nodup
 ch:Ch nb par r L
 en:fin r L=v
 p1:∀y∈r::flat L,y≠v->∃z∈r::flat L,z≠v/\oth y=some z
 p2:∀y∈flat L,∃z∈flat L,par y=some z
theorem Wk.ok(S:Sym nb par)(S':Sym nb oth)(onb:∀{n b},oth n=some b->b∈nb n)(fr:par r=none){L:List (Int×Int)}{v:Int}(h:Wk par oth r L v):WkOk nb par oth r L v:=by
 induction h with
 | nil=>exact⟨by simp[flat],trivial,rfl,λy hy n=>absurd (List.mem_singleton.mp hy) n,λy hy=>(nomatch hy)⟩
 | @snoc L v n b _ ho hp ih=>
  have hv:v∈r::flat L:=by have:=fin_mem (x:=r) (L:=L);rwa [ih.en] at this
  have hn:n∉r::flat L:=λh=>by
   obtain⟨z,_,h2,h3⟩:=ih.p1 n h λe=>S'.ne ho e.symm;rw[S'.mate ho] at h3;injection h3 with h3
   exact h2 h3.symm
  have hb:b∉r::flat L:=λh=>by
   rcases List.mem_cons.mp h with rfl|h
   .have:=S.mate hp;rw[fr] at this;exact nomatch this
   .obtain⟨z,h1,h2⟩:=ih.p2 b h;rw[S.mate hp] at h2;injection h2 with h2
    exact hn (.tail _ (h2 ▸ h1))
  have ef:flat (L++[(n,b)])=flat L++[n,b]:=flat_app L [(n,b)];refine⟨?_,?_,?_,?_,?_⟩
  .rw[ef,<-List.cons_append,List.nodup_append];refine⟨ih.nd,by simpa using S.ne hp,λx hx y hy e=>?_⟩;subst e;rcases List.mem_cons.mp hy with rfl|hy
   .exact hn hx
   .exact hb (List.mem_singleton.mp hy ▸ hx)
  .rw [ch_app];refine⟨ih.ch,?_⟩;rw[ih.en];refine⟨onb ho,λe=>?_,hp,trivial⟩;rcases List.mem_cons.mp hv with rfl|hv
   .rw[fr] at e;exact nomatch e
   .obtain⟨z,h1,h2⟩:=ih.p2 v hv;rw[e] at h2;injection h2 with h2
    exact hn (.tail _ (h2 ▸ h1))
  .rw[fin_app];rfl
  .rw [ef,<-List.cons_append];intro y hy ne;rcases List.mem_append.mp hy with hy|hy
   .by_cases c:y=v
    .subst c;exact⟨n,List.mem_append_right _ (.head _),S.ne hp,ho⟩
    .obtain⟨z,h1,h2,h3⟩:=ih.p1 y hy c;exact⟨z,List.mem_append_left _ h1,λe=>hb (e ▸ h1),h3⟩
   .rcases List.mem_cons.mp hy with rfl|hy
    .exact⟨v,List.mem_append_left _ hv,λe=>hb (e ▸ hv),S'.mate ho⟩
    .exact absurd (List.mem_singleton.mp hy) ne
  .rw [ef];intro y hy;rcases List.mem_append.mp hy with hy|hy
   .obtain⟨z,h1,h2⟩:=ih.p2 y hy;exact⟨z,List.mem_append_left _ h1,h2⟩
   .rcases List.mem_cons.mp hy with rfl|hy
    .exact⟨b,List.mem_append_right _ (.tail _ (.head _)),hp⟩
    .rw[List.mem_singleton.mp hy];exact⟨n,List.mem_append_right _ (.head _),S.mate hp⟩
theorem Wk.inj(S:Sym nb par)(S':Sym nb oth){r r':Int}(fr:par r=none)(fr':par r'=none){L:List (Int×Int)}{v:Int}(h:Wk par oth r L v):∀{L'},Wk par oth r' L' v->r=r':=by
 induction h with
 | nil=>
  intro L' g;cases g with
  | nil=>rfl
  | snoc _ _ hp=>have:=S.mate hp;rw[fr] at this;exact nomatch this
 | @snoc L v n b _ ho hp ih=>
  intro L' g;cases g with
  | nil=>have:=S.mate hp;rw[fr'] at this;exact nomatch this
  | snoc g ho' hp'=>
   have e:=S.mate hp;rw[S.mate hp'] at e;cases e;have e:=S'.mate ho;rw[S'.mate ho'] at e;cases e;exact ih g
theorem Shut.walk{T:Ts}(H:Shut nb par r T)(S:Sym nb par)(S':Sym nb oth)(nbp:∀{n b},par n=some b->b∈nb n)(onb:∀{n b},oth n=some b->b∈nb n){m:Int}(R:Rg nb par m)(r0:0<=r/\r<m):∃L v,Wk par oth r L v/\oth v=none:=by
 refine Classical.byContradiction λno=>?_;have fr:=H.ok.free;have go:∀k:Nat,∃L v,Wk par oth r L v/\L.length=k:=λk=>by
  induction k with
  | zero=>exact⟨[],r,.nil,rfl⟩
  | succ k ih=>
   obtain⟨L,v,w,l⟩:=ih;cases ho:oth v with
   | none=>exact absurd ⟨L,v,w,ho⟩ no
   | some n=>
    have W:=w.ok S S' onb fr;cases hp:par n with
    | none=>
     have e:=H.stop S nbp W.ch W.nd (s:=n) (by rw[W.en];exact onb ho) hp;subst e;exfalso;by_cases c:n=v
     .exact S'.ne ho c.symm
     .obtain⟨z,_,h2,h3⟩:=W.p1 n (.head _) c;rw[S'.mate ho] at h3;injection h3 with h3
      exact h2 h3.symm
    | some b=>exact⟨_,b,.snoc w ho hp,by rw[List.length_append,l];rfl⟩
 obtain⟨L,v,w,l⟩:=go m.toNat;have W:=w.ok S S' onb fr;have rg:∀y∈r::flat L,0<=y/\y<m:=λy hy=>by
  rcases List.mem_cons.mp hy with rfl|hy
  .exact r0
  .exact ch_rg R W.ch y hy
 have le:=nd_le m.toNat _ W.nd λy hy=>by
  have:=rg y hy;omega
 rw[List.length_cons,flat_len,l] at le;omega
end
theorem inj_le:∀{R F:List Int},R.Nodup->(g:Int->Int)->(∀x∈R,g x∈F)->(∀x∈R,∀y∈R,g x=g y->x=y)->R.length<=F.length
 | [],_,_,_,_,_=>Nat.zero_le _
 | x::R,F,nd,g,hm,hi=>by
  have nd':=List.nodup_cons.mp nd;have h:=inj_le (R:=R) (F:=F.erase (g x)) nd'.2 g (λy hy=>?_) λy hy z hz=>hi y (.tail _ hy) z (.tail _ hz)
  .have hx:=hm x (.head _);have:=List.length_erase_of_mem hx;have:=List.length_pos_of_mem hx;rw[List.length_cons];omega
  .refine(List.mem_erase_of_ne λe=>?_).mpr (hm y (.tail _ hy));exact nd'.1 (hi y (.tail _ hy) x (.head _) e ▸ hy)
theorem inj_onto{R F:List Int}(nd:R.Nodup)(g:Int->Int)(hm:∀x∈R,g x∈F)(hi:∀x∈R,∀y∈R,g x=g y->x=y)(l:F.length<=R.length){a:Int}(ha:a∈F):∃x∈R,g x=a:=by
 refine Classical.byContradiction λno=>?_;have h:=inj_le (F:=F.erase a) nd g (λx hx=>(List.mem_erase_of_ne λe=>no ⟨x,hx,e⟩).mpr (hm x hx)) hi;have:=List.length_erase_of_mem ha;have:=List.length_pos_of_mem ha;omega
section
variable{nb:Int->List Int}{par oth:Int->Option Int}
def lft(m:Nat)(par:Int->Option Int):List Int:=((List.range m).map λ(k:Nat)=>(k:Int)).filter λx=>decide (par x=none)
theorem mem_lft{m:Nat}{x:Int}:x∈lft m par↔(0<=x/\x<m)/\par x=none:=by
 unfold lft;rw[List.mem_filter,decide_eq_true_iff,List.mem_map];refine and_congr_left λ_=>⟨?_,λh=>⟨x.toNat,List.mem_range.mpr (by omega),by omega⟩⟩;rintro⟨k,hk,rfl⟩;have:=List.mem_range.mp hk;omega
theorem lft_nd(m:Nat)(par:Int->Option Int):(lft m par).Nodup:=by
 refine List.Pairwise.filter _ (List.pairwise_map.mpr (List.nodup_range.imp λ{a b} h e=>h ?_));exact Int.ofNat.inj e
structure Best(nb:Int->List Int)(par:Int->Option Int)(m:Nat)(T:Int->Ts):Prop where
 sym:Sym nb par
 nbp:∀{n b},par n=some b->b∈nb n
 rg:Rg nb par m
 shut:∀r∈lft m par,Shut nb par r (T r)
theorem Best.walks{m:Nat}{T:Int->Ts}(B:Best nb par m T)(S':Sym nb oth)(onb:∀{n b},oth n=some b->b∈nb n):∃g:Int->Int,(∀r∈lft m par,g r∈lft m oth/\∃L,Wk par oth r L (g r))/\∀x∈lft m par,∀y∈lft m par,g x=g y->x=y:=by
 have ex:∀r,∃v,r∈lft m par->v∈lft m oth/\∃L,Wk par oth r L v:=λr=>by
  by_cases c:r∈lft m par
  .have c':=mem_lft.mp c;have H:=B.shut r c;obtain⟨L,v,w,ho⟩:=H.walk B.sym S' B.nbp onb B.rg c'.1;refine⟨v,λ_=>⟨mem_lft.mpr ⟨?_,ho⟩,L,w⟩⟩;have W:=w.ok B.sym S' onb c'.2;have hv:v∈r::flat L:=by have:=fin_mem (x:=r) (L:=L);rwa [W.en] at this
   rcases List.mem_cons.mp hv with rfl|hv
   .exact c'.1
   .exact ch_rg B.rg W.ch v hv
  .exact⟨0,λh=>absurd h c⟩
 refine⟨λr=>(ex r).choose,λr hr=>(ex r).choose_spec hr,λx hx y hy e=>?_⟩;obtain⟨_,L,w⟩:=(ex x).choose_spec hx;obtain⟨_,L',w'⟩:=(ex y).choose_spec hy;have e:(ex x).choose=(ex y).choose:=e;rw[<-e] at w';exact w.inj B.sym S' (mem_lft.mp hx).2 (mem_lft.mp hy).2 w'
theorem Best.le{m:Nat}{T:Int->Ts}(B:Best nb par m T)(S':Sym nb oth)(onb:∀{n b},oth n=some b->b∈nb n):(lft m par).length<=(lft m oth).length:=by
 obtain⟨g,h1,h2⟩:=B.walks S' onb;exact inj_le (lft_nd m par) g (λx hx=>(h1 x hx).1) h2
theorem Best.spare{m:Nat}{T:Int->Ts}(B:Best nb par m T)(S':Sym nb oth)(onb:∀{n b},oth n=some b->b∈nb n)(l:(lft m oth).length<=(lft m par).length){a:Int}(ha:a∈lft m oth):∃r∈lft m par,a∈keys (T r):=by
 obtain⟨g,h1,h2⟩:=B.walks S' onb;obtain⟨r,hr,e⟩:=inj_onto (lft_nd m par) g (λx hx=>(h1 x hx).1) h2 l ha;obtain⟨_,L,w⟩:=h1 r hr;rw[e] at w;have W:=w.ok B.sym S' onb (mem_lft.mp hr).2;exact⟨r,hr,W.en ▸ (B.shut r hr).ends B.sym B.nbp W.ch W.nd⟩
theorem best_of{m n:Nat}(S:Sym nb par)(nbp:∀{n b},par n=some b->b∈nb n)(R:Rg nb par m)(hn:m<=n)(h:betM n par nb (lft m par)=none):Best nb par m (srch n par nb):=
 ⟨S,nbp,R,bet_shut S R (by omega) (λr hr=>mem_lft.mp hr) h⟩
end
end Tr
namespace Tr
section
variable{nb:Int->List Int}{par:Int->Option Int}{root:Int}{T:Ts}
def Met(par:Int->Option Int)(T:Ts)(x:Int):Prop:=x∈keys T\/∃b,par x=some b/\b∈keys T
theorem Shut.nbr(H:Shut nb par root T){p y:Int}(hp:p∈keys T)(hy:y∈nb p):Met par T y:=by
 rcases H.cl p hp y hy with⟨k,_⟩|⟨k,h⟩
 .exact .inl k
 .rcases h with h|h
  .exact .inl (H.no p hp y hy h ▸ H.ok.rt)
  .exact .inr h
end
section
variable{nb:Int->List Int}{par:Int->Option Int}{m:Nat}{T:Int->Ts}
def En(par:Int->Option Int)(m:Nat)(T:Int->Ts)(x:Int):Prop:=∃r∈lft m par,x∈keys (T r)
inductive Con (nb:Int->List Int) (D:Int->Prop) (x:Int):Int->Prop
 | refl:Con nb D x x
 | step {y z:Int}:Con nb D x y->z∈nb y->D z->Con nb D x z
def Bas(par:Int->Option Int)(m:Nat)(T:Int->Ts)(x:Int):Prop:=par x=none\/∃n,par x=some n/\¬En par m T n
end
end Tr
namespace Tr
section
variable{nb:Int->List Int}{par:Int->Option Int}{m:Nat}
structure Prt(nb:Int->List Int)(m:Nat)(out:List Int)(P:List (List Int)):Prop where
 nd:P.flatten.Nodup
 mem:∀x,x∈P.flatten↔(0<=x/\x<m)/\x∉out
 cl:∀C∈P,∀x∈C,∀y∈nb x,y∉out->y∈C
 con:∀C∈P,∀x∈C,∀y∈C,Con nb (λz=>z∉out) x y
def odds(P:List (List Int)):List (List Int):=P.filter λC=>decide (C.length % 2=1)
variable{T:Int->Ts}
def Besides(nb:Int->List Int)(par:Int->Option Int)(m:Nat)(T:Int->Ts)(out:List Int):Prop:=out.Nodup/\∀y,y∈out↔(0<=y/\y<(m:Int))/\¬En par m T y/\∃p∈nb y,En par m T p
end
end Tr
namespace Tr
def prs:List Int->List (Int×Int)
 | a::b::t=>(a,b)::prs t
 | _=>[]
def put1(par:Int->Option Int)(a b:Int):Int->Option Int:=λx=>if x=a then some b else if x=b then some a else par x
def clr(par:Int->Option Int)(a:Int):Int->Option Int:=λx=>if x=a then none else par x
def augL(ps:List (Int×Int))(par:Int->Option Int):Int->Option Int:=ps.foldl (λp q=>put1 p q.1 q.2) par
def aug(par:Int->Option Int)(t:List Int):Int->Option Int:=augL (prs t) par
theorem augL_clr:∀{ps:List (Int×Int)}{p q:Int->Option Int},(∀x,(∀e∈ps,x≠e.1/\x≠e.2)->p x=q x)->augL ps p=augL ps q
 | [],p,q,h=>funext λx=>h x λ_ z=>nomatch z
 | e::ps,p,q,h=>augL_clr (ps:=ps) λx hx=>by
  show put1 p e.1 e.2 x=put1 q e.1 e.2 x;unfold put1;by_cases c:x=e.1
  .rw[if_pos c,if_pos c]
  .rw [if_neg c,if_neg c];by_cases d:x=e.2
   .rw[if_pos d,if_pos d]
   .rw[if_neg d,if_neg d];refine h x λe' he=>?_;rcases List.mem_cons.mp he with rfl|he
    .exact⟨c,d⟩
    .exact hx e' he
section
variable{nb:Int->List Int}{par:Int->Option Int}
theorem ch_congr{par':Int->Option Int}:∀{L:List (Int×Int)}{x:Int},(∀y∈flat L,par' y=par y)->par' x=none\/par' x=par x->Ch nb par x L->Ch nb par' x L
 | [],_,_,_,_=>trivial
 | (n,b)::L,x,h,hx,hc=>by
  have hn:par' n=par n:=h n (.head _);have hb:par' b=par b:=h b (.tail _ (.head _));refine⟨hc.1,?_,hn.trans hc.2.2.1,ch_congr (L:=L) (λy hy=>h y (.tail _ (.tail _ hy))) (.inr hb) hc.2.2.2⟩;rcases hx with hx|hx
  .rw[hx];exact λe=>nomatch e
  .rw[hx];exact hc.2.1
theorem sym_put{a b:Int}(S:Sym nb par)(ha:par a=none)(hb:par b=none)(ne:a≠b):Sym nb (put1 par a b):=by
 have out:∀{x y},par x=some y->y≠a/\y≠b:=λ{x y} h=>by
  have:=S.mate h;constructor<;>rintro rfl
  .rw[ha] at this;exact nomatch this
  .rw[hb] at this;exact nomatch this
 refine⟨S.tie,λ{x y} h=>?_,λ{x y} h=>?_⟩
 .unfold put1 at h ⊢;by_cases c:x=a
  .rw[if_pos c] at h;cases h;rw[if_neg (Ne.symm ne),if_pos rfl,c]
  .rw [if_neg c] at h;by_cases d:x=b
   .rw[if_pos d] at h;cases h;rw[if_pos rfl,d]
   .rw[if_neg d] at h;rw[if_neg (out h).1,if_neg (out h).2];exact S.mate h
 .unfold put1 at h;by_cases c:x=a
  .rw[if_pos c] at h;cases h;rw[c];exact ne
  .rw [if_neg c] at h;by_cases d:x=b
   .rw[if_pos d] at h;cases h;exact c
   .rw[if_neg d] at h;exact S.ne h
theorem sym_mov{x n b:Int}(S:Sym nb par)(hx:par x=none)(hn:par n=some b):Sym nb (clr (put1 par x n) b):=by
  have xn:x≠n:=λe=>by rw[<-e,hx] at hn;exact nomatch hn
  have bx:b≠x:=λe=>by have:=S.mate hn;rw[e,hx] at this;exact nomatch this
  have bn:b≠n:=(S.ne hn).symm;have out:∀{u y},par u=some y->u≠n->u≠b->y≠x/\y≠n/\y≠b:=λ{u y} h un ub=>by
    have:=S.mate h;refine⟨λe=>?_,λe=>?_,λe=>?_⟩
    · rw[e,hx] at this;exact nomatch this
    · rw[e,hn] at this;cases this;exact ub rfl
    · rw[e,S.mate hn] at this;cases this;exact un rfl
  refine⟨S.tie,λ{u y} h=>?_,λ{u y} h=>?_⟩
  all_goals
    unfold clr put1 at h;by_cases cb:u=b
    · rw[if_pos cb] at h;exact nomatch h
    rw[if_neg cb] at h;by_cases cx:u=x
    · rw[if_pos cx] at h;cases h
      first
      | (unfold clr put1;rw[if_neg (Ne.symm bn),if_neg (Ne.symm xn),if_pos rfl,cx])
      | (rw[cx];exact xn)
    rw[if_neg cx] at h;by_cases cn:u=n
    · rw[if_pos cn] at h;cases h
      first
      | (unfold clr put1;rw[if_neg (Ne.symm bx),if_pos rfl,cn])
      | (rw[cn];exact Ne.symm xn)
    rw[if_neg cn] at h
    first
    | (obtain⟨o1,o2,o3⟩:=out h cn cb
       unfold clr put1;rw[if_neg o3,if_neg o1,if_neg o2];exact S.mate h)
    | exact S.ne h
theorem lft_len{m:Nat}{par par':Int->Option Int}{x s:Int}(h:∀y,par' y=none↔par y=none/\y≠x/\y≠s)(hx:x∈lft m par)(hs:s∈lft m par)(ne:x≠s):(lft m par').length+2=(lft m par).length:=by
 have nd:=lft_nd m par;have p:(lft m par').Perm (((lft m par).erase x).erase s):=by
  refine(List.perm_ext_iff_of_nodup (lft_nd m par') ((nd.erase x).erase s)).mpr λy=>?_;rw[List.Nodup.mem_erase_iff (nd.erase x),List.Nodup.mem_erase_iff nd,mem_lft,mem_lft,h y];exact⟨λ⟨a,b,c,d⟩=>⟨d,c,a,b⟩,λ⟨d,c,a,b⟩=>⟨a,b,c,d⟩⟩
 have l1:=List.length_erase_of_mem hx;have hs':s∈(lft m par).erase x:=(List.Nodup.mem_erase_iff nd).mpr ⟨Ne.symm ne,hs⟩;have l2:=List.length_erase_of_mem hs';have:=List.length_pos_of_mem hs';have:=List.length_pos_of_mem hx;have:=p.length_eq;omega
end
end Tr
namespace Tr
section
variable{nb:Int->List Int}
def mov:(Int->Option Int)->Int->List (Int×Int)->Int->Option Int
 | par,_,[]=>par
 | par,x,(n,b)::L=>mov (clr (put1 par x n) b) b L
theorem mov_ok:∀{L:List (Int×Int)}{par:Int->Option Int}{x:Int},Sym nb par->(∀{n b},par n=some b->b∈nb n)->par x=none->Ch nb par x L->(x::flat L).Nodup →
  Sym nb (mov par x L)/\(∀{n b},mov par x L n=some b->b∈nb n)/\∀y,mov par x L y=none↔y=fin x L\/(par y=none/\y≠x)
 | [],par,x,S,nbp,hx,_,_=>⟨S,nbp,λy=>⟨λh=>(Classical.em (y=x)).imp id λn=>⟨h,n⟩,λh=>h.elim (λe=>by rw[e];exact hx) (·.1)⟩⟩
 | (n,b)::L,par,x,S,nbp,hx,hc,nd=>by
  have pn:par n=some b:=hc.2.2.1;have nd0:(x::n::b::flat L).Nodup:=nd;have d1:=List.nodup_cons.mp nd0;have d2:=List.nodup_cons.mp d1.2;have d3:=List.nodup_cons.mp d2.2;have same:∀y∈flat L,clr (put1 par x n) b y=par y:=λy hy=>by
   have e1:y≠b:=λe=>d3.1 (e ▸ hy);have e2:y≠x:=λe=>d1.1 (e ▸ List.Mem.tail _ (List.Mem.tail _ hy));have e3:y≠n:=λe=>d2.1 (e ▸ List.Mem.tail _ hy);unfold clr put1;rw[if_neg e1,if_neg e2,if_neg e3]
  have S1:=sym_mov (nb:=nb) S hx pn;have ih:=mov_ok (L:=L) (par:=clr (put1 par x n) b) (x:=b) S1 (λ{u y} h=>?_) (by unfold clr;rw[if_pos rfl]) (ch_congr same (.inl (by unfold clr;rw[if_pos rfl])) hc.2.2.2) d2.2
  .refine ⟨ih.1,ih.2.1,λy=>(ih.2.2 y).trans (or_congr Iff.rfl ?_)⟩;unfold clr put1;by_cases cb:y=b
   .have:par y≠none:=by rw[cb,S.mate pn];exact λz=>nomatch z
    exact⟨λh=>absurd cb h.2,λh=>absurd h.1 this⟩
   .rw [if_neg cb];by_cases cx:y=x
    .rw[if_pos cx];exact⟨λh=>(nomatch h.1),λh=>absurd cx h.2⟩
    .rw[if_neg cx];by_cases cn:y=n
     .rw[if_pos cn,cn,pn];exact⟨λh=>(nomatch h.1),λh=>nomatch h.1⟩
     .rw[if_neg cn];exact⟨λh=>⟨h.1,cx⟩,λh=>⟨h.1,cb⟩⟩
  .unfold clr put1 at h;by_cases cb:u=b
   .rw[if_pos cb] at h;exact nomatch h
   rw[if_neg cb] at h;by_cases cx:u=x
   .rw[if_pos cx] at h;cases h;rw[cx];exact hc.1
   rw[if_neg cx] at h;by_cases cn:u=n
   .rw[if_pos cn] at h;cases h;rw[cn];exact S.tie hc.1
   rw[if_neg cn] at h;exact nbp h
theorem lft_mov{m:Nat}{par par':Int->Option Int}{x a:Int}(h:∀y,par' y=none↔y=a\/(par y=none/\y≠x))(hx:x∈lft m par)(ha:0<=a/\a<(m:Int))(na:a=x\/par a≠none):(lft m par').length=(lft m par).length:=by
 have nd:=lft_nd m par;have p:(lft m par').Perm (a::(lft m par).erase x):=by
  refine(List.perm_ext_iff_of_nodup (lft_nd m par') (List.nodup_cons.mpr ⟨λz=>?_,nd.erase x⟩)).mpr λy=>?_
  .obtain⟨z1,z2⟩:=(List.Nodup.mem_erase_iff nd).mp z;exact na.elim z1 λn=>n (mem_lft.mp z2).2
  .rw [List.mem_cons,List.Nodup.mem_erase_iff nd,mem_lft,mem_lft,h y];constructor
   .rintro⟨r,e|⟨f,n⟩⟩
    .exact .inl e
    .exact .inr ⟨n,r,f⟩
   .rintro(rfl|⟨n,r,f⟩)
    .exact⟨ha,.inl rfl⟩
    .exact⟨r,.inr ⟨f,n⟩⟩
 have l1:=List.length_erase_of_mem hx;have:=List.length_pos_of_mem hx;have:=p.length_eq;rw[List.length_cons] at this;omega
theorem Ok.spare{par:Int->Option Int}{m:Nat}{root:Int}{T:Ts}(K:Ok nb par root T)(S:Sym nb par)(nbp:∀{n b},par n=some b->b∈nb n)(R:Rg nb par m)(hr:root∈lft m par){a:Int}{L:List (Int×Int)}(ha:(a,L)∈T) :
  Sym nb (mov par root L)/\(∀{n b},mov par root L n=some b->b∈nb n)/\(lft m (mov par root L)).length=(lft m par).length/\a∈lft m (mov par root L):=by
 have h:=mov_ok S nbp K.free (K.ch _ _ ha) (K.un _ _ ha);rw[K.en _ _ ha] at h;have ra:=K.rg R (mem_lft.mp hr).1 ha a (by have:=fin_mem (x:=root) (L:=L);rwa [K.en _ _ ha] at this);refine⟨h.1,h.2.1,lft_mov h.2.2 hr ra ?_,mem_lft.mpr ⟨ra,(h.2.2 a).mpr (.inl rfl)⟩⟩;rcases List.eq_nil_or_concat L with rfl|⟨L',⟨n,b⟩,e⟩
 .exact .inl (K.en _ _ ha).symm
 .rw[List.concat_eq_append] at e;subst e;have e:b=a:=by have:=K.en _ _ ha;rw[fin_app] at this;exact this
  have:=S.mate (ch_par nb par (K.ch _ _ ha) (n:=n) (b:=b) (by simp));rw[e] at this;exact .inr (by rw[this];exact λz=>nomatch z)
end
end Tr
namespace Tr
theorem aug_out:∀{t:List Int}{par:Int->Option Int}{y:Int},y∉t->aug par t y=par y
 | a::b::t,par,y,h=>by
  show aug (put1 par a b) t y=par y;rw[aug_out (t:=t) λz=>h (.tail _ (.tail _ z))];unfold put1;have e1:y≠a:=λe=>h (e ▸ List.Mem.head _);have e2:y≠b:=λe=>h (e ▸ List.Mem.tail _ (List.Mem.head _));rw[if_neg e1,if_neg e2]
 | [a],_,_,_=>rfl
 | [],_,_,_=>rfl
theorem aug_at:∀{t:List Int}{par:Int->Option Int}{i:Nat},t.Nodup->2*i+1<t.length->aug par t (t.getD (2*i) 0)=some (t.getD (2*i+1) 0)/\aug par t (t.getD (2*i+1) 0)=some (t.getD (2*i) 0)
 | a::b::t,par,0,nd,_=>by
  have d1:=List.nodup_cons.mp nd;have d2:=List.nodup_cons.mp d1.2;show aug (put1 par a b) t a=some b/\aug (put1 par a b) t b=some a;rw[aug_out (λz=>d1.1 (.tail _ z)),aug_out d2.1];unfold put1;have e1:b≠a:=λe=>d1.1 (e ▸ List.Mem.head _);rw[if_pos rfl,if_neg e1,if_pos rfl];exact⟨rfl,rfl⟩
 | a::b::t,par,i+1,nd,h=>by
  have d1:=List.nodup_cons.mp nd;have d2:=List.nodup_cons.mp d1.2;exact aug_at (t:=t) (par:=put1 par a b) (i:=i) d2.2 (by simp only[List.length_cons] at h;omega)
 | [a],_,i,_,h=>by simp only[List.length_cons,List.length_nil] at h;omega
 | [],_,_,_,h=>by simp only[List.length_nil] at h;omega
theorem aug_some{t:List Int}{par:Int->Option Int}(nd:t.Nodup)(ev:t.length % 2=0){x y:Int}:aug par t x=some y↔(x∉t/\par x=some y)\/∃i,2*i+1<t.length/\((x=t.getD (2*i) 0/\y=t.getD (2*i+1) 0)\/(y=t.getD (2*i) 0/\x=t.getD (2*i+1) 0)):=by
 constructor
 .intro h;by_cases c:x∈t
  .obtain ⟨k,hk,e⟩:=List.getElem_of_mem c;have e:t.getD k 0=x:=by rw[List.getD_eq_getElem?_getD,List.getElem?_eq_getElem hk];exact e
   refine .inr ⟨k / 2,by omega,?_⟩;by_cases p:k % 2=0
   .have a:=(aug_at (par:=par) (i:=k / 2) nd (by omega)).1;rw[show 2*(k / 2)=k by omega] at a ⊢;rw[e] at a;rw[a] at h;exact .inl ⟨e.symm,(Option.some.inj h).symm⟩
   .have a:=(aug_at (par:=par) (i:=k / 2) nd (by omega)).2;rw[show 2*(k / 2)+1=k by omega] at a ⊢;rw[e] at a;rw[a] at h;exact .inr ⟨(Option.some.inj h).symm,e.symm⟩
  .rw[aug_out c] at h;exact .inl ⟨c,h⟩
 .rintro(⟨c,h⟩|⟨i,hi,⟨rfl,rfl⟩|⟨rfl,rfl⟩⟩)
  .rw[aug_out c];exact h
  .exact(aug_at nd hi).1
  .exact(aug_at nd hi).2
section
variable{nb:Int->List Int}{par:Int->Option Int}{m:Int}{t:List Int}
theorem at_of(h:x∈t):∃k,k<t.length/\t.getD k 0=x:=by
 obtain⟨k,hk,e⟩:=List.getElem_of_mem h;exact⟨k,hk,by rw[List.getD_eq_getElem?_getD,List.getElem?_eq_getElem hk];exact e⟩
theorem at_mem{k:Nat}(h:k<t.length):t.getD k 0∈t:=by
 rw[List.getD_eq_getElem?_getD,List.getElem?_eq_getElem h];exact List.getElem_mem h
theorem at_inj(nd:t.Nodup){i j:Nat}(hi:i<t.length)(hj:j<t.length)(e:t.getD i 0=t.getD j 0):i=j:=by
 rw[List.getD_eq_getElem?_getD,List.getElem?_eq_getElem hi,List.getD_eq_getElem?_getD,List.getElem?_eq_getElem hj] at e;exact(List.getElem_inj nd).mp e
theorem Bet.inn(B:Bet nb par m t)(S:Sym nb par){k:Nat}(hk:k<t.length):(k=0\/k=t.length-1)/\par (t.getD k 0)=none\/∃j,j<t.length/\par (t.getD k 0)=some (t.getD j 0):=by
 by_cases c0:k=0
 .exact .inl ⟨.inl c0,c0 ▸ B.f0⟩
 by_cases c1:k=t.length-1
 .exact .inl ⟨.inr c1,c1 ▸ B.f1⟩
 have:=B.l2;by_cases p:k % 2=1
 .exact .inr ⟨k+1,by omega,(B.al k (by omega)).2.mpr p⟩
 .have h:=(B.al (k-1) (by omega)).2.mpr (by omega);rw[show k-1+1=k by omega] at h;exact .inr ⟨k-1,by omega,S.mate h⟩
theorem Bet.aug(B:Bet nb par m t)(S:Sym nb par)(nbp:∀{n b},par n=some b->b∈nb n):Sym nb (aug par t)/\(∀{n b},aug par t n=some b->b∈nb n)/\∀y,aug par t y=none↔par y=none/\y≠t.getD 0 0/\y≠t.getD (t.length-1) 0:=by
 have out:∀{x y},x∉t->par x=some y->y∉t:=λ{x y} hx h hy=>by
  obtain⟨k,hk,rfl⟩:=at_of hy;have h':=S.mate h;rcases B.inn S hk with⟨_,f⟩|⟨j,hj,f⟩
  .rw[f] at h';exact nomatch h'
  .rw[f] at h';injection h' with h'
   exact hx (h' ▸ at_mem hj)
 have sm:=λ{x y:Int}=>aug_some (par:=par) B.nd B.ev (x:=x) (y:=y);have l2:=B.l2;have ev:=B.ev;refine⟨⟨S.tie,λ{x y} h=>?_,λ{x y} h=>?_⟩,λ{x y} h=>?_,λy=>?_⟩
 .rcases sm.mp h with⟨h1,h2⟩|⟨i,hi,e⟩
  .exact sm.mpr (.inl ⟨out h1 h2,S.mate h2⟩)
  .exact sm.mpr (.inr ⟨i,hi,e.symm⟩)
 .rcases sm.mp h with⟨_,h2⟩|⟨i,hi,⟨e1,e2⟩|⟨e1,e2⟩⟩
  .exact S.ne h2
  .intro e;have:=at_inj B.nd (by omega) hi (e1.symm.trans (e.trans e2));omega
  .intro e;have:=at_inj B.nd (by omega) hi (e1.symm.trans (e.symm.trans e2));omega
 .rcases sm.mp h with⟨_,h2⟩|⟨i,hi,⟨e1,e2⟩|⟨e1,e2⟩⟩
  .exact nbp h2
  .rw[e1,e2];exact(B.al _ hi).1
  .rw[e1,e2];exact S.tie (B.al _ hi).1
 .constructor
  .intro h;have ny:y∉t:=λhy=>by
    obtain⟨k,hk,rfl⟩:=at_of hy;have a:=aug_at (par:=par) (i:=k / 2) B.nd (by omega);by_cases p:k % 2=0
    .rw[show 2*(k / 2)=k by omega,h] at a;exact nomatch a.1
    .rw[show 2*(k / 2)+1=k by omega,h] at a;exact nomatch a.2
   rw[aug_out ny] at h;exact⟨h,λe=>ny (e ▸ at_mem (by omega)),λe=>ny (e ▸ at_mem (by omega))⟩
  .rintro⟨h,n0,n1⟩;have ny:y∉t:=λhy=>by
    obtain⟨k,hk,rfl⟩:=at_of hy;rcases B.inn S hk with⟨e|e,_⟩|⟨j,_,f⟩
    .exact n0 (by rw[e])
    .exact n1 (by rw[e])
    .rw[f] at h;exact nomatch h
   rw[aug_out ny];exact h
theorem Bet.less{m:Nat}{t:List Int}(B:Bet nb par m t)(S:Sym nb par)(nbp:∀{n b},par n=some b->b∈nb n):(lft m (Tr.aug par t)).length+2=(lft m par).length:=by
 have l2:=B.l2;refine lft_len (B.aug S nbp).2.2 (mem_lft.mpr ⟨B.rg _ (at_mem (by omega)),B.f0⟩) (mem_lft.mpr ⟨B.rg _ (at_mem (by omega)),B.f1⟩) λe=>?_;have:=at_inj B.nd (by omega) (by omega) e;omega
end
end Tr
namespace L2
open PySem PySem.Spec PyProof.Rows
structure Chs(ps:List (List Int))(par:Int->Option Int):Prop where
 nd:ps.Nodup
 mem:∀t,t∈ps↔∃x y:Int,t=[x,y]/\x<y/\par x=some y
theorem Chs.nil:Chs [] (λ_=>none):=⟨List.nodup_nil,λ_=>⟨λh=>(nomatch h),λ⟨_,_,_,_,h⟩=>(nomatch h)⟩⟩
theorem Chs.two{ps:List (List Int)}{par:Int->Option Int}(h:Chs ps par):Two ps:=λt ht=>by
 obtain⟨x,y,e,_⟩:=(h.mem t).mp ht;exact⟨x,y,e⟩
theorem Chs.perm{ps qs:List (List Int)}{par:Int->Option Int}(h:Chs ps par)(p:qs.Perm ps):Chs qs par:=⟨p.nodup_iff.mpr h.nd,λt=>p.mem_iff.trans (h.mem t)⟩
section
variable{nb:Int->List Int}{par:Int->Option Int}{ps:List (List Int)}
theorem Chs.pts(h:Chs ps par)(S:Tr.Sym nb par){x:Int}:x∈ps.flatten↔par x≠none:=by
 rw[List.mem_flatten];constructor
 .rintro⟨t,ht,hx⟩;obtain⟨a,b,rfl,_,e⟩:=(h.mem t).mp ht;rcases List.mem_cons.mp hx with rfl|hx
  .rw[e];exact λz=>nomatch z
  .rw[List.mem_singleton.mp hx,S.mate e];exact λz=>nomatch z
 .intro hx;cases e:par x with
  | none=>exact absurd e hx
  | some y=>
   rcases Int.lt_or_gt_of_ne (S.ne e) with c|c
   .exact⟨[x,y],(h.mem _).mpr ⟨x,y,rfl,c,e⟩,.head _⟩
   .exact⟨[y,x],(h.mem _).mpr ⟨y,x,rfl,c,S.mate e⟩,.tail _ (.head _)⟩
theorem Chs.apart(h:Chs ps par)(S:Tr.Sym nb par){t u:List Int}(ht:t∈ps)(hu:u∈ps){x:Int}(h1:x∈t)(h2:x∈u):t=u:=by
 obtain⟨a,b,rfl,ab,e⟩:=(h.mem t).mp ht;obtain⟨c,d,rfl,cd,e'⟩:=(h.mem u).mp hu;rcases List.mem_cons.mp h1 with q1|q1
 .rcases List.mem_cons.mp h2 with q2|q2
  .rw[<-q1,q2] at e;rw[e'] at e;injection e with e
   rw[<-q1,q2,e]
  .have q2:=List.mem_singleton.mp q2;have e':=S.mate e';rw[<-q2,q1,e] at e';injection e' with e'
   omega
 .have q1:=List.mem_singleton.mp q1;have e:=S.mate e;rw[<-q1] at e;rcases List.mem_cons.mp h2 with q2|q2
  .rw[q2,e'] at e;injection e with e
   omega
  .have q2:=List.mem_singleton.mp q2;have e':=S.mate e';rw[<-q2,e] at e';injection e' with e'
   rw[e',<-q1,<-q2]
theorem flat_nd:∀{ps:List (List Int)},ps.Nodup->(∀t∈ps,t.Nodup)->(∀t∈ps,∀u∈ps,∀x,x∈t->x∈u->t=u)->ps.flatten.Nodup
 | [],_,_,_=>List.nodup_nil
 | t::ps,nd,h1,h2=>by
  have nd':=List.nodup_cons.mp nd;rw[List.flatten_cons,List.nodup_append];refine⟨h1 t (.head _),flat_nd nd'.2 (λu hu=>h1 u (.tail _ hu)) (λu hu v hv=>h2 u (.tail _ hu) v (.tail _ hv)),λx hx y hy e=>?_⟩;subst e;obtain⟨u,hu,hx'⟩:=List.mem_flatten.mp hy;exact nd'.1 (h2 t (.head _) u (.tail _ hu) x hx hx' ▸ hu)
theorem Chs.flatNd(h:Chs ps par)(S:Tr.Sym nb par):ps.flatten.Nodup:=by
 refine flat_nd h.nd (λt ht=>?_) λt ht u hu x h1 h2=>h.apart S ht hu h1 h2;obtain⟨a,b,rfl,ab,_⟩:=(h.mem t).mp ht;simp;omega
theorem flat_len2:∀{ps:List (List Int)},Two ps->ps.flatten.length=2*ps.length
 | [],_=>rfl
 | t::ps,h=>by
  obtain⟨x,y,rfl⟩:=h t (.head _);have ih:=flat_len2 (ps:=ps) λu hu=>h u (.tail _ hu);rw[List.flatten_cons,List.length_append,ih];show 2+2*ps.length=2*(ps.length+1);omega
theorem Chs.count{m:Nat}(h:Chs ps par)(S:Tr.Sym nb par)(R:Tr.Rg nb par m):2*ps.length+(Tr.lft m par).length=m:=by
 have nd1:=h.flatNd S;have p:(ps.flatten++Tr.lft m par).Perm ((List.range m).map λ(k:Nat)=>(k:Int)):=by
  refine(List.perm_ext_iff_of_nodup (List.nodup_append.mpr ⟨nd1,Tr.lft_nd m par,λx hx y hy e=>?_⟩) ?_).mpr λx=>?_
  .subst e;exact(h.pts S).mp hx (Tr.mem_lft.mp hy).2
  .exact List.pairwise_map.mpr (List.nodup_range.imp λ{a b} q e=>q (Int.ofNat.inj e))
  .rw [List.mem_append,h.pts S,Tr.mem_lft,List.mem_map];constructor
   .rintro (q|⟨q,_⟩)
    .cases e:par x with
     | none=>exact absurd e q
     | some y=>
      have:=R.par (S.mate e);exact⟨x.toNat,List.mem_range.mpr (by omega),by omega⟩
    .exact⟨x.toNat,List.mem_range.mpr (by omega),by omega⟩
   .rintro⟨k,hk,rfl⟩;have:=List.mem_range.mp hk;by_cases c:par (k:Int)=none
    .exact .inr ⟨by omega,c⟩
    .exact .inl c
 have l:=p.length_eq;rw[List.length_append,flat_len2 h.two,List.length_map,List.length_range] at l;exact l
theorem mem_alg{t:List Int}{u:List Int}:u∈alg t↔∃i,i+1<t.length/\u=[Mt.lo (t.getD i 0) (t.getD (i+1) 0),Mt.hi (t.getD i 0) (t.getD (i+1) 0)]:=by
 constructor
 .intro h;obtain⟨i,hi,e⟩:=List.getElem_of_mem h;rw[alg_len] at hi;have g:=alg_get t i (by omega);rw[List.getElem?_eq_getElem (by rw[alg_len];omega)] at g;exact⟨i,by omega,e ▸ Option.some.inj g⟩
 .rintro⟨i,hi,rfl⟩;exact List.mem_of_getElem? (alg_get t i hi)
theorem lohi_lt{a b:Int}(h:a<b):[Mt.lo a b,Mt.hi a b]=[a,b]:=by
 unfold Mt.lo Mt.hi;rw[if_neg (by omega),if_pos (by omega)]
theorem lohi_gt{a b:Int}(h:b<a):[Mt.lo a b,Mt.hi a b]=[b,a]:=by
 unfold Mt.lo Mt.hi;rw[if_pos (by omega),if_neg (by omega)]
theorem Chs.tie(h:Chs ps par)(S:Tr.Sym nb par){a b:Int}(ab:a≠b):[Mt.lo a b,Mt.hi a b]∈ps↔par a=some b:=by
 rw[h.mem];rcases Int.lt_or_gt_of_ne ab with c|c
 .rw [lohi_lt c];constructor
  .rintro⟨x,y,e,_,p⟩;injection e with e1 e2
   injection e2 with e2 _
   rw[e1,e2];exact p
  .exact λp=>⟨a,b,rfl,c,p⟩
 .rw [lohi_gt c];constructor
  .rintro⟨x,y,e,_,p⟩;injection e with e1 e2
   injection e2 with e2 _
   rw[e1,e2];exact S.mate p
  .exact λp=>⟨b,a,rfl,c,S.mate p⟩
theorem Chs.xch{m:Int}{t:List Int}{us:List (List Int)}(h:Chs ps par)(S:Tr.Sym nb par)(B:Tr.Bet nb par m t)(nbp:∀{n b},par n=some b->b∈nb n)(p:us.Perm (xch ps (alg t))):Chs us (Tr.aug par t):=by
 refine Chs.perm (ps:=L2.xch ps (alg t)) ⟨xch_nd h.nd (alg_nd B.nd),λu=>?_⟩ p;have A:=B.aug S nbp;have l2:=B.l2;have ev:=B.ev;have sm:=λ{x y:Int}=>Tr.aug_some (par:=par) B.nd B.ev (x:=x) (y:=y);have ne:∀{i:Nat},i+1<t.length->t.getD i 0≠t.getD (i+1) 0:=λ{i} hi e=>by
  have:=Tr.at_inj B.nd (by omega) hi e;omega
 rw[mem_xch];constructor
 .rintro (⟨h1,h2⟩|⟨h1,h2⟩)
  .obtain ⟨x,y,rfl,c,e⟩:=(h.mem u).mp h1;refine⟨x,y,rfl,c,sm.mpr (.inl ⟨λhx=>h2 ?_,e⟩)⟩;obtain⟨k,hk,ek⟩:=Tr.at_of hx;by_cases c0:k=0
   .have:=B.f0;rw[<-c0,ek,e] at this;exact nomatch this
   by_cases c1:k=t.length-1
   .have:=B.f1;rw[<-c1,ek,e] at this;exact nomatch this
   by_cases q:k % 2=1
   .have:=(B.al k (by omega)).2.mpr q;rw[ek,e] at this;injection this with this
    refine mem_alg.mpr ⟨k,by omega,?_⟩;rw[ek,<-this,lohi_lt c]
   .have:=(B.al (k-1) (by omega)).2.mpr (by omega);rw[show k-1+1=k by omega,ek] at this;have:=S.mate this;rw[e] at this;injection this with this
    refine mem_alg.mpr ⟨k-1,by omega,?_⟩;rw[show k-1+1=k by omega,ek,<-this,lohi_gt c]
  .obtain⟨i,hi,rfl⟩:=mem_alg.mp h1;have nei:=ne hi;rw[h.tie S nei,(B.al i hi).2] at h2;have e2:2*(i / 2)=i:=by omega
   have a:=Tr.aug_at (par:=par) (i:=i / 2) B.nd (by omega);rw[e2] at a;rcases Int.lt_or_gt_of_ne nei with c|c
   .rw[lohi_lt c];exact⟨_,_,rfl,c,a.1⟩
   .rw[lohi_gt c];exact⟨_,_,rfl,c,a.2⟩
 .rintro ⟨x,y,rfl,c,e⟩;rcases sm.mp e with⟨h1,h2⟩|⟨i,hi,q⟩
  .refine .inl ⟨(h.mem _).mpr ⟨x,y,rfl,c,h2⟩,λz=>?_⟩;obtain⟨x',y',e',hx,_⟩:=alg_sub z;injection e' with e1 _
   exact h1 (e1 ▸ hx)
  .have nei:=ne (i:=2*i) hi;have tie:[x,y]=[Mt.lo (t.getD (2*i) 0) (t.getD (2*i+1) 0),Mt.hi (t.getD (2*i) 0) (t.getD (2*i+1) 0)]:=by
    rcases q with⟨q1,q2⟩|⟨q1,q2⟩
    .rw[<-q1,<-q2,lohi_lt c]
    .rw[<-q1,<-q2,lohi_gt c]
   refine .inr ⟨mem_alg.mpr ⟨2*i,hi,tie⟩,?_⟩;rw[tie,h.tie S nei,(B.al _ hi).2];omega
end
end L2
namespace Tr
section
variable{nb:Int->List Int}
def tryB(f:Int->Int)(ok:Int->Bool):List Int->Int->Int
 | [],z=>z
 | b::bs,z=>tryB f ok bs (if ok b=true then (if 1+f b>z then 1+f b else z) else z)
def bst(ok:Int->Int->Bool)(m:Int):Nat->Int->List Int->Int
 | 0,_,_=>0
 | d+1,a,used=>if a∈used then bst ok m d (a+1) used else tryB (λb=>bst ok m d (a+1) (used++[b])) (λb=>ok a b&&!decide (b∈used)) ((List.range d).map λ(k:Nat)=>a+1+(k:Int)) (bst ok m d (a+1) used)
theorem tryB_ge{f:Int->Int}{ok:Int->Bool}:∀{bs:List Int}{z:Int},z<=tryB f ok bs z
 | [],_=>Int.le_refl _
 | b::bs,z=>by
  refine Int.le_trans ?_ (tryB_ge (bs:=bs))
  split
  .split<;>omega
  .exact Int.le_refl _
theorem tryB_le{f:Int->Int}{ok:Int->Bool}:∀{bs:List Int}{z b:Int},b∈bs->ok b=true->1+f b<=tryB f ok bs z
 | c::bs,z,b,h,hb=>by
  rcases List.mem_cons.mp h with rfl|h
  .refine Int.le_trans ?_ (tryB_ge (bs:=bs));rw[if_pos hb]
   split<;>omega
  .exact tryB_le (bs:=bs) h hb
theorem tryB_is{f:Int->Int}{ok:Int->Bool}:∀{bs:List Int}{z:Int},tryB f ok bs z=z\/∃b∈bs,ok b=true/\tryB f ok bs z=1+f b
 | [],_=>.inl rfl
 | c :: bs,z=>by
  rcases tryB_is (f:=f) (ok:=ok) (bs:=bs) (z:=if ok c=true then (if 1+f c>z then 1+f c else z) else z) with e|⟨b,hb,h1,h2⟩
  .by_cases c1:ok c=true
   .by_cases c2:1+f c>z
    .refine .inr ⟨c,.head _,c1,?_⟩;show tryB f ok bs _=_;rw[e,if_pos c1,if_pos c2]
    .refine .inl ?_;show tryB f ok bs _=_;rw[e,if_pos c1,if_neg c2]
   .refine .inl ?_;show tryB f ok bs _=_;rw[e,if_neg c1]
  .exact .inr ⟨b,.tail _ hb,h1,h2⟩
theorem lft_none(m:Nat):(lft m λ_=>none).length=m:=by
 unfold lft;rw[show(List.filter (λx=>decide ((λ_:Int=>(none:Option Int)) x=none)) ((List.range m).map λ(k:Nat)=>(k:Int)))=(List.range m).map λ(k:Nat)=>(k:Int) from List.filter_eq_self.mpr λ_ _=>rfl];simp
def cut2(par:Int->Option Int)(a b:Int):Int->Option Int:=λx=>if x=a\/x=b then none else par x
theorem sym_cut{par:Int->Option Int}{a b:Int}(S:Sym nb par)(h:par a=some b):Sym nb (cut2 par a b):=by
 refine⟨S.tie,λ{x y} e=>?_,λ{x y} e=>?_⟩
 .unfold cut2 at e ⊢;by_cases c:x=a\/x=b
  .rw[if_pos c] at e;exact nomatch e
  .rw [if_neg c] at e;rw[if_neg λz=>c ?_]
   .exact S.mate e
   .have e':=S.mate e;rcases z with z|z
    .rw[z,h] at e';cases e';exact .inr rfl
    .rw[z,S.mate h] at e';cases e';exact .inl rfl
 .unfold cut2 at e;by_cases c:x=a\/x=b
  .rw[if_pos c] at e;exact nomatch e
  .rw[if_neg c] at e;exact S.ne e
variable{ok:Int->Int->Bool}{m:Nat}
end
end Tr
namespace Tr
def ChE(E:List (List Int))(o:Int->Option Int):Prop:=∀{x y:Int},o x=some y->o y=some x/\x≠y/\[Mt.lo x y,Mt.hi x y]∈E
structure Num(E:List (List Int))(m n:Nat):Prop where
 has:∃o,ChE E o/\2*n+(lft m o).length=m
 most:∀o,ChE E o->m<=2*n+(lft m o).length
def InE(m:Nat)(E:List (List Int)):Prop:=∀x y:Int,[Mt.lo x y,Mt.hi x y]∈E->(0<=x/\x<(m:Int))/\(0<=y/\y<(m:Int))
end Tr
namespace L2
open PySem PySem.Spec PyProof.Rows
section
variable{X:Cx}
theorem range_anyB(bs:List Bool):((List.range bs.length).any λi=>(bs[i]?).getD false)=bs.any id:=by
 rw[Bool.eq_iff_iff,List.any_eq_true,List.any_eq_true];constructor
 .rintro⟨i,hi,h⟩;have hi':=List.mem_range.mp hi;refine⟨bs[i],List.getElem_mem hi',?_⟩;simpa[hi'] using h
 .rintro⟨b,hb,h⟩;obtain⟨i,hi,rfl⟩:=List.getElem_of_mem hb;exact⟨i,List.mem_range.mpr hi,by simpa[hi] using h⟩
theorem call_anyB(hc:X.calm=true):CallR X (.builtin "any") (λvs H Q=>∃(a:Addr)(bs:List Bool),vs=[.ref a]/\SqL X.K H a (bs.map V.bl)/\Q (.bl (bs.any id)) H):=by
 intro pins s σ H vs us Q I r h;obtain⟨a,bs,rfl,hq,q⟩:=h;obtain⟨u,rfl,ru⟩:=vals1 r;cases ru;obtain⟨its,rv,pl,hz⟩:=I.list hq;have ei:=vals_bls rv;subst ei;have hl:=pl.isList;have hlt:a<s.heap.objs.size:=by obtain⟨_,e,_⟩:=hl;exact Heap.lt_size e
 refine PySem.call_any_walk (wpAny_pyIter_list hl ?_);refine⟨s.heap.objs.size,[s.heap.objs.size,a],[s.heap.objs.size],(bs.map Value.bool).toArray.size,_,_,λi=>(bs[i]?).getD false,rfl,Walks.list (A:=X.A.in1) (I.ok.hd hc) _ a (Nat.ne_of_lt hlt) (bs.map Value.bool).toArray,
  ⟨⟨_,Heap.get?_push_size _ rfl,rfl,rfl⟩,hl.push _⟩,λi v s' Q' E' hP hQ=>?_,λh' tk hk=>?_⟩
 .have hP:(bs.map Value.bool)[i]?=some v:=by simpa using hP
  rw[List.getElem?_map] at hP;cases e:bs[i]? with
  | none=>rw[e] at hP;cases hP
  | some b=>
   rw[e] at hP;cases hP;simp only[e,Option.getD_some] at hQ;exact wpAny_truthy_bool hQ
 .have e:((List.range (bs.map Value.bool).toArray.size).any λi=>(bs[i]?).getD false)=bs.any id:=by
   rw[List.size_toArray,List.length_map];exact range_anyB bs
  rw[e];exact⟨.bl _,H,I.kept λb x z=>hk b x (λhm=>by rw[List.mem_singleton.mp hm] at z;exact Nat.lt_irrefl _ (Heap.lt_size z)) (Heap.get?_push_of_some _ z),rfl,q⟩
theorem mt_updK:MtM X "dict.update" (λx vs H Q=>∃(a b:Addr)(kvs more:List (Key×V)),x=.ref a/\vs=[.ref b]/\a≠b/\H a=some (.dK kvs)/\H b=some (.dK more)/\kvs.length+more.length<=sizeLine/\Q .non (upd H a (.dK (mergeK kvs more)))):=by
 intro pins s σ H x vs v us Q I rx rv h;obtain⟨a,b,kvs,more,rfl,rfl,ab,e,e',hl,q⟩:=h;cases rx;obtain⟨u,rfl,ru⟩:=vals1 rv;cases ru;obtain⟨zz,hd,vs,rel,dd⟩:=dk_of I.hok e;obtain⟨zz',hd',vs',rel',dd'⟩:=dk_of I.hok e';refine call_meetsIn PySem.F.slot_dict_update dd.typeIs PySem.F.entry_dict_update (PySem.F.args_dict_update_2 _ _) (meets_dict_update (mixKind X.prog X.w) a b ab hd')
  ⟨vs,vs',dd,dd',by rw[<-rel.length,<-rel'.length];exact hl,λh' dd2 _ hs=>?_⟩
 have he:∃q,h'.get? a=some q:=let ⟨q,_,_,hq,_⟩:=dd2;⟨q,hq⟩;have hl':(mergeK kvs more).length<=sizeLine:=by have:=length_mergeK more kvs;omega
 exact⟨.non,_,d_write I (by rw[e];exact True.intro) hs he (dk_new hl' hd (KV.merge rel' rel) dd2),rfl,q⟩
end
end L2
namespace Tr
section
variable{nb:Int->List Int}
def Spare(nb:Int->List Int)(m:Nat)(a:Int):Prop:=∃oth:Int->Option Int,Sym nb oth/\(∀{n b},oth n=some b->b∈nb n)/\a∈lft m oth/\∀o:Int->Option Int,Sym nb o->(∀{n b},o n=some b->b∈nb n)->(lft m oth).length<=(lft m o).length
theorem Best.spare_iff{par:Int->Option Int}{m:Nat}{T:Int->Ts}(B:Best nb par m T)(K:∀r∈lft m par,Ok nb par r (T r)){a:Int}:(∃r∈lft m par,a∈keys (T r))↔Spare nb m a:=by
 constructor
 .rintro⟨r,hr,ha⟩;obtain⟨p,hp,e⟩:=List.mem_map.mp ha;obtain⟨a',L⟩:=p;have e:a'=a:=e;subst e;obtain⟨S',nb',l,h⟩:=(K r hr).spare B.sym B.nbp B.rg hr hp;exact⟨_,S',nb',h,λo So no=>by rw[l];exact B.le So no⟩
 .rintro⟨oth,S',onb,ha,mn⟩;exact B.spare S' onb (mn par B.sym B.nbp) ha
end
theorem rise_eq:∀{xs ys:List Int},xs.Pairwise (·<·)->ys.Pairwise (·<·)->(∀a,a∈xs↔a∈ys)->xs=ys
 | [],[],_,_,_=>rfl
 | [],y::ys,_,_,h=>nomatch (h y).mpr (.head _)
 | x::xs,[],_,_,h=>nomatch (h x).mp (.head _)
 | x::xs,y::ys,p,q,h=>by
  rw[List.pairwise_cons] at p q;have e:x=y:=by
   rcases List.mem_cons.mp ((h x).mp (.head _)) with e|e
   .exact e
   .rcases List.mem_cons.mp ((h y).mpr (.head _)) with e' | e'
    .exact e'.symm
    .have:=q.1 x e;have:=p.1 y e';omega
  subst e;refine congrArg _ (rise_eq p.2 q.2 λa=>⟨λha=>?_,λha=>?_⟩)
  .rcases List.mem_cons.mp ((h a).mp (.tail _ ha)) with e|e
   .subst e;have:=p.1 a ha;omega
   .exact e
  .rcases List.mem_cons.mp ((h a).mpr (.tail _ ha)) with e|e
   .subst e;have:=q.1 a ha;omega
   .exact e
theorem rise_range(n:Nat)(p:Int->Bool):(((List.range n).map λ(i:Nat)=>(i:Int)).filter p).Pairwise (·<·):=by
 refine List.Pairwise.filter _ (List.Pairwise.map _ ?_ List.pairwise_lt_range);intro a b h;omega
theorem rise_of{xs:List Int}(h:xs.Pairwise (·<=·))(nd:xs.Nodup):xs.Pairwise (·<·):=
 (h.and nd).imp λ{a b} q=>by have:=q.1;have:=q.2;omega
end Tr
namespace L2
open PySem PySem.Spec PyProof.Rows
theorem caps_of{X:Cx}{scope:Scope}{cl:List (Str×Addr)}{own caps N:List Str}{js:List Nat}{sc:Scope}(h1:closureFor scope X.env=pure cl)(h2:cl.map (λp=>X.env.cells.lookup p.1)=cl.map λp=>some p.2)(h3:cl.map (·.1)=caps.reverse)(h4:scope.kind=.function)(h5:(relabel scope X.env).names=scope.names.map λy=>(y.1,if y.2=.free then .cell else y.2))(h6:X.env.scope=sc)(h0:X.N=N)
  (h7:(∀y∈scope.names,y.2≠.cell/\(y.2=.local->scope.names.lookup y.1=some .local)/\(y.2=.free->y.1∈caps))/\caps.length=js.length/\∀p∈caps.zip js,N[p.2]?=some p.1/\sc.names.lookup p.1=some .cell/\(scope.names.map λy=>(y.1,if y.2=.free then NameKind.cell else y.2)).lookup p.1=some .cell):Caps X scope cl own caps js:=by
 have ex:∀x∈caps,∃c,cl.lookup x=some c:=λx hx=>by
  rw[<-List.mem_reverse,<-h3] at hx;obtain⟨⟨y,c⟩,h,e⟩:=List.mem_map.mp hx;have e:y=x:=e;subst e;cases q:cl.lookup y with
  | some c=>exact⟨c,rfl⟩
  | none=>exact absurd h (by
    have:=List.lookup_eq_none_iff.mp q;exact λz=>by have:=this _ z;simp at this)
 refine⟨h1,λx c h=>?_,h4,λy hy=>(h7.1 y hy).1,λy hy=>(h7.1 y hy).2.1,λx hx=>?_,h7.2.1,λi x e=>?_⟩
 .have:=List.map_inj_left.mp h2 (x,c) (PySem.mem_of_lookup h);exact this
 .rw [h5] at hx;refine ex x ?_;have:∃z,(x,z)∈scope.names.map (λy=>(y.1,if y.2=.free then NameKind.cell else y.2))/\(z=.cell\/z=.free):=by
   rcases hx with hx|hx
   .exact⟨_,PySem.mem_of_lookup hx,.inl rfl⟩
   .exact⟨_,PySem.mem_of_lookup hx,.inr rfl⟩
  obtain⟨z,hz,q⟩:=this;obtain⟨y,hy,e⟩:=List.mem_map.mp hz;injection e with e1 e2
  subst e1;have k:=h7.1 y hy;by_cases c:y.2=.free
  .exact k.2.2 c
  .rw[if_neg c] at e2;rcases q with q|q
   .exact absurd (e2.trans q) k.1
   .exact absurd (e2.trans q) c
 .obtain ⟨li,ei⟩:=List.getElem?_eq_some_iff.mp e;have lj:i<js.length:=by have:=h7.2.1;omega
  have hz:(x,js[i])∈caps.zip js:=by
   refine List.mem_of_getElem? (i:=i) ?_;rw[List.getElem?_zip_eq_some];exact⟨e,List.getElem?_eq_getElem lj⟩
  obtain⟨k1,k2,k4⟩:=h7.2.2 _ hz;obtain⟨c,hc⟩:=ex x (List.mem_of_getElem? e);exact⟨js[i],List.getElem?_eq_getElem lj,by rw[h0];exact k1,by rw[h6];exact k2,by rw[hc];rfl,by rw[h5];exact k4⟩
def Fr(D:Addr)(H H':Hp):Prop:=∀b o,H b=some o->b≠D->H' b=some o
def Gv{α:Type}(F:α->V->Hp->Prop)(J:St->Prop)(D:Addr)(z:Option α)(H2:Hp)(Y:V->St->Hp->Prop)(Z:St->Hp->Prop):Prop:=(∀y σ H z',z=some z'->J σ->Same H2 H->(∀H',Fr D H H'->F z' y H')->Y y σ H)/\(∀σ H,z=none->J σ->Same H2 H->Z σ H)/\∃ys,H2 D=some (.lst ys)
section
variable{α:Type}{F:α->V->Hp->Prop}{J:St->Prop}{D:Addr}{g:TG}{tt:TT}{te:TE}{σ0:St}{Qd:Hp->Prop}{H1:Hp}
def Gat(F:α->V->Hp->Prop)(J:St->Prop)(D:Addr)(H1:Hp)(its:List (Option α))(i:Nat)(ys:List V)(σ:St)(H:Hp):Prop:=J σ/\Same H1 H/\H D=some (.lst ys)/\ys.length<=i/\i<=its.length/\∀H',Fr D H H'->Paired (λv z=>F z v H') ys ((its.take i).filterMap id)
theorem gat_step{its:List (Option α)}{n i:Nat}{ys:List V}{σ:St}{H:Hp}{z:Option α}(hn:its.length=n)(hD:H1 D=none)(ez:its[i]?=some z)(G:Gat F J D H1 its i ys σ H) :
  Gv F J D z H (λy σ2 H6=>H6 D=some (.lst ys)/\Nxt n i (Gat F J D H1 its) (ys++[y]) σ2 (upd H6 D (.lst (ys++[y])))) (λσ2 H5=>Nxt n i (Gat F J D H1 its) ys σ2 H5):=by
 obtain⟨_,s1,h2,l1,l2,pr⟩:=G;have li:i<its.length:=(List.getElem?_eq_some_iff.mp ez).1;refine⟨?_,?_,_,h2⟩
 .rintro y σ2 H6 z' rfl j s6 f;refine⟨s6 D _ h2,Nxt.mk (by omega) ⟨j,λb o e=>?_,upd_same,by rw[List.length_append];exact Nat.succ_le_succ l1,li,λH' f'=>?_⟩⟩
  .rw[upd_ne (ne_of_none e hD)];exact s6 b o (s1 b o e)
  .have f6:Fr D H6 H':=λb o e n=>f' b o (by rw[upd_ne n];exact e) n;rw[List.take_succ,ez,List.filterMap_append];exact paired_snoc (pr H' λb o e n=>f6 b o (s6 b o e) n) (f H' f6)
 .rintro σ2 H5 rfl j s5;refine Nxt.mk (by omega) ⟨j,s1.trans s5,s5 D _ h2,by omega,li,λH' f'=>?_⟩;rw[List.take_succ,ez,List.filterMap_append,show(some (none:Option α)).toList.filterMap id=[] from rfl,List.append_nil];exact pr H' λb o e n=>f' b o (s5 b o e) n
theorem turns_gv{K:W.Frag}{a:Addr}{xs:List V}(its:List (Option α))(hx:SqL K H1 a xs)(hD:H1 D=none)(hl:its.length=xs.length)(h9:xs.length<=900)(j0:J σ0)
  (hs:∀(i:Nat) x z σ H2 Y Z,xs[i]?=some x->its[i]?=some z->J σ->Same H1 H2->Gv F J D z H2 Y Z->g x σ H2 λσ2 H4=>tt σ2 H4 λc H5=>if c=true then te σ2 H5 λy H6=>Y y σ2 H6 else Z σ2 H5)
  (hd:∀ys H',Same H1 H'->H' D=some (.lst ys)->Paired (λv z=>F z v H') ys (its.filterMap id)->Qd H'):tTurns (Itl K a) g tt te σ0 D Qd H1:=by
 refine turns_list (K:=K) (a:=a) (xs:=xs) (Gat F J D H1 its) ⟨j0,Same.new' hD,upd_same,Nat.le_refl _,Nat.zero_le _,λ_ _=>.nil⟩ ?_ ?_ ?_
 .rintro i ys σ H ⟨_,s1,h2,l1,l2,_⟩;exact⟨h2,small1000 (by omega),s1.seq hx⟩
 .intro i x ys σ H hi G;have li:i<its.length:=by have:=(List.getElem?_eq_some_iff.mp hi).1;omega
  have ez:=List.getElem?_eq_getElem li;exact hs i x _ σ H _ _ hi ez G.1 G.2.1 (gat_step hl hD ez G)
 .rintro ys σ H ⟨_,s1,h2,_,_,pr⟩;have:=pr H λ_ _ e _=>e;rw[<-hl,List.take_length] at this;exact hd ys H s1 h2 this
theorem turns_gvR{lo:Int}{n:Nat}(its:List (Option α))(hD:H1 D=none)(hl:its.length=n)(h9:n<=900)(j0:J σ0)
  (hs:∀(i:Nat) z σ H2 Y Z,i<n->its[i]?=some z->J σ->Same H1 H2->Gv F J D z H2 Y Z->g (.int (lo+i)) σ H2 λσ2 H4=>tt σ2 H4 λc H5=>if c=true then te σ2 H5 λy H6=>Y y σ2 H6 else Z σ2 H5)
  (hd:∀ys H',Same H1 H'->H' D=some (.lst ys)->Paired (λv z=>F z v H') ys (its.filterMap id)->Qd H'):tTurns (Itr lo n) g tt te σ0 D Qd H1:=by
 refine turns_range (Gat F J D H1 its) ⟨j0,Same.new' hD,upd_same,Nat.le_refl _,Nat.zero_le _,λ_ _=>.nil⟩ ?_ ?_ ?_
 .rintro i ys σ H ⟨_,s1,h2,l1,l2,_⟩;exact⟨h2,small1000 (by omega)⟩
 .intro i ys σ H hi G;have li:i<its.length:=by omega
  have ez:=List.getElem?_eq_getElem li;exact hs i _ σ H _ _ hi ez G.1 G.2.1 (gat_step hl hD ez G)
 .rintro ys σ H ⟨_,s1,h2,_,_,pr⟩;have:=pr H λ_ _ e _=>e;rw[<-hl,List.take_length] at this;exact hd ys H s1 h2 this
end
theorem gv_ints:∀{ys:List V}{zs:List Int},Paired (λv z=>v=.int z) ys zs->ys=zs.map V.int
 | _,_,.nil=>rfl
 | _,_,.cons h r=>by rw[List.map_cons,<-gv_ints r,<-h]
theorem gv_refs{α:Type}{R:Addr->α->Prop}:∀{ys:List V}{zs:List α},Paired (λv z=>∃r,v=.ref r/\R r z) ys zs->∃rs,ys=rs.map V.ref/\Paired R rs zs
 | _,_,.nil=>⟨[],rfl,.nil⟩
 | _,_,.cons ⟨r,h1,h2⟩ q=>by
  obtain⟨rs,e,p⟩:=gv_refs q;exact⟨r::rs,by rw[List.map_cons,<-e,<-h1],.cons h2 p⟩
def Has(P:Program)(w:World)(K:W.Frag)(mg:Str->Option Value)(base:Heap)(k:Nat)(x:Str)(ps:List Str)(sp:Sp):Prop:=∃f fd,mg x=some (.ref f)/\PySem.W.keepIn K (.ref f)=true/\FnOk P w K mg base CX0 k f fd ps sp/\Binds K fd ps []
theorem pe_h{X:Cx}{k:Nat}{x:Str}{ps:List Str}{sp:Sp}{e:Expr}{es:List Expr}{t:TA}{p pos:Pos}(G:Has X.prog X.w X.K X.mg X.base k x ps sp)(hr:Room k X.A)(ha:PA X (e::es) t)(hg:Gl X x:=by rfl)(hdb:(x==("__debug__":Str))=false:=by decide)(he:starEach (e::es) X.env=(false,eval e X.env)::starEach es X.env:=by rfl)(hpl:(backTo pos (starEach es X.env)).any (·.1)=false:=by rfl) :
  PE X (.Call (.Name x p) (e::es) [] pos) (tCall sp [] E0 t):=by
 obtain⟨f,fd,m,kp,F,b⟩:=G;exact pe_call F hr hg m kp b .nil pass0 ha hdb he hpl
theorem sc_mk{N P:List Str}{sc:Scope}(h:(sc.kind=.function/\sc.isCoroutine=false/\sc.isGenerator=false)/\N.Nodup/\N.take P.length=P/\(∀x∈P,sc.names.lookup x=some .local\/sc.names.lookup x=some .cell)/\∀y∈sc.names,y.2≠.free):FnScope N P sc:=⟨h.1.1,h.1.2.1,h.1.2.2,h.2.1,h.2.2.1,h.2.2.2.1,h.2.2.2.2⟩
theorem nd_is{N M:List Str}(e:N=M)(h:M.Nodup):N.Nodup:=e ▸ h
abbrev FI:Int->V->Hp->Prop:=λz v _=>v=.int z
abbrev FB:Bool->V->Hp->Prop:=λz v _=>v=.bl z
abbrev FL:List Int->V->Hp->Prop:=λt v H=>∃r,v=.ref r/\H r=some (.lst (t.map V.int))
theorem fm_some{α β:Type}(f:α->β)(l:List α):(l.map λx=>some (f x)).filterMap id=l.map f:=by
 induction l with
 | nil=>rfl
 | cons x l ih=>rw[List.map_cons,List.filterMap_cons,ih];rfl
theorem ps_no{X:Cx}{st:Stmt}:PS X st (λ_ _ _=>False):=λ_ _ _ _ _ _ h=>h.elim
end L2
local macro_rules|`(tactic|trivial)=>`(tactic|dsimp only[L2.gName,List.set_cons_succ,List.set_cons_zero])
namespace K67
open PySem L2 PyProof.Rows
def top(i:Nat):Stmt:=PySem.Challenge.pw_pairsheath_k67_wanted_planted.main.body.getD i (.Pass ⟨0,0,0,0⟩)
abbrev sSize:Stmt:=top 17
abbrev sEnds:Stmt:=top 18
abbrev sOrd:Stmt:=top 19
abbrev sWts:Stmt:=top 20
abbrev sNb:Stmt:=top 21
abbrev sPart:Stmt:=top 1
abbrev sLeft:Stmt:=top 2
abbrev sTB:Stmt:=top 29
abbrev sGone:Stmt:=top 30
abbrev sTrails:Stmt:=top 31
abbrev sRow:Stmt:=top 32
abbrev sBetter:Stmt:=top 33
abbrev sAlong:Stmt:=top 24
abbrev sOnly:Stmt:=top 25
abbrev sXch:Stmt:=top 26
abbrev sExch:Stmt:=top 27
abbrev sMost:Stmt:=top 35
abbrev sTrailsOf:Stmt:=top 36
abbrev sHas:Stmt:=top 37
abbrev sTiedTo:Stmt:=top 38
abbrev sReason:Stmt:=top 39
abbrev sCopies:Stmt:=top 41
abbrev sCopied:Stmt:=top 42
abbrev sCounted:Stmt:=top 43
abbrev sWanted:Stmt:=top 44
abbrev sInit:Stmt:=inClass (top 22) 0
abbrev sMSize:Stmt:=inClass (top 22) 1
abbrev sTies:Stmt:=inClass (top 22) 2
abbrev sWeight:Stmt:=inClass (top 22) 3
abbrev sTied:Stmt:=inClass (top 22) 4
abbrev sLcellat:Stmt:=top 46
abbrev sLmixed:Stmt:=top 47
abbrev sLplanted:Stmt:=top 48
abbrev sLdoes:Stmt:=top 49
abbrev sLtoomany:Stmt:=top 50
abbrev sLshows:Stmt:=top 51
abbrev sLaw:Stmt:=top 52
section
variable{P:Program}{w:World}{K:W.Frag}{mg:Str->Option Value}{base:Heap}
theorem Same.new{H:Hp}{p:Addr}{o:HO}(h:H p=none):Same H (upd H p o):=λb u e=>by
 rw[upd_ne (ne_of_none e h)];exact e
def spSize:Sp:=λvs H Q _=>∃m:Int,vs=[.int m]/\¬(m<0\/24<m)/\Q .non H
theorem scSize:FnScope ["many"] ["many"] (defScope sSize):=⟨rfl,rfl,rfl,by decide +kernel,rfl,by decide +kernel,by decide +kernel⟩
theorem ok_size{f:Addr}{fd:FuncData}{u24:Value}(F:Fun K "check_size" "check_size" sSize f fd)(g24:mg "MOST_POINTS"=some u24)(r24:RelV (.int 24) u24):FnOk P w K mg base CX0 1 f fd ["many"] spSize:=by
 refine F.ok scSize (λvs H Q E h=>?_) (λcdv A outer s H vs Q E hr h=>?_)
 .obtain⟨m,rfl,_⟩:=h;rfl
 .obtain⟨m,rfl,h1,h2⟩:=h;refine⟨_,pss_one (ps_if (pw_or (pt_cmpR op_lt (pv 0) pe_int (nomark _)) (pw_or1 (pt_cmpR op_gt (pv 0) (pe_glob (by rfl) g24 r24) (nomark _)))).pt (pss_one ps_no) pss_nil),?_⟩;refine⟨_,rfl,_,_,rfl,rfl,_,rfl,?_⟩;refine ite2 (λc=>(h1 (.inl (of_decide_eq_true c))).elim) (λc=>?_);refine⟨_,rfl,_,_,rfl,rfl,_,rfl,?_⟩;exact ite2 (λd=>h1 (.inr (of_decide_eq_true d))) (λd=>h2)
def spOrd:Sp:=λvs H Q _=>∃a b:Int,vs=[.int a,.int b]/\∀p,H p=none->Q (.ref p) (upd H p (.tup [.int (Mt.lo a b),.int (Mt.hi a b)]))
theorem scOrd:FnScope ["a","b"] ["a","b"] (defScope sOrd):=⟨rfl,rfl,rfl,by decide +kernel,rfl,by decide +kernel,by decide +kernel⟩
theorem ok_ord{f:Addr}{fd:FuncData}(F:Fun K "ordered" "ordered" sOrd f fd)(gmin:mg "min"=none)(gmax:mg "max"=none):FnOk P w K mg base CX0 1 f fd ["a","b"] spOrd:=by
 refine F.ok scOrd (λvs H Q E h=>?_) (λcdv A outer s H vs Q E hr h=>?_)
 .obtain⟨a,b,rfl,_⟩:=h;rfl
 .obtain ⟨a,b,rfl,h⟩:=h;refine⟨_,pss_one (ps_ret (pe_tup (pa_cons (pe_callB (call_min2 rfl) (by rfl) gmin boot_min (pa_cons (pv 0) (pa_cons (pv 1) pa_nil)))
   (pa_cons (pe_callB (call_max2 rfl) (by rfl) gmax boot_max (pa_cons (pv 0) (pa_cons (pv 1) pa_nil))) pa_nil)))),?_⟩
  exact⟨_,rfl,_,rfl,a,b,rfl,_,rfl,_,rfl,a,b,rfl,(by show 2<=sizeLine;decide),λp hp=>h p hp⟩
def spEnds:Sp:=λvs H Q _=>∃m a b:Int,vs=[.int m,.int a,.int b]/\¬Mt.bad m a b/\∀H',Same H H'->Q .non H'
theorem scEnds:FnScope ["many","a","b","end"] ["many","a","b"] (defScope sEnds):=⟨rfl,rfl,rfl,by decide +kernel,rfl,by decide +kernel,by decide +kernel⟩
theorem ok_ends{f:Addr}{fd:FuncData}(F:Fun K "check_ends" "check_ends" sEnds f fd):FnOk P w K mg base CX0 1 f fd ["many","a","b"] spEnds:=by
 refine F.ok scEnds (λvs H Q E h=>?_) (λcdv A outer s H vs Q E hr h=>?_)
 .obtain⟨m,a,b,rfl,_⟩:=h;rfl
 .obtain ⟨m,a,b,rfl,h1,h2⟩:=h;refine⟨_,pss_cons (ps_for PassesOwn.never rfl (pi_tup (pe_tup (pa_cons (pv 1) (pa_cons (pv 2) pa_nil)))) (pg_name (i:=3) scEnds.nd rfl (Or.inl rfl))
    (pss_one (ps_if (pw_or (pt_cmpR op_lt (pv 3) pe_int (nomark _)) (pw_or1 (pt_cmpR op_ge (pv 3) (pv 0) (nomark _)))).pt (pss_one ps_no) pss_nil)))
   (pss_one (ps_if (pt_cmpR op_eq (pv 1) (pv 2) (nomark _)) (pss_one ps_no) pss_nil)),?_⟩
  refine⟨_,rfl,_,rfl,(by show 2<=sizeLine;decide),λt ht=>⟨t,rfl,⟨_,SqT.of upd_same⟩,for_tup (xs:=[V.int a,V.int b])
   (λi σ H2=>∃e,σ=[some (.int m),some (.int a),some (.int b),e]/\Same H H2/\H2 t=some (.tup [.int a,.int b])/\(0<i->¬(a<0\/m<=a))/\(1<i->¬(b<0\/m<=b)))
   ⟨none,rfl,Same.new ht,upd_same,λz=>absurd z (by decide),λz=>absurd z (by decide)⟩ (λi σ H2 _ ⟨e,_,_,hh,_⟩=>SqT.of hh) ?_ ?_⟩⟩
  .rintro i x σ H2 hi ⟨e,rfl,sm,hh,q1,q2⟩;obtain⟨v,rfl,hv⟩:∃v:Int,x=.int v/\((i=0/\v=a)\/(i=1/\v=b)):=by
    match i,hi with
    | 0,hi=>exact⟨a,(Option.some.inj hi).symm,.inl ⟨rfl,rfl⟩⟩
    | 1,hi=>exact⟨b,(Option.some.inj hi).symm,.inr ⟨rfl,rfl⟩⟩
    | n+2,hi=>cases hi
   have bd:v<0\/m<=v->Mt.bad m a b:=by
    unfold Mt.bad;rcases hv with⟨_,rfl⟩|⟨_,rfl⟩<;>omega
   refine⟨_,rfl,_,_,rfl,rfl,_,rfl,?_⟩;refine ite2 (λc=>(h1 (bd (.inl (of_decide_eq_true c)))).elim) (λc=>?_);refine⟨_,rfl,_,rfl,_,_,rfl,rfl,_,rfl,?_⟩;refine ite2 (λd=>h1 (bd (.inr (of_decide_eq_true d)))) (λd=>?_);simp only[decide_eq_true_eq] at c d;refine⟨_,rfl,sm,hh,λz=>?_,λz=>?_⟩
   .rcases hv with⟨rfl,rfl⟩|⟨rfl,rfl⟩
    .omega
    .exact q1 (by decide)
   .rcases hv with⟨rfl,rfl⟩|⟨rfl,rfl⟩
    .exact absurd z (by decide)
    .omega
  .rintro σ H2 ⟨e,rfl,sm,hh,q1,q2⟩;have r1:=q1 (by show 0<2;decide);have r2:=q2 (by show 1<2;decide);refine⟨_,rfl,_,rfl,rfl,_,rfl,?_⟩;refine ite2 (λc=>h1 ?_) (λc=>h2 H2 sm);have e:V.int a=V.int b:=of_decide_eq_true c;injection e with e
   unfold Mt.bad;omega
end
end K67
namespace L2
open PySem PySem.W PySem.W.X PyProof.Rows
def fr1(o:Obj)(n:Nat):Option (Nat×Obj):=match o with
 | ⟨_,_,.freed,_⟩=>none
 | o=>some (n,o)
noncomputable def fragH(h:Heap):PySem.W.Frag:=h.objs.toList.zipIdx.filterMap λp=>fr1 p.1 p.2
theorem fr1_or(o:Obj)(n:Nat):(fr1 o n=none)\/(fr1 o n=some (n,o)/\∀h:Heap,h.objs[n]?=some o->h.get? n=some o):=by
 obtain⟨c,d,dt,sl⟩:=o;cases dt<;>first
  | exact .inl rfl
  | (refine .inr ⟨rfl,λh e=>?_⟩;unfold Heap.get?;rw[e])
theorem lookupZ{h:Heap}{a:Nat}{o:Obj}:∀(l:List Obj)(k:Nat),(∀i x,l[i]?=some x->h.objs[k+i]?=some x)->((l.zipIdx k).filterMap λp=>fr1 p.1 p.2).lookup a=some o->h.get? a=some o
 | [],_,_,e=>nomatch e
 | x::l,k,q,e=>by
  have ih:=lookupZ (h:=h) (a:=a) (o:=o) l (k+1) λi y hy=>by
   rw[Nat.add_right_comm,Nat.add_assoc];exact q (i+1) y hy
  rw[List.zipIdx_cons,List.filterMap_cons] at e;rcases fr1_or x k with h1|⟨h1,h2⟩
  .rw[h1] at e;exact ih e
  .rw [h1,List.lookup_cons] at e;by_cases r:a=k
   .subst r;rw[beq_self_eq_true] at e;cases e;exact h2 h (q 0 _ rfl)
   .rw[beq_eq_false_iff_ne.mpr r] at e;exact ih e
theorem fragH_in(h:Heap):(fragH h).In h:=λa o e=>lookupZ h.objs.toList 0 (λi x hx=>by rw[Nat.zero_add,<-Array.getElem?_toList];exact hx) e
abbrev SeeD:=Str×Str×Arguments×FuncBody×Scope×Addr×List (Str×Addr)×Value×Addr×Bool×Bool
def funSee(K:W.Frag)(x:Str)(f:Addr):Option SeeD:=match K.lookup f with
 | some ⟨_,_,.func fd,_⟩=>some (fd.name,fd.qualname,fd.params,fd.body,fd.scope,fd.globals,fd.closure,fd.defaults,fd.builtins,codeIn K fd.code x,keepIn K (.ref f))
 | _=>none
def funGood(x q:Str)(st:Stmt):Option SeeD:=some (x,q,defArgs st,.stmts (defBody st),defScope st,mainGlobals,[],.none,builtinsNs,true,true)
def defSee(K:W.Frag)(x:Str):Option SeeD:=match nsIn K mainGlobals x with
 | some (some (.ref f))=>funSee K x f
 | _=>none
def metSee(K:W.Frag)(C:Addr)(x q:Str):Option (Bool×Option SeeD):=match findIn K (.ref C) x with
 | some (some (.ref f))=>some (isFn K (.ref f),funSee K q f)
 | _=>none
theorem fun_see{K:W.Frag}{x q:Str}{st:Stmt}{f:Addr}(e:funSee K q f=funGood x q st):∃(oc:Value)(od an:Option Addr)(osl:Array (Option Value))(kV doc pm cdv ct:Value),K.lookup f=some ⟨oc,od,.func (fnOf x q (defArgs st) (defBody st) (defScope st) .none kV doc pm an cdv ct),osl⟩/\codeIn K cdv q=true/\keepIn K (.ref f)=true:=by
 unfold funSee funGood at e
 split at e
 .next oc od fd osl el=>
  obtain⟨n,qn,ps,b,sc,gl,cl,df,kd,dc,pm,an,cd,ct,bi⟩:=fd;simp only[Option.some.injEq,Prod.mk.injEq] at e;obtain⟨rfl,rfl,rfl,rfl,rfl,rfl,rfl,rfl,rfl,c,k⟩:=e;exact⟨oc,od,an,osl,kd,dc,pm,cd,ct,el,c,k⟩
 .cases e
theorem def_see{K:W.Frag}{x:Str}{st:Stmt}(e:defSee K x=funGood x x st):∃(f:Addr)(oc:Value)(od an:Option Addr)(osl:Array (Option Value))(kV doc pm cdv ct:Value),nsIn K mainGlobals x=some (some (.ref f))/\K.lookup f=some ⟨oc,od,.func (fnOf x x (defArgs st) (defBody st) (defScope st) .none kV doc pm an cdv ct),osl⟩/\codeIn K cdv x=true/\keepIn K (.ref f)=true:=by
 unfold defSee at e
 split at e
 .next f en=>exact⟨f,by obtain⟨oc,od,an,osl,kV,doc,pm,cdv,ct,h⟩:=fun_see e;exact⟨oc,od,an,osl,kV,doc,pm,cdv,ct,en,h⟩⟩
 .cases e
theorem met_see{K:W.Frag}{C:Addr}{x q:Str}{st:Stmt}(e:metSee K C x q=some (true,funGood x q st)):∃(f:Addr)(oc:Value)(od an:Option Addr)(osl:Array (Option Value))(kV doc pm cdv ct:Value),findIn K (.ref C) x=some (some (.ref f))/\isFn K (.ref f)=true/\K.lookup f=some ⟨oc,od,.func (fnOf x q (defArgs st) (defBody st) (defScope st) .none kV doc pm an cdv ct),osl⟩/\codeIn K cdv q=true/\keepIn K (.ref f)=true:=by
 unfold metSee at e
 split at e
 .next f en=>
  simp only[Option.some.injEq,Prod.mk.injEq] at e;obtain⟨oc,od,an,osl,kV,doc,pm,cdv,ct,h⟩:=fun_see e.2;exact⟨f,oc,od,an,osl,kV,doc,pm,cdv,ct,en,e.1,h⟩
 .cases e
abbrev SeeC:=Bool×Bool×Bool×Option (Option Value)×Bool×Bool×List (Option (Option Value))×List (Option (Bool×Option SeeD))
def clsSee(K:W.Frag)(c:Str)(no:List Str)(ms:List (Str×Str×Stmt)):Option SeeC:=match nsIn K mainGlobals c with
 | some (some (.ref C))=>some (plainGet K C Str.empty,hasDictIn K C,plainOver K C,findIn K (.ref C) "__setattr__",makesIn K C,keepIn K (.ref C),no.map (findIn K (.ref C)),ms.map λm=>metSee K C m.1 m.2.1)
 | _=>none
def clsGood(no:List Str)(ms:List (Str×Str×Stmt)):Option SeeC:=some (true,true,true,some (some (.builtin "object.__setattr__")),true,true,no.map λ_=>some none,ms.map λm=>some (true,funGood m.1 m.2.1 m.2.2))
theorem cls_see{K:W.Frag}{c:Str}{no:List Str}{ms:List (Str×Str×Stmt)}(e:clsSee K c no ms=clsGood no ms):∃C,nsIn K mainGlobals c=some (some (.ref C))/\(plainGet K C Str.empty=true/\hasDictIn K C=true/\plainOver K C=true/\findIn K (.ref C) "__setattr__"=some (some (.builtin "object.__setattr__")))/\makesIn K C=true/\keepIn K (.ref C)=true/\(∀x∈no,findIn K (.ref C) x=some none)/\∀m∈ms,metSee K C m.1 m.2.1=some (true,funGood m.1 m.2.1 m.2.2):=by
 unfold clsSee clsGood at e
 split at e
 .next C en=>
  simp only[Option.some.injEq,Prod.mk.injEq] at e;obtain⟨h1,h2,h3,h4,h5,h6,h7,h8⟩:=e;exact⟨C,en,⟨h1,h2,h3,h4⟩,h5,h6,List.map_inj_left.mp h7,List.map_inj_left.mp h8⟩
 .cases e
def numSee(K:W.Frag)(x:Str):Option Int:=match nsIn K mainGlobals x with
 | some (some (.int n _))=>some n
 | _=>none
theorem num_see{K:W.Frag}{x:Str}{n:Int}(e:numSee K x=some n):∃t,nsIn K mainGlobals x=some (some (.int n t)):=by
 unfold numSee at e
 split at e
 .next m t en=>
  cases e;exact⟨t,en⟩
 .cases e
abbrev See:=List (Option (Option Value))×List (Option Int)×List (Option Bool)×List (Option SeeD)×Option SeeC
noncomputable def seeOf(zs:List Str)(ks:List (Str×Int))(qs:List (String×String×Bool))(ds:List (Str×Stmt))(c:Str)(no:List Str)(ms:List (Str×Str×Stmt))(K:W.Frag):See:=(zs.map (nsIn K mainGlobals),ks.map (λk=>numSee K k.1),qs.map (λq=>kitOne K (.type q.1) (.type q.2.1)),ds.map (λd=>defSee K d.1),clsSee K c no ms)
def seeGood(zs:List Str)(ks:List (Str×Int))(qs:List (String×String×Bool))(ds:List (Str×Stmt))(no:List Str)(ms:List (Str×Str×Stmt)):See:=(zs.map λ_=>some none,ks.map λk=>some k.2,qs.map λq=>some q.2.2,ds.map λd=>funGood d.1 d.1 d.2,clsGood no ms)
theorem see_of{zs:List Str}{ks:List (Str×Int)}{qs:List (String×String×Bool)}{ds:List (Str×Stmt)}{c:Str}{no:List Str}{ms:List (Str×Str×Stmt)}{K:W.Frag}(e:seeOf zs ks qs ds c no ms K=seeGood zs ks qs ds no ms):(∀x∈zs,nsIn K mainGlobals x=some none)/\(∀k∈ks,numSee K k.1=some k.2)/\(∀q∈qs,kitOne K (.type q.1) (.type q.2.1)=some q.2.2)/\(∀d∈ds,defSee K d.1=funGood d.1 d.1 d.2)/\clsSee K c no ms=clsGood no ms:=by
 unfold seeOf seeGood at e;simp only[Prod.mk.injEq] at e;exact⟨List.map_inj_left.mp e.1,List.map_inj_left.mp e.2.1,List.map_inj_left.mp e.2.2.1,List.map_inj_left.mp e.2.2.2.1,e.2.2.2.2⟩
theorem walkS{q:Program}{loose:List Str}{XP:(Str->Option Value)->Heap->Prop}{α:Type}{Yf:Shared->α}{Ya:World->α}{r:RowW}{d:DefRec}{kwd:List (Str×PySem.Expr)}{run:Value->List Value->Sem Value}
  (h:∀(w:World)(s₀:Shared),Yf s₀=Ya w->WalkO q loose XP (λ_ h=>(fragH s₀.heap).In h) r d kwd run):WalkX q loose XP Yf Ya r d kwd run:=by
 intro w s₀ s₁ mg mb G y a o pm cd doc dV kV ho hd hcd hD hmg hg args vals as' L hpre hlay hrd hwl hlo;exact h w s₀ y w s₀ s₁ mg mb G (λa o e=>L.keeps _ _ (fragH_in s₀.heap a o e)) a o pm cd doc dV kV ho hd hcd hD hmg hg args vals as' hpre hlay hrd hwl hlo
noncomputable def adrs(K:W.Frag):List Str->Option (List Addr)
 | []=>some []
 | x::xs=>match nsIn K mainGlobals x with
  | some (some (.ref a))=>match adrs K xs with
   | some as=>some (a::as)
   | none=>none
  | _=>none
theorem adrs_cons{K:W.Frag}{x:Str}{xs:List Str}{as:List Addr}(e:adrs K (x::xs)=some as):∃a as',as=a::as'/\nsIn K mainGlobals x=some (some (.ref a))/\adrs K xs=some as':=by
 unfold adrs at e
 split at e
 .next a en=>
  split at e
  .next as' ea=>
   cases e;exact⟨a,as',rfl,en,ea⟩
  .cases e
 .cases e
theorem adrs_nil{K:W.Frag}{as:List Addr}(e:adrs K []=some as):as=[]:=by cases e;rfl
abbrev SeeX:=Bool×Option (Option Value)×Option (Option Value)×Option (Option Value)×Option (Option Value)×Option Bool×Option Bool×Option Bool×Bool×Option Bool×Option Bool×Option Bool×Option Bool×Option Bool
abbrev mroX:List Value:=[.type "ValueError",.type "Exception",.type "BaseException",.type "object"]
abbrev newX:String:="ValueError.__new__"
noncomputable def excSee(K:W.Frag)(c w:Str)(t1 t2:List Str):Option SeeX:=match adrs K [c,w],adrs K t1,adrs K t2 with
 | some [C,W],some as,some bs=>some (excIn K C mroX newX,findIn K (.ref C) "__getattribute__",findIn K (.ref C) "__getattr__",findIn K (.ref C) "__class__",specialIn K (.builtin "object.__class__") "__get__",takesIn K (.builtin "object.__class__"),mroIn K C (.type "object"),mroIn K C (.type "BaseException"),(clsIn K C).isSome,exmOne K (.ref C) (.ref W),kitOne K (.ref C) (.ref C),kitOne K (.ref C) (.type "ValueError"),kitAny K (.ref C) (as.map Value.ref),kitAny K (.ref C) (bs.map Value.ref))
 | _,_,_=>none
def excGood:Option SeeX:=some (true,some (some (.builtin "BaseException.__getattribute__")),some none,some (some (.builtin "object.__class__")),some (some (.builtin "getset_descriptor.__get__")),some true,some true,some true,true,some true,some true,some true,some false,some false)
theorem exc_see{K:W.Frag}{c w:Str}{t1 t2:List Str}(e:excSee K c w t1 t2=excGood):∃C W as bs,nsIn K mainGlobals c=some (some (.ref C))/\nsIn K mainGlobals w=some (some (.ref W))/\adrs K t1=some as/\adrs K t2=some bs/\excIn K C mroX newX=true/\ExcA K C/\exmOne K (.ref C) (.ref W)=some true/\kitOne K (.ref C) (.ref C)=some true/\kitOne K (.ref C) (.type "ValueError")=some true/\kitAny K (.ref C) (as.map Value.ref)=some false/\kitAny K (.ref C) (bs.map Value.ref)=some false:=by
 unfold excSee excGood at e
 split at e
 .next C W as bs e1 e2 e3=>
  simp only[Option.some.injEq,Prod.mk.injEq] at e;obtain⟨h1,h2,h3,h4,h5,h6,h7,h8,h9,h10,h11,h12,h13,h14⟩:=e;obtain⟨C',r1,q1,n1,q2⟩:=adrs_cons e1;obtain⟨W',r2,q3,n2,q4⟩:=adrs_cons q2;cases q1;cases q3;exact⟨C,W,as,bs,n1,n2,e2,e3,h1,⟨h2,h3,h4,h5,h6,h7,h8,h9⟩,h10,h11,h12,h13,h14⟩
 .cases e
end L2
namespace K67
open PySem L2 PyProof.Rows
noncomputable def Qv:Program:={PySem.Challenge.pw_pairsheath_k67_wanted_planted with main:={(PySem.Challenge.pw_pairsheath_k67_wanted_planted).main with body:=[1,2,4,5,6,7,8,9,10,11,12,13,14,16,17,18,19,20,21,22,24,25,26,27,29,30,31,32,33,35,36,37,38,39,41,42,43,44,46,47,48,49,50,51,52].map top}}
def zsH:List Str:=[Str.ofString "isinstance",Str.ofString "int",Str.ofString "tuple",Str.ofString "min",Str.ofString "max",Str.ofString "len",Str.ofString "range",Str.ofString "enumerate",Str.ofString "reversed",Str.ofString "zip",Str.ofString "any",Str.ofString "sum",Str.ofString "set",Str.ofString "ValueError",Str.ofString "sorted",Str.ofString "list"]
def ksH:List (Str×Int):=[(Str.ofString "MOST_POINTS",24)]
def qsH:List (String×String×Bool):=[("list","list",true),("tuple","tuple",true)]
noncomputable def dsH:List (Str×Stmt):=[(Str.ofString "check_size",sSize),(Str.ofString "check_ends",sEnds),(Str.ofString "ordered",sOrd),(Str.ofString "weights_of",sWts),(Str.ofString "neighbours_of",sNb),(Str.ofString "partners_of",sPart),(Str.ofString "left",sLeft),(Str.ofString "turned_back",sTB),(Str.ofString "gone_on",sGone),(Str.ofString "trails_from",sTrails),(Str.ofString "row_from",sRow),(Str.ofString "better",sBetter),(Str.ofString "ties_along",sAlong),(Str.ofString "only_in",sOnly),(Str.ofString "exchanged_ties",sXch),(Str.ofString "exchanged",sExch),(Str.ofString "most",sMost),(Str.ofString "trails_of",sTrailsOf),(Str.ofString "has_tie_to",sHas),(Str.ofString "tied_to",sTiedTo),(Str.ofString "reason",sReason),(Str.ofString "copies_of",sCopies),(Str.ofString "copied",sCopied),(Str.ofString "counted",sCounted),(Str.ofString "wanted",sWanted),(Str.ofString "_law_cell_at",sLcellat),(Str.ofString "_law_mixed",sLmixed),(Str.ofString "_law_planted",sLplanted),(Str.ofString "_law_does",sLdoes),(Str.ofString "_law_too_many",sLtoomany),(Str.ofString "_law_shows",sLshows),(Str.ofString "law",sLaw)]
def noH:List Str:=[Str.ofString "many",Str.ofString "weights",Str.ofString "ties_sorted",Str.ofString "neighbours"]
noncomputable def msH:List (Str×Str×Stmt):=[(Str.ofString "__init__",Str.ofString "Web.__init__",sInit),(Str.ofString "size",Str.ofString "Web.size",sMSize),(Str.ofString "tied",Str.ofString "Web.tied",sTied),(Str.ofString "weight",Str.ofString "Web.weight",sWeight)]
def t1H:List Str:=[Str.ofString "Apart",Str.ofString "BadRow",Str.ofString "BadText",Str.ofString "BadTie",Str.ofString "BelowNought"]
def t2H:List Str:=[Str.ofString "NoName",Str.ofString "NoTie",Str.ofString "Taken",Str.ofString "Twice"]
noncomputable def seeH(s:Shared):See×Option SeeX:=(seeOf zsH ksH qsH dsH "Web" noH msH (fragH s.heap),excSee (fragH s.heap) "TooMany" "WebError" t1H t2H)
noncomputable def goodH:See×Option SeeX:=(seeGood zsH ksH qsH dsH noH msH,excGood)
noncomputable def XtH(s:Shared):Bool:=PySem.W.xlAt Qv [] s&&PySem.W.recOk (PySem.W.RowW.records (PySem.Challenge.rw_pairsheath_k67_wanted_planted.row).toRowW) s
def posH:Stmt->Pos
 | .FunctionDef _ _ _ _ _ _ _ _ _ p=>p
 | _=>⟨0,0,0,0⟩
noncomputable def dL:PySem.DefRec:=⟨"law",defArgs sLaw,defBody sLaw,defScope sLaw,posH sLaw⟩
set_option maxRecDepth 100000 in
set_option maxHeartbeats 0 in
theorem leftH:PySem.W.LeftO PySem.Challenge.pw_pairsheath_k67_wanted_planted Qv [] XtH seeH (λ_=>goodH) 7538:=λw=>by
 unfold PySem.W.openEnds PySem.W.fencedOpening PySem.W.topFrom;rw[PySem.W.Fast.te14082659384304107361,PySem.W.Fast.te14364793385576792824,PySem.W.Fast.te10274390034422433532]
 kernel_rfl
section
variable{P:Program}{w:World}{K:W.Frag}{mg:Str->Option Value}{base:Heap}
structure RowsAt(K:W.Frag)(H:Hp)(p:Addr)(rs:List Addr)(T:List Mt.Tri):Prop where
 ls:SqL K H p (rs.map V.ref)
 tp:TupsH H rs (T.map Mt.tri)
theorem TupsH.same{H H':Hp}(s:Same H H'):∀{rs:List Addr}{ts:List (List Int)},TupsH H rs ts->TupsH H' rs ts
 | _,_,.nil=>.nil
 | _,_,.cons h t=>.cons ⟨s _ _ h.1,h.2⟩ (TupsH.same s t)
theorem RowsAt.same{H H':Hp}{p:Addr}{rs:List Addr}{T:List Mt.Tri}(s:Same H H')(h:RowsAt K H p rs T):RowsAt K H' p rs T:=⟨s.seq h.ls,TupsH.same s h.tp⟩
theorem RowsAt.len{H:Hp}{p:Addr}{rs:List Addr}{T:List Mt.Tri}(h:RowsAt K H p rs T):rs.length=T.length:=by
 have:=Paired.length h.tp;rw[List.length_map] at this;exact this
theorem RowsAt.at_{H:Hp}{p:Addr}{rs:List Addr}{T:List Mt.Tri}(h:RowsAt K H p rs T){i:Nat}{x:V}(e:(rs.map V.ref)[i]?=some x) :
  ∃r t,x=.ref r/\T[i]?=some t/\H r=some (.tup [.int t.1,.int t.2.1,.int t.2.2]):=by
 rw[List.getElem?_map] at e;cases er:rs[i]? with
 | none=>rw[er] at e;cases e
 | some r=>
  rw[er] at e;obtain⟨u,eu,hu,_⟩:=Sx.pair_at (i:=i) (a:=r) h.tp er;rw[List.getElem?_map] at eu;cases et:T[i]? with
  | none=>rw[et] at eu;cases eu
  | some t=>
   rw[et] at eu;cases eu;exact⟨r,t,(Option.some.inj e).symm,rfl,hu⟩
def kk(t:Mt.Tri):List Key:=(Mt.key t).map Sum.inl
def wd(T:List Mt.Tri):List (List Key×V):=T.map λt=>(kk t,V.int t.2.2)
theorem inl_inj:∀{a b:List Int},a.map (Sum.inl:Int->Key)=b.map Sum.inl->a=b
 | [],[],_=>rfl
 | [],_::_,e=>by simp at e
 | _::_,[],e=>by simp at e
 | x::xs,y::ys,e=>by
  rw[List.map_cons,List.map_cons] at e;injection e with e1 e2
  injection e1 with e1
  rw[e1,inl_inj e2]
theorem wd_some(T:List Mt.Tri)(t:Mt.Tri):(valV (wd T) (kk t)).isSome=(T.map Mt.key).any λk=>decide (k=Mt.key t):=by
 rw[<-valV_any]
 induction T with
 | nil=>rfl
 | cons u T ih=>
  show(decide (kk u=kk t)||(wd T).any _)=(decide (Mt.key u=Mt.key t)||(T.map Mt.key).any _);rw[ih]
  congr 1
  rw[Bool.eq_iff_iff,decide_eq_true_iff,decide_eq_true_iff];exact⟨λe=>inl_inj e,λe=>by unfold kk;rw[e]⟩
theorem wd_snoc(T:List Mt.Tri)(t:Mt.Tri)(h:(valV (wd T) (kk t))=none):putK (wd T) (kk t) (.int t.2.2)=wd (T++[t]):=by
 rw[putK_new _ h];unfold wd;rw[List.map_append];rfl
def spWts(K:W.Frag):Sp:=λvs H Q _=>∃(m:Int)(p:Addr)(rs:List Addr)(T:List Mt.Tri),vs=[.int m,.ref p]/\RowsAt K H p rs T/\T.length<1000/\Mt.scan m T []=.good/\∀d H',H d=none->Same H H'->H' d=some (.dT (wd T))->Q (.ref d) H'
theorem scWts:FnScope ["many","ties","weights","a","b","weight","ends"] ["many","ties"] (defScope sWts):=⟨rfl,rfl,rfl,by decide +kernel,rfl,by decide +kernel,by decide +kernel⟩
theorem ok_wts{f fE fO:Addr}{fd fdE fdO:FuncData}(F:Fun K "weights_of" "weights_of" sWts f fd)
  (GE:FnOk P w K mg base CX0 1 fE fdE ["many","a","b"] spEnds) (mE:mg "check_ends"=some (.ref fE)) (kE:PySem.W.keepIn K (.ref fE)=true) (bE:Binds K fdE ["many","a","b"] [])
  (GO:FnOk P w K mg base CX0 1 fO fdO ["a","b"] spOrd) (mO:mg "ordered"=some (.ref fO)) (kO:PySem.W.keepIn K (.ref fO)=true) (bO:Binds K fdO ["a","b"] []) :
  FnOk P w K mg base CX0 2 f fd ["many","ties"] (spWts K):=by
 refine F.ok scWts (λvs H Q E h=>?_) (λcdv A outer s H vs Q E hr h=>?_)
 .obtain⟨m,p,rs,T,rfl,_⟩:=h;rfl
 .obtain ⟨m,p,rs,T,rfl,R,hl,hgood,hg⟩:=h;have hu:=hu_of hr;refine⟨_,pss_cons (ps_set (i:=2) scWts.nd rfl (Or.inl rfl) pe_dnewT)
   (pss_cons (ps_for PassesOwn.never rfl (pi_list (pv 1)) (pg_tup rfl (pgs_cons (pg_name (i:=3) scWts.nd rfl (Or.inl rfl)) (pgs_cons (pg_name (i:=4) scWts.nd rfl (Or.inl rfl)) (pgs_cons (pg_name (i:=5) scWts.nd rfl (Or.inl rfl)) pgs_nil))))
    (pss_cons (ps_expr (pe_call GE hr rfl mE kE bE .nil pass0 (pa_cons (pv 0) (pa_cons (pv 3) (pa_cons (pv 4) pa_nil)))))
    (pss_cons (ps_set (i:=6) scWts.nd rfl (Or.inl rfl) (pe_call GO hr rfl mO kO bO .nil pass0 (pa_cons (pv 3) (pa_cons (pv 4) pa_nil))))
    (pss_cons (ps_if (pt_cmp (pc_din hu (pv 6) (pv 2))) (pss_one ps_no) pss_nil)
    (pss_one (ps_dput hu (pv 2) (pv 6) (pv 5) rfl))))))
   (pss_one (ps_ret (pv 2)))),?_⟩
  intro d hd;have s0:Same H (upd H d (.dT [])):=Same.new hd;refine⟨_,rfl,p,rfl,⟨_,(R.same s0).ls⟩,for_list (K:=K) (a:=p) (xs:=rs.map V.ref)
   (λi σ H2=>∃e3 e4 e5 e6,σ=[some (.int m),some (.ref p),some (.ref d),e3,e4,e5,e6]/\Same H H2/\H2 d=some (.dT (wd (T.take i)))/\Mt.scan m T []=Mt.scan m (T.drop i) ((T.take i).map Mt.key))
   ⟨none,none,none,none,rfl,s0,upd_same,rfl⟩ (λi σ H2 _ ⟨_,_,_,_,_,s2,_⟩=>(R.same s2).ls) ?_ ?_⟩
  .rintro i x σ H2 hi ⟨e3,e4,e5,e6,rfl,s2,hdi,hsc⟩;obtain⟨r,t,rfl,et,ht⟩:=(R.same s2).at_ hi;have hil:i<T.length:=(List.getElem?_eq_some_iff.mp et).1;have hdr:T.drop i=t::T.drop (i+1):=by
    rw[List.drop_eq_getElem_cons hil]
    congr 1
    exact(List.getElem?_eq_some_iff.mp et).2
   have htk:T.take (i+1)=T.take i++[t]:=by
    rw[List.take_succ,et];rfl
   rw[hdr,Mt.scan_cons] at hsc;refine⟨r,_,rfl,SqT.of ht,rfl,_,_,rfl,_,_,rfl,_,_,rfl,rfl,?_⟩;rw[hgood] at hsc;by_cases nb:Mt.bad m t.1 t.2.1
   .rw[if_pos nb] at hsc;cases hsc
   .rw [if_neg nb] at hsc;refine⟨_,rfl,_,rfl,_,rfl,m,t.1,t.2.1,rfl,nb,λH3 s3=>?_⟩;refine⟨_,rfl,_,rfl,t.1,t.2.1,rfl,λq hq=>?_⟩;have s4:Same H3 (upd H3 q (.tup [.int (Mt.lo t.1 t.2.1),.int (Mt.hi t.1 t.2.1)])):=Same.new hq;have hd4:=s4 d _ (s3 d _ hdi);have hq4:upd H3 q (.tup [.int (Mt.lo t.1 t.2.1),.int (Mt.hi t.1 t.2.1)]) q=some (.tup ((kk t).map kV)):=upd_same;refine⟨_,rfl,_,rfl,d,_,rfl,DGet.t (k:=kk t) hd4 hq4,_,rfl,?_⟩;refine ite2 (λc=>?_) (λc=>?_)
    .rw[wd_some] at c;rw[if_pos c] at hsc;cases hsc
    .have cn:valV (wd (T.take i)) (kk t)=none:=by
      cases q:valV (wd (T.take i)) (kk t) with
      | none=>rfl
      | some v=>rw[q] at c;exact absurd rfl c
     rw[wd_some] at c;rw[if_neg c] at hsc;refine⟨_,rfl,_,rfl,_,rfl,d,_,rfl,DPut.t (k:=kk t) hd4 hq4 (small1000 ?_),?_⟩
     .unfold wd;rw[List.length_map,List.length_take];omega
     .refine ⟨_,_,_,_,rfl,λb o e=>?_,?_,?_⟩
      .rw[upd_ne (ne_of_none e hd)];exact s4 b o (s3 b o (s2 b o e))
      .rw[upd_same,wd_snoc _ _ cn,htk]
      .rw[hgood,hsc,htk,List.map_append];rfl
  .rintro σ H2 ⟨e3,e4,e5,e6,rfl,s2,hdi,hsc⟩;rw[List.length_map,R.len] at hdi hsc;rw[List.take_length] at hdi hsc;rw[List.drop_length] at hsc;exact⟨_,rfl,hg d H2 hd s2 hdi⟩
theorem relabel_no{scope:Scope}{env:Env}(h:∀y∈scope.names,y.2≠.cell/\y.2≠.free)(x:Str):¬((relabel scope env).names.lookup x=some .cell\/(relabel scope env).names.lookup x=some .free):=by
 have key:∀y∈(relabel scope env).names,y.2≠.cell/\y.2≠.free:=λy hy=>by
  obtain⟨z,hz,e⟩:=List.mem_map.mp hy;have h':=h z hz;obtain⟨n,k⟩:=z;have hk:(k==NameKind.free)=false:=beq_eq_false_iff_ne.mpr h'.2;simp only[hk,Bool.false_and,Bool.false_eq_true,if_false] at e;subst e;exact h'
 rintro(e|e)
 .exact(key _ (PySem.mem_of_lookup e)).1 rfl
 .exact(key _ (PySem.mem_of_lookup e)).2 rfl
theorem caps0{X:Cx}{scope:Scope}{own:List Str}(h1:closureFor scope X.env=pure [])(h2:scope.kind=.function)(h3:∀y∈scope.names,y.2≠.cell/\y.2≠.free)(h4:∀y∈scope.names,y.2=.local->scope.names.lookup y.1=some .local):Caps X scope [] own [] []:=
 ⟨h1,λx c e=>(by cases e),h2,λy hy=>(h3 y hy).1,h4,λx hx=>absurd hx (relabel_no h3 x),rfl,λi x e=>(by cases e)⟩
theorem ix_inj{α:Type}{l:List α}{i j:Nat}{x:α}(h:l.Nodup)(hi:l[i]?=some x)(hj:l[j]?=some x):i=j:=by
 have h:l.Pairwise (·≠·):=h;rw[List.pairwise_iff_getElem] at h;obtain⟨a,ea⟩:=List.getElem?_eq_some_iff.mp hi;obtain⟨b,eb⟩:=List.getElem?_eq_some_iff.mp hj;rcases Nat.lt_trichotomy i j with q|q|q
 .exact absurd (ea.trans eb.symm) (h i j a b q)
 .exact q
 .exact absurd (eb.trans ea.symm) (h j i b a q)
def nbM(ts:List (List Int))(i:Int):List Int:=ts.flatMap λt=>match t with | [a,b]=>(if a=i then [b] else [])++(if b=i then [a] else [])|_=>[]
theorem nbM_snoc(l:List (List Int))(a b k:Int):nbM (l++[[a,b]]) k=nbM l k++((if a=k then [b] else [])++(if b=k then [a] else [])):=by
 unfold nbM;rw[List.flatMap_append];simp
theorem nbM_len(k:Int):∀l:List (List Int),(nbM l k).length<=2*l.length
 | []=>Nat.le_refl _
 | t::l=>by
  have ih:=nbM_len k l;unfold nbM at ih ⊢;rw[List.flatMap_cons,List.length_append,List.length_cons];have:(match t with | [a,b]=>(if a=k then [b] else [])++(if b=k then [a] else [])|_=>[]).length<=2:=by
   split
   .rw[List.length_append]
    split<;>split<;>simp
   .exact Nat.zero_le _
  omega
def NbAt(H:Hp)(n:Addr)(m:Int)(ts:List (List Int)):Prop:=∃ps:List Addr,H n=some (.lst (ps.map V.ref))/\ps.length=m.toNat/\∀(j:Nat) q,ps[j]?=some q->H q=some (.lst ((nbM ts j).map V.int))
theorem NbAt.at'{H H':Hp}{n:Addr}{m:Int}{ts:List (List Int)}(h:NbAt H n m ts)(k:∀b xs,H b=some (.lst xs)->H' b=some (.lst xs)):NbAt H' n m ts:=by
 obtain⟨ps,h1,h2,h3⟩:=h;exact⟨ps,k _ _ h1,h2,λj q e=>k _ _ (h3 j q e)⟩
def NbN(H:Hp)(n:Addr)(m:Int)(ts:List (List Int))(N:Addr->Prop):Prop:=∃ps:List Addr,H n=some (.lst (ps.map V.ref))/\ps.length=m.toNat/\(∀(j:Nat) q,ps[j]?=some q->H q=some (.lst ((nbM ts j).map V.int)))/\N n/\∀q∈ps,N q
theorem NbN.nb{H:Hp}{n:Addr}{m:Int}{ts:List (List Int)}{N:Addr->Prop}(h:NbN H n m ts N):NbAt H n m ts:=let ⟨ps,h1,h2,h3,_⟩:=h;⟨ps,h1,h2,h3⟩
theorem NbN.at'{H H':Hp}{n:Addr}{m:Int}{ts:List (List Int)}{N N':Addr->Prop}(h:NbN H n m ts N)(k:∀b xs,N b->H b=some (.lst xs)->H' b=some (.lst xs))(i:∀b xs,N b->H b=some (.lst xs)->N' b):NbN H' n m ts N':=by
 obtain⟨ps,h1,h2,h3,h4,h5⟩:=h;have at_:∀q∈ps,∃xs,H q=some (.lst xs):=λq hq=>by
  obtain⟨j,hj,e⟩:=List.getElem_of_mem hq;exact⟨_,h3 j q (by rw[<-e];simp[hj])⟩
 exact⟨ps,k _ _ h4 h1,h2,λj q e=>k _ _ (h5 q (List.mem_of_getElem? e)) (h3 j q e),i _ _ h4 h1,λq hq=>let ⟨_,e⟩:=at_ q hq;i _ _ (h5 q hq) e⟩
def spNb(K:W.Frag):Sp:=λvs H Q _=>∃(m:Int)(e:Addr)(rs:List Addr)(ts:List (List Int)),vs=[.int m,.ref e]/\0<=m/\m<=24/\SqL K H e (rs.map V.ref)/\TupsH H rs ts/\rs.length<=300 ∧
 (∀t∈ts,∃a b:Int,t=[a,b]/\0<=a/\a<b/\b<m)/\∀n H',Same H H'->NbN H' n m ts (λb=>H b=none)->Q (.ref n) H'
theorem scNb:FnScope ["many","ends_sorted","neighbours","a","b"] ["many","ends_sorted"] (defScope sNb):=⟨rfl,rfl,rfl,by decide +kernel,rfl,by decide +kernel,by decide +kernel⟩
theorem nd_own1:([".0","point"]:List Str).Nodup:=by decide +kernel
theorem ok_nb{f:Addr}{fd:FuncData}(F:Fun K "neighbours_of" "neighbours_of" sNb f fd)(grange:mg "range"=none):FnOk P w K mg base CX0 1 f fd ["many","ends_sorted"] (spNb K):=by
 refine F.ok scNb (λvs H Q E h=>?_) (λcdv A outer s H vs Q E hr h=>?_)
 .obtain⟨m,e,rs,ts,rfl,_⟩:=h;rfl
 .obtain ⟨m,e,rs,ts,rfl,hm0,hm,hS,hT,h64,hts,hQ⟩:=h;refine⟨_,pss_cons (ps_comp (i:=2) (own:=[".0","point"]) (cl:=[]) (caps:=[]) (js:=[]) rfl (caps0 rfl rfl (by decide +kernel) (by decide +kernel)) (pi_range1 rfl grange (pa_cons (pv 0) pa_nil))
    (λpins C s H1 fp=>pg_name (i:=1) nd_own1 rfl (Or.inl rfl)) (λpins C s H1 fp=>pts_nil) (λpins C s H1 fp=>pe_lst pa_nil) scNb.nd rfl rfl rfl)
   (pss_cons (ps_for PassesOwn.never rfl (pi_list (pv 1)) (pg_tup rfl (pgs_cons (pg_name (i:=3) scNb.nd rfl (Or.inl rfl)) (pgs_cons (pg_name (i:=4) scNb.nd rfl (Or.inl rfl)) pgs_nil)))
    (pss_cons (ps_expr (pe_bm PySem.F.plainAttrs_list PySem.F.slot_list_append PySem.F.type_list_append mt_append (pe_ix ix_list (pv 2) (pv 3) (λ_ _=>rfl)) (pa_cons (pv 4) pa_nil)))
    (pss_one (ps_expr (pe_bm PySem.F.plainAttrs_list PySem.F.slot_list_append PySem.F.type_list_append mt_append (pe_ix ix_list (pv 2) (pv 4) (λ_ _=>rfl)) (pa_cons (pv 3) pa_nil))))))
   (pss_one (ps_ret (pv 2)))),?_⟩
  refine⟨_,rfl,m,rfl,by omega,by omega,λd hd=>?_⟩;refine turns_range (n:=m.toNat) (λi ys σ H2=>∃ps:List Addr,ys=ps.map V.ref/\ps.length=i/\i<=m.toNat/\Same H H2/\H2 d=some (.lst ys)/\ps.Nodup/\∀q∈ps,H2 q=some (.lst [])/\H q=none/\q≠d)
   ⟨[],rfl,rfl,Nat.zero_le _,Same.new hd,upd_same,List.nodup_nil,λq hq=>by cases hq⟩ ?_ ?_ ?_
  .rintro i ys σ H2 ⟨ps,rfl,hl,hi,_,hd2,_,_⟩;refine⟨hd2,small1000 ?_⟩;rw[List.length_map];omega
  .rintro i ys σ H2 hi ⟨ps,rfl,hl,_,s2,hd2,hnd,hps⟩;unfold gName;dsimp only;refine yes_of ?_;refine⟨Nat.zero_le _,λq hq=>?_⟩;have nqd:d≠q:=ne_of_none hd2 hq;have s3:=s2.trans (Same.new (o:=.lst []) hq);have hqH:H q=none:=s2.free hq;refine⟨by rw[upd_ne nqd];exact hd2,Nxt.mk hi ⟨ps++[q],by rw[List.map_append];rfl,by rw[List.length_append,hl];rfl,hi,λb o e=>?_,upd_same,?_,λr hr=>?_⟩⟩
   .rw[upd_ne (ne_of_none e hd)];exact s3 b o e
   .rw[List.nodup_append];refine⟨hnd,by simp,λa ha b hb=>?_⟩;rw[List.mem_singleton] at hb;subst hb;exact ne_of_none (hps a ha).1 hq
   .rcases List.mem_append.mp hr with hr|hr
    .obtain⟨a1,a2,a3⟩:=hps r hr;refine⟨?_,a2,a3⟩;rw[upd_ne a3,upd_ne (ne_of_none a1 hq)];exact a1
    .rw[List.mem_singleton] at hr;subst hr;refine⟨?_,hqH,nqd.symm⟩;rw[upd_ne nqd.symm,upd_same]
  .rintro ys σ0 H2 ⟨ps,rfl,hl,_,s2,hd2,hnd,hps⟩;refine⟨_,rfl,e,rfl,⟨_,s2.seq hS⟩,for_list (K:=K) (a:=e) (xs:=rs.map V.ref)
    (λi σ H3=>∃e3 e4,σ=[some (.int m),some (.ref e),some (.ref d),e3,e4]/\Same H H3/\H3 d=some (.lst (ps.map V.ref))/\∀(j:Nat) q,ps[j]?=some q->H3 q=some (.lst ((nbM (ts.take i) j).map V.int)))
    ⟨none,none,rfl,s2,hd2,λj q hq=>by rw[(hps q (List.mem_of_getElem? hq)).1];rfl⟩ (λi σ H3 _ ⟨_,_,_,s3,_⟩=>s3.seq hS) ?_ ?_⟩
   .rintro i x σ H3 hi ⟨e3,e4,rfl,s3,hd3,hq3⟩;have hil:i<rs.length:=by have:=(List.getElem?_eq_some_iff.mp hi).1;rw[List.length_map] at this;exact this
    obtain⟨r,rfl,er⟩:∃r,x=V.ref r/\rs[i]?=some r:=by
     rw[List.getElem?_map] at hi;cases q:rs[i]? with
     | none=>rw[q] at hi;cases hi
     | some r=>rw[q] at hi;exact⟨r,(Option.some.inj hi).symm,rfl⟩
    obtain⟨t,et,ht,_⟩:=Sx.pair_at (i:=i) (a:=r) hT er;obtain⟨a,b,rfl,ha0,hab,hb⟩:=hts t (List.mem_of_getElem? et);have htk:ts.take (i+1)=ts.take i++[[a,b]]:=by rw[List.take_succ,et];rfl
    have at_:∀z:Int,0<=z->z<m->∃q,ps[z.toNat]?=some q/\atI (ps.map V.ref) z=some (V.ref q):=λz h0 h1=>by
     have hz:z.toNat<ps.length:=by omega
     refine⟨ps[z.toNat],by simp[hz],?_⟩;have:=atI_nat (xs:=ps.map V.ref) (j:=z.toNat) (v:=.ref ps[z.toNat]) (by simp[hz])
     rwa [Int.toNat_of_nonneg h0] at this
    have lnb:∀j:Nat,((nbM (ts.take i) j).map V.int).length<=2*i:=λj=>by
     rw[List.length_map];have:=nbM_len (j:Int) (ts.take i);rw[List.length_take] at this;omega
    obtain⟨qa,eqa,ata⟩:=at_ a ha0 (by omega);obtain⟨qb,eqb,atb⟩:=at_ b (by omega) hb;have hxa:=hq3 _ _ eqa;have hxb:=hq3 _ _ eqb;have nab:qb≠qa:=λz=>by
     subst z;have:=ix_inj hnd eqa eqb;omega
    obtain⟨_,fa,na⟩:=hps qa (List.mem_of_getElem? eqa);obtain⟨_,fb,nb⟩:=hps qb (List.mem_of_getElem? eqb);refine⟨r,_,rfl,SqT.of (s3 r _ ht),rfl,_,_,rfl,_,_,rfl,rfl,?_⟩;have la:=lnb a.toNat;have lb:=lnb b.toNat;refine⟨_,rfl,_,rfl,d,_,a,_,rfl,rfl,SqL.of hd3,ata,.inl ⟨rfl,_,SqL.of hxa⟩,_,rfl,qa,_,_,rfl,rfl,hxa,small1000 (by omega),?_⟩;have hd4:upd H3 qa (.lst ((nbM (ts.take i) a.toNat).map V.int++[.int b])) d=some (.lst (ps.map V.ref)):=by rw[upd_ne na.symm];exact hd3
    have hxb4:upd H3 qa (.lst ((nbM (ts.take i) a.toNat).map V.int++[.int b])) qb=some (.lst ((nbM (ts.take i) b.toNat).map V.int)):=by rw[upd_ne nab];exact hxb
    refine⟨_,rfl,_,rfl,d,_,b,_,rfl,rfl,SqL.of hd4,atb,.inl ⟨rfl,_,SqL.of hxb4⟩,_,rfl,qb,_,_,rfl,rfl,hxb4,small1000 (by omega),?_⟩;refine⟨_,_,rfl,λc o ec=>?_,by rw[upd_ne nb.symm];exact hd4,λj q hq=>?_⟩
    .rw[upd_ne (ne_of_none ec fb),upd_ne (ne_of_none ec fa)];exact s3 c o ec
    .rw [htk,nbM_snoc];by_cases z:q=qb
     .subst z;have e:=ix_inj hnd hq eqb;subst e;rw[upd_same,if_neg (by omega),if_pos (by omega),List.nil_append,List.map_append];rfl
     .by_cases z2:q=qa
      .subst z2;have e:=ix_inj hnd hq eqa;subst e;rw[upd_ne z,upd_same,if_pos (by omega),if_neg (by omega),List.append_nil,List.map_append];rfl
      .have n1:¬a=(j:Int):=λk=>z2 (Option.some.inj (hq.symm.trans (by rw[<-eqa];congr 1;omega)));have n2:¬b=(j:Int):=λk=>z (Option.some.inj (hq.symm.trans (by rw[<-eqb];congr 1;omega)));rw[upd_ne z,upd_ne z2,if_neg n1,if_neg n2,List.append_nil,List.append_nil];exact hq3 j q hq
   .rintro σ H3 ⟨e3,e4,rfl,s3,hd3,hq3⟩;have lrs:=Paired.length hT;rw[List.length_map,lrs,List.take_length] at hq3;exact⟨_,rfl,hQ d H3 s3 ⟨ps,hd3,hl,hq3,hd,λq hq=>(hps q hq).2.1⟩⟩
theorem putF_len(f:Str)(v:V):∀l:List (Str×V),(putF f v l).length<=l.length+1
 | []=>Nat.le_refl _
 | p::r=>by
  obtain⟨g,u⟩:=p;show(if g=f then (g,v)::r else (g,u)::putF f v r).length<=_
  split
  .exact Nat.le_succ _
  .have:=putF_len f v r;simp only[List.length_cons];omega
def wt(T:List Mt.Tri)(k:List Int):Int:=match valV (wd T) (k.map Sum.inl) with|some (.int z)=>z|_=>0
theorem wt_get{T:List Mt.Tri}{t:Mt.Tri}(h:t∈T):∃z,valV (wd T) (kk t)=some (.int z):=by
 have e:=wd_some T t;rw[List.any_eq_true.mpr ⟨Mt.key t,List.mem_map.mpr ⟨t,h,rfl⟩,decide_eq_true rfl⟩] at e;obtain⟨v,hv⟩:=Option.isSome_iff_exists.mp e;unfold valV at hv;cases q:(wd T).find? λkv=>decide (kv.1=kk t) with
 | none=>rw[q] at hv;cases hv
 | some p=>
  obtain⟨u,_,eu⟩:=List.mem_map.mp (List.mem_of_find?_eq_some q);unfold valV;rw[q,<-eu];exact⟨_,rfl⟩
theorem wt_val{T:List Mt.Tri}{t:Mt.Tri}(h:t∈T):valV (wd T) (kk t)=some (.int (wt T (Mt.key t))):=by
 obtain⟨z,hz⟩:=wt_get h;have e:wt T (Mt.key t)=z:=by
  unfold wt;rw[show valV (wd T) ((Mt.key t).map Sum.inl)=some (.int z) from hz]
 rw[e,hz]
structure WebAt(C:Addr)(H:Hp)(p:Addr)(m:Int)(T:List Mt.Tri)(ks:List (List Int)):Prop where
 ex:∃(dx d l n:Addr)(fs:List (Str×V))(qs:List Addr),H p=some (.ins C dx fs)/\fs.lookup ("many":Str)=some (.int m)/\fs.lookup ("weights":Str)=some (.ref d)/\fs.lookup ("ties_sorted":Str)=some (.ref l) ∧
  fs.lookup ("neighbours":Str)=some (.ref n)/\(fs.lookup ("size":Str)=none/\fs.lookup ("ties":Str)=none/\fs.lookup ("weight":Str)=none/\fs.lookup ("tied":Str)=none)/\H d=some (.dT (wd T))/\H l=some (.lst (qs.map V.ref)) ∧
  TupsH H qs (ks.map λk=>k++[wt T k])/\NbAt H n m ks/\qs.length<=300
 pm:ks.Perm (T.map Mt.key)
 srt:ks.Pairwise (λa b=>HT.lexLt b a=false)
 m0:0<=m
 m1:m<=24
 ok:Mt.scan m T []=.good
theorem WebAt.same{C:Addr}{H H':Hp}{p:Addr}{m:Int}{T:List Mt.Tri}{ks:List (List Int)}(s:Same H H')(W:WebAt C H p m T ks):WebAt C H' p m T ks:=by
 obtain⟨dx,d,l,n,fs,qs,h1,h2,h3,h4,h5,h6,h7,h8,h9,h10,h11⟩:=W.ex;exact⟨⟨dx,d,l,n,fs,qs,s _ _ h1,h2,h3,h4,h5,h6,s _ _ h7,s _ _ h8,TupsH.same s h9,h10.at' λb xs e=>s _ _ e,h11⟩,W.pm,W.srt,W.m0,W.m1,W.ok⟩
structure WebN(C:Addr)(H:Hp)(p:Addr)(m:Int)(T:List Mt.Tri)(ks:List (List Int))(N:Addr->Prop):Prop where
 ex:∃(dx d l n:Addr)(fs:List (Str×V))(qs:List Addr),H p=some (.ins C dx fs)/\fs.lookup ("many":Str)=some (.int m)/\fs.lookup ("weights":Str)=some (.ref d)/\fs.lookup ("ties_sorted":Str)=some (.ref l) ∧
  fs.lookup ("neighbours":Str)=some (.ref n)/\(fs.lookup ("size":Str)=none/\fs.lookup ("ties":Str)=none/\fs.lookup ("weight":Str)=none/\fs.lookup ("tied":Str)=none)/\H d=some (.dT (wd T))/\H l=some (.lst (qs.map V.ref)) ∧
  TupsH H qs (ks.map λk=>k++[wt T k])/\NbN H n m ks N/\qs.length<=300/\N l
 pm:ks.Perm (T.map Mt.key)
 srt:ks.Pairwise (λa b=>HT.lexLt b a=false)
 m0:0<=m
 m1:m<=24
 ok:Mt.scan m T []=.good
theorem WebN.web{C:Addr}{H:Hp}{p:Addr}{m:Int}{T:List Mt.Tri}{ks:List (List Int)}{N:Addr->Prop}(W:WebN C H p m T ks N):WebAt C H p m T ks:=by
 obtain⟨dx,d,l,n,fs,qs,h1,h2,h3,h4,h5,h6,h7,h8,h9,h10,h11,_⟩:=W.ex;exact⟨⟨dx,d,l,n,fs,qs,h1,h2,h3,h4,h5,h6,h7,h8,h9,h10.nb,h11⟩,W.pm,W.srt,W.m0,W.m1,W.ok⟩
def spInit(C:Addr)(K:W.Frag):Sp:=λvs H Q _=>∃(p:Addr)(m:Int)(l dx:Addr)(rs:List Addr)(T:List Mt.Tri),vs=[.ref p,.int m,.ref l]/\H p=some (.ins C dx [])/\RowsAt K H l rs T/\T.length<=300/\¬(m<0\/24<m)/\Mt.scan m T []=.good ∧
 ∀H' ks,(∀b o,H b=some o->b≠p->H' b=some o)->WebN C H' p m T ks (λb=>H b=none)->Q .non H'
theorem scInit:FnScope ["self","many","ties","weights","ends_sorted"] ["self","many","ties"] (defScope sInit):=⟨rfl,rfl,rfl,by decide +kernel,rfl,by decide +kernel,by decide +kernel⟩
def compI:Scope:={kind:=.function,names:=[(Str.ofString ".0",.local),(Str.ofString "a",.local),(Str.ofString "b",.local),(Str.ofString "weights",.free)],isGenerator:=false,isCoroutine:=false,more:=[]}
theorem nd_own2:([".0","a","b","weights"]:List Str).Nodup:=by decide +kernel
theorem capsI{f:Addr}{cdv:Value}{A:Around}{outer:List Env}{s:Shared}{H:Hp}{E:XK} :
  Caps (cxOf CX0 P w K mg base ["self","many","ties","weights","ends_sorted"] "Web.__init__" (defScope sInit) f cdv A outer s H E).nox compI [(Str.ofString "weights",s.heap.objs.size+1)] [".0","a","b"] ["weights"] [3]:=by
 have e1:(cxOf CX0 P w K mg base ["self","many","ties","weights","ends_sorted"] "Web.__init__" (defScope sInit) f cdv A outer s H E).nox.env.cells=[(Str.ofString "weights",s.heap.objs.size+1)]:=by rfl
 have e2:(relabel compI (cxOf CX0 P w K mg base ["self","many","ties","weights","ends_sorted"] "Web.__init__" (defScope sInit) f cdv A outer s H E).nox.env).names=[(Str.ofString ".0",.local),(Str.ofString "a",.local),(Str.ofString "b",.local),(Str.ofString "weights",.cell)]:=by rfl
 refine⟨rfl,λx c h=>by rw[e1];exact h,rfl,by decide +kernel,by decide +kernel,λx hx=>?_,rfl,λi x e=>?_⟩
 .rw [e2] at hx;have hx:x=Str.ofString "weights":=by
   rcases hx with hx|hx
   all_goals
    have:=PySem.mem_of_lookup hx;simpa using this
  subst hx;exact⟨_,rfl⟩
 .match i,e with
  | 0,e=>
   cases(Option.some.inj e);exact⟨3,rfl,rfl,rfl,rfl,by rw[e2];rfl⟩
  | n+1,e=>cases e
structure TxtW(K:W.Frag)(mg:Str->Option Value)(C:Addr):Prop where
 cl:Cls K C
 n1:NoAttr K C "many"
 n2:NoAttr K C "weights"
 n3:NoAttr K C "ties_sorted"
 n4:NoAttr K C "neighbours"
 mgC:mg "Web"=some (.ref C)
 srt:mg "sorted"=none
 lst:mg "list"=none
theorem tk1{H H':Hp}{p:Addr}{C dx:Addr}{fs:List (Str×V)}(s:Same H H')(h:H p=some (.ins C dx fs)):H' p=some (.ins C dx fs):=s p _ h
theorem ok_init{f fS fW fN C:Addr}{fd fdS fdW fdN:FuncData}(F:Fun K "__init__" "Web.__init__" sInit f fd)(T0:TxtW K mg C)
  (GS:FnOk P w K mg base CX0 1 fS fdS ["many"] spSize) (mS:mg "check_size"=some (.ref fS)) (kS:PySem.W.keepIn K (.ref fS)=true) (bS:Binds K fdS ["many"] [])
  (GW:FnOk P w K mg base CX0 2 fW fdW ["many","ties"] (spWts K)) (mW:mg "weights_of"=some (.ref fW)) (kW:PySem.W.keepIn K (.ref fW)=true) (bW:Binds K fdW ["many","ties"] [])
  (GN:FnOk P w K mg base CX0 1 fN fdN ["many","ends_sorted"] (spNb K)) (mN:mg "neighbours_of"=some (.ref fN)) (kN:PySem.W.keepIn K (.ref fN)=true) (bN:Binds K fdN ["many","ends_sorted"] []) :
  FnOk P w K mg base CX0 3 f fd ["self","many","ties"] (spInit C K):=by
 refine F.ok scInit (λvs H Q E h=>?_) (λcdv A outer s H vs Q E hr h=>?_)
 .obtain⟨p,m,l,dx,rs,T,rfl,_⟩:=h;rfl
 .obtain ⟨p,m,l,dx,rs,T,rfl,hp,R,h64,c,sg,hG⟩:=h;have hu:=hu_of hr;have hr1:Room 1 _:=hr.mono (by decide);refine ⟨_,pss_cons (ps_expr (pe_call GS hr1 rfl mS kS bS .nil pass0 (pa_cons (pv 1) pa_nil)))
   (pss_cons (ps_set (i:=3) scInit.nd rfl (Or.inr rfl) (pe_call GW hr rfl mW kW bW .nil pass0 (pa_cons (pv 1) (pa_cons (pv 2) pa_nil))))
   (pss_cons (ps_set (i:=4) scInit.nd rfl (Or.inl rfl) (pe_callB (call_sortedDB rfl) (by rfl) T0.srt boot_sorted (pa_cons (pv 3) pa_nil)))
   (pss_cons (ps_fld (pv 0) (pv 1) rfl)
   (pss_cons (ps_fld (pv 0) (pv 3) rfl)
   (pss_cons (ps_fld (pv 0) (pe_comp (g:=gTup K 2 (gCons (gName 1) (gCons (gName 2) gNil))) (own:=[".0","a","b"]) (caps:=["weights"]) (js:=[3]) rfl capsI (pi_list (pv 4))
     (λpins C s H1 fp=>pg_tup (n:=2) rfl (pgs_cons (pg_name (i:=1) nd_own2 rfl (Or.inl rfl) (Or.inr rfl)) (pgs_cons (pg_name (i:=2) nd_own2 rfl (Or.inl rfl) (Or.inr rfl)) pgs_nil)))
     (λpins C s H1 fp=>pts_nil)
     (λpins C s H1 fp=>pe_tup (pa_cons (pv 1) (pa_cons (pv 2) (pa_cons (pe_dget hu (pv 3) (pe_tup (pa_cons (pv 1) (pa_cons (pv 2) pa_nil))) (λ_ _=>rfl)) pa_nil))))) rfl)
   (pss_one (ps_fld (pv 0) (pe_call GN hr1 rfl mN kN bN .nil pass0 (pa_cons (pv 1) (pa_cons (pv 4) pa_nil))) rfl))))))),?_⟩
  refine⟨_,rfl,m,rfl,c,?_⟩;refine⟨_,rfl,_,rfl,m,l,rs,T,rfl,R,by omega,sg,λd H1 hd s1 hd1=>?_⟩;obtain⟨hnd,hnb⟩:=Mt.scan_good sg List.nodup_nil;rw[List.nil_append] at hnd;refine⟨_,rfl,d,wd T,T.map Mt.key,rfl,hd1,?_,?_,?_,λqs qs' ks q hqs hS hq=>?_⟩
  .unfold wd;rw[List.map_map,List.map_map];rfl
  .intro t ht;obtain⟨u,_,rfl⟩:=List.mem_map.mp ht;exact λz=>by cases z
  .unfold wd;rw[List.length_map];omega
  obtain⟨hqs',hperm,hlen⟩:=hqs.sorted hS;have lq:qs'.length=ks.length:=Paired.length hqs';have lk:ks.length=T.length:=by rw[hperm.length_eq,List.length_map]
  have kin:∀k∈ks,∃t∈T,Mt.key t=k:=λk hk=>List.mem_map.mp (hperm.mem_iff.mp hk);have s2:Same H1 (upd H1 q (.lst (qs'.map V.ref))):=Same.new hq;have hp2:=tk1 s2 (tk1 s1 hp);have hd2:=s2 d _ hd1;have hq2:upd H1 q (.lst (qs'.map V.ref)) q=some (.lst (qs'.map V.ref)):=upd_same;have npd:d≠p:=ne_of hd2 hp2 (by intro z;cases z);have npq:q≠p:=ne_of hq2 hp2 (by intro z;cases z);have hqsA:=TupsH.same s2 hqs';generalize upd H1 q (.lst (qs'.map V.ref))=H2 at s2 hp2 hd2 hq2 hqsA ⊢;have s02:Same H H2:=s1.trans s2;refine⟨_,rfl,_,rfl,p,C,dx,_,rfl,hp2,T0.cl,T0.n1,(by show 0<1000;decide),?_⟩;refine⟨_,rfl,_,rfl,p,C,dx,_,rfl,upd_same,T0.cl,T0.n2,Nat.lt_of_le_of_lt (putF_len _ _ _) (by show 0+1<1000;decide),?_⟩;rw[upd_upd];generalize hF:putF "weights" (V.ref d) (putF "many" (V.int m) [])=F2;have lF:F2.length<=2:=by
   rw[<-hF];exact Nat.le_trans (putF_len _ _ _) (Nat.succ_le_succ (putF_len _ _ _))
  have k3:∀b o,H2 b=some o->b≠p->upd H2 p (.ins C dx F2) b=some o:=λb o e n=>by rw[upd_ne n];exact e
  have tup3:∀{qs:List Addr}{us:List (List Int)},TupsH H2 qs us->TupsH (upd H2 p (.ins C dx F2)) qs us:=λ{qs us} h=>
   zip_paired (Paired.length h) λz hz=>⟨k3 _ _ (paired_zip h z hz).1 (ne_of (paired_zip h z hz).1 hp2 (by intro y;cases y)),(paired_zip h z hz).2⟩
  have hp3:upd H2 p (.ins C dx F2) p=some (.ins C dx F2):=upd_same;have hd3:=k3 d _ hd2 npd;have hq3:=k3 q _ hq2 npq;have hqs3:=tup3 hqsA;generalize upd H2 p (.ins C dx F2)=H3 at k3 hp3 hd3 hq3 hqs3 ⊢;refine⟨_,rfl,q,rfl,⟨_,SqL.of hq3⟩,λD hD=>?_⟩;refine turns_list (K:=K) (a:=q) (xs:=qs'.map V.ref) (λi ys σ H4=>∃(zs:List Addr)(e0 e1 e2:Option V),ys=zs.map V.ref/\σ=[e0,e1,e2,some (.ref d)]/\Same H3 H4/\H4 D=some (.lst ys) ∧
    TupsH H4 zs ((ks.take i).map λk=>k++[wt T k])) ⟨[],none,none,none,rfl,rfl,Same.new hD,upd_same,.nil⟩ ?_ ?_ ?_
  .rintro i ys σ H4 ⟨zs,e0,e1,e2,rfl,rfl,s4,hD4,hz⟩;refine⟨hD4,small1000 ?_,SqL.of (s4 q _ hq3)⟩;have:=Paired.length hz;rw[List.length_map,List.length_take] at this;rw[List.length_map];omega
  .rintro i x ys σ H4 hi ⟨zs,e0,e1,e2,rfl,rfl,s4,hD4,hz⟩;have hil:i<qs'.length:=by have:=(List.getElem?_eq_some_iff.mp hi).1;rw[List.length_map] at this;exact this
   obtain⟨r,rfl,er⟩:∃r,x=V.ref r/\qs'[i]?=some r:=by
    rw[List.getElem?_map] at hi;cases y:qs'[i]? with
    | none=>rw[y] at hi;cases hi
    | some r=>rw[y] at hi;exact⟨r,(Option.some.inj hi).symm,rfl⟩
   obtain⟨k,ek,hk,_⟩:=Sx.pair_at (i:=i) (a:=r) hqs3 er;obtain⟨t,ht,rfl⟩:=kin k (List.mem_of_getElem? ek);refine⟨r,_,rfl,SqT.of (s4 r _ hk),rfl,_,_,rfl,_,_,rfl,rfl,?_⟩;dsimp only;refine yes_of ?_;refine⟨_,rfl,_,rfl,_,rfl,_,rfl,_,rfl,(by show 2<=sizeLine;decide),λy hy=>?_⟩;have s5:Same H4 (upd H4 y (.tup [.int (Mt.lo t.1 t.2.1),.int (Mt.hi t.1 t.2.1)])):=Same.new hy;have hy5:upd H4 y (.tup [.int (Mt.lo t.1 t.2.1),.int (Mt.hi t.1 t.2.1)]) y=some (.tup ((kk t).map kV)):=upd_same;have hd5:=s5 d _ (s4 d _ hd3);refine⟨d,.int (wt T (Mt.key t)),rfl,?_,(by show 3<=sizeLine;decide),λz hz'=>?_⟩
   .have g:=DGet.t (k:=kk t) hd5 hy5;rw[wt_val ht] at g;exact g
   have s6:=s5.trans (Same.new (o:=.tup [.int (Mt.lo t.1 t.2.1),.int (Mt.hi t.1 t.2.1),.int (wt T (Mt.key t))]) hz');have hD6:=s6 D _ hD4;have hz6:upd (upd H4 y (.tup [.int (Mt.lo t.1 t.2.1),.int (Mt.hi t.1 t.2.1)])) z (.tup [.int (Mt.lo t.1 t.2.1),.int (Mt.hi t.1 t.2.1),.int (wt T (Mt.key t))]) z=some (.tup [.int (Mt.lo t.1 t.2.1),.int (Mt.hi t.1 t.2.1),.int (wt T (Mt.key t))]):=upd_same;refine⟨hD6,Nxt.mk (by rw[List.length_map];exact hil) ⟨zs++[z],_,_,_,by rw[List.map_append];rfl,rfl,λb o e=>?_,upd_same,?_⟩⟩
   .rw[upd_ne (ne_of_none e hD)];exact s6 b o (s4 b o e)
   .have nt:∀{qs:List Addr}{us:List (List Int)}{L:List V},TupsH H4 qs us->TupsH (upd (upd (upd H4 y (.tup [.int (Mt.lo t.1 t.2.1),.int (Mt.hi t.1 t.2.1)])) z (.tup [.int (Mt.lo t.1 t.2.1),.int (Mt.hi t.1 t.2.1),.int (wt T (Mt.key t))])) D (.lst L)) qs us:=λ{qs us L} h=>
     zip_paired (Paired.length h) λg hg=>⟨by rw[upd_ne (ne_of (paired_zip h g hg).1 hD4 (by intro y;cases y))];exact s6 _ _ (paired_zip h g hg).1,(paired_zip h g hg).2⟩
    rw[List.take_succ,ek,List.map_append];refine paired_snoc (nt hz) ⟨?_,λz=>by cases z⟩;rw[upd_ne (ne_of hz6 hD6 (by intro y;cases y))];exact hz6
  .rintro ys σ H4 ⟨zs,e0,e1,e2,rfl,rfl,s4,hD4,hz⟩;rw[List.length_map,lq,List.take_length] at hz;have lz:=Paired.length hz;rw[List.length_map] at lz;have hp4:=s4 p _ hp3;have npD:D≠p:=ne_of hD4 hp4 (by intro z;cases z);refine⟨_,rfl,p,C,dx,_,rfl,hp4,T0.cl,T0.n3,(by omega),?_⟩;generalize hF3:putF "ties_sorted" (V.ref D) F2=F3;have lF3:F3.length<=3:=by
    rw[<-hF3];exact Nat.le_trans (putF_len _ _ _) (Nat.succ_le_succ lF)
   have k5:∀b o,H4 b=some o->b≠p->upd H4 p (.ins C dx F3) b=some o:=λb o e n=>by rw[upd_ne n];exact e
   have hq5:=k5 q _ (s4 q _ hq3) npq;have hqs4:=TupsH.same s4 hqs3;have tup5:∀{qs:List Addr}{us:List (List Int)},TupsH H4 qs us->TupsH (upd H4 p (.ins C dx F3)) qs us:=λ{qs us} h=>
    zip_paired (Paired.length h) λz hz=>⟨k5 _ _ (paired_zip h z hz).1 (ne_of (paired_zip h z hz).1 hp4 (by intro y;cases y)),(paired_zip h z hz).2⟩
   have hp5:upd H4 p (.ins C dx F3) p=some (.ins C dx F3):=upd_same;have hD5:=k5 D _ hD4 npD;have hqs5:=tup5 hqs4;have hz5:=tup5 hz;refine⟨_,rfl,_,rfl,m,q,qs',ks,rfl,by omega,by omega,SqL.of hq5,hqs5,by omega,λk hk=>?_,λn H6 s6 nb6=>?_⟩
   .obtain⟨t,ht,rfl⟩:=kin k hk;obtain⟨r1,r2,r3⟩:=Mt.key_range (hnb t ht);exact⟨_,_,rfl,r1,r2,r3⟩
   .have hp6:=s6 p _ hp5;have hd6:=s6 d _ (k5 d _ (s4 d _ hd3) npd);refine⟨_,rfl,p,C,dx,_,rfl,hp6,T0.cl,T0.n4,(by omega),?_⟩;have k7:∀(fs:List (Str×V)) b o,H6 b=some o->b≠p->upd H6 p (.ins C dx fs) b=some o:=λfs b o e n=>by rw[upd_ne n];exact e
    have old:∀b,b≠p->upd H4 p (.ins C dx F3) b=none->H b=none:=λb nb q=>by
     cases e:H b with
     | none=>rfl
     | some o=>
      have:=k5 b o (s4 b o (k3 b o (s02 b o e) nb)) nb;rw[q] at this;cases this
    have fD:H D=none:=by
     cases e:H D with
     | none=>rfl
     | some o=>
      have:=k3 D o (s02 D o e) npD;rw[hD] at this;cases this
    refine hG _ ks (λb o e n=>?_) ⟨⟨dx,d,D,n,_,zs,upd_same,?_,?_,?_,?_,⟨?_,?_,?_,?_⟩,k7 _ d _ hd6 npd,k7 _ D _ (s6 D _ hD5) npD,?_,nb6.at' (λb xs _ e=>k7 _ b _ e (ne_of e hp6 (by intro z;cases z))) (λb xs q e=>old b (ne_of e hp6 (by intro z;cases z)) q),by omega,fD⟩,hperm,hS.ord,by omega,by omega,sg⟩
    .exact k7 _ b o (s6 b o (k5 b o (s4 b o (k3 b o (s02 b o e) n)) n)) n
    .rw[lookup_putF,if_neg (by decide +kernel),<-hF3,lookup_putF,if_neg (by decide +kernel),<-hF,lookup_putF,if_neg (by decide +kernel),lookup_putF,if_pos rfl]
    .rw[lookup_putF,if_neg (by decide +kernel),<-hF3,lookup_putF,if_neg (by decide +kernel),<-hF,lookup_putF,if_pos rfl]
    .rw[lookup_putF,if_neg (by decide +kernel),<-hF3,lookup_putF,if_pos rfl]
    .rw[lookup_putF,if_pos rfl]
    iterate 4
     .rw[lookup_putF,if_neg (by decide +kernel),<-hF3,lookup_putF,if_neg (by decide +kernel),<-hF,lookup_putF,if_neg (by decide +kernel),lookup_putF,if_neg (by decide +kernel)];rfl
    .exact zip_paired (Paired.length hz5) λz hz=>⟨k7 _ _ _ (s6 _ _ (paired_zip hz5 z hz).1) (ne_of (s6 _ _ (paired_zip hz5 z hz).1) hp6 (by intro y;cases y)),(paired_zip hz5 z hz).2⟩
def spMSize(C:Addr):Sp:=λvs H Q _=>∃(p:Addr)(m:Int)(T:List Mt.Tri)(ks:List (List Int)),vs=[.ref p]/\WebAt C H p m T ks/\Q (.int m) H
theorem scMSize:FnScope ["self"] ["self"] (defScope sMSize):=⟨rfl,rfl,rfl,by decide +kernel,rfl,by decide +kernel,by decide +kernel⟩
theorem ok_msize{f C:Addr}{fd:FuncData}(F:Fun K "size" "Web.size" sMSize f fd)(T0:TxtW K mg C):FnOk P w K mg base CX0 1 f fd ["self"] (spMSize C):=by
 refine F.ok scMSize (λvs H Q E h=>?_) (λcdv A outer s H vs Q E hr h=>?_)
 .obtain⟨p,m,T,ks,rfl,_⟩:=h;rfl
 .obtain⟨p,m,T,ks,rfl,W,hQ⟩:=h;obtain⟨dx,d,l,n,fs,qs,h1,h2,_⟩:=W.ex;refine⟨_,pss_one (ps_ret (pe_fld (pv 0) rfl)),?_⟩;exact⟨_,rfl,p,C,dx,_,_,rfl,h1,T0.cl,T0.n1,h2,hQ⟩
def tis(T:List Mt.Tri)(ks:List (List Int)):List (List Int):=ks.map λk=>k++[wt T k]
def spTies(C:Addr):Sp:=λvs H Q _=>∃(p:Addr)(m:Int)(T:List Mt.Tri)(ks:List (List Int)),vs=[.ref p]/\WebAt C H p m T ks/\∀(q:Addr)(qs:List Addr),H q=none->TupsH H qs (tis T ks)->Q (.ref q) (upd H q (.lst (qs.map V.ref)))
def spTied(C:Addr):Sp:=λvs H Q _=>∃(p:Addr)(m:Int)(T:List Mt.Tri)(ks:List (List Int))(a:Int),vs=[.ref p,.int a]/\WebAt C H p m T ks/\0<=a/\a<m ∧
 ∀q:Addr,H q=none->Q (.ref q) (upd H q (.lst ((nbM ks a).map V.int)))
theorem scTied:FnScope ["self","a"] ["self","a"] (defScope sTied):=⟨rfl,rfl,rfl,by decide +kernel,rfl,by decide +kernel,by decide +kernel⟩
theorem ok_tied{f C:Addr}{fd:FuncData}(F:Fun K "tied" "Web.tied" sTied f fd)(T0:TxtW K mg C):FnOk P w K mg base CX0 1 f fd ["self","a"] (spTied C):=by
 refine F.ok scTied (λvs H Q E h=>?_) (λcdv A outer s H vs Q E hr h=>?_)
 .obtain⟨p,m,T,ks,a,rfl,_⟩:=h;rfl
 .obtain⟨p,m,T,ks,a,rfl,W,a0,a1,hQ⟩:=h;obtain⟨dx,d,l,n,fs,qs,h1,h2,h3,h4,h5,h6,h7,h8,h9,⟨ps,n1,n2,n3⟩,h11⟩:=W.ex;refine⟨_,pss_one (ps_ret (pe_callTy call_list_of (by rfl) T0.lst boot_list (pa_cons (pe_ix ix_list (pe_fld (pv 0) rfl) (pv 1) (λ_ _=>rfl)) pa_nil))),?_⟩;have hz:a.toNat<ps.length:=by omega
  have ez:ps[a.toNat]?=some ps[a.toNat]:=by simp[hz]
  have ha:=atI_nat (xs:=ps.map V.ref) (j:=a.toNat) (v:=.ref ps[a.toNat]) (by simp[hz]);rw[Int.toNat_of_nonneg a0] at ha;have hn:=n3 _ _ ez;rw[Int.toNat_of_nonneg a0] at hn;exact⟨_,rfl,p,C,dx,_,_,rfl,h1,T0.cl,T0.n4,h5,_,rfl,n,_,_,_,rfl,rfl,SqL.of n1,ha,ps[a.toNat],_,rfl,.inl (SqL.of hn),λq hq=>hQ q hq⟩
def wtV(T:List Mt.Tri)(a b:Int):V:=(valV (wd T) ([Mt.lo a b,Mt.hi a b].map Sum.inl)).getD .non
def spWeight(C:Addr):Sp:=λvs H Q _=>∃(p:Addr)(m:Int)(T:List Mt.Tri)(ks:List (List Int))(a b:Int),vs=[.ref p,.int a,.int b]/\WebAt C H p m T ks/\∀H',Same H H'->Q (wtV T a b) H'
theorem scWeight:FnScope ["self","a","b"] ["self","a","b"] (defScope sWeight):=⟨rfl,rfl,rfl,by decide +kernel,rfl,by decide +kernel,by decide +kernel⟩
theorem ok_weight{f fO C:Addr}{fd fdO:FuncData}(F:Fun K "weight" "Web.weight" sWeight f fd)(T0:TxtW K mg C)
  (GO:FnOk P w K mg base CX0 1 fO fdO ["a","b"] spOrd) (mO:mg "ordered"=some (.ref fO)) (kO:PySem.W.keepIn K (.ref fO)=true) (bO:Binds K fdO ["a","b"] []):FnOk P w K mg base CX0 2 f fd ["self","a","b"] (spWeight C):=by
 refine F.ok scWeight (λvs H Q E h=>?_) (λcdv A outer s H vs Q E hr h=>?_)
 .obtain⟨p,m,T,ks,a,b,rfl,_⟩:=h;rfl
 .obtain⟨p,m,T,ks,a,b,rfl,W,hQ⟩:=h;have hu:=hu_of hr;obtain⟨dx,d,l,n,fs,qs,h1,h2,h3,h4,h5,h6,h7,_⟩:=W.ex;refine⟨_,pss_one (ps_ret (pe_dget1 hu (pe_fld (pv 0) rfl) (pe_call GO (hr.mono (by decide)) rfl mO kO bO .nil pass0 (pa_cons (pv 1) (pa_cons (pv 2) pa_nil))) ⟨rfl,rfl,rfl,rfl⟩)),?_⟩;refine⟨_,rfl,p,C,dx,_,_,rfl,h1,T0.cl,T0.n2,h3,d,rfl,.inr ⟨_,Rd.of h7⟩,_,rfl,_,rfl,a,b,rfl,λq hq=>?_⟩;have s1:Same H (upd H q (.tup [.int (Mt.lo a b),.int (Mt.hi a b)])):=Same.new hq;exact⟨_,DGet.t (k:=[Mt.lo a b,Mt.hi a b].map Sum.inl) (s1 d _ h7) upd_same,hQ _ s1⟩
end
end K67
namespace L2
open PySem PySem.Spec PyProof.Rows
theorem kV_of{P:Program}{w:World}{k:Key}{u:Value}(h:(mixKind P w).is k u=true):RelV (kV k) u:=by
 rcases keyIs_shape h with⟨i,t,rfl,rfl⟩|⟨x,t,rfl,rfl⟩
 .exact⟨t,rfl⟩
 .exact⟨t,rfl⟩
section
variable{X:Cx}{pins:List (Addr×Obj)}{σ:St}{H:Hp}{s:Shared}
theorem Inv.freezeK{d:Addr}{o:Obj}{kvs:List (Key×V)}(I:Inv X pins σ H s)(e:H d=some (.dK kvs))(ho:s.heap.get? d=some o):Inv X pins σ (upd H d (.frz o (.dK kvs))) s:=by
 have k:∀b u,H b=some u->(∀l,u≠.dK l)->upd H d (.frz o (.dK kvs)) b=some u:=λb u eb n=>by
  rw[upd_ne λz=>?_]
  .exact eb
  .rw[z,e] at eb;cases eb;exact n _ rfl
 have st:∀b u,H b=some u->ObjOk X.prog X.w (upd H d (.frz o (.dK kvs))) s.heap b u:=λb u eb=>
  (I.hok b u eb).stay (λ_ _ _ q=>q) (λc q=>k c _ q (by intro l z;cases z)) λc xs q=>k c _ q (by intro l z;cases z)
 have:=I.un (t':=s.toks) (h':=s.heap) (H':=upd H d (.frz o (.dK kvs))) ⟨λb o q _ _ _=>q,λb o q _ _ _=>⟨o.slots,q⟩,λb o q n _=>?_,λb o q _=>⟨o,q⟩,λb xs q=>k b _ q (by intro l z;cases z),λb o u q=>k b _ q (by intro l z;cases z),λb ps q=>⟨#[],by rw[k b _ q (by intro l z;cases z)];simp⟩⟩ λb u q=>?_
 .exact this
 .rw[upd_ne λz=>?_]
  .exact n
  .rw[z,e] at n;cases n
 .by_cases hb:b=d
  .subst hb;rw[upd_same] at q;cases q;exact⟨ho,st _ _ e⟩
  .rw[upd_ne hb] at q;exact st b u q
theorem Inv.atK{d:Addr}{o:Obj}{kvs:List (Key×V)}{es:Array DictEntry}{ep:Nat}(I:Inv X pins σ H s)(e:H d=some (.frz o (.dK kvs)))(hd:o.data=.dict es ep):s.heap.get? d=some o/\∃vs,KV kvs vs/\Heap.DictAt (mixKind X.prog X.w) s.heap d vs ep:=by
 obtain⟨ho,z,lo,vs,rel,o',es',ep',e1,e2,e3,e4,e5,e6⟩:=(show ObjOk X.prog X.w H s.heap d (.frz o (.dK kvs)) from I.hok d _ e);have:=ho.symm.trans e1;cases this;rw[hd] at e3;cases e3;exact⟨ho,vs,rel,o,es,e1,e2,hd,e4,e5,e6⟩
end
def ItK(d:Addr)(o:Obj)(kvs:List (Key×V)):It:=
 ⟨λi H=>i<kvs.length/\H d=some (.frz o (.dK kvs)),λi H x H'=>H'=H/\∃k v,kvs[i]?=some (k,v)/\x=kV k,λi H=>kvs.length<=i/\H d=some (.frz o (.dK kvs))⟩
theorem pairs_len{P:Program}{w:World}{es:List DictEntry}{vs:List (Key×Value)}(h:Pairs (mixKind P w) es vs):es.length=vs.length:=by
 induction h with
 | nil=>rfl
 | cons _ _ _ ih=>exact congrArg (·+1) ih
theorem pairs_at{P:Program}{w:World}{es:List DictEntry}{vs:List (Key×Value)}(h:Pairs (mixKind P w) es vs):∀{i:Nat}{e:DictEntry}{kv:Key×Value},es[i]?=some e->vs[i]?=some kv->(mixKind P w).is kv.1 e.key=true:=by
 induction h with
 | nil=>intro i e kv h;rw[List.getElem?_nil] at h;cases h
 | cons hk _ _ ih=>
  intro i e kv h1 h2;cases i with
  | zero=>
   rw[List.getElem?_cons_zero] at h1 h2;cases h1;cases h2;exact hk
  | succ i=>
   rw[List.getElem?_cons_succ] at h1 h2;exact ih h1 h2
theorem turn_dictK{P:Program}{w:World}{K:W.Frag}{tg:Expr}(it d:Addr)(o:Obj)(kvs:List (Key×V))(es:Array DictEntry)(ep:Nat)(hx:o.ExactDict)(hd:o.data=.dict es ep)(hl:es.size=kvs.length):Turn P w K tg (ItK d o kvs) [it] it (λi h=>h.IsKeyIter it d i es.size ep) where
 mem:=by simp
 obj:=λi h st b hb=>by
  have e:b=it:=by simpa using hb
  subst e;obtain⟨o,e,c,d⟩:=st;exact⟨o,e,λv z=>by rw[d] at z;cases z⟩
 keep:=λi h h' st k=>st.at λo e=>k it (by simp) o e
 item:=by
  intro X hP hw hK hc i pins s σ H E I hf st hg;subst hP hw hK;obtain⟨hi,hq⟩:=hg;obtain⟨ho,vs,rel,o',es',e1,e2,e3,e4,e5,e6⟩:=I.atK hq hd;have:=ho.symm.trans e1;cases this;rw[hd] at e3;cases e3;have hi':i<es.size:=by omega
  obtain⟨f0,f1,f2,f3,f4,f5⟩:=hf it (by simp);refine Sx.next_dictE (e:=es[i]) st ⟨o,ho,hx,hd⟩ (by simp[hi']) λh' st' sb=>?_;have I1:Inv X pins σ H {s with heap:=h'}:=I.turned (t':=s.toks) (λb o hb e=>(sb.2 b hb).trans e) f0 f1 f3 f4 f5;obtain⟨o',e,c,d'⟩:=id st';obtain⟨q,eq,er⟩:=Sx.pair_at rel (List.getElem?_eq_getElem hi);have ek:(mixKind X.prog X.w).is q.1 es[i].key=true:=pairs_at e5 (i:=i) (by rw[Array.getElem?_toList,Array.getElem?_eq_getElem hi']) eq;rw[<-er.1] at ek;exact⟨es[i].key,rfl,go_of (s:={s with heap:=h'}) e c d' (by decide) ⟨kV kvs[i].1,H,I1,kV_of ek,⟨rfl,kvs[i].1,kvs[i].2,List.getElem?_eq_getElem hi,rfl⟩,st',λb hb=>(hf b hb).1⟩⟩
 done:=by
  intro X hP hw hK hc i pins s σ H E I hf st hg;subst hP hw hK;obtain⟨hi,hq⟩:=hg;obtain⟨ho,_⟩:=I.atK hq hd;obtain⟨f0,f1,f2,f3,f4,f5⟩:=hf it (by simp);exact Sx.end_dictE (I.ok.hd hc) st ⟨o,ho,hx,hd⟩ (by omega) λh' eb=>⟨rfl,I.turned (t':=s.toks) (λb o hb e=>eb b o hb e) f0 f1 f3 f4 f5⟩
 self:=λ_ _ _ _ _ st h=>wpAny_pyIter_keyiter st h
section
variable{X:Cx}{tg:Expr}
def iDictK(tl:TE):TI:=λσ H R=>tl σ H λx H1=>∃(d:Addr)(kvs:List (Key×V)),x=.ref d/\H1 d=some (.dK kvs)/\∀o:Obj,R (ItK d o kvs) (upd H1 d (.frz o (.dK kvs)))
theorem pi_dictK{l:Expr}{tl:TE}(hl:PE X l tl):PI X tg l (iDictK tl):=by
 intro pins s σ H R I h;refine thn (hl pins s σ H _ I h) λv s1 ⟨x,H1,I1,r1,q1⟩=>?_;obtain⟨d,kvs,rfl,hd,q⟩:=q1;cases r1;obtain⟨z,lo,vs,rel,o,es,ep,e1,e2,e3,e4,e5,e6⟩:=(show ObjOk X.prog X.w H1 s1.heap d (.dK kvs) from I1.hok d _ hd);have I2:=I1.freezeK hd e1;have le:es.size=kvs.length:=by
  rw[<-Array.length_toList,pairs_len e5,rel.length]
 refine Sx.iter_dictE lo ⟨o,e1,e2,e3⟩ ?_;refine⟨s1.heap.objs.size,[s1.heap.objs.size],_,ItK d o kvs,_,rfl,I2.kept (t':=s1.toks) λb o e=>Heap.get?_push_of_some _ e,turn_dictK _ d o _ es ep e2 e3 le,⟨_,Heap.get?_push_size _ rfl,rfl,rfl⟩,λb hb=>?_,q o⟩;have e:b=s1.heap.objs.size:=by simpa using hb
 subst e;exact I2.fpOk (Nat.le_refl _) (I2.hok.fresh (Nat.le_refl _))
theorem for_dictK{d:Addr}{o:Obj}{kvs:List (Key×V)}{g:TG}{tb:TS}{D:Ends}{σ:St}{H:Hp}(Pv:Nat->St->Hp->Prop)(h0:Pv 0 σ H)(ha:∀i σ H,i<=kvs.length->Pv i σ H->H d=some (.frz o (.dK kvs)))
  (hs:∀i k v σ H,kvs[i]?=some (k,v)->Pv i σ H->g (kV k) σ H λσ2 H2=>tb {D with nx:=Pv (i+1),ct:=Pv (i+1),bk:=D.nx} σ2 H2) (hd:∀σ H,Pv kvs.length σ H->D.nx σ H) :
  ∃W:Nat->Nat->St->Hp->Prop,(∃m,W 0 m σ H)/\∀i m σ H,W i m σ H →
   ((ItK d o kvs).stop i H/\D.nx σ H)\/((ItK d o kvs).go i H/\∃N:St->Hp->Prop,(∀σ' H',N σ' H'->∃m',m'<m/\W (i+1) m' σ' H')/\∀x H',(ItK d o kvs).yld i H x H'->g x σ H' λσ2 H2=>tb {D with nx:=N,ct:=N,bk:=D.nx} σ2 H2):=by
 refine⟨λi m σ H=>m+i=kvs.length/\Pv i σ H,⟨kvs.length,rfl,h0⟩,?_⟩;rintro i m σ H ⟨e,p⟩;have q:=ha i σ H (by omega) p;rcases Nat.eq_zero_or_pos m with rfl|pm
 .have e':i=kvs.length:=by omega
  subst e';exact .inl ⟨⟨Nat.le_refl _,q⟩,hd σ H p⟩
 .have i1:i<kvs.length:=by omega
  refine .inr ⟨⟨i1,q⟩,Pv (i+1),λσ' H' p'=>⟨m-1,by omega,by omega,p'⟩,?_⟩;rintro x H' ⟨rfl,k,v,er,rfl⟩;exact hs i k v σ _ er p
end
end L2
namespace K67
open PySem L2 PyProof.Rows
def lftP(ps:List (List Int))(n:Nat):List Int:=((List.range n).map λ(i:Nat)=>(i:Int)).filter λa=>!(valV (prtP ps) (.inl a)).isSome
theorem lftP_succ(ps:List (List Int))(n:Nat):lftP ps (n+1)=lftP ps n++(if (!(valV (prtP ps) (.inl (n:Int))).isSome)=true then [(n:Int)] else []):=by
 unfold lftP;rw[List.range_succ,List.map_append,List.filter_append]
 congr 1
 show List.filter _ [(n:Int)]=_;rw[List.filter_cons,List.filter_nil]
theorem lftP_len(ps:List (List Int))(n:Nat):(lftP ps n).length<=n:=by
 unfold lftP;refine Nat.le_trans (List.length_filter_le _ _) ?_;simp
section
variable{P:Program}{w:World}{K:W.Frag}{mg:Str->Option Value}{base:Heap}
def spPart:Sp:=λvs H Q _=>∃(q:Addr)(qs:List Addr)(ps:List (List Int)),vs=[.ref q]/\H q=some (.lst (qs.map V.ref))/\TupsH H qs ps/\Two ps/\ps.length<=200/\∀d H',H d=none->Same H H'->H' d=some (.dK (prtP ps))->Q (.ref d) H'
theorem scPart:FnScope ["pairs","partners","a","b"] ["pairs"] (defScope sPart):=⟨rfl,rfl,rfl,by decide +kernel,rfl,by decide +kernel,by decide +kernel⟩
theorem ok_part{f:Addr}{fd:FuncData}(F:Fun K "partners_of" "partners_of" sPart f fd):FnOk P w K mg base CX0 1 f fd ["pairs"] spPart:=by
 refine F.ok scPart (λvs H Q E h=>?_) (λcdv A outer s H vs Q E hr h=>?_)
 .obtain⟨q,qs,ps,rfl,_⟩:=h;rfl
 .obtain ⟨q,qs,ps,rfl,hq,hT,h2,lU,hQ⟩:=h;have hu:=hu_of hr;have lqs:=Paired.length hT;refine⟨_,pss_cons (ps_set (i:=1) scPart.nd rfl (Or.inl rfl) pe_dnewK)
   (pss_cons (ps_for PassesOwn.never rfl (pi_list (pv 0)) (pg_tup rfl (pgs_cons (pg_name (i:=2) scPart.nd rfl (Or.inl rfl)) (pgs_cons (pg_name (i:=3) scPart.nd rfl (Or.inl rfl)) pgs_nil)))
    (pss_cons (ps_dput hu (pv 1) (pv 2) (pv 3) rfl) (pss_one (ps_dput hu (pv 1) (pv 3) (pv 2) rfl))))
   (pss_one (ps_ret (pv 1)))),?_⟩
  intro d hd;have s0:Same H (upd H d (.dK [])):=Same.new hd;refine⟨_,rfl,q,rfl,⟨_,SqL.of (s0 q _ hq)⟩,for_list (K:=K) (a:=q) (xs:=qs.map V.ref)
   (λi σ H3=>∃(e2 e3:Option V),σ=[some (.ref q),some (.ref d),e2,e3]/\Same H H3/\H3 d=some (.dK (prtP (ps.take i))))
   ⟨none,none,rfl,s0,upd_same⟩ (λi σ H3 _ ⟨_,_,_,s3,_⟩=>SqL.of (s3 q _ hq)) ?_ ?_⟩
  .rintro i y σ H3 hi ⟨e2,e3,rfl,s3,hd3⟩;obtain⟨r,t,rfl,et,hr3⟩:=tup_at (TupsH.same s3 hT) hi;obtain⟨a,b,rfl⟩:=h2 t (List.mem_of_getElem? et);have hil:i<ps.length:=(List.getElem?_eq_some_iff.mp et).1;refine⟨r,_,rfl,SqT.of hr3,rfl,_,_,rfl,_,_,rfl,rfl,?_⟩;have lp:=prtP_len (ps.take i);rw[List.length_take] at lp;have lp2:=putK_length (prtP (ps.take i)) (.inl a) (.int b);refine⟨_,rfl,_,rfl,_,rfl,d,_,rfl,DPut.k (k:=.inl a) hd3 (small1000 (by omega)),?_⟩;refine⟨_,rfl,_,rfl,_,rfl,d,_,rfl,DPut.k (k:=.inl b) upd_same (small1000 (by omega)),?_⟩;rw[upd_upd];refine⟨_,_,rfl,λc o e=>?_,?_⟩
   .rw[upd_ne (ne_of_none e hd)];exact s3 c o e
   .rw[upd_same,List.take_succ,et];exact congrArg some (congrArg HO.dK (prtP_snoc _ a b).symm)
  .rintro σ H3 ⟨e2,e3,rfl,s3,hd3⟩;rw[List.length_map,lqs,List.take_length] at hd3;exact⟨_,rfl,hQ d H3 hd s3 hd3⟩
def spLeft(C:Addr):Sp:=λvs H Q _=>∃(x q:Addr)(m:Int)(T:List Mt.Tri)(ks:List (List Int))(qs:List Addr)(ps:List (List Int)),vs=[.ref x,.ref q]/\WebAt C H x m T ks/\H q=some (.lst (qs.map V.ref))/\TupsH H qs ps/\Two ps/\ps.length<=200/\∀l H',H l=none->Same H H'->H' l=some (.lst ((lftP ps m.toNat).map V.int))->Q (.ref l) H'
abbrev nmF:List Str:=["web","pairs","partners"]
theorem scLeft:FnScope nmF ["web","pairs"] (defScope sLeft):=⟨rfl,rfl,rfl,by decide +kernel,rfl,by decide +kernel,by decide +kernel⟩
def compF:Scope:={kind:=.function,names:=[(Str.ofString ".0",.local),(Str.ofString "point",.local),(Str.ofString "partners",.free)],isGenerator:=false,isCoroutine:=false,more:=[]}
theorem nd_ownF:([".0","point","partners"]:List Str).Nodup:=by decide +kernel
abbrev XF(P:Program)(w:World)(K:W.Frag)(mg:Str->Option Value)(base:Heap)(f:Addr)(cdv:Value)(A:Around)(outer:List Env)(s:Shared)(H:Hp)(E:XK):Cx:=(cxOf CX0 P w K mg base nmF "left" (defScope sLeft) f cdv A outer s H E).nox
theorem capsF{f:Addr}{cdv:Value}{A:Around}{outer:List Env}{s:Shared}{H:Hp}{E:XK}:Caps (XF P w K mg base f cdv A outer s H E) compF [(Str.ofString "partners",s.heap.objs.size+1)] [".0","point"] ["partners"] [2]:=caps_of (sc:=defScope sLeft) (N:=nmF) rfl rfl rfl rfl rfl rfl rfl (by decide +kernel)
theorem ok_left{f fP fS C:Addr}{fd fdP fdS:FuncData}(F:Fun K "left" "left" sLeft f fd)(T0:TxtW K mg C)(grange:mg "range"=none)
  (GP:FnOk P w K mg base CX0 1 fP fdP ["pairs"] spPart) (mP:mg "partners_of"=some (.ref fP)) (kP:PySem.W.keepIn K (.ref fP)=true) (bP:Binds K fdP ["pairs"] [])
  (mS:Meth K C "size" fS) (GS:FnOk P w K mg base CX0 1 fS fdS ["self"] (spMSize C)) (bS:Binds K fdS ["self"] []):FnOk P w K mg base CX0 2 f fd ["web","pairs"] (spLeft C):=by
 refine F.ok scLeft (λvs H Q E h=>?_) (λcdv A outer s H vs Q E hr h=>?_)
 .obtain⟨x,q,m,T,ks,qs,ps,rfl,_⟩:=h;rfl
 .obtain ⟨x,q,m,T,ks,qs,ps,rfl,W,hq,hT,h2,lU,hQ⟩:=h;have hu:=hu_of hr;have m0:=W.m0;have m1:=W.m1;refine⟨_,pss_cons (ps_set (i:=2) scLeft.nd rfl (Or.inr rfl) (pe_call GP hr rfl mP kP bP .nil pass0 (pa_cons (pv 1) pa_nil)))
   (pss_one (ps_ret (pe_comp (g:=gName 1) (own:=[".0","point"]) (caps:=["partners"]) (js:=[2]) rfl capsF (pi_range1 rfl grange (pa_cons (pe_meth0 (pv 0) T0.cl mS GS hr bS .nil pass0) pa_nil))
    (λpins C s H1 fp=>pg_name (i:=1) nd_ownF rfl (Or.inl rfl) (Or.inr rfl))
    (λpins C s H1 fp=>pts_one (pt_cmp (pc_dnotin hu (pv 1) (pv 2)) (by with_unfolding_all rfl)))
    (λpins C s H1 fp=>pv 1)))),?_⟩
  refine⟨_,rfl,q,qs,ps,rfl,hq,hT,h2,lU,λd H1 hd s1 hd1=>?_⟩;obtain⟨dx,_,_,_,fs,_,w1,_,_,_,_,w6,_⟩:=(W.same s1).ex;refine⟨_,rfl,x,dx,fs,rfl,w1,w6.1,x,m,T,ks,rfl,W.same s1,m,rfl,by omega,by omega,λD hD=>?_⟩;refine turns_range (n:=m.toNat) (λi ys σ H2=>∃(e0 e1:Option V),ys=(lftP ps i).map V.int/\i<=m.toNat/\σ=[e0,e1,some (.ref d)]/\Same H1 H2/\H2 D=some (.lst ys)) ⟨none,none,rfl,Nat.zero_le _,rfl,Same.new hD,upd_same⟩ ?_ ?_ ?_
  .rintro i ys σ H2 ⟨e0,e1,rfl,li,rfl,s2,h2'⟩;refine⟨h2',small1000 ?_⟩;have:=lftP_len ps i;rw[List.length_map];omega
  .rintro i ys σ H2 hi ⟨e0,e1,rfl,li,rfl,s2,h2'⟩;unfold gName;dsimp only;refine⟨_,rfl,_,rfl,d,_,rfl,DGet.k (k:=.inl (0+(i:Int))) (s2 d _ hd1),_,rfl,?_⟩;have es:=lftP_succ ps i;refine ite2 (λc=>?_) (λc=>?_)
   .rw[Int.zero_add] at c;rw[if_pos c] at es;refine⟨_,rfl,h2',Nxt.mk hi ⟨_,_,?_,hi,rfl,λb o e=>?_,upd_same⟩⟩
    .rw[es,List.map_append,Int.zero_add];rfl
    .rw[upd_ne (ne_of_none e hD)];exact s2 b o e
   .rw[Int.zero_add] at c;rw[if_neg c,List.append_nil] at es;exact Nxt.mk hi ⟨_,_,by rw[es],hi,rfl,s2,h2'⟩
  .rintro ys σ0 H2 ⟨e0,e1,rfl,li,rfl,s2,h2'⟩;exact hQ D H2 (s1.free hD) (s1.trans s2) h2'
end
end K67
namespace L2
open PySem PySem.Spec PyProof.Rows
theorem for_enum{K:W.Frag}{a:Addr}{xs:List V}{g:TG}{tb:TS}{D:Ends}{σ:St}{H:Hp}(Pv:Nat->St->Hp->Prop)(h0:Pv 0 σ H)(hl:∀i σ H,i<=xs.length->Pv i σ H->SqL K H a xs)
  (hs:∀i x t σ H,xs[i]?=some x->Pv i σ H->H t=none->g (.ref t) σ (upd H t (.tup [.int i,x])) λσ2 H2=>tb {D with nx:=Pv (i+1),ct:=Pv (i+1),bk:=D.nx} σ2 H2) (hd:∀σ H,Pv xs.length σ H->D.nx σ H) :
  ∃W:Nat->Nat->St->Hp->Prop,(∃m,W 0 m σ H)/\∀i m σ H,W i m σ H →
   ((Itn K a).stop i H/\D.nx σ H)\/((Itn K a).go i H/\∃N:St->Hp->Prop,(∀σ' H',N σ' H'->∃m',m'<m/\W (i+1) m' σ' H')/\∀x H',(Itn K a).yld i H x H'->g x σ H' λσ2 H2=>tb {D with nx:=N,ct:=N,bk:=D.nx} σ2 H2):=by
 refine⟨λi m σ H=>m+i=xs.length/\Pv i σ H,⟨xs.length,rfl,h0⟩,?_⟩;rintro i m σ H ⟨e,p⟩;have q:=hl i σ H (by omega) p;rcases Nat.eq_zero_or_pos m with rfl|pm
 .have e':i=xs.length:=by omega
  subst e';exact .inl ⟨⟨xs,q,Nat.le_refl _⟩,hd σ H p⟩
 .have i1:i<xs.length:=by omega
  refine .inr ⟨⟨xs,xs[i],q,by simp[i1]⟩,Pv (i+1),λσ' H' p'=>⟨m-1,by omega,by omega,p'⟩,?_⟩;rintro x H' ⟨t,u,rfl,ht,rfl,y⟩;exact hs i u t σ _ (y xs q) p ht
end L2
namespace Tr
def pr:List Int->List (Int×Int)
 | n::b::r=>(n,b)::pr r
 | _=>[]
theorem pr_flat:∀L:List (Int×Int),pr (flat L)=L
 | []=>rfl
 | (n,b)::L=>congrArg ((n,b)::·) (pr_flat L)
theorem flat_pr:∀{l:List Int},l.length % 2=0->flat (pr l)=l
 | [],_=>rfl
 | [_],h=>absurd h (by simp)
 | n::b::r,h=>by
  show n::b::flat (pr r)=_;rw[flat_pr (by simp only[List.length_cons] at h;omega)]
def tbR(root:Int)(A:List (Int×Int)):List Int->Ts->Ts
 | [],T=>T
 | p::r,T=>if p∈keys T\/p∈root::flat A then tbR root A r T else tbR root A r (T++[(p,A++rsw (pr (p::r)))])
theorem tbR_flat{root:Int}{A:List (Int×Int)}:∀{B:List (Int×Int)}{T:Ts},(∀n b,(n,b)∈B->b∈keys T)->tbR root A (flat B) T=tbM root A B T
 | [],_,_=>rfl
 | (n,b)::B,T,h=>by
  have hb:=h n b (.head _);show tbR root A (n::b::flat B) T=_;unfold tbR tbM
  split
  .unfold tbR;rw[if_pos (.inl hb)];exact tbR_flat λn' b' m=>h n' b' (.tail _ m)
  .unfold tbR;rw[if_pos (.inl (keys_snoc.mpr (.inl hb)))];have e:pr (n::b::flat B)=(n,b)::B:=pr_flat ((n,b)::B);rw[e];exact tbR_flat λn' b' m=>keys_snoc.mpr (.inl (h n' b' (.tail _ m)))
theorem tbR_all{root:Int}{A B:List (Int×Int)}{T:Ts}(hr:root∈keys T)(h:∀n b,(n,b)∈B->b∈keys T):tbR root A (root::flat B) T=tbM root A B T:=by
 unfold tbR;rw[if_pos (.inl hr)];exact tbR_flat h
theorem even_at{B:List (Int×Int)}{root:Int}{T:Ts}(hr:root∈keys T)(h:∀n b,(n,b)∈B->b∈keys T){i:Nat}{p:Int}(e:(root::flat B)[i]?=some p)(ev:i % 2=0):p∈keys T:=by
 have key:∀{B:List (Int×Int)},(∀n b,(n,b)∈B->b∈keys T)->∀{i:Nat}{p:Int},(flat B)[i]?=some p->i % 2=1->p∈keys T:=by
  intro B
  induction B with
  | nil=>intro _ i p e;exact nomatch e
  | cons q B ih=>
   obtain⟨n,b⟩:=q;intro h i p e o
   match i,e,o with
   | 1,e,_=>cases(Option.some.inj e);exact h n b (.head _)
   | i+2,e,o=>exact ih (λn' b' m=>h n' b' (.tail _ m)) (i:=i) e (by omega)
 match i,e,ev with
 | 0,e,_=>cases(Option.some.inj e);exact hr
 | i+1,e,ev=>exact key h (i:=i) e (by omega)
end Tr
namespace K67
open PySem L2 PyProof.Rows
structure TrH(H:Hp)(d:Addr)(root:Int)(T:Tr.Ts)(kvs:List (Key×V)):Prop where
 hd:H d=some (.dK kvs)
 pr:Paired (λ(q:Int×List (Int×Int))(kv:Key×V)=>kv.1=.inl q.1/\∃a,kv.2=.ref a/\H a=some (.lst ((root::Tr.flat q.2).map V.int))) T kvs
theorem TrH.len{H:Hp}{d:Addr}{root:Int}{T:Tr.Ts}{kvs:List (Key×V)}(h:TrH H d root T kvs):kvs.length=T.length:=(Paired.length h.pr).symm
theorem trv:∀{H:Hp}{root:Int}{T:Tr.Ts}{kvs:List (Key×V)},Paired (λ(q:Int×List (Int×Int))(kv:Key×V)=>kv.1=.inl q.1/\∃a,kv.2=.ref a/\H a=some (.lst ((root::Tr.flat q.2).map V.int))) T kvs->∀p:Int,
  (p∈Tr.keys T->∃a,valV kvs (.inl p)=some (.ref a)/\H a=some (.lst ((root::Tr.flat (Tr.tget T p)).map V.int)))/\(p∉Tr.keys T->valV kvs (.inl p)=none)
 | _,_,_,_,.nil,p=>⟨λh=>(nomatch h),λ_=>rfl⟩
 | H,root,q::T,kv::kvs,.cons h r,p=>by
  obtain⟨h1,a,h2,h3⟩:=h;by_cases c:q.1=p
  .refine ⟨λ_=>⟨a,?_,?_⟩,λn=>absurd (by rw[<-c];exact .head _) n⟩
   .rw[valV_pos (by rw[h1,c]),h2]
   .have:Tr.tget (q::T) p=q.2:=by simp[Tr.tget,List.find?_cons,c]
    rw[this];exact h3
  .have e1:valV (kv::kvs) (.inl p)=valV kvs (.inl p):=valV_neg (λz=>c (by rw[h1] at z;injection z));have e2:Tr.tget (q::T) p=Tr.tget T p:=by simp[Tr.tget,List.find?_cons,c]
   rw[e1,e2];have ih:=trv r p;exact⟨λm=>ih.1 (by cases m with|head=>exact absurd rfl c|tail _ m=>exact m),λn=>ih.2 λm=>n (.tail _ m)⟩
theorem TrH.isS{H:Hp}{d:Addr}{root:Int}{T:Tr.Ts}{kvs:List (Key×V)}(h:TrH H d root T kvs)(p:Int):((valV kvs (.inl p)).isSome=true)↔p∈Tr.keys T:=by
 by_cases c:p∈Tr.keys T
 .obtain⟨a,e,_⟩:=(trv h.pr p).1 c;rw[e];exact⟨λ_=>c,λ_=>rfl⟩
 .rw[(trv h.pr p).2 c];exact⟨λz=>(nomatch z),λz=>absurd z c⟩
def Fr1(H H':Hp)(d:Addr):Prop:=∀b o,H b=some o->b≠d->H' b=some o
theorem Fr1.of{H H':Hp}{d:Addr}(z:Same H H'):Fr1 H H' d:=λb o e _=>z b o e
theorem Fr1.trans{H H' H'':Hp}{d:Addr}(y:Fr1 H H' d)(z:Fr1 H' H'' d):Fr1 H H'' d:=λb o e n=>z b o (y b o e n) n
theorem TrH.keep{H H':Hp}{d:Addr}{root:Int}{T:Tr.Ts}{kvs:List (Key×V)}(h:TrH H d root T kvs)(z:Fr1 H H' d)(hd':H' d=some (.dK kvs)):TrH H' d root T kvs:=
 ⟨hd',Paired.mapP h.pr λ_ _ x=>let ⟨e,a,e2,e3⟩:=x;⟨e,a,e2,z _ _ e3 (λq=>by subst q;rw[h.hd] at e3;cases e3)⟩⟩
theorem TrH.same{H H':Hp}{d:Addr}{root:Int}{T:Tr.Ts}{kvs:List (Key×V)}(h:TrH H d root T kvs)(z:Same H H'):TrH H' d root T kvs:=h.keep (Fr1.of z) (z _ _ h.hd)
theorem TrH.add{H:Hp}{d:Addr}{root:Int}{T:Tr.Ts}{kvs:List (Key×V)}(h:TrH H d root T kvs){p:Int}(np:p∉Tr.keys T){a:Addr}{L:List (Int×Int)}(ha:H a=some (.lst ((root::Tr.flat L).map V.int))) :
  TrH (upd H d (.dK (putK kvs (.inl p) (.ref a)))) d root (T++[(p,L)]) (putK kvs (.inl p) (.ref a)):=by
 have e:putK kvs (.inl p) (.ref a)=kvs++[(.inl p,.ref a)]:=putK_new _ ((trv h.pr p).2 np);refine⟨upd_same,?_⟩;rw[e];have k:∀b o,H b=some o->(∀l,o≠.dK l)->upd H d (.dK (kvs++[(.inl p,.ref a)])) b=some o:=λb o eb n=>by
  rw[upd_ne λz=>?_]
  .exact eb
  .subst z;rw[h.hd] at eb;cases eb;exact n _ rfl
 refine paired_snoc (Paired.mapP h.pr λ_ _ x=>let ⟨e,a,e2,e3⟩:=x;⟨e,a,e2,k _ _ e3 (λ_ z=>nomatch z)⟩) ⟨rfl,a,rfl,k _ _ ha (λ_ z=>nomatch z)⟩
def Off(kvs:List (Key×V))(l:Addr):Prop:=∀kv∈kvs,kv.2≠.ref l
theorem TrH.off{H:Hp}{d l:Addr}{root:Int}{T:Tr.Ts}{kvs:List (Key×V)}(h:TrH H d root T kvs)(n:H l=none):Off kvs l:=by
 have:∀{T:Tr.Ts}{kvs:List (Key×V)},Paired (λ(q:Int×List (Int×Int))(kv:Key×V)=>kv.1=.inl q.1/\∃a,kv.2=.ref a/\H a=some (.lst ((root::Tr.flat q.2).map V.int))) T kvs->Off kvs l:=by
  intro T kvs q
  induction q with
  | nil=>intro kv hk;exact nomatch hk
  | cons h r ih=>
   intro kv hk;obtain⟨_,a,e,ha⟩:=h;cases hk with
   | head=>rw[e];intro z;cases z;rw[n] at ha;cases ha
   | tail _ m=>exact ih kv m
 exact this h.pr
theorem Off.put{kvs:List (Key×V)}{l a:Addr}{k:Key}(h:Off kvs l)(n:valV kvs k=none)(na:a≠l):Off (putK kvs k (.ref a)) l:=by
 rw[putK_new _ n];intro kv hk;rcases List.mem_append.mp hk with hk|hk
 .exact h kv hk
 .rw[List.mem_singleton] at hk;subst hk;intro z;cases z;exact na rfl
theorem TrH.put{H:Hp}{d l:Addr}{root:Int}{T:Tr.Ts}{kvs:List (Key×V)}(h:TrH H d root T kvs)(o:Off kvs l)(nl:d≠l)(u:HO):TrH (upd H l u) d root T kvs:=by
 have:∀{T:Tr.Ts}{kvs:List (Key×V)},Off kvs l->Paired (λ(q:Int×List (Int×Int))(kv:Key×V)=>kv.1=.inl q.1/\∃a,kv.2=.ref a/\H a=some (.lst ((root::Tr.flat q.2).map V.int))) T kvs->Paired (λ(q:Int×List (Int×Int))(kv:Key×V)=>kv.1=.inl q.1/\∃a,kv.2=.ref a/\upd H l u a=some (.lst ((root::Tr.flat q.2).map V.int))) T kvs:=by
  intro T kvs o q
  induction q with
  | nil=>exact .nil
  | @cons p kv _ _ h r ih=>
   obtain⟨e1,a,e,ha⟩:=h;refine .cons ⟨e1,a,e,?_⟩ (ih λkv m=>o kv (.tail _ m));rw[upd_ne λz=>o kv (.head _) (by rw[e,z])];exact ha
 exact⟨by rw[upd_ne nl];exact h.hd,this o h.pr⟩
theorem _root_.Tr.Ext.tget{T T':Tr.Ts}(h:Tr.Ext T T'){a:Int}(m:a∈Tr.keys T):Tr.tget T' a=Tr.tget T a:=by
 obtain⟨E,rfl⟩:=h;unfold Tr.tget;rw[List.find?_append];cases e:T.find? λq=>decide (q.1=a) with
 | none=>
  obtain⟨L,hL⟩:=Tr.keys_mem m;exact absurd (List.find?_eq_none.mp e _ hL) (by simp)
 | some q=>rfl
section
variable{P:Program}{w:World}{K:W.Frag}{mg:Str->Option Value}{base:Heap}
def spTB:Sp:=λvs H Q _=>∃(d:Addr)(root a b:Int)(T:Tr.Ts)(kvs:List (Key×V)),vs=[.ref d,.int a,.int b]/\TrH H d root T kvs/\a∈Tr.keys T/\b∈Tr.keys T/\root∈Tr.keys T/\(∀n c,(n,c)∈Tr.tget T b->c∈Tr.keys T)/\T.length<=100/\(Tr.flat (Tr.tget T a)).length<=100/\(Tr.flat (Tr.tget T b)).length<=100 ∧
 ∀(l:Addr)(kvs':List (Key×V))(H':Hp),H l=none->Fr1 H H' d->(∀b o,H b=some o->Off kvs b->Off kvs' b)->TrH H' d root (Tr.tbM root (Tr.tget T a) (Tr.tget T b) T) kvs'->H' l=some (.lst (((Tr.keys (Tr.tbM root (Tr.tget T a) (Tr.tget T b) T)).drop T.length).map V.int))->Q (.ref l) H'
abbrev nmT:List Str:=["trails","there","back","new","down","place","point"]
theorem scTB:FnScope nmT ["trails","there","back"] (defScope sTB):=⟨rfl,rfl,rfl,by decide +kernel,rfl,by decide +kernel,by decide +kernel⟩
theorem ok_tb{f:Addr}{fd:FuncData}(F:Fun K "turned_back" "turned_back" sTB f fd)(genum:mg "enumerate"=none)(glist:mg "list"=none)(grev:mg "reversed"=none):FnOk P w K mg base CX0 1 f fd ["trails","there","back"] spTB:=by
 refine F.ok scTB (λvs H Q E h=>?_) (λcdv A outer s H vs Q E hr h=>?_)
 .obtain⟨d,root,a,b,T,kvs,rfl,_⟩:=h;rfl
 .obtain ⟨d,root,a,b,T,kvs,rfl,tr,ma,mb,mr,bk,lT,lA,lB,hQ⟩:=h;have hu:=hu_of hr;refine'⟨_,pss_cons ?s0 (pss_cons ?s1 (pss_cons ?s2 (pss_one (ps_ret (pv 3))))),?_⟩
  case s0=>exact ps_set (i:=3) scTB.nd rfl (Or.inl rfl) (pe_lst pa_nil)
  case s1=>exact ps_set (i:=4) scTB.nd rfl (Or.inl rfl) (pe_dget hu (pv 0) (pv 2) (λ_ _=>rfl))
  case s2=>
   refine' ps_for PassesOwn.never rfl (pi_enum rfl genum (pa_cons (pv 4) pa_nil)) (pg_tup rfl (pgs_cons (pg_name (i:=5) scTB.nd rfl (Or.inl rfl)) (pgs_cons (pg_name (i:=6) scTB.nd rfl (Or.inl rfl)) pgs_nil))) (pss_one (ps_if (pw_and (pt_cmp (pc_dnotin hu (pv 6) (pv 0)) (by with_unfolding_all rfl)) (pw_and1 (pt_cmpR op_notIn_seq (pv 6) (pe_dget hu (pv 0) (pv 1) (λ_ _=>rfl)) (by with_unfolding_all rfl)))).pt (pss_cons ?b0 (pss_one ?b1)) pss_nil))
   case b0=>exact ps_dput hu (pv 0) (pv 6) (pe_op op_cat (pe_dget hu (pv 0) (pv 1) (λ_ _=>rfl)) (pe_listRev rfl glist rfl grev rfl (pa_cons (pe_slice sl_list (pv 4) (po_some (pv 5)) po_none) pa_nil))) rfl
   case b1=>exact ps_expr (pe_bm PySem.F.plainAttrs_list PySem.F.slot_list_append PySem.F.type_list_append mt_append (pv 3) (pa_cons (pv 6) pa_nil))
  obtain⟨ab,eab,hab⟩:=(trv tr.pr b).1 mb;have nabd:ab≠d:=λz=>by subst z;rw[tr.hd] at hab;cases hab
  generalize eA:Tr.tget T a=A' at lA hQ;generalize eB:Tr.tget T b=B' at lB bk hQ hab;refine⟨Nat.zero_le _,λl hl=>?_⟩;have s0:Same H (upd H l (.lst [])):=Same.new hl;have hl1:upd H l (.lst []) l=some (.lst (([]:List Int).map V.int)):=upd_same;trivial;generalize upd H l (.lst [])=H1 at s0 hl1 ⊢;have tr1:=tr.same s0;have off:=tr.off hl;have nld:d≠l:=λz=>by subst z;rw[tr.hd] at hl;cases hl
  refine⟨_,rfl,_,rfl,d,.ref ab,rfl,(by have:=DGet.k (k:=.inl b) tr1.hd;rw[eab] at this;exact this),?_⟩;trivial;have hab1:=s0 ab _ hab;have ldn:(root::Tr.flat B').length<=101:=Nat.succ_le_succ lB;refine⟨_,rfl,ab,rfl,⟨_,SqL.of hab1⟩,for_enum (K:=K) (a:=ab) (xs:=(root::Tr.flat B').map V.int)
   (λi σ H3=>∃(T':Tr.Ts)(kvs':List (Key×V))(e5 e6:Option V),σ=[some (.ref d),some (.int a),some (.int b),some (.ref l),some (.ref ab),e5,e6]/\Fr1 H H3 d/\(∀b o,H b=some o->Off kvs b->Off kvs' b)/\TrH H3 d root T' kvs'/\Off kvs' l/\Tr.Ext T T'/\H3 l=some (.lst (((Tr.keys T').drop T.length).map V.int))/\Tr.tbR root A' ((root::Tr.flat B').drop i) T'=Tr.tbM root A' B' T/\T'.length<=T.length+i)
   ⟨T,kvs,none,none,rfl,Fr1.of s0,λ_ _ _ h=>h,tr1,off,Tr.Ext.refl T,?_,Tr.tbR_all mr bk,Nat.le_refl _⟩ (λi σ H3 _ ⟨_,_,_,_,_,fr,_⟩=>SqL.of (fr ab _ hab nabd)) ?_ ?_⟩
  .rw[List.drop_eq_nil_of_le (by unfold Tr.keys;rw[List.length_map];exact Nat.le_refl _)];exact hl1
  .rintro i x t σ H3 hi ⟨T',kvs',e5,e6,rfl,fr,oo,tr3,off3,ext,hl3,eq,lT'⟩ ht;rw[List.getElem?_map] at hi;obtain⟨p,ep,rfl⟩:=Option.map_eq_some_iff.mp hi;have hil:i<(root::Tr.flat B').length:=(List.getElem?_eq_some_iff.mp ep).1;have s4:Same H3 (upd H3 t (.tup [.int i,.int p])):=Same.new ht;have ht4:upd H3 t (.tup [.int i,.int p]) t=some (.tup [.int i,.int p]):=upd_same;generalize upd H3 t (.tup [.int i,.int p])=H4 at s4 ht4 ⊢;have tr4:=tr3.same s4;have fr4:Fr1 H H4 d:=fr.trans (Fr1.of s4);have hl4:=s4 l _ hl3;have hab4:=fr4 ab _ hab nabd;have dr:(root::Tr.flat B').drop i=p::(root::Tr.flat B').drop (i+1):=by
    rw[List.drop_eq_getElem_cons hil]
    congr 1
    rw[List.getElem?_eq_getElem hil] at ep;exact Option.some.inj ep
   have eq':=eq;rw[dr] at eq';unfold Tr.tbR at eq';refine⟨t,_,rfl,SqT.of ht4,rfl,_,_,rfl,_,_,rfl,rfl,?_⟩;trivial;refine⟨_,rfl,_,rfl,d,_,rfl,DGet.k (k:=.inl p) tr4.hd,_,rfl,?_⟩;have stay:(p∈Tr.keys T'\/p∈root::Tr.flat A')->∃(T'':Tr.Ts)(kvs'':List (Key×V))(e5 e6:Option V),[some (V.ref d),some (.int a),some (.int b),some (.ref l),some (.ref ab),some (.int i),some (.int p)]=[some (.ref d),some (.int a),some (.int b),some (.ref l),some (.ref ab),e5,e6]/\Fr1 H H4 d/\(∀b o,H b=some o->Off kvs b->Off kvs'' b)/\TrH H4 d root T'' kvs''/\Off kvs'' l/\Tr.Ext T T''/\H4 l=some (.lst (((Tr.keys T'').drop T.length).map V.int))/\Tr.tbR root A' ((root::Tr.flat B').drop (i+1)) T''=Tr.tbM root A' B' T/\T''.length<=T.length+(i+1):=λc=>by
    rw[if_pos c] at eq';exact⟨T',kvs',_,_,rfl,fr4,oo,tr4,off3,ext,hl4,eq',by omega⟩
   refine ite2 (λc=>?_) (λc=>iteF (stay (.inl ((tr4.isS p).mp (by cases z:(valV kvs' (.inl p)).isSome with|true=>rfl|false=>rw[z] at c;exact absurd rfl c)))));have np:p∉Tr.keys T':=λz=>by rw[(tr4.isS p).mpr z] at c;cases c
   obtain⟨aa,eaa,haa⟩:=(trv tr4.pr a).1 (ext.keys ma);rw[ext.tget ma,eA] at haa;have dga:DGet H4 d (.int a) (some (.ref aa)):=by have:=DGet.k (k:=.inl a) tr4.hd;rw[eaa] at this;exact this
   refine⟨_,rfl,_,rfl,_,rfl,d,.ref aa,rfl,dga,aa,_,rfl,.inl (SqL.of haa),rfl,flat_ints _,_,rfl,?_⟩;rw[if_pos rfl,inV_ints];by_cases pA:p∈root::Tr.flat A'
   .rw[decide_eq_true pA];exact iteF (stay (.inr pA))
   rw[decide_eq_false pA];refine iteT ?_;rw[if_neg (λz=>z.elim np pA)] at eq';have odd:i % 2=1:=by
    rcases Nat.mod_two_eq_zero_or_one i with z|z
    .exact absurd (ext.keys (Tr.even_at mr bk ep z)) np
    .exact z
   have evl:(p::(root::Tr.flat B').drop (i+1)).length % 2=0:=by
    rw[<-dr,List.length_drop,List.length_cons,Tr.flat_len];rw[List.length_cons,Tr.flat_len] at hil;omega
   refine⟨_,rfl,_,rfl,d,.ref aa,rfl,dga,_,rfl,_,rfl,_,rfl,ab,_,rfl,SqL.of hab4,λp1 n1=>?_⟩;rw[cut_map,cutA_drop _ (by omega),Int.toNat_natCast,dr];generalize eS:p::(root::Tr.flat B').drop (i+1)=S at eq' evl;have lS:S.length<=101:=by rw[<-eS,<-dr,List.length_drop];omega
   have s5:Same H4 (upd H4 p1 (.lst (S.map V.int))):=Same.new n1;have h5:upd H4 p1 (.lst (S.map V.int)) p1=some (.lst (S.map V.int)):=upd_same;generalize upd H4 p1 (.lst (S.map V.int))=H5 at s5 h5 ⊢;refine⟨p1,_,rfl,SqL.of h5,λp2 n2=>?_⟩;rw[<-List.map_reverse];have s6:Same H5 (upd H5 p2 (.lst (S.reverse.map V.int))):=Same.new n2;have h6:upd H5 p2 (.lst (S.reverse.map V.int)) p2=some (.lst (S.reverse.map V.int)):=upd_same;generalize upd H5 p2 (.lst (S.reverse.map V.int))=H6 at s6 h6 ⊢;have s46:=s5.trans s6;refine⟨aa,p2,_,_,rfl,rfl,s46 aa _ haa,h6,Nat.le_of_lt (small1000 (by rw[List.length_map,List.length_map,List.length_reverse,List.length_cons];omega)),λp3 n3=>?_⟩;have eN:(root::Tr.flat A').map V.int++S.reverse.map V.int=(root::Tr.flat (A'++Tr.rsw (Tr.pr S))).map V.int:=by
    rw[Tr.flat_app,Tr.flat_rsw,Tr.flat_pr evl,<-List.map_append,<-List.cons_append]
   rw[eN];have s7:Same H6 (upd H6 p3 (.lst ((root::Tr.flat (A'++Tr.rsw (Tr.pr S))).map V.int))):=Same.new n3;have h7:upd H6 p3 (.lst ((root::Tr.flat (A'++Tr.rsw (Tr.pr S))).map V.int)) p3=some (.lst ((root::Tr.flat (A'++Tr.rsw (Tr.pr S))).map V.int)):=upd_same;generalize upd H6 p3 (.lst ((root::Tr.flat (A'++Tr.rsw (Tr.pr S))).map V.int))=H7 at s7 h7 ⊢;have s47:=s46.trans s7;have tr7:=tr4.same s47;have hl7:=s47 l _ hl4;have n3l:p3≠l:=λz=>by subst z;rw[s46 p3 _ hl4] at n3;cases n3
   have lk:=tr7.len;have oo8:∀b o,H b=some o->Off kvs b->Off (putK kvs' (.inl p) (.ref p3)) b:=λb o e hb=>(oo b o e hb).put ((trv tr4.pr p).2 np) λz=>by
    subst z;by_cases c3:p3=d
    .rw[c3,(tr4.same s46).hd] at n3;cases n3
    .rw[s46 p3 _ (fr4 p3 o e c3)] at n3;cases n3
   refine⟨_,rfl,_,rfl,d,_,rfl,DPut.k (k:=.inl p) tr7.hd (small1000 (by omega)),?_⟩;have tr8:=tr7.add np h7;have off8:=off3.put ((trv tr4.pr p).2 np) n3l;have hl8:upd H7 d (.dK (putK kvs' (.inl p) (.ref p3))) l=some (.lst (((Tr.keys T').drop T.length).map V.int)):=by rw[upd_ne (Ne.symm nld)];exact hl7
   have fr8:Fr1 H (upd H7 d (.dK (putK kvs' (.inl p) (.ref p3)))) d:=λb o e n=>by rw[upd_ne n];exact s47 b o (fr4 b o e n)
   generalize upd H7 d (.dK (putK kvs' (.inl p) (.ref p3)))=H8 at tr8 hl8 fr8 ⊢;have lk':(Tr.keys T').length=T'.length:=List.length_map ..;refine⟨_,rfl,.inl ⟨rfl,_,SqL.of hl8⟩,_,rfl,l,_,_,rfl,rfl,hl8,(by rw[List.length_map,List.length_drop];exact small1000 (by omega)),?_⟩;refine⟨T'++[(p,A'++Tr.rsw (Tr.pr S))],_,_,_,rfl,λb o e n=>?_,oo8,tr8.put off8 nld _,off8,ext.trans ⟨_,rfl⟩,?_,eq',by rw[List.length_append];show _+1<=_;omega⟩
   .rw[upd_ne (ne_of_none e hl)];exact fr8 b o e n
   .rw[upd_same];have:Tr.keys (T'++[(p,A'++Tr.rsw (Tr.pr S))])=Tr.keys T'++[p]:=by unfold Tr.keys;rw[List.map_append];rfl
    rw[this,List.drop_append_of_le_length (by rw[lk'];exact ext.len),List.map_append];rfl
  .rintro σ H3 ⟨T',kvs',e5,e6,rfl,fr,oo,tr3,off3,ext,hl3,eq,lT'⟩;rw[List.length_map,List.drop_length] at eq;have eq:T'=Tr.tbM root A' B' T:=eq;subst eq;exact⟨_,rfl,hQ l kvs' H3 hl fr oo tr3 hl3⟩
end
end K67
namespace Tr
theorem tbM_len{root:Int}{A:List (Int×Int)}:∀(B:List (Int×Int))(T:Ts),(tbM root A B T).length<=T.length+B.length
 | [],T=>Nat.le_refl _
 | (n,b)::B,T=>by
  unfold tbM
  split
  .have:=tbM_len (root:=root) (A:=A) B T;rw[List.length_cons];omega
  .have:=tbM_len (root:=root) (A:=A) B (T++[(n,A++rsw ((n,b)::B))]);rw[List.length_append] at this;rw[List.length_cons];have e:[(n,A++rsw ((n,b)::B))].length=1:=rfl;omega
section
variable{root p near b:Int}{par:Int->Option Int}{T:Ts}
theorem gone_n(c:near∉keys T)(h:par near=none):goneM root par p near T=T:=by
 unfold goneM;rw[if_neg c,h]
theorem gone_i(c:near∉keys T)(h:par near=some b)(cb:b∈keys T):goneM root par p near T=T:=by
 unfold goneM;rw[if_neg c,h];exact if_pos cb
theorem gone_o(c:near∉keys T)(h:par near=some b)(cb:b∉keys T):goneM root par p near T=T++[(b,tget T p++[(near,b)])]:=by
 unfold goneM;rw[if_neg c,h];exact if_neg cb
end
structure Env(nb:Int->List Int)(par:Int->Option Int)(m:Int):Prop where
 S:Sym nb par
 R:Rg nb par m
 m24:m<=24
 nbp:∀{n b:Int},par n=some b->b∈nb n
theorem Ok.flen{nb:Int->List Int}{par:Int->Option Int}{root m:Int}{T:Ts}(K:Ok nb par root T)(Vn:Env nb par m)(r0:0<=root/\root<m){p:Int}{L:List (Int×Int)}(h:(p,L)∈T):(flat L).length<=24/\L.length<=12:=by
 have h1:=nd_le m.toNat (root::flat L) (K.un _ _ h) λx hx=>by have:=K.rg Vn.R r0 h x hx;omega
 have h2:=flat_len L;have:=Vn.m24;rw[List.length_cons] at h1;omega
theorem drop_two{T T1 T2:Ts}(h1:Ext T T1)(h2:Ext T1 T2):(keys T1).drop T.length++(keys T2).drop T1.length=(keys T2).drop T.length:=by
 obtain⟨E,rfl⟩:=h1;obtain⟨F,rfl⟩:=h2;have a:∀(T E:Ts),(keys (T++E)).drop T.length=keys E:=λT E=>by
  have e:keys (T++E)=keys T++keys E:=List.map_append ..;have l:(keys T).length=T.length:=List.length_map ..;rw[e,<-l,List.drop_left]
 rw[a,a,List.append_assoc,a];exact(List.map_append ..).symm
end Tr
namespace K67
open PySem L2 PyProof.Rows
section
variable{P:Program}{w:World}{K:W.Frag}{mg:Str->Option Value}{base:Heap}
def Mate(pk:List (Key×V))(par:Int->Option Int):Prop:=∀x:Int,valV pk (.inl x)=(par x).map V.int
def spGone:Sp:=λvs H Q _=>∃(d dp:Addr)(nb:Int->List Int)(par:Int->Option Int)(m root p near:Int)(T:Tr.Ts)(kvs pk:List (Key×V)),vs=[.ref d,.ref dp,.int p,.int near]/\TrH H d root T kvs/\H dp=some (.dK pk)/\d≠dp/\Mate pk par/\Tr.Env nb par m/\(0<=root/\root<m)/\Tr.Ok nb par root T/\p∈Tr.keys T/\near∈nb p ∧
 ∀(l:Addr)(kvs':List (Key×V))(H':Hp),H l=none->Fr1 H H' d->(∀b o,H b=some o->Off kvs b->Off kvs' b)->TrH H' d root (Tr.goneM root par p near T) kvs'->H' l=some (.lst (((Tr.keys (Tr.goneM root par p near T)).drop T.length).map V.int))->Q (.ref l) H'
abbrev nmG:List Str:=["trails","partners","point","near","beyond"]
abbrev psG:List Str:=["trails","partners","point","near"]
theorem scGone:FnScope nmG psG (defScope sGone):=⟨rfl,rfl,rfl,by decide +kernel,rfl,by decide +kernel,by decide +kernel⟩
theorem Fr1.free{H H':Hp}{d l:Addr}(h:Fr1 H H' d)(n:H' l=none)(nd:l≠d):H l=none:=by
 cases e:H l with
 | none=>rfl
 | some o=>rw[h l o e nd] at n;cases n
theorem ok_gone{f fB:Addr}{fd fdB:FuncData}(F:Fun K "gone_on" "gone_on" sGone f fd)
  (GB:FnOk P w K mg base CX0 1 fB fdB ["trails","there","back"] spTB) (mB:mg "turned_back"=some (.ref fB)) (kB:PySem.W.keepIn K (.ref fB)=true) (bB:Binds K fdB ["trails","there","back"] []):FnOk P w K mg base CX0 2 f fd psG spGone:=by
 refine F.ok scGone (λvs H Q E h=>?_) (λcdv A outer s H vs Q E hr h=>?_)
 .obtain⟨d,dp,nb,par,m,root,p,near,T,kvs,pk,rfl,_⟩:=h;rfl
 .obtain ⟨d,dp,nb,par,m,root,p,near,T,kvs,pk,rfl,tr,hdp,ndp,mate,Vn,r0,K0,mp,mn,hQ⟩:=h;have hu:=hu_of hr;refine'⟨_,pss_cons ?s0 (pss_cons ?s1 (pss_cons ?s2 (pss_cons ?s3 (pss_one ?s4)))),?_⟩
  case s0=>exact ps_if (pt_cmp (pc_din hu (pv 3) (pv 0)) (by with_unfolding_all rfl)) (pss_one (ps_ret (pe_op op_cat (pe_call GB hr (by rfl) mB kB bB .nil pass0 (pa_cons (pv 0) (pa_cons (pv 2) (pa_cons (pv 3) pa_nil)))) (pe_call GB hr (by rfl) mB kB bB .nil pass0 (pa_cons (pv 0) (pa_cons (pv 3) (pa_cons (pv 2) pa_nil))))))) pss_nil
  case s1=>exact ps_set (i:=4) scGone.nd rfl (Or.inl rfl) (pe_dget1 hu (pv 1) (pv 3) ⟨rfl,rfl,rfl,rfl⟩)
  case s2=>exact ps_if (pw_or (pt_cmp (pc_isN (pv 4)) (by with_unfolding_all rfl)) (pw_or1 (pt_cmp (pc_din hu (pv 4) (pv 0)) (by with_unfolding_all rfl)))).pt (pss_one (ps_ret (pe_lst pa_nil))) pss_nil
  case s3=>exact ps_dput hu (pv 0) (pv 4) (pe_op op_cat (pe_dget hu (pv 0) (pv 2) (λ_ _=>rfl)) (pe_lst (pa_cons (pv 3) (pa_cons (pv 4) pa_nil)))) rfl
  case s4=>exact ps_ret (pe_lst (pa_cons (pv 4) pa_nil))
  have lT:=K0.le Vn.R r0;have m24:=Vn.m24;refine⟨_,rfl,_,rfl,d,_,rfl,DGet.k (k:=.inl near) tr.hd,_,rfl,?_⟩;by_cases c:near∈Tr.keys T
  .rw[(tr.isS near).mpr c];refine iteT ?_;have fA:=K0.flen Vn r0 (Tr.tget_mem mp);have fB:=K0.flen Vn r0 (Tr.tget_mem c);have bkA:=K0.bk _ _ (Tr.tget_mem mp);have bkB:=K0.bk _ _ (Tr.tget_mem c);have eG:Tr.goneM root par p near T=Tr.tbM root (Tr.tget T near) (Tr.tget T p) (Tr.tbM root (Tr.tget T p) (Tr.tget T near) T):=by unfold Tr.goneM;rw[if_pos c]
   have x1:=Tr.tbM_ext (root:=root) (A:=Tr.tget T p) (Tr.tget T near) T;have l1:=Tr.tbM_len (root:=root) (A:=Tr.tget T p) (Tr.tget T near) T;refine⟨_,rfl,_,rfl,_,rfl,d,root,p,near,T,kvs,rfl,tr,mp,c,K0.rt,bkB,by omega,by omega,by omega,λla kvs1 H1 na fr1 oo1 tr1 ha=>?_⟩;generalize eT1:Tr.tbM root (Tr.tget T p) (Tr.tget T near) T=T1 at x1 l1 tr1 ha eG;have g1:=x1.tget c;have g2:=x1.tget mp;refine⟨_,rfl,_,rfl,_,rfl,d,root,near,p,T1,kvs1,rfl,tr1,x1.keys c,x1.keys mp,x1.keys K0.rt,(by rw[g2];exact λn c' h=>x1.keys (bkA n c' h)),by omega,(by rw[g1];omega),(by rw[g2];omega),λlb kvs2 H2 nb2 fr2 oo2 tr2 hb=>?_⟩;rw[g1,g2,<-eG] at tr2 hb;have x2:Tr.Ext T1 (Tr.goneM root par p near T):=by rw[eG];exact Tr.tbM_ext _ _
   have l2:=Tr.tbM_len (root:=root) (A:=Tr.tget T near) (Tr.tget T p) T1;rw[<-eG] at l2;have nla:la≠d:=λz=>by subst z;rw[tr.hd] at na;cases na
   have nlb:lb≠d:=λz=>by subst z;rw[tr1.hd] at nb2;cases nb2
   have ha2:=fr2 la _ ha nla;have k1:(Tr.keys T1).length=T1.length:=List.length_map ..;have k2:(Tr.keys (Tr.goneM root par p near T)).length=(Tr.goneM root par p near T).length:=List.length_map ..;refine⟨la,lb,_,_,rfl,rfl,ha2,hb,Nat.le_of_lt (small1000 (by rw[List.length_map,List.length_map,List.length_drop,List.length_drop];omega)),λlc nc=>?_⟩;rw[<-List.map_append,Tr.drop_two x1 x2];have fr:=fr1.trans fr2;have nlc:lc≠d:=λz=>by subst z;rw[tr2.hd] at nc;cases nc
   exact hQ lc kvs2 _ (fr.free nc nlc) (fr.trans (Fr1.of (Same.new nc))) (λb o e h=>(if c3:b=d then oo2 b _ (c3 ▸ tr1.hd) (oo1 b o e h) else oo2 b o (fr1 b o e c3) (oo1 b o e h))) (tr2.same (Same.new nc)) upd_same
  .have e0:(valV kvs (.inl near)).isSome=false:=by
    cases z:(valV kvs (.inl near)).isSome with
    | false=>rfl
    | true=>exact absurd ((tr.isS near).mp z) c
   rw[e0];refine iteF ?_;refine⟨_,rfl,dp,rfl,.inl ⟨_,Rd.of hdp⟩,_,rfl,_,DGet.k (k:=.inl near) hdp,?_⟩;rw[mate near];have none_:Tr.goneM root par p near T=T->∀l H',H l=none->H'=upd H l (.lst [])->Q (.ref l) H':=λe l H' n z=>by
    subst z;refine hQ l kvs _ n (Fr1.of (Same.new n)) (λ_ _ _ h=>h) (by rw[e];exact tr.same (Same.new n)) ?_;rw[e,upd_same,List.drop_eq_nil_of_le (by unfold Tr.keys;rw[List.length_map];exact Nat.le_refl _)];rfl
   cases pn:par near with
   | none=>
    have eG:=Tr.gone_n (root:=root) (p:=p) c pn;refine⟨_,rfl,_,rfl,iteT ⟨Nat.zero_le _,λl n=>none_ eG l _ n rfl⟩⟩
   | some b=>
    show tSeq _ _ _ [some (.ref d),some (.ref dp),some (.int p),some (.int near),some (.int b)] H;refine⟨_,rfl,_,rfl,iteF ?_⟩;refine⟨_,rfl,_,rfl,d,_,rfl,DGet.k (k:=.inl b) tr.hd,_,rfl,?_⟩;by_cases cb:b∈Tr.keys T
    .rw[(tr.isS b).mpr cb];have eG:=Tr.gone_i (root:=root) (p:=p) c pn cb;exact iteT ⟨Nat.zero_le _,λl n=>none_ eG l _ n rfl⟩
    .have e1:(valV kvs (.inl b)).isSome=false:=by
      cases z:(valV kvs (.inl b)).isSome with
      | false=>rfl
      | true=>exact absurd ((tr.isS b).mp z) cb
     rw[e1];refine iteF ?_;have eG:=Tr.gone_o (root:=root) (p:=p) c pn cb;obtain⟨aa,eaa,haa⟩:=(trv tr.pr p).1 mp;have dga:DGet H d (.int p) (some (.ref aa)):=by have:=DGet.k (k:=.inl p) tr.hd;rw[eaa] at this;exact this
     have fA:=K0.flen Vn r0 (Tr.tget_mem mp);refine⟨_,rfl,_,rfl,d,.ref aa,rfl,dga,_,rfl,_,rfl,(by show 2<=sizeLine;decide),λp2 n2=>?_⟩;have s6:Same H (upd H p2 (.lst [.int near,.int b])):=Same.new n2;have h6:upd H p2 (.lst [.int near,.int b]) p2=some (.lst ([near,b].map V.int)):=upd_same;dsimp only;generalize upd H p2 (.lst [.int near,.int b])=H6 at s6 h6 ⊢;refine⟨aa,p2,_,_,rfl,rfl,s6 aa _ haa,h6,Nat.le_of_lt (small1000 (by rw[List.length_map,List.length_cons];show _+1+2<=_;omega)),λp3 n3=>?_⟩;have eN:(root::Tr.flat (Tr.tget T p)).map V.int++[near,b].map V.int=(root::Tr.flat (Tr.tget T p++[(near,b)])).map V.int:=by
      rw[Tr.flat_app,<-List.map_append,<-List.cons_append];rfl
     rw[eN];have s7:Same H6 (upd H6 p3 (.lst ((root::Tr.flat (Tr.tget T p++[(near,b)])).map V.int))):=Same.new n3;have h7:upd H6 p3 (.lst ((root::Tr.flat (Tr.tget T p++[(near,b)])).map V.int)) p3=some (.lst ((root::Tr.flat (Tr.tget T p++[(near,b)])).map V.int)):=upd_same;generalize upd H6 p3 (.lst ((root::Tr.flat (Tr.tget T p++[(near,b)])).map V.int))=H7 at s7 h7 ⊢;have s47:=s6.trans s7;have tr7:=tr.same s47;have lk:=tr7.len;refine⟨_,rfl,_,rfl,d,_,rfl,DPut.k (k:=.inl b) tr7.hd (small1000 (by omega)),?_⟩;have tr8:=tr7.add cb h7;have fr8:Fr1 H (upd H7 d (.dK (putK kvs (.inl b) (.ref p3)))) d:=λx o e n=>by rw[upd_ne n];exact s47 x o e
     generalize upd H7 d (.dK (putK kvs (.inl b) (.ref p3)))=H8 at tr8 fr8 ⊢;refine⟨_,rfl,(by show 1<=sizeLine;decide),λl nl=>?_⟩;have nld:l≠d:=λz=>by subst z;rw[tr8.hd] at nl;cases nl
     refine hQ l _ _ (fr8.free nl nld) (fr8.trans (Fr1.of (Same.new nl))) (λx o e h=>h.put ((trv tr.pr b).2 cb) λz=>by subst z;rw[s6 p3 o e] at n3;cases n3) (by rw[eG];exact tr8.same (Same.new nl)) ?_;rw[upd_same,eG];have:Tr.keys (T++[(b,Tr.tget T p++[(near,b)])])=Tr.keys T++[b]:=by unfold Tr.keys;rw[List.map_append];rfl
     have kl:(Tr.keys T).length=T.length:=List.length_map ..;rw[this,<-kl,List.drop_left];rfl
end
end K67
namespace Tr
theorem step_snoc{root:Int}{par:Int->Option Int}{p:Int}(ns:List Int)(n:Int)(T:Ts):stepM root par p (ns++[n]) T=goneM root par p n (stepM root par p ns T):=by
 unfold stepM;rw[List.foldl_append];rfl
end Tr
namespace K67
open PySem L2 PyProof.Rows
section
variable{P:Program}{w:World}{K:W.Frag}{mg:Str->Option Value}{base:Heap}{C:Addr}
def spTrails(C:Addr):Sp:=λvs H Q _=>∃(x dp:Addr)(m root:Int)(U:List Mt.Tri)(ks:List (List Int))(par:Int->Option Int)(pk:List (Key×V)),vs=[.ref x,.ref dp,.int root]/\WebAt C H x m U ks/\H dp=some (.dK pk)/\Mate pk par/\Tr.Env (nbM ks) par m/\(0<=root/\root<m)/\par root=none ∧
 ∀(d:Addr)(kvs:List (Key×V))(H':Hp),H d=none->Same H H'->TrH H' d root (Tr.runM root par (nbM ks) m.toNat [(root,[])] [root]) kvs->Q (.ref d) H'
abbrev nmR:List Str:=["web","partners","root","trails","ahead","point","near"]
theorem scTrails:FnScope nmR ["web","partners","root"] (defScope sTrails):=⟨rfl,rfl,rfl,by decide +kernel,rfl,by decide +kernel,by decide +kernel⟩
theorem ok_trails{f fG fT:Addr}{fd fdG fdT:FuncData}(F:Fun K "trails_from" "trails_from" sTrails f fd)(T0:TxtW K mg C)
  (GG:FnOk P w K mg base CX0 2 fG fdG psG spGone) (mG:mg "gone_on"=some (.ref fG)) (kG:PySem.W.keepIn K (.ref fG)=true) (bG:Binds K fdG psG [])
  (mT:Meth K C "tied" fT) (GT:FnOk P w K mg base CX0 1 fT fdT ["self","a"] (spTied C)) (bT:Binds K fdT ["self","a"] []):FnOk P w K mg base CX0 3 f fd ["web","partners","root"] (spTrails C):=by
 refine F.ok scTrails (λvs H Q E h=>?_) (λcdv A outer s H vs Q E hr h=>?_)
 .obtain⟨x,dp,m,root,U,ks,par,pk,rfl,_⟩:=h;rfl
 .obtain ⟨x,dp,m,root,U,ks,par,pk,rfl,W,hdp,mate,Vn,r0,fr0,hQ⟩:=h;have hu:=hu_of hr;have hr1:Room 1 (A.deeper (envOfC "trails_from" (defScope sTrails) s.heap.objs.size f cdv)):=hr.mono (by decide);refine'⟨_,pss_cons ?s0 (pss_cons ?s1 (pss_cons (ps_while PassesOwn.never ?c (pss_cons ?b0 (pss_one (ps_for PassesOwn.never rfl ?i (pg_name (i:=6) scTrails.nd rfl (Or.inl rfl)) (pss_one ?b1))))) (pss_one (ps_ret (pv 3))))),?_⟩
  case s0=>exact ps_set (i:=3) scTrails.nd rfl (Or.inl rfl) (pe_disp (pps_cons (pv 2) (pe_lst (pa_cons (pv 2) pa_nil)) pps_nil) rfl rfl (by simp) (by decide))
  case s1=>exact ps_set (i:=4) scTrails.nd rfl (Or.inl rfl) (pe_lst (pa_cons (pv 2) pa_nil))
  case c=>exact pt_truth (pv 4) (λ_=>rfl)
  case b0=>exact ps_set (i:=5) scTrails.nd rfl (Or.inl rfl) (pe_bm PySem.F.plainAttrs_list PySem.F.slot_list_pop PySem.F.type_list_pop mt_popAt (pv 4) (pa_cons pe_int pa_nil))
  case i=>exact pi_list (pe_meth (pv 0) T0.cl mT GT hr1 bT .nil pass0 (pa_cons (pv 5) pa_nil))
  case b1=>exact ps_expr (pe_bm PySem.F.plainAttrs_list PySem.F.slot_list_extend PySem.F.type_list_extend mt_extend (pv 4) (pa_cons (pe_call GG hr (by rfl) mG kG bG .nil pass0 (pa_cons (pv 3) (pa_cons (pv 1) (pa_cons (pv 5) (pa_cons (pv 6) pa_nil))))) pa_nil))
  have m24:=Vn.m24;intro d hd;have s1:Same H (upd H d (.dK [])):=Same.new hd;have hd1:upd H d (.dK []) d=some (.dK []):=upd_same;generalize upd H d (.dK [])=H1 at s1 hd1 ⊢;refine⟨_,rfl,_,rfl,(by show 1<=sizeLine;decide),λl0 n0=>⟨(Same.new n0) d _ hd1,[(.inl root,.ref l0)],rfl,(by show 1<=15;decide),?_⟩⟩;have ndl0:d≠l0:=ne_of_none hd1 n0;have hH0:H l0=none:=s1.free n0;have e2:mergeK [] [(Sum.inl root,V.ref l0)]=[((Sum.inl root:Key),V.ref l0)]:=rfl;rw[e2];have s2:Same H (upd (upd H1 l0 (.lst [.int root])) d (.dK [(.inl root,.ref l0)])):=λb o e=>by
   rw[upd_ne (ne_of_none e hd)];exact(Same.new n0) b o (s1 b o e)
  have tr2:TrH (upd (upd H1 l0 (.lst [.int root])) d (.dK [(.inl root,.ref l0)])) d root [(root,[])] [(.inl root,.ref l0)]:=
   ⟨upd_same,.cons ⟨rfl,l0,rfl,by rw[upd_ne (Ne.symm ndl0),upd_same];rfl⟩ .nil⟩
  trivial;generalize upd (upd H1 l0 (.lst [.int root])) d (.dK [(.inl root,.ref l0)])=H2 at s2 tr2 ⊢;refine⟨_,rfl,(by show 1<=sizeLine;decide),λla na=>?_⟩;have s3:Same H2 (upd H2 la (.lst [.int root])):=Same.new na;have hla3:upd H2 la (.lst [.int root]) la=some (.lst ([root].map V.int)):=upd_same;have off3:=tr2.off na;have hHa:H la=none:=s2.free na;have ndla:d≠la:=ne_of_none tr2.hd na;trivial;generalize upd H2 la (.lst [.int root])=H3 at s3 hla3 ⊢;have tr3:=tr2.same s3;have ok0:=Tr.ok0 (nb:=nbM ks) fr0;refine⟨λn σ H4=>∃(T:Tr.Ts)(kvs:List (Key×V))(as:List Int)(e5 e6:Option V),σ=[some (.ref x),some (.ref dp),some (.int root),some (.ref d),some (.ref la),e5,e6]/\Same H H4/\TrH H4 d root T kvs/\Off kvs la/\H4 la=some (.lst (as.map V.int))/\Tr.Ok (nbM ks) par root T/\(∀a∈as,a∈Tr.keys T)/\n<=m.toNat/\n=as.length+(m.toNat-T.length)/\Tr.runM root par (nbM ks) n T as=Tr.runM root par (nbM ks) m.toNat [(root,[])] [root],
   ⟨m.toNat,[(root,[])],_,[root],none,none,rfl,s2.trans s3,tr3,off3,hla3,ok0,λa ha=>by rw[List.mem_singleton] at ha;subst ha;simp[Tr.keys],Nat.le_refl _,(by show m.toNat=1+(m.toNat-1);omega),rfl⟩,?_⟩
  rintro n σ H4 ⟨T,kvs,as,e5,e6,rfl,s4,tr4,off4,hla4,ok4,sub,nle,en,er⟩;refine⟨_,rfl,_,.inl ⟨as.map V.int,SqL.of hla4,rfl⟩,?_⟩;have lT:=ok4.le Vn.R r0;cases as with
  | nil=>
   rw[Tr.runM_nil] at er;subst er;exact iteF ⟨_,rfl,hQ d kvs H4 hd s4 tr4⟩
  | cons p rest=>
   refine iteT ?_;obtain⟨n',rfl⟩:∃n',n=n'+1:=⟨rest.length+(m.toNat-T.length),by rw[en,List.length_cons];omega⟩;have mp:=sub p (.head _);obtain⟨p0,p1⟩:0<=p/\p<m:=by
    obtain⟨L,hL⟩:=Tr.keys_mem mp;have h1:=Tr.fin_mem (x:=root) (L:=L);rw[ok4.en _ _ hL] at h1;exact ok4.rg Vn.R r0 hL p h1
   refine⟨_,λσ' H' h=>⟨n',Nat.lt_succ_self _,h⟩,?_⟩;have six:seqIndex? 0 ((p::rest).map V.int).length=some 0:=by
    unfold seqIndex?;simp
   refine⟨_,rfl,.inl ⟨rfl,_,SqL.of hla4⟩,la,_,0,0,.int p,rfl,rfl,hla4,by decide,by decide,six,rfl,?_⟩;have e4:((p::rest).map V.int).eraseIdx 0=rest.map V.int:=rfl;rw[e4];have s5:Same H (upd H4 la (.lst (rest.map V.int))):=λb o e=>by rw[upd_ne (ne_of_none e hHa)];exact s4 b o e
   have tr5:=tr4.put off4 ndla (.lst (rest.map V.int));have hla5:upd H4 la (.lst (rest.map V.int)) la=some (.lst (rest.map V.int)):=upd_same;trivial;generalize upd H4 la (.lst (rest.map V.int))=H5 at s5 tr5 hla5 ⊢;have W5:=W.same s5;obtain⟨dx,d0,l1,nn,fs,qs,w1,w2,w3,w4,w5,⟨w6,w7,w8,w9⟩,_⟩:=id W5.ex;refine⟨_,rfl,x,dx,fs,rfl,w1,w9,_,rfl,x,m,U,ks,p,rfl,W5,p0,p1,λlq nq=>?_⟩;have s6:Same H5 (upd H5 lq (.lst ((nbM ks p).map V.int))):=Same.new nq;have hq6:upd H5 lq (.lst ((nbM ks p).map V.int)) lq=some (.lst ((nbM ks p).map V.int)):=upd_same;have nlq:lq≠la:=λz=>by subst z;rw[hla5] at nq;cases nq
   generalize upd H5 lq (.lst ((nbM ks p).map V.int))=H6 at s6 hq6 ⊢;have tr6:=tr5.same s6;have lrest:rest.length<=n':=by rw[List.length_cons] at en;omega
   have ltot:rest.length+(m.toNat-T.length)=n':=by rw[List.length_cons] at en;omega
   refine⟨lq,rfl,⟨_,SqL.of hq6⟩,for_list (K:=K) (a:=lq) (xs:=(nbM ks p).map V.int)
    (λi σ H7=>∃(T7:Tr.Ts)(kvs7:List (Key×V))(e6:Option V),σ=[some (.ref x),some (.ref dp),some (.int root),some (.ref d),some (.ref la),some (.int p),e6]/\Same H H7/\TrH H7 d root T7 kvs7/\Off kvs7 la/\H7 la=some (.lst ((rest++(Tr.keys T7).drop T.length).map V.int))/\H7 lq=some (.lst ((nbM ks p).map V.int))/\T7=Tr.stepM root par p ((nbM ks p).take i) T/\Tr.Ext T T7/\Tr.Ok (nbM ks) par root T7)
    ⟨T,kvs,e6,rfl,s5.trans s6,tr6,off4,?_,hq6,rfl,Tr.Ext.refl T,ok4⟩ (λi σ H7 _ ⟨_,_,_,_,_,_,_,_,hq7,_⟩=>SqL.of hq7) ?_ ?_⟩
   .rw[List.drop_eq_nil_of_le (by unfold Tr.keys;rw[List.length_map];exact Nat.le_refl _),List.append_nil];exact s6 la _ hla5
   .rintro i y σ H7 hi ⟨T7,kvs7,e6,rfl,s7,tr7,off7,hla7,hq7,eT,ext,ok7⟩;obtain⟨near,rfl,eN⟩:=map_int_at hi;have hN:=List.mem_of_getElem? eN;have lT7:=ok7.le Vn.R r0;have nqd:lq≠d:=λz=>by subst z;rw[tr7.hd] at hq7;cases hq7
    have hdp7:=s7 dp _ hdp;have ndp:d≠dp:=λz=>by subst z;rw[hd] at hdp;cases hdp
    have k7:(Tr.keys T7).length=T7.length:=List.length_map ..;refine⟨_,rfl,.inl ⟨rfl,_,SqL.of hla7⟩,_,rfl,_,rfl,_,rfl,_,rfl,d,dp,nbM ks,par,m,root,p,near,T7,kvs7,pk,rfl,tr7,hdp7,ndp,mate,Vn,r0,ok7,ext.keys mp,hN,λl kvs8 H8 nl fr8 oo8 tr8 hl8=>?_⟩;have ok8:=ok7.gone Vn.S (ext.keys mp) hN;have lT8:=ok8.le Vn.R r0;have x8:Tr.Ext T7 (Tr.goneM root par p near T7):=Tr.goneM_ext T7;have k8:(Tr.keys (Tr.goneM root par p near T7)).length=(Tr.goneM root par p near T7).length:=List.length_map ..;have hla8:=fr8 la _ hla7 (Ne.symm ndla);have off8:=oo8 la _ hla7 off7;refine⟨la,l,_,_,rfl,rfl,hla8,hl8,Nat.le_of_lt (small1000 (by rw[List.length_map,List.length_map,List.length_append,List.length_drop,List.length_drop];omega)),?_⟩;have nql:lq≠la:=nlq;refine⟨Tr.goneM root par p near T7,kvs8,_,rfl,λb o e=>?_,tr8.put off8 ndla _,off8,?_,?_,?_,ext.trans x8,ok8⟩
    .rw[upd_ne (ne_of_none e hHa)];exact fr8 b o (s7 b o e) (ne_of_none e hd)
    .rw[upd_same,<-List.map_append,List.append_assoc,Tr.drop_two ext x8]
    .rw[upd_ne nql];exact fr8 lq _ hq7 nqd
    .rw[List.take_succ,eN,eT];exact(Tr.step_snoc _ _ _).symm
   .rintro σ H7 ⟨T7,kvs7,e6,rfl,s7,tr7,off7,hla7,hq7,eT,ext,ok7⟩;rw[List.length_map,List.take_length] at eT;have lT7:=ok7.le Vn.R r0;have lx:=ext.len;have k7:(Tr.keys T7).length=T7.length:=List.length_map ..;refine⟨T7,kvs7,_,_,_,rfl,s7,tr7,off7,hla7,ok7,λa ha=>?_,by omega,?_,?_⟩
    .rcases List.mem_append.mp ha with ha|ha
     .exact ext.keys (sub a (.tail _ ha))
     .exact List.mem_of_mem_drop ha
    .rw[List.length_append,List.length_drop];omega
    .rw[eT];exact er
end
end K67
namespace Tr
theorem iteNN{c A B:Prop}[Decidable c](hc:¬c)(h:A):if (!decide c)=true then A else B:=by
 rw[decide_eq_false hc];exact h
theorem scan_hit{root p y:Int}{par:Int->Option Int}{nb:Int->List Int}{L:List (Int×Int)}{T:Ts}(h:(nb p).find? (λy=>decide (y≠root/\par y=none))=some y):scanM root par nb ((p,L)::T)=some (root::flat L++[y]):=by
 show(match (nb p).find? (λy=>decide (y≠root/\par y=none)) with|some y=>some (root::flat L++[y])|none=>scanM root par nb T)=_;rw[h]
theorem scan_no{root p:Int}{par:Int->Option Int}{nb:Int->List Int}{L:List (Int×Int)}{T:Ts}(h:(nb p).find? (λy=>decide (y≠root/\par y=none))=none):scanM root par nb ((p,L)::T)=scanM root par nb T:=by
 show(match (nb p).find? (λy=>decide (y≠root/\par y=none)) with|some y=>some (root::flat L++[y])|none=>scanM root par nb T)=_;rw[h]
theorem bet_hit{m:Nat}{par:Int->Option Int}{nb:Int->List Int}{r:Int}{rs t:List Int}(h:rowM m par nb r=some t):betM m par nb (r::rs)=some t:=by
 show(match rowM m par nb r with|some t=>some t|none=>betM m par nb rs)=_;rw[h]
theorem bet_no{m:Nat}{par:Int->Option Int}{nb:Int->List Int}{r:Int}{rs:List Int}(h:rowM m par nb r=none):betM m par nb (r::rs)=betM m par nb rs:=by
 show(match rowM m par nb r with|some t=>some t|none=>betM m par nb rs)=_;rw[h]
theorem find_first{P:Int->Bool}:∀{l:List Int}{j:Nat}{y:Int},l[j]?=some y->(∀z∈l.take j,P z=false)->P y=true->l.find? P=some y
 | a::l,0,y,e,_,h=>by
  cases(Option.some.inj e);rw[List.find?_cons,h]
 | a::l,j+1,y,e,hn,h=>by
  have ha:P a=false:=hn a (.head _);rw[List.find?_cons,ha];exact find_first (j:=j) e (λz hz=>hn z (.tail _ hz)) h
end Tr
namespace K67
open PySem L2 PyProof.Rows
section
variable{P:Program}{w:World}{K:W.Frag}{mg:Str->Option Value}{base:Heap}{C:Addr}
def Res(H:Hp)(o:Option (List Int))(Q:VK):Prop:=(∀t,o=some t->∀(l:Addr)(H':Hp),H l=none->Same H H'->H' l=some (.lst (t.map V.int))->Q (.ref l) H')/\(o=none->∀H':Hp,Same H H'->Q .non H')
def spRow(C:Addr):Sp:=λvs H Q _=>∃(x dp:Addr)(m root:Int)(U:List Mt.Tri)(ks:List (List Int))(par:Int->Option Int)(pk:List (Key×V)),vs=[.ref x,.ref dp,.int root]/\WebAt C H x m U ks/\H dp=some (.dK pk)/\Mate pk par/\Tr.Env (nbM ks) par m/\(0<=root/\root<m)/\par root=none/\Res H (Tr.rowM m.toNat par (nbM ks) root) Q
abbrev nmW:List Str:=["web","partners","root","trails","point","near"]
theorem scRow:FnScope nmW ["web","partners","root"] (defScope sRow):=⟨rfl,rfl,rfl,by decide +kernel,rfl,by decide +kernel,by decide +kernel⟩
theorem ok_row{f fG fT:Addr}{fd fdG fdT:FuncData}(F:Fun K "row_from" "row_from" sRow f fd)(T0:TxtW K mg C)
  (GG:FnOk P w K mg base CX0 3 fG fdG ["web","partners","root"] (spTrails C)) (mG:mg "trails_from"=some (.ref fG)) (kG:PySem.W.keepIn K (.ref fG)=true) (bG:Binds K fdG ["web","partners","root"] [])
  (mT:Meth K C "tied" fT) (GT:FnOk P w K mg base CX0 1 fT fdT ["self","a"] (spTied C)) (bT:Binds K fdT ["self","a"] []):FnOk P w K mg base CX0 4 f fd ["web","partners","root"] (spRow C):=by
 refine F.ok scRow (λvs H Q E h=>?_) (λcdv A outer s H vs Q E hr h=>?_)
 .obtain⟨x,dp,m,root,U,ks,par,pk,rfl,_⟩:=h;rfl
 .obtain ⟨x,dp,m,root,U,ks,par,pk,rfl,W,hdp,mate,Vn,r0,fr0,res⟩:=h;have hu:=hu_of hr;have hr1:Room 1 (A.deeper (envOfC "row_from" (defScope sRow) s.heap.objs.size f cdv)):=hr.mono (by decide);refine'⟨_,pss_cons ?s0 (pss_cons (ps_for PassesOwn.never rfl ?i1 (pg_name (i:=4) scRow.nd rfl (Or.inl rfl)) (pss_one (ps_for PassesOwn.never rfl ?i2 (pg_name (i:=5) scRow.nd rfl (Or.inl rfl)) (pss_one (ps_if ?c (pss_one ?b) pss_nil))))) (pss_one ?s2)),?_⟩
  case s0=>exact ps_set (i:=3) scRow.nd rfl (Or.inl rfl) (pe_call GG hr (by rfl) mG kG bG .nil pass0 (pa_cons (pv 0) (pa_cons (pv 1) (pa_cons (pv 2) pa_nil))))
  case i1=>exact pi_dictK (pv 3)
  case i2=>exact pi_list (pe_meth (pv 0) T0.cl mT GT hr1 bT .nil pass0 (pa_cons (pv 4) pa_nil))
  case c=>exact(pw_and (pt_cmpR op_ne (pv 5) (pv 2) (nomark _)) (pw_and1 (pt_cmp (pc_dnotin hu (pv 5) (pv 1)) (by with_unfolding_all rfl)))).pt
  case b=>exact ps_ret (pe_op op_cat (pe_dget hu (pv 3) (pv 4) (λ_ _=>rfl)) (pe_lst (pa_cons (pv 5) pa_nil)))
  case s2=>exact ps_ret pe_non
  have m24:=Vn.m24;refine⟨_,rfl,_,rfl,_,rfl,x,dp,m,root,U,ks,par,pk,rfl,W,hdp,mate,Vn,r0,fr0,λd kvs H1 hd s1 tr1=>?_⟩;have ok:Tr.Ok (nbM ks) par root (Tr.runM root par (nbM ks) m.toNat [(root,[])] [root]):=Tr.run_ok Vn.S (Tr.ok0 fr0) λa ha=>by rw[List.mem_singleton] at ha;subst ha;simp[Tr.keys]
  have eR:Tr.rowM m.toNat par (nbM ks) root=Tr.scanM root par (nbM ks) (Tr.runM root par (nbM ks) m.toNat [(root,[])] [root]):=rfl;generalize Tr.runM root par (nbM ks) m.toNat [(root,[])] [root]=T at tr1 ok eR;rw[eR] at res;trivial;refine⟨_,rfl,d,kvs,rfl,tr1.hd,λo=>?_⟩;have k2:∀b u,H1 b=some u->b≠d->upd H1 d (.frz o (.dK kvs)) b=some u:=λb u e n=>by rw[upd_ne n];exact e
  have hd2:upd H1 d (.frz o (.dK kvs)) d=some (.frz o (.dK kvs)):=upd_same;have s02:Same H (upd H1 d (.frz o (.dK kvs))):=λb u e=>k2 b u (s1 b u e) (ne_of_none e hd);have pr2:Paired (λ(q:Int×List (Int×Int))(kv:Key×V)=>kv.1=.inl q.1/\∃a,kv.2=.ref a/\upd H1 d (.frz o (.dK kvs)) a=some (.lst ((root::Tr.flat q.2).map V.int))) T kvs:=
   Paired.mapP tr1.pr λ_ _ z=>let ⟨e,a,e2,e3⟩:=z;⟨e,a,e2,k2 _ _ e3 (λq=>by subst q;rw[tr1.hd] at e3;cases e3)⟩
  have lk:=tr1.len;generalize upd H1 d (.frz o (.dK kvs))=H2 at hd2 s02 pr2 ⊢;refine for_dictK (λi σ H3=>∃e4 e5:Option V,σ=[some (.ref x),some (.ref dp),some (.int root),some (.ref d),e4,e5]/\Same H2 H3/\Tr.scanM root par (nbM ks) (T.drop i)=Tr.scanM root par (nbM ks) T) ⟨none,none,rfl,Same.refl _,rfl⟩ (λi σ H3 _ ⟨_,_,_,s3,_⟩=>s3 d _ hd2) ?_ ?_
  .rintro i k v σ H3 hi ⟨e4,e5,rfl,s3,es⟩;have hil:i<kvs.length:=(List.getElem?_eq_some_iff.mp hi).1;have hiT:i<T.length:=by omega
   obtain⟨kv',ekv,e1,_⟩:=Sx.pair_at pr2 (List.getElem?_eq_getElem hiT);rw[hi] at ekv;cases ekv;have e1:k=.inl T[i].1:=e1;subst e1;obtain⟨p,L,hq⟩:∃p L,T[i]=(p,L):=⟨_,_,rfl⟩;have hm:(p,L)∈T:=hq ▸ List.getElem_mem hiT;rw[hq];obtain⟨a,ea,ha⟩:=(trv pr2 p).1 (Tr.mem_keys hm);rw[Tr.tget_of ok.nd hm] at ha;have drp:T.drop i=(p,L)::T.drop (i+1):=by rw[List.drop_eq_getElem_cons hiT,hq]
   rw[drp] at es;obtain⟨p0,p1⟩:0<=p/\p<m:=by
    have h1:=Tr.fin_mem (x:=root) (L:=L);rw[ok.en _ _ hm] at h1;exact ok.rg Vn.R r0 hm p h1
   have s03:=s02.trans s3;have W3:=W.same s03;obtain⟨dx,d0,l1,nn,fs,qs,w1,w2,w3,w4,w5,⟨w6,w7,w8,w9⟩,_⟩:=id W3.ex;show tFor _ _ _ _ [some (.ref x),some (.ref dp),some (.int root),some (.ref d),some (.int p),e5] H3;refine⟨_,rfl,x,dx,fs,rfl,w1,w9,_,rfl,x,m,U,ks,p,rfl,W3,p0,p1,λlq nq=>?_⟩;have s4:Same H3 (upd H3 lq (.lst ((nbM ks p).map V.int))):=Same.new nq;have hq4:upd H3 lq (.lst ((nbM ks p).map V.int)) lq=some (.lst ((nbM ks p).map V.int)):=upd_same;generalize upd H3 lq (.lst ((nbM ks p).map V.int))=H4 at s4 hq4 ⊢;have s24:=s3.trans s4;refine⟨lq,rfl,⟨_,SqL.of hq4⟩,for_list (K:=K) (a:=lq) (xs:=(nbM ks p).map V.int) (λj σ H5=>∃e5:Option V,σ=[some (.ref x),some (.ref dp),some (.int root),some (.ref d),some (.int p),e5]/\Same H4 H5/\∀z∈(nbM ks p).take j,decide (z≠root/\par z=none)=false) ⟨_,rfl,Same.refl _,λz hz=>nomatch hz⟩ (λj σ H5 _ ⟨_,_,s5,_⟩=>SqL.of (s5 lq _ hq4)) ?_ ?_⟩
   .rintro j y σ H5 hj ⟨e5,rfl,s5,hno⟩;obtain⟨near,rfl,eN⟩:=map_int_at hj;have s05:=s02.trans (s24.trans s5);have more:decide (near≠root/\par near=none)=false->∀z∈(nbM ks p).take (j+1),decide (z≠root/\par z=none)=false:=λc z hz=>by
     rw[List.take_succ,eN] at hz;rcases List.mem_append.mp hz with hz|hz
     .exact hno z hz
     .have:z=near:=by simpa using hz
      rw[this];exact c
    refine⟨_,rfl,_,rfl,rfl,_,rfl,?_⟩;trivial;by_cases cr:near=root
    .refine L2.iteNS (congrArg V.int cr) (iteF ⟨_,rfl,s5,more (decide_eq_false λz=>z.1 cr)⟩)
    refine Tr.iteNN (λz=>cr (by injection z)) ?_;refine⟨_,rfl,_,rfl,dp,_,rfl,DGet.k (k:=.inl near) (s05 dp _ hdp),_,rfl,?_⟩;rw[mate near];cases pn:par near with
    | some b=>exact iteF ⟨_,rfl,s5,more (decide_eq_false λz=>by rw[pn] at z;cases z.2)⟩
    | none=>
     refine iteT ?_;have ff:(nbM ks p).find? (λy=>decide (y≠root/\par y=none))=some near:=Tr.find_first eN hno (decide_eq_true ⟨cr,pn⟩);rw[Tr.scan_hit ff] at es;have dgp:DGet H5 d (.int p) (some (.ref a)):=.inl ⟨kvs,.inl p,.inr ⟨o,(s24.trans s5) d _ hd2⟩,rfl,ea.symm⟩
     .have ha5:=(s24.trans s5) a _ ha;refine⟨_,rfl,_,rfl,d,.ref a,rfl,dgp,_,rfl,(by show 1<=sizeLine;decide),λp2 n2=>?_⟩;have s6:Same H5 (upd H5 p2 (.lst [.int near])):=Same.new n2;have h6:upd H5 p2 (.lst [.int near]) p2=some (.lst ([near].map V.int)):=upd_same;dsimp only;generalize upd H5 p2 (.lst [.int near])=H6 at s6 h6 ⊢;have fl:=ok.flen Vn r0 hm;refine⟨a,p2,_,_,rfl,rfl,s6 a _ ha5,h6,Nat.le_of_lt (small1000 (by rw[List.length_map,List.length_cons];show _+1+1<=_;omega)),λp3 n3=>?_⟩;rw[<-List.map_append];have s07:=s05.trans s6;exact res.1 _ es.symm p3 _ (s07.free n3) (s07.trans (Same.new n3)) upd_same
   .rintro σ H5 ⟨e5,rfl,s5,hno⟩;rw[List.length_map,List.take_length] at hno;have ff:(nbM ks p).find? (λy=>decide (y≠root/\par y=none))=none:=List.find?_eq_none.mpr λz hz=>by rw[hno z hz];exact Bool.false_ne_true
    rw[Tr.scan_no ff] at es;exact⟨_,_,rfl,s24.trans s5,es⟩
  .rintro σ H3 ⟨e4,e5,rfl,s3,es⟩;rw[List.drop_eq_nil_of_le (by omega)] at es;exact res.2 es.symm H3 (s02.trans s3)
def spBetter(C:Addr):Sp:=λvs H Q _=>∃(x q:Addr)(m:Int)(U:List Mt.Tri)(ks:List (List Int))(qs:List Addr)(ps:List (List Int))(par:Int->Option Int),vs=[.ref x,.ref q]/\WebAt C H x m U ks/\H q=some (.lst (qs.map V.ref))/\TupsH H qs ps/\Two ps/\ps.length<=200/\Mate (prtP ps) par/\Tr.Env (nbM ks) par m/\Res H (Tr.betM m.toNat par (nbM ks) (lftP ps m.toNat)) Q
abbrev nmE:List Str:=["web","pairs","partners","root","row"]
theorem scBetter:FnScope nmE ["web","pairs"] (defScope sBetter):=⟨rfl,rfl,rfl,by decide +kernel,rfl,by decide +kernel,by decide +kernel⟩
theorem lftP_mem{ps:List (List Int)}{n:Nat}{x:Int}(h:x∈lftP ps n):(0<=x/\x<n)/\valV (prtP ps) (.inl x)=none:=by
 unfold lftP at h;rw[List.mem_filter] at h;obtain⟨h1,h2⟩:=h;obtain⟨i,hi,rfl⟩:=List.mem_map.mp h1;have:=List.mem_range.mp hi;refine⟨by omega,?_⟩;cases e:valV (prtP ps) (.inl (i:Int)) with
 | none=>rfl
 | some v=>rw[e] at h2;cases h2
theorem ok_better{f fP fL fR:Addr}{fd fdP fdL fdR:FuncData}(F:Fun K "better" "better" sBetter f fd)
  (GP:FnOk P w K mg base CX0 1 fP fdP ["pairs"] spPart) (mP:mg "partners_of"=some (.ref fP)) (kP:PySem.W.keepIn K (.ref fP)=true) (bP:Binds K fdP ["pairs"] [])
  (GL:FnOk P w K mg base CX0 2 fL fdL ["web","pairs"] (spLeft C)) (mL:mg "left"=some (.ref fL)) (kL:PySem.W.keepIn K (.ref fL)=true) (bL:Binds K fdL ["web","pairs"] [])
  (GR:FnOk P w K mg base CX0 4 fR fdR ["web","partners","root"] (spRow C)) (mR:mg "row_from"=some (.ref fR)) (kR:PySem.W.keepIn K (.ref fR)=true) (bR:Binds K fdR ["web","partners","root"] []):FnOk P w K mg base CX0 5 f fd ["web","pairs"] (spBetter C):=by
 refine F.ok scBetter (λvs H Q E h=>?_) (λcdv A outer s H vs Q E hr h=>?_)
 .obtain⟨x,q,m,U,ks,qs,ps,par,rfl,_⟩:=h;rfl
 .obtain ⟨x,q,m,U,ks,qs,ps,par,rfl,W,hq,hP,h2,lP,mate,Vn,res⟩:=h;have hu:=hu_of hr;have hr1:Room 1 (A.deeper (envOfC "better" (defScope sBetter) s.heap.objs.size f cdv)):=hr.mono (by decide);have hr2:Room 2 (A.deeper (envOfC "better" (defScope sBetter) s.heap.objs.size f cdv)):=hr.mono (by decide);refine'⟨_,pss_cons ?s0 (pss_cons (ps_for PassesOwn.never rfl ?i (pg_name (i:=3) scBetter.nd rfl (Or.inl rfl)) (pss_cons ?b0 (pss_one ?b1))) (pss_one (ps_ret pe_non))),?_⟩
  case s0=>exact ps_set (i:=2) scBetter.nd rfl (Or.inl rfl) (pe_call GP hr1 (by rfl) mP kP bP .nil pass0 (pa_cons (pv 1) pa_nil))
  case i=>exact pi_list (pe_call GL hr2 (by rfl) mL kL bL .nil pass0 (pa_cons (pv 0) (pa_cons (pv 1) pa_nil)))
  case b0=>exact ps_set (i:=4) scBetter.nd rfl (Or.inl rfl) (pe_call GR hr (by rfl) mR kR bR .nil pass0 (pa_cons (pv 0) (pa_cons (pv 2) (pa_cons (pv 3) pa_nil))))
  case b1=>exact ps_if (pt_cmp (pc_notN (pv 4)) (by with_unfolding_all rfl)) (pss_one (ps_ret (pv 4))) pss_nil
  have m24:=Vn.m24;refine⟨_,rfl,q,qs,ps,rfl,hq,hP,h2,lP,λdp H1 hdp s1 h1=>?_⟩;trivial;refine⟨_,rfl,_,rfl,x,q,m,U,ks,qs,ps,rfl,W.same s1,s1 q _ hq,TupsH.same s1 hP,h2,lP,λl H2 hl s2 hl2=>?_⟩;have s02:=s1.trans s2;have hdp2:=s2 dp _ h1;have memL:∀r∈lftP ps m.toNat,(0<=r/\r<m)/\par r=none:=λr hm=>by
   obtain⟨a,b⟩:=lftP_mem hm;rw[mate r] at b;refine⟨by omega,?_⟩;cases e:par r with
   | none=>rfl
   | some y=>rw[e] at b;cases b
  generalize lftP ps m.toNat=ls at hl2 memL res;refine⟨l,rfl,⟨_,SqL.of hl2⟩,for_list (K:=K) (a:=l) (xs:=ls.map V.int) (λi σ H3=>∃e3 e4:Option V,σ=[some (.ref x),some (.ref q),some (.ref dp),e3,e4]/\Same H2 H3/\Tr.betM m.toNat par (nbM ks) (ls.drop i)=Tr.betM m.toNat par (nbM ks) ls) ⟨none,none,rfl,Same.refl _,rfl⟩ (λi σ H3 _ ⟨_,_,_,s3,_⟩=>SqL.of (s3 l _ hl2)) ?_ ?_⟩
  .rintro i y σ H3 hi ⟨e3,e4,rfl,s3,es⟩;obtain⟨r,rfl,eN⟩:=map_int_at hi;have hil:i<ls.length:=(List.getElem?_eq_some_iff.mp eN).1;have drp:ls.drop i=r::ls.drop (i+1):=by
    rw[List.drop_eq_getElem_cons hil]
    congr 1
    rw[List.getElem?_eq_getElem hil] at eN;exact Option.some.inj eN
   rw[drp] at es;obtain⟨r0,fr0⟩:=memL r (List.mem_of_getElem? eN);have s03:=s02.trans s3;trivial;refine⟨_,rfl,_,rfl,_,rfl,x,dp,m,r,U,ks,par,prtP ps,rfl,W.same s03,s3 dp _ hdp2,mate,Vn,r0,fr0,λt et lt H4 nlt s4 hlt=>?_,λen H4 s4=>?_⟩
   .rw[Tr.bet_hit et] at es;trivial;refine⟨_,rfl,_,rfl,iteT ⟨_,rfl,?_⟩⟩;exact res.1 t es.symm lt H4 (s03.free nlt) (s03.trans s4) hlt
   .rw[Tr.bet_no en] at es;trivial;exact⟨_,rfl,_,rfl,iteF ⟨_,_,rfl,s3.trans s4,es⟩⟩
  .rintro σ H3 ⟨e3,e4,rfl,s3,es⟩;rw[List.length_map,List.drop_length] at es;exact res.2 es.symm H3 (s02.trans s3)
end
end K67
namespace L2
open PySem PySem.Spec PyProof.Rows
theorem op_notInTK{X:Cx}(K:W.Frag)(h:X.K=K)(hu:X.A.units+1<cLine):OpR X (compareOp .NotIn) (λx y H Q=>∃b t p rs ts,x=.ref b/\H b=some (.tup (t.map V.int))/\y=.ref p/\SqL K H p (rs.map V.ref)/\TupsH H rs ts/\Q (.bl (!ts.any λu=>decide (u=t))) H):=by subst h;exact op_notInT hu
theorem paired_app{α β:Type}{F:α->β->Prop}{l l':List α}{m m':List β}(h:Paired F l m)(g:Paired F l' m'):Paired F (l++l') (m++m'):=by
 induction h with
 | nil=>exact g
 | cons r _ ih=>exact .cons r ih
end L2
namespace K67
open PySem L2 PyProof.Rows
section
variable{P:Program}{w:World}{K:W.Frag}{mg:Str->Option Value}{base:Heap}
def spAlong(K:W.Frag):Sp:=λvs H Q _=>∃(p:Addr)(t:List Int),vs=[.ref p]/\SqL K H p (t.map V.int)/\t.length<=200/\∀(l:Addr)(zs:List Addr)(H':Hp),H l=none->Same H H'->H' l=some (.lst (zs.map V.ref))->TupsH H' zs (alg t)->Q (.ref l) H'
theorem scAlong:FnScope ["points"] ["points"] (defScope sAlong):=⟨rfl,rfl,rfl,by decide +kernel,rfl,by decide +kernel,by decide +kernel⟩
theorem nd_ab:([".0","a","b"]:List Str).Nodup:=by decide +kernel
theorem ok_along{f fO:Addr}{fd fdO:FuncData}(F:Fun K "ties_along" "ties_along" sAlong f fd)(gzip:mg "zip"=none)
  (GO:FnOk P w K mg base CX0 1 fO fdO ["a","b"] spOrd) (mO:mg "ordered"=some (.ref fO)) (kO:PySem.W.keepIn K (.ref fO)=true) (bO:Binds K fdO ["a","b"] []):FnOk P w K mg base CX0 2 f fd ["points"] (spAlong K):=by
 refine F.ok scAlong (λvs H Q E h=>?_) (λcdv A outer s H vs Q E hr h=>?_)
 .obtain⟨p,t,rfl,_⟩:=h;rfl
 .obtain ⟨p,t,rfl,hp,lt,hQ⟩:=h;refine'⟨_,pss_one (ps_ret ?cc),?_⟩
  case cc=>exact pe_comp (g:=gTup K 2 (gCons (gName 1) (gCons (gName 2) gNil))) (own:=[".0","a","b"]) (cl:=[]) (caps:=[]) (js:=[]) rfl (caps0 rfl rfl (by decide +kernel) (by decide +kernel)) (pi_zip (by rfl) gzip (pa_cons (pv 0) (pa_cons (pe_slice sl_list (pv 0) (po_some pe_int) po_none) pa_nil))) (λpins C s H1 fp=>pg_tup (n:=2) rfl (pgs_cons (pg_name (i:=1) nd_ab rfl (Or.inl rfl)) (pgs_cons (pg_name (i:=2) nd_ab rfl (Or.inl rfl)) pgs_nil))) (λpins C s H1 fp=>pts_nil) (λpins C s H1 fp=>pe_call GO hr rfl mO kO bO .nil pass0 (pa_cons (pv 1) (pa_cons (pv 2) pa_nil)))
  refine⟨_,rfl,_,rfl,_,rfl,p,_,rfl,hp,λl1 h1=>?_⟩;rw[cut_map,cutA_drop _ (by decide)];have s1:Same H (upd H l1 (.lst ((t.drop (1:Int).toNat).map V.int))):=Same.new h1;have hl1:upd H l1 (.lst ((t.drop (1:Int).toNat).map V.int)) l1=some (.lst ((t.drop 1).map V.int)):=upd_same;generalize upd H l1 (.lst ((t.drop (1:Int).toNat).map V.int))=H1 at s1 hl1 ⊢;refine⟨p,l1,rfl,⟨_,s1.seq hp⟩,⟨_,SqL.of hl1⟩,λD hD=>?_⟩;refine turns_zip (K:=K) (xs:=t.map V.int) (ys:=(t.drop 1).map V.int) (n:=t.length-1) (λi ys σ H2=>∃(zs:List Addr)(e0 e1 e2:Option V),ys=zs.map V.ref/\i<=t.length-1/\σ=[e0,e1,e2]/\Same H1 H2/\H2 D=some (.lst ys)/\TupsH H2 zs ((alg t).take i)) (by rw[List.length_map];omega) (by rw[List.length_map,List.length_drop];exact Nat.le_refl _) (.inr (by rw[List.length_map,List.length_drop];exact Nat.le_refl _)) ⟨[],none,none,none,rfl,Nat.zero_le _,rfl,Same.new hD,upd_same,.nil⟩ ?_ ?_ ?_
  .rintro i ys σ H2 ⟨zs,e0,e1,e2,rfl,li,rfl,s2,h2,hz⟩;refine⟨h2,small1000 ?_,s2.seq (s1.seq hp),SqL.of (s2 l1 _ hl1)⟩;have:=Paired.length hz;rw[List.length_take,alg_len] at this;rw[List.length_map];omega
  .rintro i x y q ys σ H2 hx hy hi ⟨zs,e0,e1,e2,rfl,li,rfl,s2,h2,hz⟩ hq;obtain⟨a,rfl,ea⟩:=map_int_at hx;obtain⟨b,rfl,eb⟩:=map_int_at hy;rw[List.getElem?_drop] at eb;have ga:t.getD i 0=a:=by simp[ea]
   have gb:t.getD (i+1) 0=b:=by rw[Nat.add_comm] at eb;simp[eb]
   have gp:=alg_get t i (by omega);rw[ga,gb] at gp;have s3:Same H2 (upd H2 q (.tup [.int a,.int b])):=Same.new hq;refine⟨q,_,rfl,SqT.of upd_same,rfl,_,_,rfl,_,_,rfl,rfl,?_⟩;dsimp only;refine yes_of ?_;refine⟨_,rfl,_,rfl,a,b,rfl,λy hy'=>?_⟩;have s4:=s3.trans (Same.new (o:=.tup [.int (Mt.lo a b),.int (Mt.hi a b)]) hy');have h4:=s4 D _ h2;have nDy:D≠y:=ne_of_none (s3 D _ h2) hy';refine⟨h4,Nxt.mk hi ⟨zs++[y],_,_,_,by rw[List.map_append];rfl,hi,rfl,λc o e=>?_,upd_same,?_⟩⟩
   .rw[upd_ne (ne_of_none e hD)];exact s4 c o (s2 c o e)
   .rw[List.take_succ,gp];refine paired_snoc (TupsH.at' hz λc xs e=>?_) ⟨?_,λz=>by cases z⟩
    .rw[upd_ne (ne_of e h2 (by intro z;cases z))];exact s4 c _ e
    .rw[upd_ne nDy.symm];exact upd_same
  .rintro ys σ0 H2 ⟨zs,e0,e1,e2,rfl,li,rfl,s2,h2,hz⟩;rw[<-alg_len,List.take_length] at hz;exact hQ D zs H2 (s1.free hD) (s1.trans s2) h2 hz
def spOnly:Sp:=λvs H Q _=>∃(p q:Addr)(rs qs:List Addr)(ts us:List (List Int)),vs=[.ref p,.ref q]/\H p=some (.lst (rs.map V.ref))/\H q=some (.lst (qs.map V.ref))/\TupsH H rs ts/\TupsH H qs us/\ts.length<=400 ∧
 ∀(l:Addr)(zs:List Addr)(H':Hp),H l=none->Same H H'->H' l=some (.lst (zs.map V.ref))->TupsH H' zs (onl ts us)->Q (.ref l) H'
abbrev nmY:List Str:=["one","other"]
theorem scOnly:FnScope nmY ["one","other"] (defScope sOnly):=⟨rfl,rfl,rfl,by decide +kernel,rfl,by decide +kernel,by decide +kernel⟩
abbrev XY(P:Program)(w:World)(K:W.Frag)(mg:Str->Option Value)(base:Heap)(f:Addr)(cdv:Value)(A:Around)(outer:List Env)(s:Shared)(H:Hp)(E:XK):Cx:=(cxOf CX0 P w K mg base nmY "only_in" (defScope sOnly) f cdv A outer s H E).nox
def compY:Scope:={kind:=.function,names:=[(Str.ofString ".0",.local),(Str.ofString "tie",.local),(Str.ofString "other",.free)],isGenerator:=false,isCoroutine:=false,more:=[]}
theorem nd_compY:([".0","tie","other"]:List Str).Nodup:=by decide +kernel
theorem capsY{f:Addr}{cdv:Value}{A:Around}{outer:List Env}{s:Shared}{H:Hp}{E:XK}:Caps (XY P w K mg base f cdv A outer s H E) compY [(Str.ofString "other",s.heap.objs.size+1)] [".0","tie"] ["other"] [1]:=caps_of (sc:=defScope sOnly) (N:=nmY) rfl rfl rfl rfl rfl rfl rfl (by decide +kernel)
theorem onl_snoc(ts us:List (List Int))(t:List Int):onl (ts++[t]) us=onl ts us++(if (!us.any λu=>decide (u=t))=true then [t] else []):=by
 unfold onl;rw[List.filter_append]
 congr 1
 rw[List.filter_cons];rfl
theorem onl_len(ts us:List (List Int)):(onl ts us).length<=ts.length:=List.length_filter_le _ _
theorem ok_only{f:Addr}{fd:FuncData}(F:Fun K "only_in" "only_in" sOnly f fd):FnOk P w K mg base CX0 1 f fd ["one","other"] spOnly:=by
 refine F.ok scOnly (λvs H Q E h=>?_) (λcdv A outer s H vs Q E hr h=>?_)
 .obtain⟨p,q,rs,qs,ts,us,rfl,_⟩:=h;rfl
 .obtain ⟨p,q,rs,qs,ts,us,rfl,hp,hq,hT,hU,lt,hQ⟩:=h;have hu:=hu_of hr;have lrs:=Paired.length hT;refine'⟨_,pss_one (ps_ret ?cc),?_⟩
  case cc=>exact pe_comp (g:=gName 1) (own:=[".0","tie"]) (caps:=["other"]) (js:=[1]) rfl capsY (pi_list (pv 0)) (λpins C s H1 fp=>pg_name (i:=1) nd_compY rfl (Or.inl rfl) (Or.inr rfl)) (λpins C s H1 fp=>pts_one (pt_cmpR (op_notInTK K rfl hu) (pv 1) (pv 2) (by with_unfolding_all rfl))) (λpins C s H1 fp=>pv 1)
  refine⟨_,rfl,p,rfl,⟨_,SqL.of hp⟩,λD hD=>?_⟩;refine turns_list (K:=K) (a:=p) (xs:=rs.map V.ref) (λi ys σ H2=>∃(zs:List Addr)(e0 e1:Option V),ys=zs.map V.ref/\σ=[e0,e1,some (.ref q)]/\Same H H2/\H2 D=some (.lst ys)/\TupsH H2 zs (onl (ts.take i) us)) ⟨[],none,none,rfl,rfl,Same.new hD,upd_same,.nil⟩ ?_ ?_ ?_
  .rintro i ys σ H2 ⟨zs,e0,e1,rfl,rfl,s2,h2,hz⟩;refine⟨h2,small1000 ?_,SqL.of (s2 p _ hp)⟩;have:=Paired.length hz;have h3:=onl_len (ts.take i) us;rw[List.length_take] at h3;rw[List.length_map];omega
  .rintro i y ys σ H2 hi ⟨zs,e0,e1,rfl,rfl,s2,h2,hz⟩;have hil:i<(rs.map V.ref).length:=(List.getElem?_eq_some_iff.mp hi).1;obtain⟨r,t,rfl,et,hr2⟩:=tup_at (TupsH.same s2 hT) hi;have tn:t≠[]:=by
    obtain⟨r',er⟩:∃r',rs[i]?=some r':=⟨rs[i]'(by rw[List.length_map] at hil;exact hil),by simp⟩;obtain⟨t',et',_,hne⟩:=Sx.pair_at (i:=i) (a:=r') hT er;rw[et] at et';cases et';exact hne
   have es:=onl_snoc (ts.take i) us t;have tk:ts.take (i+1)=ts.take i++[t]:=by rw[List.take_succ,et];rfl
   unfold gName;dsimp only;refine⟨_,rfl,_,rfl,r,t,q,qs,us,rfl,hr2,rfl,SqL.of (s2 q _ hq),TupsH.same s2 hU,_,rfl,?_⟩;refine ite2 (λc=>?_) (λc=>?_)
   .rw [if_pos c] at es;refine⟨_,rfl,h2,Nxt.mk hil ⟨zs++[r],_,_,by rw[List.map_append];rfl,rfl,λb o e=>?_,upd_same,?_⟩⟩
    .rw[upd_ne (ne_of_none e hD)];exact s2 b o e
    .rw[tk,es];refine paired_snoc (TupsH.at' hz λb xs e=>?_) ⟨?_,tn⟩
     .rw[upd_ne (ne_of e h2 (by intro z;cases z))];exact e
     .rw[upd_ne (ne_of hr2 h2 (by intro z;cases z))];exact hr2
   .rw[if_neg c,List.append_nil] at es;exact Nxt.mk hil ⟨zs,_,_,rfl,rfl,s2,h2,by rw[tk,es];exact hz⟩
  .rintro ys σ0 H2 ⟨zs,e0,e1,rfl,rfl,s2,h2,hz⟩;rw[List.length_map,lrs,List.take_length] at hz;exact hQ D zs H2 hD s2 h2 hz
def spXch:Sp:=λvs H Q _=>∃(p q:Addr)(rs qs:List Addr)(ps ts:List (List Int)),vs=[.ref p,.ref q]/\H p=some (.lst (rs.map V.ref))/\H q=some (.lst (qs.map V.ref))/\TupsH H rs ps/\TupsH H qs ts/\ps.length<=200/\ts.length<=200 ∧
 ∀(l:Addr)(zs:List Addr)(us:List (List Int))(H':Hp),H l=none->Same H H'->H' l=some (.lst (zs.map V.ref))->TupsH H' zs us->us.Perm (xch ps ts)->(us.Pairwise λa b=>HT.lexLt b a=false)->Q (.ref l) H'
theorem scXch:FnScope ["pairs","ties"] ["pairs","ties"] (defScope sXch):=⟨rfl,rfl,rfl,by decide +kernel,rfl,by decide +kernel,by decide +kernel⟩
theorem ok_xch{f f1:Addr}{fd fd1:FuncData}(F:Fun K "exchanged_ties" "exchanged_ties" sXch f fd)(gsrt:mg "sorted"=none)
  (G1:FnOk P w K mg base CX0 1 f1 fd1 ["one","other"] spOnly) (m1:mg "only_in"=some (.ref f1)) (k1:PySem.W.keepIn K (.ref f1)=true) (b1:Binds K fd1 ["one","other"] []):FnOk P w K mg base CX0 2 f fd ["pairs","ties"] spXch:=by
 refine F.ok scXch (λvs H Q E h=>?_) (λcdv A outer s H vs Q E hr h=>?_)
 .obtain⟨p,q,rs,qs,ps,ts,rfl,_⟩:=h;rfl
 .obtain⟨p,q,rs,qs,ps,ts,rfl,hp,hq,hP,hT,lp,lt,hQ⟩:=h;refine⟨_,pss_one (ps_ret (pe_callB call_sortedLB (by rfl) gsrt boot_sorted (pa_cons (pe_op op_cat (pe_call G1 hr (by rfl) m1 k1 b1 .nil pass0 (pa_cons (pv 0) (pa_cons (pv 1) pa_nil))) (pe_call G1 hr (by rfl) m1 k1 b1 .nil pass0 (pa_cons (pv 1) (pa_cons (pv 0) pa_nil)))) pa_nil))),?_⟩;refine⟨_,rfl,_,rfl,p,q,rs,qs,ps,ts,rfl,hp,hq,hP,hT,by omega,λl1 z1 H1 hl1 s1 h1 hz1=>?_⟩;refine⟨_,rfl,_,rfl,q,p,qs,rs,ts,ps,rfl,s1 q _ hq,s1 p _ hp,TupsH.same s1 hT,TupsH.same s1 hP,by omega,λl2 z2 H2 hl2 s2 h2 hz2=>?_⟩;have lz1:=Paired.length hz1;have lz2:=Paired.length hz2;have o1:=onl_len ps ts;have o2:=onl_len ts ps;refine⟨l1,l2,_,_,rfl,rfl,s2 l1 _ h1,h2,Nat.le_of_lt (small1000 (by rw[List.length_map,List.length_map];omega)),λl3 hl3=>?_⟩;rw[<-List.map_append];have s3:=Same.new (o:=.lst ((z1++z2).map V.ref)) hl3;have hz3:TupsH (upd H2 l3 (.lst ((z1++z2).map V.ref))) (z1++z2) (xch ps ts):=paired_app (TupsH.same (s2.trans s3) hz1) (TupsH.same s3 hz2);refine⟨l3,z1++z2,xch ps ts,rfl,SqL.of upd_same,by rw[List.length_append];omega,hz3,λzs us l4 hS hl4=>?_⟩;obtain⟨hzs,hperm,_⟩:=hz3.sorted hS;have s4:=Same.new (o:=.lst (zs.map V.ref)) hl4;exact hQ l4 zs us _ ((s1.trans (s2.trans s3)).free hl4) (s1.trans (s2.trans (s3.trans s4))) upd_same (TupsH.same s4 hzs) hperm hS.ord
def spExch:Sp:=λvs H Q _=>∃(p q:Addr)(rs:List Addr)(ps:List (List Int))(t:List Int),vs=[.ref p,.ref q]/\H p=some (.lst (rs.map V.ref))/\H q=some (.lst (t.map V.int))/\TupsH H rs ps/\ps.length<=200/\t.length<=200 ∧
 ∀(l:Addr)(zs:List Addr)(us:List (List Int))(H':Hp),H l=none->Same H H'->H' l=some (.lst (zs.map V.ref))->TupsH H' zs us->us.Perm (xch ps (alg t))->(us.Pairwise λa b=>HT.lexLt b a=false)->Q (.ref l) H'
theorem scExch:FnScope ["pairs","row"] ["pairs","row"] (defScope sExch):=⟨rfl,rfl,rfl,by decide +kernel,rfl,by decide +kernel,by decide +kernel⟩
theorem ok_exch{f f1 f2:Addr}{fd fd1 fd2:FuncData}(F:Fun K "exchanged" "exchanged" sExch f fd)
  (G1:FnOk P w K mg base CX0 2 f1 fd1 ["pairs","ties"] spXch) (m1:mg "exchanged_ties"=some (.ref f1)) (k1:PySem.W.keepIn K (.ref f1)=true) (b1:Binds K fd1 ["pairs","ties"] [])
  (G2:FnOk P w K mg base CX0 2 f2 fd2 ["points"] (spAlong K)) (m2:mg "ties_along"=some (.ref f2)) (k2:PySem.W.keepIn K (.ref f2)=true) (b2:Binds K fd2 ["points"] []):FnOk P w K mg base CX0 3 f fd ["pairs","row"] spExch:=by
 refine F.ok scExch (λvs H Q E h=>?_) (λcdv A outer s H vs Q E hr h=>?_)
 .obtain⟨p,q,rs,ps,t,rfl,_⟩:=h;rfl
 .obtain⟨p,q,rs,ps,t,rfl,hp,hq,hP,lp,lt,hQ⟩:=h;refine⟨_,pss_one (ps_ret (pe_call G1 hr (by rfl) m1 k1 b1 .nil pass0 (pa_cons (pv 0) (pa_cons (pe_call G2 hr (by rfl) m2 k2 b2 .nil pass0 (pa_cons (pv 1) pa_nil)) pa_nil)))),?_⟩;refine⟨_,rfl,_,rfl,q,t,rfl,SqL.of hq,lt,λl1 z1 H1 hl1 s1 h1 hz1=>?_⟩;have la:=alg_len t;refine⟨p,l1,rs,z1,ps,alg t,rfl,s1 p _ hp,h1,TupsH.same s1 hP,hz1,lp,by omega,λl zs us H2 hl s2 h2 hz2 pm sm=>?_⟩;exact hQ l zs us H2 (s1.free hl) (s1.trans s2) h2 hz2 pm sm
end
end K67
namespace Mt
theorem scan_okA{m:Int}:∀{T:List Tri}{seen:List (List Int)},(seen++T.map key).Nodup->(∀t∈T,¬bad m t.1 t.2.1)->scan m T seen=.good
 | [],_,_,_=>rfl
 | t::T,seen,nd,h=>by
  have hb:=h t (.head _);have hs:key t∉seen:=λz=>by
   rw[List.map_cons,List.nodup_append] at nd;exact nd.2.2 _ z _ (.head _) rfl
  unfold scan;rw[if_neg hb,if_neg (by rw[List.any_eq_true];rintro⟨k,hk,e⟩;have e:=of_decide_eq_true e;exact hs (e ▸ hk))];refine scan_okA ?_ λu hu=>h u (.tail _ hu);rw[List.append_assoc];exact nd
end Mt
namespace K67
open PySem L2 PyProof.Rows
theorem lo_c(a b:Int):Mt.lo a b=Mt.lo b a:=by unfold Mt.lo;split<;>split<;>omega
theorem hi_c(a b:Int):Mt.hi a b=Mt.hi b a:=by unfold Mt.hi;split<;>split<;>omega
def Both(kvs:List (List Key×V))(T:List Mt.Tri):Prop:=∀x y:Int,(valV kvs ([x,y].map Sum.inl)).isSome=true↔[Mt.lo x y,Mt.hi x y]∈T.map Mt.key
structure MateOk(kvs:List (Key×V))(par:Int->Option Int)(T:List Mt.Tri):Prop where
 mate:Mate kvs par
 sym:∀{x y:Int},par x=some y->par y=some x
 tie:∀{x y:Int},par x=some y->x≠y/\[Mt.lo x y,Mt.hi x y]∈T.map Mt.key
 ks:∃xs:List Int,kvs.map (·.1)=xs.map Sum.inl/\xs.Nodup
theorem MateOk.nil(T:List Mt.Tri):MateOk [] (λ_=>none) T:=⟨λ_=>rfl,λh=>(nomatch h),λh=>(nomatch h),[],rfl,List.nodup_nil⟩
theorem bet_len{nb:Int->List Int}{par:Int->Option Int}{m:Int}{t:List Int}(h:Tr.Bet nb par m t)(m24:m<=24):t.length<=24:=by
 have:=Tr.nd_le m.toNat t h.nd λx hx=>by have:=h.rg x hx;omega
 omega
theorem prt_val{par:Int->Option Int}:∀(ps:List (List Int)),(∀p∈ps,∃a b:Int,p=[a,b]/\par a=some b/\par b=some a)->∀x:Int,valV (prtP ps) (.inl x)=none\/valV (prtP ps) (.inl x)=(par x).map V.int:=by
 have key:∀(n:Nat)(ps:List (List Int)),ps.length=n->(∀p∈ps,∃a b:Int,p=[a,b]/\par a=some b/\par b=some a)->∀x:Int,valV (prtP ps) (.inl x)=none\/valV (prtP ps) (.inl x)=(par x).map V.int:=by
  intro n
  induction n with
  | zero=>
   intro ps hl _ x;cases ps with
   | nil=>exact .inl rfl
   | cons _ _=>exact nomatch hl
  | succ n ih=>
   intro ps hl h x;rcases List.eq_nil_or_concat ps with e|⟨qs,q,e⟩
   .subst e;exact nomatch hl
   .rw [List.concat_eq_append] at e;subst e;obtain⟨a,b,rfl,ha,hb⟩:=h q (by simp);rw[prtP_snoc,valV_put,valV_put];by_cases c1:x=b
    .subst c1;rw[if_pos rfl,hb];exact .inr rfl
    .rw [if_neg (λz=>c1 (by injection z))];by_cases c2:x=a
     .subst c2;rw[if_pos rfl,ha];exact .inr rfl
     .rw[if_neg (λz=>c2 (by injection z))];exact ih qs (by rw[List.length_append] at hl;exact Nat.succ.inj hl) (λp hp=>h p (List.mem_append_left _ hp)) x
 exact λps=>key _ ps rfl
section
variable{C:Addr}{H:Hp}{p:Addr}{m:Int}{T:List Mt.Tri}{ks:List (List Int)}
theorem WebAt.pair(W:WebAt C H p m T ks):∀k∈ks,∃x y,k=[x,y]/\0<=x/\x<y/\y<m:=λk hk=>by
 obtain⟨t,ht,rfl⟩:=List.mem_map.mp (W.pm.mem_iff.mp hk);have:=(Mt.scan_good W.ok List.nodup_nil).2 t ht;have r:=Mt.key_range (m:=m) (t:=t) this;exact⟨_,_,rfl,r.1,r.2.1,r.2.2⟩
theorem nb_mem(W:WebAt C H p m T ks){x y:Int}:y∈nbM ks x↔[x,y]∈ks\/[y,x]∈ks:=by
 unfold nbM;rw[List.mem_flatMap];constructor
 .rintro ⟨k,hk,hy⟩;obtain⟨a,b,rfl,_⟩:=W.pair k hk;rcases List.mem_append.mp hy with q|q
  .split at q
   .rename_i e
    rw[List.mem_singleton] at q;subst e q;exact .inl hk
   .exact nomatch q
  .split at q
   .rename_i e
    rw[List.mem_singleton] at q;subst e q;exact .inr hk
   .exact nomatch q
 .rintro(h|h)
  .exact⟨_,h,List.mem_append_left _ (by simp)⟩
  .exact⟨_,h,List.mem_append_right _ (by simp)⟩
theorem env_of(W:WebAt C H p m T ks){kvs:List (Key×V)}{par:Int->Option Int}(h:MateOk kvs par T)(m24:m<=24):Tr.Env (nbM ks) par m:=by
 have tied:∀{x y:Int},par x=some y->y∈nbM ks x:=λ{x y} e=>by
  obtain⟨ne,k⟩:=h.tie e;have k:=W.pm.mem_iff.mpr k;refine(nb_mem W).mpr ?_;rcases Int.lt_or_gt_of_ne ne with c|c
  .rw[show Mt.lo x y=x by unfold Mt.lo;split<;>omega,show Mt.hi x y=y by unfold Mt.hi;split<;>omega] at k;exact .inl k
  .rw[show Mt.lo x y=y by unfold Mt.lo;split<;>omega,show Mt.hi x y=x by unfold Mt.hi;split<;>omega] at k;exact .inr k
 have rg:∀{x y:Int},y∈nbM ks x->0<=y/\y<m:=λ{x y} e=>by
  rcases(nb_mem W).mp e with q|q
  .obtain⟨a,b,e,h0,h1,h2⟩:=W.pair _ q;cases e;omega
  .obtain⟨a,b,e,h0,h1,h2⟩:=W.pair _ q;cases e;omega
 exact⟨⟨λe=>(nb_mem W).mpr ((nb_mem W).mp e).symm,λe=>h.sym e,λe=>(h.tie e).1⟩,⟨rg,λe=>rg (tied e)⟩,m24,tied⟩
end
theorem lftP_eq{ps:List (List Int)}{par:Int->Option Int}(h:Mate (prtP ps) par)(n:Nat):lftP ps n=Tr.lft n par:=by
 unfold lftP Tr.lft;refine List.filter_congr λa _=>?_;rw[h a];cases par a with
 | none=>rfl
 | some y=>rfl
theorem chs_mate{nb:Int->List Int}{par:Int->Option Int}{ps:List (List Int)}(h:Chs ps par)(S:Tr.Sym nb par):Mate (prtP ps) par:=by
 have el:∀p∈ps,∃a b:Int,p=[a,b]/\par a=some b/\par b=some a:=λp hp=>by
  obtain⟨x,y,e,_,q⟩:=(h.mem p).mp hp;exact⟨x,y,e,q,S.mate q⟩
 intro x;rcases prt_val ps el x with e|e
 .rw[e];have nin:=(prtP_none x ps h.two).mp e;cases px:par x with
  | none=>rfl
  | some y=>exact absurd ((h.pts S).mpr (by rw[px];exact λz=>nomatch z)) nin
 .exact e
theorem env_aug{nb:Int->List Int}{par:Int->Option Int}{m:Int}{t:List Int}(Vn:Tr.Env nb par m)(B:Tr.Bet nb par m t):Tr.Env nb (Tr.aug par t) m:=by
 have A:=B.aug Vn.S (λe=>Vn.nbp e);exact⟨A.1,⟨Vn.R.nb,λe=>Vn.R.nb (A.2.1 e)⟩,Vn.m24,A.2.1⟩
theorem env_nat{nb:Int->List Int}{par:Int->Option Int}{m:Int}(Vn:Tr.Env nb par m)(m0:0<=m):Tr.Rg nb par (m.toNat:Int):=by
 rw[Int.toNat_of_nonneg m0];exact Vn.R
theorem env_bet{nb:Int->List Int}{par:Int->Option Int}{m:Int}{t:List Int}(Vn:Tr.Env nb par m)(m0:0<=m)(e:Tr.betM m.toNat par nb (Tr.lft m.toNat par)=some t):Tr.Bet nb par m t:=
 Tr.bet_bet Vn.S Vn.R (λe=>Vn.nbp e) (λr hr=>by have:=Tr.mem_lft.mp hr;exact⟨by omega,this.2⟩) e
theorem env_best{nb:Int->List Int}{par:Int->Option Int}{m:Int}(Vn:Tr.Env nb par m)(m0:0<=m)(e:Tr.betM m.toNat par nb (Tr.lft m.toNat par)=none):Tr.Best nb par m.toNat (Tr.srch m.toNat par nb):=
 Tr.best_of Vn.S (λe=>Vn.nbp e) (env_nat Vn m0) (Nat.le_refl _) e
theorem env_less{nb:Int->List Int}{par:Int->Option Int}{m:Int}{t:List Int}(Vn:Tr.Env nb par m)(m0:0<=m)(B:Tr.Bet nb par m t):(Tr.lft m.toNat (Tr.aug par t)).length+2=(Tr.lft m.toNat par).length:=
 Tr.Bet.less (m:=m.toNat) (by rw[Int.toNat_of_nonneg m0];exact B) Vn.S (λe=>Vn.nbp e)
def RowAt(H:Hp)(o:Option (List Int))(v:V):Prop:=(∃(t:List Int)(l:Addr),o=some t/\v=.ref l/\H l=some (.lst (t.map V.int)))\/(o=none/\v=.non)
theorem res_of{H:Hp}{o:Option (List Int)}{Q:VK}(h:∀(v:V)(H':Hp),Same H H'->RowAt H' o v->Q v H'):Res H o Q:=
 ⟨λt et l H' _ s hl=>h (.ref l) H' s (.inl ⟨t,l,et,rfl,hl⟩),λen H' s=>h .non H' s (.inr ⟨en,rfl⟩)⟩
section
variable{P:Program}{w:World}{K:W.Frag}{mg:Str->Option Value}{base:Heap}{C:Addr}
def spMost(C:Addr):Sp:=λvs H Q _=>∃(x:Addr)(m:Int)(U:List Mt.Tri)(ks:List (List Int)),vs=[.ref x]/\WebAt C H x m U ks/\0<=m/\m<=24 ∧
 ∀(l:Addr)(zs:List Addr)(ps:List (List Int))(par:Int->Option Int)(H':Hp),H l=none->Same H H'->H' l=some (.lst (zs.map V.ref))->TupsH H' zs ps->Chs ps par->(ps.Pairwise λa b=>HT.lexLt b a=false)->Tr.Best (nbM ks) par m.toNat (Tr.srch m.toNat par (nbM ks))->Q (.ref l) H'
theorem scMost:FnScope ["web","pairs","row"] ["web"] (defScope sMost):=⟨rfl,rfl,rfl,by decide +kernel,rfl,by decide +kernel,by decide +kernel⟩
theorem ok_most{f fB fE:Addr}{fd fdB fdE:FuncData}(F:Fun K "most" "most" sMost f fd)
  (GB:FnOk P w K mg base CX0 5 fB fdB ["web","pairs"] (spBetter C)) (mB:mg "better"=some (.ref fB)) (kB:PySem.W.keepIn K (.ref fB)=true) (bB:Binds K fdB ["web","pairs"] [])
  (GE:FnOk P w K mg base CX0 3 fE fdE ["pairs","row"] spExch) (mE:mg "exchanged"=some (.ref fE)) (kE:PySem.W.keepIn K (.ref fE)=true) (bE:Binds K fdE ["pairs","row"] []):FnOk P w K mg base CX0 6 f fd ["web"] (spMost C):=by
 refine F.ok scMost (λvs H Q E h=>?_) (λcdv A outer s H vs Q E hr h=>?_)
 .obtain⟨x,m,U,ks,rfl,_⟩:=h;rfl
 .obtain ⟨x,m,U,ks,rfl,W,m0,m24,hQ⟩:=h;have hr3:Room 3 (A.deeper (envOfC "most" (defScope sMost) s.heap.objs.size f cdv)):=hr.mono (by decide);refine'⟨_,pss_cons ?s0 (pss_cons ?s1 (pss_cons (ps_while PassesOwn.never ?c (pss_cons ?b0 (pss_one ?b1))) (pss_one (ps_ret (pv 1))))),?_⟩
  case s0=>exact ps_set (i:=1) scMost.nd rfl (Or.inl rfl) (pe_lst pa_nil)
  case s1=>exact ps_set (i:=2) scMost.nd rfl (Or.inl rfl) (pe_call GB hr (by rfl) mB kB bB .nil pass0 (pa_cons (pv 0) (pa_cons (pv 1) pa_nil)))
  case c=>exact pt_cmp (pc_notN (pv 2)) (by with_unfolding_all rfl)
  case b0=>exact ps_set (i:=1) scMost.nd rfl (Or.inl rfl) (pe_call GE hr3 (by rfl) mE kE bE .nil pass0 (pa_cons (pv 1) (pa_cons (pv 2) pa_nil)))
  case b1=>exact ps_set (i:=2) scMost.nd rfl (Or.inl rfl) (pe_call GB hr (by rfl) mB kB bB .nil pass0 (pa_cons (pv 0) (pa_cons (pv 1) pa_nil)))
  have V0:=env_of W (MateOk.nil U) m24;have M0:=chs_mate Chs.nil V0.S;refine⟨Nat.zero_le _,λq nq=>?_⟩;have s1:Same H (upd H q (.lst [])):=Same.new nq;have hq1:upd H q (.lst []) q=some (.lst (([]:List Addr).map V.ref)):=upd_same;trivial;generalize upd H q (.lst [])=H1 at s1 hq1 ⊢;refine⟨_,rfl,_,rfl,x,q,m,U,ks,[],[],λ_=>none,rfl,W.same s1,hq1,.nil,Chs.nil.two,Nat.zero_le _,M0,V0,res_of λv H2 s2 rv=>?_⟩;rw[lftP_eq M0] at rv;trivial;refine⟨λn σ H4=>∃(q:Addr)(qs:List Addr)(ps:List (List Int))(par:Int->Option Int)(v:V),σ=[some (.ref x),some (.ref q),some v]/\Same H H4/\H q=none/\H4 q=some (.lst (qs.map V.ref))/\TupsH H4 qs ps/\Chs ps par/\(ps.Pairwise λa b=>HT.lexLt b a=false)/\Tr.Env (nbM ks) par m/\RowAt H4 (Tr.betM m.toNat par (nbM ks) (Tr.lft m.toNat par)) v/\n=(Tr.lft m.toNat par).length,
   ⟨_,q,[],[],λ_=>none,v,rfl,s1.trans s2,nq,s2 q _ hq1,.nil,Chs.nil,List.Pairwise.nil,V0,rv,rfl⟩,?_⟩
  rintro n σ H4 ⟨q,qs,ps,par,v,rfl,s4,nq,hq4,hP4,ch,so,Vn,rv,rfl⟩;rcases rv with⟨t,lr,et,rfl,hlr⟩|⟨en,rfl⟩
  .refine⟨_,rfl,_,rfl,iteT ?_⟩;have B:=env_bet Vn m0 et;have ls:=env_less Vn m0 B;have lt:=bet_len B m24;have ct:=ch.count Vn.S (env_nat Vn m0);have V5:=env_aug Vn B;refine⟨_,λσ' H' h=>⟨(Tr.lft m.toNat (Tr.aug par t)).length,by omega,h⟩,?_⟩;refine⟨_,rfl,_,rfl,q,lr,qs,ps,t,rfl,hq4,hlr,hP4,by omega,by omega,λl zs us H5 nl s5 hl5 hz5 pm so5=>?_⟩;have ch5:=ch.xch Vn.S B (λe=>Vn.nbp e) pm;have M5:=chs_mate ch5 V5.S;have ct5:=ch5.count V5.S (env_nat V5 m0);have s05:=s4.trans s5;trivial;refine⟨_,rfl,_,rfl,x,l,m,U,ks,zs,us,Tr.aug par t,rfl,W.same s05,hl5,hz5,ch5.two,by omega,M5,V5,res_of λv H6 s6 rv=>?_⟩;rw[lftP_eq M5] at rv;trivial;exact⟨l,zs,us,Tr.aug par t,v,rfl,s05.trans s6,s4.free nl,s6 l _ hl5,TupsH.same s6 hz5,ch5,so5,V5,rv,rfl⟩
  .refine⟨_,rfl,_,rfl,iteF ⟨_,rfl,?_⟩⟩;exact hQ q qs ps par H4 nq s4 hq4 hP4 ch so (env_best Vn m0 en)
end
end K67
namespace L2
open PySem PySem.Spec PyProof.Rows
theorem op_inSK{X:Cx}(K:W.Frag)(h:X.K=K):OpR X (compareOp .In) (rIn K false):=by subst h;exact op_in_seq
theorem op_notInSK{X:Cx}(K:W.Frag)(h:X.K=K):OpR X (compareOp .NotIn) (rIn K true):=by subst h;exact op_notIn_seq
end L2
namespace K67
open PySem L2 PyProof.Rows
theorem mergeK_val:∀(more kvs:List (Key×V))(k:Key),(more.map (·.1)).Nodup->valV (mergeK kvs more) k=match valV more k with|some v=>some v|none=>valV kvs k:=by
 intro more
 induction more with
 | nil=>intro kvs k _;rfl
 | cons p r ih=>
  intro kvs k nd;rw[List.map_cons,List.nodup_cons] at nd;show valV (mergeK (putK kvs p.1 p.2) r) k=_;rw[ih _ k nd.2];by_cases c:p.1=k
  .have nr:valV r k=none:=by
    cases e:valV r k with
    | none=>rfl
    | some v=>
     unfold valV at e;obtain⟨q,hq,_⟩:=Option.map_eq_some_iff.mp e;have h1:=List.mem_of_find?_eq_some hq;have h2:=List.find?_some hq;exact absurd (List.mem_map.mpr ⟨q,h1,(of_decide_eq_true h2).trans c.symm⟩) nd.1
   rw[nr,valV_pos c,valV_put,if_pos c.symm]
  .rw[valV_neg c];cases valV r k with
   | none=>show valV (putK kvs p.1 p.2) k=_;rw[valV_put,if_neg (Ne.symm c)]
   | some v=>rfl
def KeysOk(kvs:List (Key×V)):Prop:=∃xs:List Int,kvs.map (·.1)=xs.map Sum.inl/\xs.Nodup
theorem KeysOk.put{kvs:List (Key×V)}(h:KeysOk kvs)(a:Int)(v:V):KeysOk (putK kvs (.inl a) v):=by
 obtain⟨xs,e,nd⟩:=h;unfold putK;by_cases c:(kvs.any λkv=>decide (kv.1=(.inl a:Key)))=true
 .rw[if_pos c];refine⟨xs,?_,nd⟩;rw[<-e,List.map_map];refine List.map_congr_left λp _=>?_;show(if p.1=Sum.inl a then (p.1,v) else p).1=p.1
  split<;>rfl
 .rw[if_neg c];refine⟨xs++[a],by rw[List.map_append,e,List.map_append];rfl,?_⟩;rw[List.nodup_append];refine⟨nd,by simp,λx hx y hy q=>c ?_⟩;have hy:=List.mem_singleton.mp hy;subst q hy;have:(Sum.inl x:Key)∈kvs.map (·.1):=by rw[e];exact List.mem_map.mpr ⟨x,hx,rfl⟩
  obtain⟨kv,hkv,ek⟩:=List.mem_map.mp this;exact List.any_eq_true.mpr ⟨kv,hkv,decide_eq_true ek⟩
theorem KeysOk.merge:∀{more kvs:List (Key×V)},KeysOk kvs->(∀p∈more,∃x:Int,p.1=.inl x)->KeysOk (mergeK kvs more):=by
 intro more
 induction more with
 | nil=>intro kvs h _;exact h
 | cons p r ih=>
  intro kvs h hp;obtain⟨k,v⟩:=p;obtain⟨x,e⟩:=hp _ (.head _);have e:k=.inl x:=e;subst e;exact ih (h.put x v) λq hq=>hp q (.tail _ hq)
theorem tr_keys{H:Hp}{root:Int}{T:Tr.Ts}{kvs:List (Key×V)}(h:Paired (λ(q:Int×List (Int×Int))(kv:Key×V)=>kv.1=.inl q.1/\∃a,kv.2=.ref a/\H a=some (.lst ((root::Tr.flat q.2).map V.int))) T kvs):kvs.map (·.1)=(Tr.keys T).map Sum.inl:=by
 induction h with
 | nil=>rfl
 | cons r _ ih=>
  exact List.cons_eq_cons.mpr ⟨r.1,ih⟩
def Tls(H:Hp)(kvs:List (Key×V))(T:Int->Tr.Ts)(roots:List Int):Prop:=KeysOk kvs/\∀x:Int,(valV kvs (.inl x)=none/\∀r∈roots,x∉Tr.keys (T r))\/∃(l:Addr)(r:Int)(L:List (Int×Int)),valV kvs (.inl x)=some (.ref l)/\H l=some (.lst ((r::Tr.flat L).map V.int))/\r∈roots/\(x,L)∈T r
theorem Tls.nil(H:Hp)(T:Int->Tr.Ts):Tls H [] T []:=⟨⟨[],rfl,List.nodup_nil⟩,λ_=>.inl ⟨rfl,λ_ h=>nomatch h⟩⟩
theorem Tls.at'{H H':Hp}{kvs:List (Key×V)}{T:Int->Tr.Ts}{roots:List Int}(h:Tls H kvs T roots)(k:∀l xs,H l=some (.lst xs)->H' l=some (.lst xs)):Tls H' kvs T roots:=
 ⟨h.1,λx=>(h.2 x).imp id λ⟨l,r,L,a,b,c,d⟩=>⟨l,r,L,a,k _ _ b,c,d⟩⟩
theorem Tls.more{H:Hp}{kvs more:List (Key×V)}{T:Int->Tr.Ts}{roots:List Int}{root:Int}(h:Tls H kvs T roots)(nd:(Tr.keys (T root)).Nodup)(pr:Paired (λ(q:Int×List (Int×Int))(kv:Key×V)=>kv.1=.inl q.1/\∃a,kv.2=.ref a/\H a=some (.lst ((root::Tr.flat q.2).map V.int))) (T root) more):Tls H (mergeK kvs more) T (roots++[root]):=by
 have ek:=tr_keys pr;have ndk:(more.map (·.1)).Nodup:=by rw[ek];exact List.Pairwise.map _ (λa b n z=>n (by injection z)) nd
 refine⟨h.1.merge λp hp=>?_,λx=>?_⟩
 .have:p.1∈(Tr.keys (T root)).map Sum.inl:=by rw[<-ek];exact List.mem_map.mpr ⟨p,hp,rfl⟩
  obtain⟨x,_,e⟩:=List.mem_map.mp this;exact⟨x,e.symm⟩
 .rw [mergeK_val more kvs _ ndk];have tv:=trv pr x;by_cases c:x∈Tr.keys (T root)
  .obtain⟨a,e,ha⟩:=tv.1 c;rw[e];exact .inr ⟨a,root,_,rfl,ha,List.mem_append_right _ (.head _),Tr.tget_mem c⟩
  .rw[tv.2 c];rcases h.2 x with⟨e,n⟩|⟨l,r,L,e,hl,hr,hx⟩
   .exact .inl ⟨e,λr hr=>(List.mem_append.mp hr).elim (n r) λz=>by rw[List.mem_singleton.mp z];exact c⟩
   .exact .inr ⟨l,r,L,e,hl,List.mem_append_left _ hr,hx⟩
section
variable{P:Program}{w:World}{K:W.Frag}{mg:Str->Option Value}{base:Heap}{C:Addr}
def spTrailsOf(C:Addr):Sp:=λvs H Q _=>∃(x q:Addr)(m:Int)(U:List Mt.Tri)(ks:List (List Int))(qs:List Addr)(ps:List (List Int))(par:Int->Option Int),vs=[.ref x,.ref q]/\WebAt C H x m U ks/\H q=some (.lst (qs.map V.ref))/\TupsH H qs ps/\Two ps/\ps.length<=200/\Mate (prtP ps) par/\Tr.Env (nbM ks) par m/\0<=m ∧
 ∀(d:Addr)(kvs:List (Key×V))(H':Hp),H d=none->Same H H'->H' d=some (.dK kvs)->Tls H' kvs (Tr.srch m.toNat par (nbM ks)) (Tr.lft m.toNat par)->kvs.length<=600->Q (.ref d) H'
abbrev nmTO:List Str:=["web","pairs","partners","trails","root"]
theorem scTrailsOf:FnScope nmTO ["web","pairs"] (defScope sTrailsOf):=⟨rfl,rfl,rfl,by decide +kernel,rfl,by decide +kernel,by decide +kernel⟩
theorem ok_trailsOf{f fP fL fT:Addr}{fd fdP fdL fdT:FuncData}(F:Fun K "trails_of" "trails_of" sTrailsOf f fd)
  (GP:FnOk P w K mg base CX0 1 fP fdP ["pairs"] spPart) (mP:mg "partners_of"=some (.ref fP)) (kP:PySem.W.keepIn K (.ref fP)=true) (bP:Binds K fdP ["pairs"] [])
  (GL:FnOk P w K mg base CX0 2 fL fdL ["web","pairs"] (spLeft C)) (mL:mg "left"=some (.ref fL)) (kL:PySem.W.keepIn K (.ref fL)=true) (bL:Binds K fdL ["web","pairs"] [])
  (GT:FnOk P w K mg base CX0 3 fT fdT ["web","partners","root"] (spTrails C)) (mT:mg "trails_from"=some (.ref fT)) (kT:PySem.W.keepIn K (.ref fT)=true) (bT:Binds K fdT ["web","partners","root"] []):FnOk P w K mg base CX0 4 f fd ["web","pairs"] (spTrailsOf C):=by
 refine F.ok scTrailsOf (λvs H Q E h=>?_) (λcdv A outer s H vs Q E hr h=>?_)
 .obtain⟨x,q,m,U,ks,qs,ps,par,rfl,_⟩:=h;rfl
 .obtain ⟨x,q,m,U,ks,qs,ps,par,rfl,W,hq,hP,h2,lP,mate,Vn,m0,hQ⟩:=h;have hr1:Room 1 (A.deeper (envOfC "trails_of" (defScope sTrailsOf) s.heap.objs.size f cdv)):=hr.mono (by decide);have hr2:Room 2 (A.deeper (envOfC "trails_of" (defScope sTrailsOf) s.heap.objs.size f cdv)):=hr.mono (by decide);refine'⟨_,pss_cons ?s0 (pss_cons (ps_set (i:=3) scTrailsOf.nd rfl (Or.inl rfl) pe_dnewK) (pss_cons (ps_for PassesOwn.never rfl ?i (pg_name (i:=4) scTrailsOf.nd rfl (Or.inl rfl)) (pss_one ?b0)) (pss_one (ps_ret (pv 3))))),?_⟩
  case s0=>exact ps_set (i:=2) scTrailsOf.nd rfl (Or.inl rfl) (pe_call GP hr1 (by rfl) mP kP bP .nil pass0 (pa_cons (pv 1) pa_nil))
  case i=>exact pi_list (pe_call GL hr2 (by rfl) mL kL bL .nil pass0 (pa_cons (pv 0) (pa_cons (pv 1) pa_nil)))
  case b0=>exact ps_expr (pe_bm PySem.F.plainAttrs_dict PySem.F.slot_dict_update PySem.F.type_dict_update mt_updK (pv 3) (pa_cons (pe_call GT hr (by rfl) mT kT bT .nil pass0 (pa_cons (pv 0) (pa_cons (pv 2) (pa_cons (pv 4) pa_nil)))) pa_nil))
  have m24:=Vn.m24;refine⟨_,rfl,q,qs,ps,rfl,hq,hP,h2,lP,λdp H1 ndp s1 h1=>?_⟩;trivial;intro d nd;have s2:Same H1 (upd H1 d (.dK [])):=Same.new nd;have hd2:upd H1 d (.dK []) d=some (.dK []):=upd_same;trivial;generalize upd H1 d (.dK [])=H2 at s2 hd2 ⊢;have s02:=s1.trans s2;have nHd:H d=none:=s1.free nd;refine⟨_,rfl,_,rfl,x,q,m,U,ks,qs,ps,rfl,W.same s02,s02 q _ hq,TupsH.same s02 hP,h2,lP,λl H3 nl s3 hl3=>?_⟩;rw[lftP_eq mate] at hl3;have hl0:H2 l=none:=nl;have ndl:l≠d:=λz=>by subst z;rw[hd2] at nl;cases nl
  have lroots:(Tr.lft m.toNat par).length<=24:=by
   have:(Tr.lft m.toNat par).length<=m.toNat:=by unfold Tr.lft;refine Nat.le_trans (List.length_filter_le _ _) ?_;simp
   omega
  refine⟨l,rfl,⟨_,SqL.of hl3⟩,for_list (K:=K) (a:=l) (xs:=(Tr.lft m.toNat par).map V.int) (λi σ H4=>∃(kvs:List (Key×V))(e4:Option V),σ=[some (.ref x),some (.ref q),some (.ref dp),some (.ref d),e4]/\(∀b o,H3 b=some o->b≠d->H4 b=some o)/\H4 d=some (.dK kvs)/\Tls H4 kvs (Tr.srch m.toNat par (nbM ks)) ((Tr.lft m.toNat par).take i)/\kvs.length<=24*i)
   ⟨[],none,rfl,λb o e _=>e,s3 d _ hd2,Tls.nil _ _,Nat.le_refl _⟩ (λi σ H4 _ ⟨_,_,_,fr,_⟩=>SqL.of (fr l _ hl3 ndl)) ?_ ?_⟩
  .rintro i y σ H4 hi ⟨kvs,e4,rfl,fr,hd4,tl,lk⟩;obtain⟨r,rfl,er⟩:=map_int_at hi;have hil:i<(Tr.lft m.toNat par).length:=(List.getElem?_eq_some_iff.mp er).1;obtain⟨rr,rf⟩:=Tr.mem_lft.mp (List.mem_of_getElem? er);have r0:0<=r/\r<m:=by omega
   have s04:Same H H4:=λb o e=>fr b o (s3 b o (s02 b o e)) (ne_of_none e nHd);have hdp4:=fr dp _ (s3 dp _ (s2 dp _ h1)) (λz=>by subst z;rw[h1] at nd;cases nd);trivial;refine⟨_,rfl,.inr (.inr (.inl ⟨rfl,.inl ⟨kvs,hd4⟩⟩)),_,rfl,_,rfl,_,rfl,x,dp,m,r,U,ks,par,prtP ps,rfl,W.same s04,hdp4,mate,Vn,r0,rf,λdr kr H5 ndr s5 tr5=>?_⟩;have ok:=Tr.run_ok (n:=m.toNat) Vn.S (Tr.ok0 (nb:=nbM ks) rf) (as:=[r]) (λa ha=>by rw[List.mem_singleton] at ha;subst ha;simp[Tr.keys]);have lT:=ok.le Vn.R r0;have lkr:=tr5.len;have ddr:d≠dr:=ne_of_none hd4 ndr;refine⟨d,dr,kvs,kr,rfl,rfl,ddr,s5 d _ hd4,tr5.hd,Nat.le_of_lt (small1000 (by omega)),?_⟩;have lm:=length_mergeK kr kvs;refine⟨_,_,rfl,λb o e nb=>by rw[upd_ne nb];exact s5 b o (fr b o e nb),upd_same,?_,by omega⟩;have tk:(Tr.lft m.toNat par).take (i+1)=(Tr.lft m.toNat par).take i++[r]:=by rw[List.take_succ,er];rfl
   rw[tk];have off:∀l xs,H5 l=some (.lst xs)->upd H5 d (.dK (mergeK kvs kr)) l=some (.lst xs):=λl xs e=>by rw[upd_ne (ne_of e (s5 d _ hd4) (by intro z;cases z))];exact e
   exact((tl.at' λl xs e=>s5 l _ e).more ok.nd tr5.pr).at' off
  .rintro σ H4 ⟨kvs,e4,rfl,fr,hd4,tl,lk⟩;rw[List.length_map] at lk tl;rw[List.take_length] at tl;exact⟨_,rfl,hQ d kvs H4 nHd (λb o e=>fr b o (s3 b o (s02 b o e)) (ne_of_none e nHd)) hd4 tl (by omega)⟩
def spHas(C:Addr):Sp:=λvs H Q _=>∃(x ls:Addr)(m p:Int)(U:List Mt.Tri)(ks:List (List Int))(S:List Int),vs=[.ref x,.int p,.ref ls]/\WebAt C H x m U ks/\0<=p/\p<m/\H ls=some (.lst (S.map V.int))/\∀(b:Bool)(H':Hp),Same H H'->(b=true↔∃y∈nbM ks p,y∈S)->Q (.bl b) H'
abbrev nmH:List Str:=["web","point","some"]
theorem scHas:FnScope nmH ["web","point","some"] (defScope sHas):=⟨rfl,rfl,rfl,by decide +kernel,rfl,by decide +kernel,by decide +kernel⟩
abbrev XH(P:Program)(w:World)(K:W.Frag)(mg:Str->Option Value)(base:Heap)(f:Addr)(cdv:Value)(A:Around)(outer:List Env)(s:Shared)(H:Hp)(E:XK):Cx:=(cxOf CX0 P w K mg base nmH "has_tie_to" (defScope sHas) f cdv A outer s H E).nox
def compS:Scope:={kind:=.function,names:=[(Str.ofString ".0",.local),(Str.ofString "near",.local),(Str.ofString "some",.free)],isGenerator:=false,isCoroutine:=false,more:=[]}
theorem nd_compS:([".0","near","some"]:List Str).Nodup:=by decide +kernel
theorem capsS{f:Addr}{cdv:Value}{A:Around}{outer:List Env}{s:Shared}{H:Hp}{E:XK}:Caps (XH P w K mg base f cdv A outer s H E) compS [(Str.ofString "some",s.heap.objs.size+1)] [".0","near"] ["some"] [2]:=caps_of (sc:=defScope sHas) (N:=nmH) rfl rfl rfl rfl rfl rfl rfl (by decide +kernel)
theorem ok_has{f fT:Addr}{fd fdT:FuncData}(F:Fun K "has_tie_to" "has_tie_to" sHas f fd)(T0:TxtW K mg C)(gany:mg "any"=none)
  (mT:Meth K C "tied" fT) (GT:FnOk P w K mg base CX0 1 fT fdT ["self","a"] (spTied C)) (bT:Binds K fdT ["self","a"] []):FnOk P w K mg base CX0 2 f fd ["web","point","some"] (spHas C):=by
 refine F.ok scHas (λvs H Q E h=>?_) (λcdv A outer s H vs Q E hr h=>?_)
 .obtain⟨x,ls,m,p,U,ks,S,rfl,_⟩:=h;rfl
 .obtain ⟨x,ls,m,p,U,ks,S,rfl,W,p0,p1,hls,hQ⟩:=h;refine'⟨_,pss_one (ps_ret (pe_callB (call_anyB rfl) (by rfl) gany boot_any (pa_cons ?cc pa_nil))),?_⟩
  case cc=>exact pe_comp (g:=gName 1) (own:=[".0","near"]) (caps:=["some"]) (js:=[2]) rfl capsS (pi_list (pe_meth (pv 0) T0.cl mT GT hr bT .nil pass0 (pa_cons (pv 1) pa_nil))) (λpins C s H1 fp=>pg_name (i:=1) nd_compS rfl (Or.inl rfl) (Or.inr rfl)) (λpins C s H1 fp=>pts_nil) (λpins C s H1 fp=>pe_cmpR (op_inSK K rfl) (pv 1) (pv 2) (by with_unfolding_all rfl))
  obtain⟨dx,d0,l1,nn,fs,qs,w1,w2,w3,w4,w5,⟨w6,w7,w8,w9⟩,v1,v2,v3,v4,v5⟩:=id W.ex;refine⟨_,rfl,x,dx,fs,rfl,w1,w9,_,rfl,x,m,U,ks,p,rfl,W,p0,p1,λlq nq=>?_⟩;have s6:Same H (upd H lq (.lst ((nbM ks p).map V.int))):=Same.new nq;have hq6:upd H lq (.lst ((nbM ks p).map V.int)) lq=some (.lst ((nbM ks p).map V.int)):=upd_same;generalize upd H lq (.lst ((nbM ks p).map V.int))=H1 at s6 hq6 ⊢;have hls1:=s6 ls _ hls;have lnb:(nbM ks p).length<=700:=by
   have:=nbM_len p ks;have h3:=Paired.length v3;rw[List.length_map] at h3;omega
  refine⟨lq,rfl,⟨_,SqL.of hq6⟩,λD2 hD=>?_⟩;refine turns_list (K:=K) (a:=lq) (xs:=(nbM ks p).map V.int) (λi ys σ H2=>∃(e0 e1:Option V),ys=(((nbM ks p).take i).map λy=>decide (y∈S)).map V.bl/\σ=[e0,e1,some (.ref ls)]/\Same H1 H2/\H2 D2=some (.lst ys)) ⟨none,none,rfl,rfl,Same.new hD,upd_same⟩ ?_ ?_ ?_
  .rintro i ys σ H2 ⟨e0,e1,rfl,rfl,s2,h2⟩;refine⟨h2,small1000 ?_,SqL.of (s2 lq _ hq6)⟩;rw[List.length_map,List.length_map,List.length_take];omega
  .rintro i v ys σ H2 hi ⟨e0,e1,rfl,rfl,s2,h2⟩;obtain⟨y,rfl,ey⟩:=map_int_at hi;have hil:i<((nbM ks p).map V.int).length:=(List.getElem?_eq_some_iff.mp hi).1;unfold gName;dsimp only;refine yes_of ?_;refine⟨_,rfl,_,rfl,ls,_,rfl,.inl (SqL.of (s2 ls _ hls1)),rfl,flat_ints S,h2,?_⟩;refine Nxt.mk hil ⟨_,_,?_,rfl,λb o e=>by rw[upd_ne (ne_of_none e hD)];exact s2 b o e,upd_same⟩;rw[List.take_succ,ey,List.map_append,List.map_append]
   congr 1
   show[V.bl (inV (.int y) (S.map V.int))]=[V.bl (decide (y∈S))];rw[inV_ints]
  .rintro ys σ0 H2 ⟨e0,e1,rfl,rfl,s2,h2⟩;rw[List.length_map,List.take_length] at h2;refine⟨D2,_,rfl,SqL.of h2,?_⟩;refine hQ _ H2 (s6.trans s2) ?_;rw[List.any_eq_true];constructor
   .rintro⟨b,hb,e⟩;obtain⟨y,hy,rfl⟩:=List.mem_map.mp hb;exact⟨y,hy,of_decide_eq_true e⟩
   .rintro⟨y,hy,h⟩;exact⟨_,List.mem_map.mpr ⟨y,hy,rfl⟩,decide_eq_true h⟩
end
end K67
namespace L2
theorem filter_take_succ{α:Type}{T:List α}{i:Nat}{t:α}(p:α->Bool)(e:T[i]?=some t):(T.take (i+1)).filter p=(T.take i).filter p++(if p t=true then [t] else []):=by
 rw[List.take_succ,e,List.filter_append]
 congr 1
 show List.filter p [t]=_;rw[List.filter_cons,List.filter_nil]
end L2
namespace K67
open PySem L2 PyProof.Rows
def othM(S:List Int)(n:Nat):List Int:=((List.range n).map λ(i:Nat)=>(i:Int)).filter λa=>!decide (a∈S)
theorem othM_succ(S:List Int)(n:Nat):othM S (n+1)=othM S n++(if (!decide ((n:Int)∈S))=true then [(n:Int)] else []):=by
 unfold othM;rw[List.range_succ,List.map_append,List.filter_append]
 congr 1
 show List.filter _ [(n:Int)]=_;rw[List.filter_cons,List.filter_nil]
theorem othM_len(S:List Int)(n:Nat):(othM S n).length<=n:=by
 unfold othM;refine Nat.le_trans (List.length_filter_le _ _) ?_;simp
def besM(ks:List (List Int))(S:List Int)(m:Nat):List Int:=(othM S m).filter λy=>(nbM ks y).any λz=>decide (z∈S)
section
variable{P:Program}{w:World}{K:W.Frag}{mg:Str->Option Value}{base:Heap}{C:Addr}
def spTiedTo(C:Addr):Sp:=λvs H Q _=>∃(x ls:Addr)(m:Int)(U:List Mt.Tri)(ks:List (List Int))(S:List Int),vs=[.ref x,.ref ls]/\WebAt C H x m U ks/\H ls=some (.lst (S.map V.int))/\∀(l:Addr)(H':Hp),H l=none->Same H H'->H' l=some (.lst ((besM ks S m.toNat).map V.int))->Q (.ref l) H'
abbrev nmU:List Str:=["web","spare","others"]
theorem scTiedTo:FnScope nmU ["web","spare"] (defScope sTiedTo):=⟨rfl,rfl,rfl,by decide +kernel,rfl,by decide +kernel,by decide +kernel⟩
abbrev XU(P:Program)(w:World)(K:W.Frag)(mg:Str->Option Value)(base:Heap)(f:Addr)(cdv:Value)(A:Around)(outer:List Env)(s:Shared)(H:Hp)(E:XK):Cx:=(cxOf CX0 P w K mg base nmU "tied_to" (defScope sTiedTo) f cdv A outer s H E).nox
def compU:Scope:={kind:=.function,names:=[(Str.ofString ".0",.local),(Str.ofString "point",.local),(Str.ofString "spare",.free)],isGenerator:=false,isCoroutine:=false,more:=[]}
theorem nd_compU:([".0","point","spare"]:List Str).Nodup:=by decide +kernel
theorem capsU{f:Addr}{cdv:Value}{A:Around}{outer:List Env}{s:Shared}{H:Hp}{E:XK}:Caps (XU P w K mg base f cdv A outer s H E) compU [(Str.ofString "spare",s.heap.objs.size+1+1)] [".0","point"] ["spare"] [1]:=caps_of (sc:=defScope sTiedTo) (N:=nmU) rfl rfl rfl rfl rfl rfl rfl (by decide +kernel)
def compV:Scope:={kind:=.function,names:=[(Str.ofString ".0",.local),(Str.ofString "point",.local),(Str.ofString "has_tie_to",.globalImplicit),(Str.ofString "spare",.free),(Str.ofString "web",.free)],isGenerator:=false,isCoroutine:=false,more:=[]}
theorem nd_compV:([".0","point","spare","web"]:List Str).Nodup:=by decide +kernel
theorem capsV{f:Addr}{cdv:Value}{A:Around}{outer:List Env}{s:Shared}{H:Hp}{E:XK}:Caps (XU P w K mg base f cdv A outer s H E) compV [(Str.ofString "web",s.heap.objs.size+1),(Str.ofString "spare",s.heap.objs.size+1+1)] [".0","point"] ["spare","web"] [1,0]:=caps_of (sc:=defScope sTiedTo) (N:=nmU) rfl rfl rfl rfl rfl rfl rfl (by decide +kernel)
theorem ok_tiedTo{f fS fH:Addr}{fd fdS fdH:FuncData}(F:Fun K "tied_to" "tied_to" sTiedTo f fd)(T0:TxtW K mg C)(grange:mg "range"=none)
  (mS:Meth K C "size" fS) (GS:FnOk P w K mg base CX0 1 fS fdS ["self"] (spMSize C)) (bS:Binds K fdS ["self"] [])
  (GH:FnOk P w K mg base CX0 2 fH fdH ["web","point","some"] (spHas C)) (mH:mg "has_tie_to"=some (.ref fH)) (kH:PySem.W.keepIn K (.ref fH)=true) (bH:Binds K fdH ["web","point","some"] []):FnOk P w K mg base CX0 3 f fd ["web","spare"] (spTiedTo C):=by
 refine F.ok scTiedTo (λvs H Q E h=>?_) (λcdv A outer s H vs Q E hr h=>?_)
 .obtain⟨x,ls,m,U,ks,S,rfl,_⟩:=h;rfl
 .obtain ⟨x,ls,m,U,ks,S,rfl,W,hls,hQ⟩:=h;have m0:=W.m0;have m1:=W.m1;have hr1:Room 1 (XU P w K mg base f cdv A outer s H E).A:=hr.mono (by decide);refine'⟨_,pss_cons ?s0 (pss_one (ps_ret ?s1)),?_⟩
  case s0=>exact ps_comp (i:=2) (g:=gName 1) (own:=[".0","point"]) (caps:=["spare"]) (js:=[1]) rfl capsU (pi_range1 rfl grange (pa_cons (pe_meth0 (pv 0) T0.cl mS GS hr1 bS .nil pass0) pa_nil)) (λpins C s H1 fp=>pg_name (i:=1) nd_compU rfl (Or.inl rfl) (Or.inr rfl)) (λpins C s H1 fp=>pts_one (pt_cmpR (op_notInSK K rfl) (pv 1) (pv 2) (by with_unfolding_all rfl))) (λpins C s H1 fp=>pv 1) scTiedTo.nd rfl rfl rfl
  case s1=>exact pe_comp (g:=gName 1) (own:=[".0","point"]) (caps:=["spare","web"]) (js:=[1,0]) rfl capsV (pi_list (pv 2)) (λpins C s H1 fp=>pg_name (i:=1) nd_compV rfl (Or.inl rfl) (Or.inr rfl)) (λpins C s H1 fp=>pts_one (pt_val (pe_call GH hr rfl mH kH bH .nil pass0 (pa_cons (pv 3) (pa_cons (pv 1) (pa_cons (pv 2) pa_nil)))))) (λpins C s H1 fp=>pv 1)
  obtain⟨dx,_,_,_,fs,_,w1,_,_,_,_,w6,_⟩:=W.ex;refine⟨_,rfl,x,dx,fs,rfl,w1,w6.1,x,m,U,ks,rfl,W,m,rfl,by omega,by omega,λD hD=>?_⟩;refine turns_range (n:=m.toNat) (λi ys σ H2=>∃(e0 e1:Option V),ys=(othM S i).map V.int/\i<=m.toNat/\σ=[e0,e1,some (.ref ls)]/\Same H H2/\H2 D=some (.lst ys)) ⟨none,none,rfl,Nat.zero_le _,rfl,Same.new hD,upd_same⟩ ?_ ?_ ?_
  .rintro i ys σ H2 ⟨e0,e1,rfl,li,rfl,s2,h2'⟩;refine⟨h2',small1000 ?_⟩;have:=othM_len S i;rw[List.length_map];omega
  .rintro i ys σ H2 hi ⟨e0,e1,rfl,li,rfl,s2,h2'⟩;unfold gName;dsimp only;refine⟨_,rfl,_,rfl,ls,_,rfl,.inl (SqL.of (s2 ls _ hls)),rfl,flat_ints S,_,rfl,?_⟩;show if (!inV (.int (0+(i:Int))) (S.map V.int))=true then _ else _
   rw[inV_ints,Int.zero_add];have es:=othM_succ S i;refine ite2 (λc=>?_) (λc=>?_)
   .rw[if_pos c] at es;refine⟨_,rfl,h2',Nxt.mk hi ⟨_,_,?_,hi,rfl,λb o e=>?_,upd_same⟩⟩
    .rw[es,List.map_append];rfl
    .rw[upd_ne (ne_of_none e hD)];exact s2 b o e
   .rw[if_neg c,List.append_nil] at es;exact Nxt.mk hi ⟨_,_,by rw[es],hi,rfl,s2,h2'⟩
  .rintro ys σ0 H2 ⟨e0,e1,rfl,li,rfl,s2,h2'⟩;trivial;have lo:=othM_len S m.toNat;have rg:∀y∈othM S m.toNat,0<=y/\y<m:=λy hy=>by
    obtain⟨k,hk,rfl⟩:=List.mem_map.mp (List.mem_filter.mp hy).1;have:=List.mem_range.mp hk;omega
   have eb:besM ks S m.toNat=(othM S m.toNat).filter λy=>(nbM ks y).any λz=>decide (z∈S):=rfl;rw[eb] at hQ;generalize othM S m.toNat=os at h2' lo rg hQ;refine⟨_,rfl,D,rfl,⟨_,SqL.of h2'⟩,λD2 hD2=>?_⟩;refine turns_list (K:=K) (a:=D) (xs:=os.map V.int) (λi ys σ H3=>∃(e0 e1:Option V),ys=((os.take i).filter λy=>(nbM ks y).any λz=>decide (z∈S)).map V.int/\σ=[e0,e1,some (.ref ls),some (.ref x)]/\Same H2 H3/\H3 D2=some (.lst ys)) ⟨none,none,rfl,rfl,Same.new hD2,upd_same⟩ ?_ ?_ ?_
   .rintro i ys σ H3 ⟨e0,e1,rfl,rfl,s3,h3⟩;refine⟨h3,small1000 ?_,SqL.of (s3 D _ h2')⟩;have:=List.length_filter_le (λy=>(nbM ks y).any λz=>decide (z∈S)) (os.take i);rw[List.length_take] at this;rw[List.length_map];omega
   .rintro i v ys σ H3 hi ⟨e0,e1,rfl,rfl,s3,h3⟩;obtain⟨y,rfl,ey⟩:=map_int_at hi;have hil:i<(os.map V.int).length:=(List.getElem?_eq_some_iff.mp hi).1;have es:=filter_take_succ (λy=>(nbM ks y).any λz=>decide (z∈S)) ey;have ry:=rg y (List.mem_of_getElem? ey);unfold gName;dsimp only;refine⟨_,rfl,_,rfl,_,rfl,x,ls,m,y,U,ks,S,rfl,W.same (s2.trans s3),ry.1,ry.2,(s2.trans s3) ls _ hls,λb H4 s4 hb=>⟨b,rfl,?_⟩⟩;have ebb:b=(nbM ks y).any λz=>decide (z∈S):=by
     rw[Bool.eq_iff_iff,hb,List.any_eq_true];exact⟨λ⟨z,h1,h2⟩=>⟨z,h1,decide_eq_true h2⟩,λ⟨z,h1,h2⟩=>⟨z,h1,of_decide_eq_true h2⟩⟩
    have h4:=s4 D2 _ h3;refine ite2 (λc=>?_) (λc=>?_)
    .rw[if_pos (ebb ▸ c)] at es;refine⟨_,rfl,h4,Nxt.mk hil ⟨_,_,?_,rfl,λb o e=>?_,upd_same⟩⟩
     .rw[es,List.map_append];rfl
     .rw[upd_ne (ne_of_none e hD2)];exact s4 b o (s3 b o e)
    .rw[if_neg (ebb ▸ c),List.append_nil] at es;exact Nxt.mk hil ⟨_,_,by rw[es],rfl,s3.trans s4,h4⟩
   .rintro ys σ0 H3 ⟨e0,e1,rfl,rfl,s3,h3⟩;rw[List.length_map,List.take_length] at h3;exact hQ D2 H3 (s2.free hD2) (s2.trans s3) h3
end
theorem mem_oth{S:List Int}{n:Nat}{a:Int}:a∈othM S n↔(0<=a/\a<(n:Int))/\a∉S:=by
 unfold othM;rw[List.mem_filter,List.mem_map];constructor
 .rintro⟨⟨k,hk,rfl⟩,h⟩;have:=List.mem_range.mp hk;exact⟨by omega,λz=>by rw[decide_eq_true z] at h;cases h⟩
 .rintro⟨⟨h0,h1⟩,h⟩;exact⟨⟨a.toNat,List.mem_range.mpr (by omega),by omega⟩,by rw[decide_eq_false h];rfl⟩
theorem rise_len{xs:List Int}{m:Nat}(h:xs.Pairwise (·<·))(r:∀a∈xs,0<=a/\a<(m:Int)):xs.length<=m:=by
 have e:xs=((List.range m).map λ(i:Nat)=>(i:Int)).filter λa=>decide (a∈xs):=Tr.rise_eq h (Tr.rise_range m _) λa=>by
  rw[List.mem_filter];refine⟨λha=>⟨List.mem_map.mpr ⟨a.toNat,List.mem_range.mpr (by have:=r a ha;omega),by have:=r a ha;omega⟩,decide_eq_true ha⟩,λz=>of_decide_eq_true z.2⟩
 rw[e];refine Nat.le_trans (List.length_filter_le _ _) ?_;simp
theorem tls_en{H:Hp}{kvs:List (Key×V)}{T:Int->Tr.Ts}{par:Int->Option Int}{m:Nat}{t:List Int}(tl:Tls H kvs T (Tr.lft m par))(e:kvs.map (·.1)=t.map Sum.inl)(a:Int):a∈t↔Tr.En par m T a:=by
 have hin:a∈t↔(.inl a:Key)∈kvs.map (·.1):=by
  rw[e,List.mem_map];exact⟨λh=>⟨a,h,rfl⟩,λ⟨b,hb,q⟩=>by injection q with q;exact q ▸ hb⟩
 rw[hin];rcases tl.2 a with⟨en,no⟩|⟨l,r,L,es,_,hr,hx⟩
 .refine⟨λh=>?_,λ⟨r,hr,h⟩=>absurd h (no r hr)⟩;obtain⟨kv,hkv,ek⟩:=List.mem_map.mp h;unfold valV at en;rw[Option.map_eq_none_iff,List.find?_eq_none] at en;exact absurd (decide_eq_true ek) (en kv hkv)
 .refine⟨λ_=>⟨r,hr,List.mem_map.mpr ⟨_,hx,rfl⟩⟩,λ_=>?_⟩;unfold valV at es;obtain⟨kv,hkv,_⟩:=Option.map_eq_some_iff.mp es;exact List.mem_map.mpr ⟨kv,List.mem_of_find?_eq_some hkv,by have:=List.find?_some hkv;exact of_decide_eq_true this⟩
theorem bes_rise(ks:List (List Int))(S:List Int)(m:Nat):(besM ks S m).Pairwise (·<·):=by
 unfold besM othM;rw[List.filter_filter];exact Tr.rise_range m _
theorem bes_besides{ks:List (List Int)}{S:List Int}{m:Nat}{par:Int->Option Int}{T:Int->Tr.Ts}(hS:∀a,a∈S↔Tr.En par m T a):Tr.Besides (nbM ks) par m T (besM ks S m):=by
 refine⟨(bes_rise ks S m).imp λh=>by omega,λy=>?_⟩;unfold besM;rw[List.mem_filter,mem_oth,List.any_eq_true,hS];constructor
 .rintro⟨⟨a,b⟩,z,hz,q⟩;exact⟨a,b,z,hz,(hS z).mp (of_decide_eq_true q)⟩
 .rintro⟨a,b,z,hz,q⟩;exact⟨⟨a,b⟩,z,hz,decide_eq_true ((hS z).mpr q)⟩
section
variable{P:Program}{w:World}{K:W.Frag}{mg:Str->Option Value}{base:Heap}{C:Addr}
def spReason(C:Addr):Sp:=λvs H Q _=>∃(x:Addr)(m:Int)(U:List Mt.Tri)(ks:List (List Int)),vs=[.ref x]/\WebAt C H x m U ks/\0<=m/\m<=24 ∧
 ∀(l:Addr)(out:List Int)(par:Int->Option Int)(H':Hp),H l=none->Same H H'->H' l=some (.lst (out.map V.int))->Tr.Best (nbM ks) par m.toNat (Tr.srch m.toNat par (nbM ks))->Tr.Besides (nbM ks) par m.toNat (Tr.srch m.toNat par (nbM ks)) out->out.Pairwise (·<·)->Q (.ref l) H'
abbrev nmRs:List Str:=["web","spare"]
theorem scReason:FnScope nmRs ["web"] (defScope sReason):=⟨rfl,rfl,rfl,by decide +kernel,rfl,by decide +kernel,by decide +kernel⟩
theorem ok_reason{f fM fT fU:Addr}{fd fdM fdT fdU:FuncData}(F:Fun K "reason" "reason" sReason f fd)(gsrt:mg "sorted"=none)
  (GM:FnOk P w K mg base CX0 6 fM fdM ["web"] (spMost C)) (mM:mg "most"=some (.ref fM)) (kM:PySem.W.keepIn K (.ref fM)=true) (bM:Binds K fdM ["web"] [])
  (GT:FnOk P w K mg base CX0 4 fT fdT ["web","pairs"] (spTrailsOf C)) (mT:mg "trails_of"=some (.ref fT)) (kT:PySem.W.keepIn K (.ref fT)=true) (bT:Binds K fdT ["web","pairs"] [])
  (GU:FnOk P w K mg base CX0 3 fU fdU ["web","spare"] (spTiedTo C)) (mU:mg "tied_to"=some (.ref fU)) (kU:PySem.W.keepIn K (.ref fU)=true) (bU:Binds K fdU ["web","spare"] []):FnOk P w K mg base CX0 7 f fd ["web"] (spReason C):=by
 refine F.ok scReason (λvs H Q E h=>?_) (λcdv A outer s H vs Q E hr h=>?_)
 .obtain⟨x,m,U,ks,rfl,_⟩:=h;rfl
 .obtain ⟨x,m,U,ks,rfl,W,m0,m24,hQ⟩:=h;have hr3:Room 3 (A.deeper (envOfC "reason" (defScope sReason) s.heap.objs.size f cdv)):=hr.mono (by decide);have hr4:Room 4 (A.deeper (envOfC "reason" (defScope sReason) s.heap.objs.size f cdv)):=hr.mono (by decide);refine'⟨_,pss_cons ?s0 (pss_one (ps_ret (pe_call GU hr3 (by rfl) mU kU bU .nil pass0 (pa_cons (pv 0) (pa_cons (pv 1) pa_nil))))),?_⟩
  case s0=>exact ps_set (i:=1) scReason.nd rfl (Or.inl rfl) (pe_callB (call_sortedDI rfl) (by rfl) gsrt boot_sorted (pa_cons (pe_call GT hr4 (by rfl) mT kT bT .nil pass0 (pa_cons (pv 0) (pa_cons (pe_call GM hr (by rfl) mM kM bM .nil pass0 (pa_cons (pv 0) pa_nil)) pa_nil))) pa_nil))
  refine⟨_,rfl,_,rfl,x,m,U,ks,rfl,W,m0,m24,λlm zm pm par H1 nlm s1 hlm hzm ch _ B=>?_⟩;have Vn:Tr.Env (nbM ks) par m:=⟨B.sym,by have:=B.rg;rw[Int.toNat_of_nonneg m0] at this;exact this,m24,B.nbp⟩;have mate:=chs_mate ch B.sym;have ct:=ch.count B.sym B.rg;refine⟨x,lm,m,U,ks,zm,pm,par,rfl,W.same s1,hlm,hzm,ch.two,by omega,mate,Vn,m0,λd kvs H2 nd s2 hd tl lk=>?_⟩;obtain⟨⟨t,et,ndt⟩,tl2⟩:=id tl;have hsp:=tls_en tl et;have rt:∀a∈t,0<=a/\a<(m.toNat:Int):=λa ha=>by
   obtain⟨r,hr,h⟩:=(hsp a).mp ha;have ok:=Tr.run_ok (n:=m.toNat) Vn.S (Tr.ok0 (nb:=nbM ks) (Tr.mem_lft.mp hr).2) (as:=[r]) (λa ha=>by rw[List.mem_singleton] at ha;subst ha;simp[Tr.keys]);obtain⟨L,hL⟩:=Tr.keys_mem h;have h1:=Tr.fin_mem (x:=r) (L:=L);rw[ok.en _ _ hL] at h1;have:=ok.rg Vn.R (by have:=(Tr.mem_lft.mp hr).1;omega) hL a h1;omega
  have l64:t.length<=m.toNat:=by
   have h1:=t.mergeSort_perm (λa b=>decide (a<=b));have h2:(t.mergeSort λa b=>decide (a<=b)).Pairwise (·<=·):=by
    refine(List.pairwise_mergeSort (le:=λa b=>decide (a<=b)) (λa b c h1 h2=>decide_eq_true (Int.le_trans (of_decide_eq_true h1) (of_decide_eq_true h2))) (λa b=>?_) t).imp λh=>of_decide_eq_true h;rw[Bool.or_eq_true,decide_eq_true_iff,decide_eq_true_iff];omega
   rw[<-h1.length_eq];exact rise_len (Tr.rise_of h2 (h1.nodup_iff.mpr ndt)) λa ha=>rt a (h1.mem_iff.mp ha)
  refine⟨d,kvs,t,rfl,hd,et,by omega,λS lS pS oS nS=>?_⟩;have hS:∀a,a∈S↔Tr.En par m.toNat (Tr.srch m.toNat par (nbM ks)) a:=λa=>(pS.mem_iff).trans (hsp a);have s3:Same H2 (upd H2 lS (.lst (S.map V.int))):=Same.new nS;have h3:upd H2 lS (.lst (S.map V.int)) lS=some (.lst (S.map V.int)):=upd_same;trivial;generalize upd H2 lS (.lst (S.map V.int))=H3 at s3 h3 ⊢;have s03:=s1.trans (s2.trans s3);refine⟨_,rfl,_,rfl,x,lS,m,U,ks,S,rfl,W.same s03,h3,λlB H4 nB s4 h4=>?_⟩;exact hQ lB _ par H4 (s03.free nB) (s03.trans s4) h4 B (bes_besides hS) (bes_rise ks S _)
end
end K67
namespace Cw
open Tr
def cps:Int->List Int->List Int
 | _,[]=>[]
 | i,n::ns=>List.replicate n.toNat i++cps (i+1) ns
def e1(t:List Int)(v:Int):Int:=match t with|a::b::_=>(if a=v then 1 else 0)+(if b=v then 1 else 0)|_=>0
theorem cps_snoc:∀(N:List Int)(i n:Int),cps i (N++[n])=cps i N++List.replicate n.toNat (i+N.length)
 | [],i,n=>by show List.replicate n.toNat i++[]=[]++_;simp
 | a::N,i,n=>by
  show List.replicate a.toNat i++cps (i+1) (N++[n])=(List.replicate a.toNat i++cps (i+1) N)++_;rw[cps_snoc N,List.append_assoc,List.length_cons,show i+1+(N.length:Int)=i+((N.length+1:Nat):Int) by omega]
theorem cps_len:∀{N:List Int}{i:Int},(∀n∈N,0<=n)->((cps i N).length:Int)=N.sum
 | [],_,_=>rfl
 | n::N,i,h=>by
  have:=cps_len (N:=N) (i:=i+1) λx hx=>h x (.tail _ hx);have:=h n (.head _);show((List.replicate n.toNat i++cps (i+1) N).length:Int)=_;rw[List.length_append,List.length_replicate,List.sum_cons];omega
theorem sum_take:∀{N:List Int}(i:Nat),(∀n∈N,0<=n)->(N.take i).sum<=N.sum
 | [],i,_=>by rw[List.take_nil];exact Int.le_refl _
 | n::N,0,h=>by
  have:=cps_len (i:=0) h;rw[List.take_zero,List.sum_nil];omega
 | n::N,i+1,h=>by
  have:=sum_take (N:=N) i λx hx=>h x (.tail _ hx);rw[List.take_succ_cons,List.sum_cons,List.sum_cons];omega
theorem cps_mem:∀{N:List Int}{i v:Int},v∈cps i N->i<=v/\v<i+N.length
 | n::N,i,v,h=>by
  rcases List.mem_append.mp h with h|h
  .have:=(List.mem_replicate.mp h).2;rw[List.length_cons];omega
  .have:=cps_mem h;rw[List.length_cons];omega
theorem cps_up:∀(N:List Int)(i:Int),(cps i N).Pairwise (·<=·)
 | [],_=>.nil
 | n::N,i=>List.pairwise_append.mpr ⟨List.pairwise_replicate.mpr (.inr (Int.le_refl _)),cps_up N (i+1),λa ha b hb=>by
  have:=(List.mem_replicate.mp ha).2;have:=cps_mem hb;omega⟩
theorem cps_cnt:∀{N:List Int}{i:Int}{k:Nat}{n:Int},N[k]?=some n->0<=n->((cps i N).count (i+k):Int)=n
 | a::N,i,0,n,h,h0=>by
  injection h with h
  subst h;show((List.replicate a.toNat i++cps (i+1) N).count _:Int)=_;have z:(cps (i+1) N).count (i+((0:Nat):Int))=0:=List.count_eq_zero.mpr λz=>by have:=cps_mem z;omega
  rw[List.count_append,z,show i+((0:Nat):Int)=i by omega,List.count_replicate_self];omega
 | a::N,i,k+1,n,h,h0=>by
  have h:N[k]?=some n:=h;have:=cps_cnt (i:=i+1) h h0;show((List.replicate a.toNat i++cps (i+1) N).count _:Int)=_;have z:(List.replicate a.toNat i).count (i+((k+1:Nat):Int))=0:=List.count_eq_zero.mpr λz=>by have:=(List.mem_replicate.mp z).2;omega
  rw[List.count_append,z,show i+((k+1:Nat):Int)=i+1+(k:Int) by omega];omega
theorem mates{nb:Int->List Int}(tie:∀{x y:Int},y∈nb x->x∈nb y)(f:Int->Int):∀(PL:List (Int×Int))(I:List Int),I.Nodup->(I.map f).Perm (PL.flatMap λp=>[p.1,p.2])->(∀i∈I,∀j∈I,∀p∈PL,f i=p.1->f j=p.2->j∈nb i) →
  ∃par,Sym nb par/\(∀{n b},par n=some b->b∈nb n)/\∀i,par i≠none↔i∈I
 | [],I,_,pm,_=>by
  have:I=[]:=by
   have:=pm.length_eq;rw[List.length_map] at this;exact List.length_eq_zero_iff.mp this
  subst this;exact⟨λ_=>none,⟨tie,λh=>(nomatch h),λh=>(nomatch h)⟩,λh=>(nomatch h),λi=>⟨λh=>absurd rfl h,λh=>(nomatch h)⟩⟩
 | (a,b)::PL,I,nd,pm,adj=>by
  obtain⟨i,hi,ei⟩:=List.mem_map.mp (pm.mem_iff.mpr (.head _):a∈I.map f);have p1:=List.perm_cons_erase hi;have pm1:((I.erase i).map f).Perm (b::PL.flatMap λp=>[p.1,p.2]):=by
   have h:=(p1.map f).symm.trans pm;rw[List.map_cons,ei] at h;exact h.cons_inv
  obtain⟨j,hj,ej⟩:=List.mem_map.mp (pm1.mem_iff.mpr (.head _):b∈(I.erase i).map f);have p2:=List.perm_cons_erase hj;have pm2:(((I.erase i).erase j).map f).Perm (PL.flatMap λp=>[p.1,p.2]):=by
   have h:=(p2.map f).symm.trans pm1;rw[List.map_cons,ej] at h;exact h.cons_inv
  have pp:=p1.trans (p2.cons i);have nd':=pp.nodup_iff.mp nd;have hjI:=List.mem_of_mem_erase hj;have mI:∀x,x∈I↔x=i\/x=j\/x∈(I.erase i).erase j:=λx=>by rw[pp.mem_iff,List.mem_cons,List.mem_cons]
  have nij:i≠j:=λe=>(List.nodup_cons.mp nd').1 (e ▸ .head _);have ni:i∉(I.erase i).erase j:=λz=>(List.nodup_cons.mp nd').1 (.tail _ z);have nj:j∉(I.erase i).erase j:=λz=>(List.nodup_cons.mp (List.nodup_cons.mp nd').2).1 z;obtain⟨par,S,pb,dm⟩:=mates tie f PL _ (List.nodup_cons.mp (List.nodup_cons.mp nd').2).2 pm2 λx hx y hy p hp=>adj x ((mI x).mpr (.inr (.inr hx))) y ((mI y).mpr (.inr (.inr hy))) p (.tail _ hp);have t1:=adj i hi j hjI _ (.head _) ei ej;have q:∀{x y:Int},(if x=i then some j else if x=j then some i else par x)=some y->(x=i/\y=j)\/(x=j/\y=i)\/(x≠i/\x≠j/\y≠i/\y≠j/\par x=some y):=λ{x y} h=>by
   by_cases c:x=i
   .rw[if_pos c] at h;injection h with h
    exact .inl ⟨c,h.symm⟩
   .rw [if_neg c] at h;by_cases c2:x=j
    .rw[if_pos c2] at h;injection h with h
     exact .inr (.inl ⟨c2,h.symm⟩)
    .rw[if_neg c2] at h;have hy:=(dm y).mp (by rw[S.mate h];exact λz=>(nomatch z));exact .inr (.inr ⟨c,c2,λz=>ni (z ▸ hy),λz=>nj (z ▸ hy),h⟩)
  refine⟨λx=>if x=i then some j else if x=j then some i else par x,⟨tie,λ{x y} h=>?_,λ{x y} h=>?_⟩,λ{x y} h=>?_,λx=>?_⟩
  .rcases q h with⟨rfl,rfl⟩|⟨rfl,rfl⟩|⟨_,_,h1,h2,h⟩
   .show(if y=x then _ else _)=_;rw[if_neg nij.symm,if_pos rfl]
   .show(if y=y then _ else _)=_;rw[if_pos rfl]
   .show(if y=i then _ else _)=_;rw[if_neg h1,if_neg h2,S.mate h]
  .rcases q h with⟨rfl,rfl⟩|⟨rfl,rfl⟩|⟨_,_,_,_,h⟩
   .exact nij
   .exact nij.symm
   .exact S.ne h
  .rcases q h with⟨rfl,rfl⟩|⟨rfl,rfl⟩|⟨_,_,_,_,h⟩
   .exact t1
   .exact tie t1
   .exact pb h
  .rw [mI];show(if x=i then _ else _)≠_↔_;by_cases c:x=i
   .rw[if_pos c];exact⟨λ_=>.inl c,λ_ z=>(nomatch z)⟩
   .rw [if_neg c];by_cases c2:x=j
    .rw[if_pos c2];exact⟨λ_=>.inr (.inl c2),λ_ z=>(nomatch z)⟩
    .rw[if_neg c2,dm];exact⟨λh=>.inr (.inr h),λh=>h.elim (λz=>absurd z c) λh=>h.elim (λz=>absurd z c2) id⟩
theorem lone_out{nb:Int->List Int}{par oth:Int->Option Int}{m:Nat}{T:Int->Ts}{out:List Int}(B:Best nb par m T)(bs:Besides nb par m T out)(S:Sym nb oth)(ob:∀{n b},oth n=some b->b∈nb n)(iso:∀x∈lft m oth,nb x=[]):out=[]:=by
 cases eo:out with
 | nil=>rfl
 | cons y o=>
  have hy:=(bs.2 y).mp (eo ▸ .head _);obtain⟨z,hz,en⟩:=hy.2.2;obtain⟨o2,S2,b2,hl,mn⟩:=(B.spare_iff λr hr=>(B.shut r hr).ok).mp en;have zy:=S.tie hz;have sub:∀x∈z::lft m oth,x∈lft m o2:=λx hx=>by
   rcases List.mem_cons.mp hx with rfl|hx
   .exact hl
   .refine mem_lft.mpr ⟨(mem_lft.mp hx).1,?_⟩;cases q:o2 x with
    | none=>rfl
    | some b=>exact absurd (b2 q) (by rw[iso x hx];exact λh=>(nomatch h))
  have nd:(z::lft m oth).Nodup:=List.nodup_cons.mpr ⟨λh=>by rw[iso z h] at zy;exact(nomatch zy),lft_nd m oth⟩;have l1:=inj_le nd (λx=>x) sub λ_ _ _ _ e=>e;have l2:=mn oth S ob;rw[List.length_cons] at l1;omega
def tieB(p:Nat->Nat->Bool)(b:Nat):List Mt.Tri:=((List.range b).filter λa=>p a b).map λ(a:Nat)=>((a:Int),(b:Int),(0:Int))
def tieM(p:Nat->Nat->Bool)(n:Nat):List Mt.Tri:=(List.range n).flatMap (tieB p)
theorem tieM_succ(p:Nat->Nat->Bool)(n:Nat):tieM p (n+1)=tieM p n++tieB p n:=by
 unfold tieM;rw[List.range_succ,List.flatMap_append];simp
theorem mem_tieB{p:Nat->Nat->Bool}{b:Nat}{t:Mt.Tri}:t∈tieB p b↔∃a:Nat,a<b/\p a b=true/\t=((a:Int),(b:Int),0):=by
 unfold tieB;rw[List.mem_map];exact⟨λ⟨a,h,e⟩=>⟨a,List.mem_range.mp (List.mem_filter.mp h).1,(List.mem_filter.mp h).2,e.symm⟩,λ⟨a,h1,h2,e⟩=>⟨a,List.mem_filter.mpr ⟨List.mem_range.mpr h1,h2⟩,e.symm⟩⟩
theorem mem_tieM{p:Nat->Nat->Bool}{n:Nat}{t:Mt.Tri}:t∈tieM p n↔∃a b:Nat,a<b/\b<n/\p a b=true/\t=((a:Int),(b:Int),0):=by
 unfold tieM;rw[List.mem_flatMap];constructor
 .rintro⟨b,hb,h⟩;obtain⟨a,h1,h2,e⟩:=mem_tieB.mp h;exact⟨a,b,h1,List.mem_range.mp hb,h2,e⟩
 .rintro⟨a,b,h1,hb,h2,e⟩;exact⟨b,List.mem_range.mpr hb,mem_tieB.mpr ⟨a,h1,h2,e⟩⟩
theorem key_ab{a b:Int}(h:a<b)(z:Int):Mt.key (a,b,z)=[a,b]:=by
 show[Mt.lo a b,Mt.hi a b]=_;rw[show Mt.lo a b=a by unfold Mt.lo;split<;>omega,show Mt.hi a b=b by unfold Mt.hi;split<;>omega]
theorem tieM_nd(p:Nat->Nat->Bool):∀n,((tieM p n).map Mt.key).Nodup
 | 0=>List.nodup_nil
 | n+1=>by
  rw[tieM_succ,List.map_append,List.nodup_append];refine⟨tieM_nd p n,?_,λk hk l hl e=>?_⟩
  .unfold tieB;rw[List.map_map];refine List.pairwise_map.mpr ?_;have nd:((List.range n).filter λa=>p a n).Pairwise λa b=>a≠b/\a<n/\b<n:=by
    refine(List.Pairwise.and (List.Pairwise.filter _ List.nodup_range) (List.Pairwise.filter _ ?_));exact(List.pairwise_iff_forall_sublist.mpr λh=>⟨List.mem_range.mp (h.subset (.head _)),List.mem_range.mp (h.subset (.tail _ (.head _)))⟩)
   refine nd.imp λ{a b} h e=>h.1 ?_;have e:Mt.key ((a:Int),(n:Int),0)=Mt.key ((b:Int),(n:Int),0):=e;rw[key_ab (by omega),key_ab (by omega)] at e;injection e with e
   omega
  .obtain⟨t,ht,rfl⟩:=List.mem_map.mp hk;obtain⟨u,hu,rfl⟩:=List.mem_map.mp hl;obtain⟨a,b,h1,h2,_,rfl⟩:=mem_tieM.mp ht;obtain⟨c,h3,_,rfl⟩:=mem_tieB.mp hu;rw[key_ab (by omega),key_ab (by omega)] at e;injection e with e1 e2
   injection e2 with e2
   omega
theorem tieM_len(p:Nat->Nat->Bool):∀n,2*(tieM p n).length<=n*n
 | 0=>Nat.le_refl _
 | n+1=>by
  have h:=tieM_len p n;have l:(tieB p n).length<=n:=by
   unfold tieB;rw[List.length_map];refine Nat.le_trans (List.length_filter_le _ _) ?_;rw[List.length_range];exact Nat.le_refl _
  rw[tieM_succ,List.length_append,show(n+1)*(n+1)=n*n+2*n+1 by rw[Nat.add_mul,Nat.mul_add];omega];omega
theorem tieM_good(p:Nat->Nat->Bool)(n:Nat):∀t∈tieM p n,¬Mt.bad n t.1 t.2.1:=λt ht=>by
 obtain⟨a,b,h1,h2,_,rfl⟩:=mem_tieM.mp ht;unfold Mt.bad;show ¬_;dsimp only;omega
def bump:List (List Int×Int)->List Int->List (List Int×Int)
 | [],k=>[(k,1)]
 | (j,n)::D,k=>if j=k then (j,n+1)::D else (j,n)::bump D k
def en(p:List Int×Int):List L2.Key×L2.V:=(p.1.map Sum.inl,.int p.2)
theorem inlI:∀{a b:List Int},(a.map Sum.inl:List L2.Key)=b.map Sum.inl->a=b
 | [],[],_=>rfl
 | x::a,y::b,h=>by
  injection h with h1 h2
  injection h1 with h1
  rw[h1,inlI h2]
theorem put_neg{κ:Type}[DecidableEq κ]{p:κ×L2.V}{r:List (κ×L2.V)}{k:κ}{v:L2.V}(h:¬p.1=k):L2.putK (p::r) k v=p::L2.putK r k v:=by
 unfold L2.putK;rw[List.any_cons,decide_eq_false h,Bool.false_or]
 split
 .rw[List.map_cons,if_neg h]
 .rfl
theorem bump_put:∀{D:List (List Int×Int)}{k:List Int},(D.map (·.1)).Nodup->∃n:Int,(L2.valV (D.map en) (k.map Sum.inl)).getD (.int 0)=.int n/\L2.putK (D.map en) (k.map Sum.inl) (.int (n+1))=(bump D k).map en
 | [],k,_=>⟨0,rfl,rfl⟩
 | (j,n)::D,k,nd=>by
  have nd:=List.nodup_cons.mp (List.map_cons ▸ nd);by_cases c:j=k
  .subst c;have ee:(en (j,n)).1=j.map Sum.inl:=rfl;refine⟨n,by rw[List.map_cons,L2.valV_pos ee];rfl,?_⟩;unfold L2.putK bump;rw[if_pos rfl,List.map_cons,List.map_cons,List.any_cons,show(decide ((en (j,n)).1=j.map Sum.inl))=true from decide_eq_true rfl,Bool.true_or,if_pos rfl,List.map_cons,if_pos ee]
   congr 1
   rw[List.map_map];refine List.map_congr_left λp hp=>?_;show(if (en p).1=j.map Sum.inl then _ else _)=_;have ne:¬(en p).1=j.map Sum.inl:=λe=>nd.1 (List.mem_map.mpr ⟨p,hp,inlI e⟩);rw[if_neg ne]
  .obtain⟨n',h1,h2⟩:=bump_put (D:=D) (k:=k) nd.2;have ne:¬(en (j,n)).1=k.map Sum.inl:=λe=>c (inlI e);refine⟨n',by rw[List.map_cons,L2.valV_neg ne];exact h1,?_⟩;rw[List.map_cons,put_neg ne,h2];show _=((if j=k then _ else _:List (List Int×Int))).map en;rw[if_neg c];rfl
def dg(D:List (List Int×Int))(v:Int):Int:=(D.map λp=>p.2*e1 p.1 v).sum
theorem dg_cons(p:List Int×Int)(D:List (List Int×Int))(v:Int):dg (p::D) v=p.2*e1 p.1 v+dg D v:=by unfold dg;rw[List.map_cons,List.sum_cons]
theorem dg_bump:∀(D:List (List Int×Int))(k:List Int)(v:Int),dg (bump D k) v=dg D v+e1 k v
 | [],k,v=>by
  show dg [(k,1)] v=_;rw[dg_cons];show 1*e1 k v+0=0+e1 k v;omega
 | (j,n)::D,k,v=>by
  show dg (if j=k then _ else _) v=_;by_cases c:j=k
  .subst c;rw[if_pos rfl,dg_cons,dg_cons];show(n+1)*e1 j v+_=n*e1 j v+_+e1 j v;rw[Int.add_mul];omega
  .rw[if_neg c,dg_cons,dg_cons,dg_bump D k v];omega
theorem bump_all{R:List Int->Prop}:∀{D:List (List Int×Int)}{k:List Int},R k->(∀p∈D,R p.1/\1<=p.2)->∀p∈bump D k,R p.1/\1<=p.2
 | [],k,hk,_,p,hp=>by
  rw[List.mem_singleton.mp hp];exact⟨hk,Int.le_refl _⟩
 | (j,n)::D,k,hk,h,p,hp=>by
  have hp:p∈(if j=k then (j,n+1)::D else (j,n)::bump D k):=hp;have h0:=h _ (.head _);by_cases c:j=k
  .rw[if_pos c] at hp;rcases List.mem_cons.mp hp with rfl|hp
   .exact⟨h0.1,by have:=h0.2;dsimp only at this ⊢;omega⟩
   .exact h p (.tail _ hp)
  .rw[if_neg c] at hp;rcases List.mem_cons.mp hp with rfl|hp
   .exact h0
   .exact bump_all hk (λq hq=>h q (.tail _ hq)) p hp
theorem bump_keys:∀(D:List (List Int×Int))(k:List Int),(bump D k).map (·.1)=D.map (·.1)\/(k∉D.map (·.1)/\(bump D k).map (·.1)=D.map (·.1)++[k])
 | [],k=>.inr ⟨λh=>(nomatch h),rfl⟩
 | (j,n)::D,k=>by
  have e:bump ((j,n)::D) k=if j=k then (j,n+1)::D else (j,n)::bump D k:=rfl
  by_cases c:j=k
  .rw[e,if_pos c];exact .inl rfl
  .rw [e,if_neg c,List.map_cons,List.map_cons];rcases bump_keys D k with h|⟨h1,h2⟩
   .exact .inl (by rw[h])
   .refine .inr ⟨λz=>?_,by rw[h2];rfl⟩;rcases List.mem_cons.mp z with z|z
    .exact c z.symm
    .exact h1 z
theorem bump_nd{D:List (List Int×Int)}{k:List Int}(nd:(D.map (·.1)).Nodup):((bump D k).map (·.1)).Nodup/\(bump D k).length<=D.length+1:=by
 have l:∀E:List (List Int×Int),(E.map (·.1)).length=E.length:=λE=>List.length_map _;rcases bump_keys D k with h|⟨h1,h2⟩
 .exact⟨h ▸ nd,by have:=congrArg List.length h;rw[l,l] at this;omega⟩
 .refine⟨?_,by have:=congrArg List.length h2;rw[List.length_append,l,l,List.length_singleton] at this;omega⟩;rw[h2,List.nodup_append];exact⟨nd,List.nodup_cons.mpr ⟨λh=>(nomatch h),.nil⟩,λa ha b hb e=>h1 (by rw[<-List.mem_singleton.mp hb,<-e];exact ha)⟩
def cnt(D:List (List Int×Int))(k:List Int):Int:=match L2.valV (D.map en) (k.map Sum.inl) with|some (.int n)=>n|_=>0
theorem cnt_val:∀{D:List (List Int×Int)},(D.map (·.1)).Nodup->∀p∈D,L2.valV (D.map en) (p.1.map Sum.inl)=some (.int p.2)
 | (j,n)::D,nd,p,hp=>by
  have nd:=List.nodup_cons.mp (List.map_cons ▸ nd);rcases List.mem_cons.mp hp with rfl|hp
  .rw[List.map_cons,L2.valV_pos (show(en (j,n)).1=j.map Sum.inl from rfl)];rfl
  .have ne:¬(en (j,n)).1=p.1.map Sum.inl:=λe=>nd.1 (List.mem_map.mpr ⟨p,hp,(inlI e).symm⟩);rw[List.map_cons,L2.valV_neg ne];exact cnt_val nd.2 p hp
theorem val_iff(k:List Int):∀D:List (List Int×Int),(L2.valV (D.map en) (k.map Sum.inl)).isSome=true↔k∈D.map (·.1)
 | []=>⟨λh=>(nomatch h),λh=>(nomatch h)⟩
 | (j,n)::D=>by
  by_cases c:j=k
  .subst c;rw[List.map_cons,L2.valV_pos (show(en (j,n)).1=j.map Sum.inl from rfl)];exact⟨λ_=>.head _,λ_=>rfl⟩
  .have ne:¬(en (j,n)).1=k.map Sum.inl:=λe=>c (inlI e);rw[List.map_cons,L2.valV_neg ne,val_iff k D];exact⟨λh=>.tail _ h,λh=>(List.mem_cons.mp h).elim (λz=>absurd z.symm c) id⟩
theorem cnt_perm{D:List (List Int×Int)}{ts:List (List Int)}(nd:(D.map (·.1)).Nodup)(pm:ts.Perm (D.map (·.1))):(ts.map λk=>(k,cnt D k)).Perm D/\∀k∈ts,L2.valV (D.map en) (k.map Sum.inl)=some (.int (cnt D k)):=by
 have e:∀p∈D,cnt D p.1=p.2:=λp hp=>by unfold cnt;rw[cnt_val nd p hp]
 have e2:(D.map (·.1)).map (λk=>(k,cnt D k))=D:=by
  rw[List.map_map];refine(List.map_congr_left (g:=id) λp hp=>?_).trans (List.map_id _);show(p.1,cnt D p.1)=p;rw[e p hp]
 refine⟨?_,λk hk=>?_⟩
 .have:=pm.map λk=>(k,cnt D k)
  rwa [e2] at this
 .obtain⟨p,hp,rfl⟩:=List.mem_map.mp (pm.mem_iff.mp hk);rw[cnt_val nd p hp,e p hp]
def img(cs t:List Int):List Int:=match t with | [a,b]=>[cs.getD a.toNat 0,cs.getD b.toNat 0]|_=>[]
def bmps(l:List (List Int)):List (List Int×Int):=l.foldl bump []
theorem bmps_snoc(l:List (List Int))(k:List Int):bmps (l++[k])=bump (bmps l) k:=by unfold bmps;rw[List.foldl_append];rfl
theorem bmps_ok{R:List Int->Prop}(l:List (List Int))(h:∀k∈l,R k):((bmps l).map (·.1)).Nodup/\(bmps l).length<=l.length/\(∀p∈bmps l,R p.1/\1<=p.2)/\∀v,dg (bmps l) v=(l.map λk=>e1 k v).sum:=by
 have key:∀(r:List (List Int))(l:List (List Int)),r=l.reverse->(∀k∈l,R k)->((bmps l).map (·.1)).Nodup/\(bmps l).length<=l.length/\(∀p∈bmps l,R p.1/\1<=p.2)/\∀v,dg (bmps l) v=(l.map λk=>e1 k v).sum:=λr=>by
  induction r with
  | nil=>
   intro l e _;have:l=[]:=List.reverse_eq_nil_iff.mp e.symm;subst this;exact⟨.nil,Nat.le_refl _,λp hp=>(nomatch hp),λv=>rfl⟩
  | cons k r ih=>
   intro l e h;have:l=r.reverse++[k]:=by rw[<-List.reverse_cons,e,List.reverse_reverse]
   subst this;obtain⟨h1,h2,h3,h4⟩:=ih r.reverse (List.reverse_reverse _).symm λx hx=>h x (List.mem_append_left _ hx);rw[bmps_snoc];refine⟨(bump_nd h1).1,?_,bump_all (h k (List.mem_append_right _ (.head _))) h3,λv=>?_⟩
   .have:=(bump_nd (k:=k) h1).2;rw[List.length_append,List.length_singleton];omega
   .rw[dg_bump,h4,List.map_append,List.sum_append];simp
 exact key _ l rfl h
theorem ends_flat(cs:List Int)(v:Int):∀{ps:List (List Int)},(∀t∈ps,∃a b:Int,t=[a,b])->(ps.map λt=>e1 (img cs t) v).sum=((ps.flatten.map λ(i:Int)=>cs.getD i.toNat 0).count v:Int)
 | [],_=>rfl
 | t::ps,h=>by
  obtain⟨a,b,rfl⟩:=h t (.head _);rw[List.map_cons,List.sum_cons,ends_flat cs v λu hu=>h u (.tail _ hu),List.flatten_cons,List.map_append,List.count_append];have:e1 (img cs [a,b]) v=(([a,b].map λ(i:Int)=>cs.getD i.toNat 0).count v:Int):=by
   show(if cs.getD a.toNat 0=v then 1 else 0)+(if cs.getD b.toNat 0=v then 1 else 0)=_;rw[List.map_cons,List.map_cons,List.map_nil,List.count_cons,List.count_cons,List.count_nil];simp only[beq_iff_eq]
   split<;>split<;>rfl
  rw[this];omega
theorem pos_map(cs:List Int):((List.range cs.length).map λ(i:Nat)=>(i:Int)).map (λ(i:Int)=>cs.getD i.toNat 0)=cs:=by
 rw[List.map_map];refine List.ext_getElem (by simp) λi h1 h2=>?_;simp;rw[List.getElem?_eq_getElem h2];rfl
theorem sm_perm{a b:List Int}(p:a.Perm b):a.sum=b.sum:=by
 induction p with
 | nil=>rfl
 | cons x _ ih=>rw[List.sum_cons,List.sum_cons,ih]
 | swap x y l=>simp only[List.sum_cons];omega
 | trans _ _ h1 h2=>exact h1.trans h2
theorem dg_perm{R D:List (List Int×Int)}(p:R.Perm D)(v:Int):dg R v=dg D v:=by
 unfold dg;exact sm_perm (p.map _)
theorem dg_all{ps:List (List Int)}{par:Int->Option Int}{nb:Int->List Int}{N:List Int}{R:List (List Int×Int)}(ch:L2.Chs ps par)(S:Sym nb par)(R0:Rg nb par (cps 0 N).length)(full:lft (cps 0 N).length par=[])(n0:∀n∈N,0<=n)(pr:R.Perm (bmps (ps.map (img (cps 0 N))))){k:Nat}{n:Int}(hk:N[k]?=some n):dg R k=n:=by
 have hd:=(bmps_ok (R:=λ_=>True) (ps.map (img (cps 0 N))) λ_ _=>trivial).2.2.2 k;rw[dg_perm pr,hd,List.map_map];refine(ends_flat (cps 0 N) k (ps:=ps) λt ht=>ch.two t ht).trans ?_;have pm:ps.flatten.Perm ((List.range (cps 0 N).length).map λ(i:Nat)=>(i:Int)):=by
  refine(List.perm_ext_iff_of_nodup (ch.flatNd S) ?_).mpr λx=>?_
  .exact List.pairwise_map.mpr (List.nodup_range.imp λ{a b} h e=>h (Int.ofNat.inj e))
  .rw [ch.pts S,List.mem_map];constructor
   .intro h;cases e:par x with
    | none=>exact absurd e h
    | some y=>
     have:=R0.par (S.mate e);exact⟨x.toNat,List.mem_range.mpr (by omega),by omega⟩
   .rintro⟨i,hi,rfl⟩ e;have:=(mem_lft (par:=par) (m:=(cps 0 N).length) (x:=(i:Int))).mpr ⟨⟨by omega,by have:=List.mem_range.mp hi;omega⟩,e⟩;rw[full] at this;exact(nomatch this)
 rw[(pm.map _).count_eq,pos_map];have:=cps_cnt (i:=0) hk (n0 n (List.mem_of_getElem? hk))
 rwa [Int.zero_add] at this
theorem mates_all{nb:Int->List Int}(tie:∀{x y:Int},y∈nb x->x∈nb y){N:List Int}{PL:List (Int×Int)}(n0:∀n∈N,0<=n)(hc:∀(k:Nat)(n:Int),N[k]?=some n->n=((PL.flatMap λp=>[p.1,p.2]).count (k:Int):Int))(hr:∀v∈PL.flatMap λp=>[p.1,p.2],0<=v/\v<(N.length:Int))
  (f:Int->Int) (J:List Int) (nd:J.Nodup) (hJ:(J.map f).Perm (cps 0 N)) (adj:∀i∈J,∀j∈J,∀p∈PL,f i=p.1->f j=p.2->j∈nb i) :
  ∃par,Sym nb par/\(∀{n b},par n=some b->b∈nb n)/\∀i,par i≠none↔i∈J:=by
 refine mates tie _ PL J nd (hJ.trans (List.perm_iff_count.mpr λv=>?_)) adj;by_cases c:0<=v/\v<(N.length:Int)
 .have e:N[v.toNat]?=some (N[v.toNat]'(by omega)):=List.getElem?_eq_getElem _;have h1:=hc _ _ e;have h2:=cps_cnt (i:=0) e (n0 _ (List.mem_of_getElem? e));rw[Int.zero_add] at h2;rw[show((v.toNat:Nat):Int)=v by omega] at h1 h2;omega
 .rw[List.count_eq_zero.mpr λh=>c (hr v h),List.count_eq_zero.mpr λh=>c (by have:=cps_mem h;omega)]
theorem sum_set:∀{l:List Int}{i:Nat}{n:Int}(x:Int),l[i]?=some n->(l.set i x).sum=l.sum-n+x
 | a::l,0,n,x,h=>by
  injection h with h
  subst h;show(x::l).sum=(a::l).sum-a+x;rw[List.sum_cons,List.sum_cons];omega
 | a::l,i+1,n,x,h=>by
  have h:l[i]?=some n:=h;show(a::l.set i x).sum=(a::l).sum-n+x;rw[List.sum_cons,List.sum_cons,sum_set x h];omega
structure Pl(m:Nat)(D:List (List Int×Int))(N:List Int)(PL:List (Int×Int)):Prop where
 nd:(D.map (·.1)).Nodup
 key:∀r∈D,∃a b,r.1=[a,b]/\0<=a/\a<b/\b<(m:Int)
 len:N.length=m
 n0:∀n∈N,0<=n
 sum:N.sum<=24
 cnt:∀(k:Nat)(n:Int),N[k]?=some n->n=((PL.flatMap λp=>[p.1,p.2]).count (k:Int):Int)
 pl:∀p∈PL,[Mt.lo p.1 p.2,Mt.hi p.1 p.2]∈D.map (·.1)/\(0<=p.1/\p.1<(m:Int))/\(0<=p.2/\p.2<(m:Int))/\p.1≠p.2
theorem Pl.nil(m:Nat):Pl m [] (List.replicate m 0) []:=⟨.nil,λ_ h=>(nomatch h),List.length_replicate,λn h=>by rw[(List.mem_replicate.mp h).2];exact Int.le_refl _,by
 have:∀k,(List.replicate k (0:Int)).sum=0:=λk=>by induction k with
  | zero=>rfl
  | succ k ih=>rw[List.replicate_succ,List.sum_cons,ih];rfl
 rw[this];decide,λk n h=>by rw[(List.mem_replicate.mp (List.mem_of_getElem? h)).2];rfl,λ_ h=>(nomatch h)⟩
theorem Pl.row{m:Nat}{D:List (List Int×Int)}{N:List Int}{PL:List (Int×Int)}(h:Pl m D N PL){a b:Int}(z:Int)(ha:0<=a/\a<(m:Int))(hb:0<=b/\b<(m:Int))(ab:a≠b)(no:[Mt.lo a b,Mt.hi a b]∉D.map (·.1)):Pl m (D++[([Mt.lo a b,Mt.hi a b],z)]) N PL where
 nd:=by
  rw[List.map_append,List.nodup_append];exact⟨h.nd,List.nodup_cons.mpr ⟨λh=>(nomatch h),.nil⟩,λx hx y hy e=>no ((List.mem_singleton.mp hy:y=[Mt.lo a b,Mt.hi a b]) ▸ e ▸ hx)⟩
 key:=λr hr=>by
  rcases List.mem_append.mp hr with hr|hr
  .exact h.key r hr
  .rw[List.mem_singleton.mp hr];refine⟨_,_,rfl,?_⟩;unfold Mt.lo Mt.hi
   split<;>split<;>omega
 len:=h.len
 n0:=h.n0
 sum:=h.sum
 cnt:=h.cnt
 pl:=λp hp=>⟨by rw[List.map_append];exact List.mem_append_left _ (h.pl p hp).1,(h.pl p hp).2⟩
theorem rep_cnt(a b:Int)(k:Int):∀t:Nat,(((List.replicate t (a,b)).flatMap λp=>[p.1,p.2]).count k:Int)=(if a=k then (t:Int) else 0)+(if b=k then (t:Int) else 0)
 | 0=>by show(0:Int)=_;split<;>split<;>rfl
 | t+1=>by
  have ih:=rep_cnt a b k t;rw[List.replicate_succ,List.flatMap_cons,List.count_append,List.count_cons,List.count_cons,List.count_nil];simp only[beq_iff_eq];by_cases h1:a=k
  .by_cases h2:b=k
   .rw[if_pos h1,if_pos h2] at ih;rw[if_pos h1,if_pos h2,if_pos h1,if_pos h2];omega
   .rw[if_pos h1,if_neg h2] at ih;rw[if_neg h2,if_pos h1,if_pos h1,if_neg h2];omega
  .by_cases h2:b=k
   .rw[if_neg h1,if_pos h2] at ih;rw[if_pos h2,if_neg h1,if_neg h1,if_pos h2];omega
   .rw[if_neg h1,if_neg h2] at ih;rw[if_neg h2,if_neg h1,if_neg h1,if_neg h2];omega
theorem Pl.add{m:Nat}{D:List (List Int×Int)}{N:List Int}{PL:List (Int×Int)}(h:Pl m D N PL){a b:Nat}{x y t:Int}(ha:N[a]?=some x)(hb:N[b]?=some y)(ab:a≠b)(hm:[Mt.lo (a:Int) b,Mt.hi (a:Int) b]∈D.map (·.1))(t0:0<=t)(t1:N.sum+2*t<=24) :
  Pl m D ((N.set a (x+t)).set b (y+t)) (PL++List.replicate t.toNat ((a:Int),(b:Int))):=by
 have la:=(List.getElem?_eq_some_iff.mp ha).1;have lb:=(List.getElem?_eq_some_iff.mp hb).1;have hb':(N.set a (x+t))[b]?=some y:=by rw[List.getElem?_set_ne ab];exact hb
 have lm:=h.len;refine⟨h.nd,h.key,by rw[List.length_set,List.length_set];exact lm,λn hn=>?_,?_,λk n hk=>?_,λp hp=>?_⟩
 .rcases List.mem_or_eq_of_mem_set hn with hn|rfl
  .rcases List.mem_or_eq_of_mem_set hn with hn|rfl
   .exact h.n0 n hn
   .have:=h.n0 x (List.mem_of_getElem? ha);omega
  .have:=h.n0 y (List.mem_of_getElem? hb);omega
 .rw[sum_set _ hb',sum_set _ ha];omega
 .rw [List.flatMap_append,List.count_append,Int.natCast_add,rep_cnt];have c:=λn=>h.cnt k n;rw[List.getElem?_set] at hk
  split at hk
  .rename_i e
   subst e
   split at hk
   .have:=c y hb;rw[if_neg (by omega),if_pos rfl];have:=Option.some.inj hk;omega
   .cases hk
  .rename_i e
   rw[List.getElem?_set] at hk
   split at hk
   .rename_i e2
    subst e2;have:=c x ha;rw[if_pos rfl,if_neg (by omega)];have:=Option.some.inj hk;omega
   .have:=c n hk;rw[if_neg (by omega),if_neg (by omega)];omega
 .rcases List.mem_append.mp hp with hp|hp
  .exact h.pl p hp
  .rw[(List.mem_replicate.mp hp).2];exact⟨hm,⟨by omega,by omega⟩,⟨by omega,by omega⟩,by omega⟩
theorem pos_nd(n:Nat):((List.range n).map λ(i:Nat)=>(i:Int)).Nodup:=List.pairwise_map.mpr (List.nodup_range.imp λ{a b} h e=>h (Int.ofNat.inj e))
theorem pos_mem{n:Nat}{x:Int}:x∈((List.range n).map λ(i:Nat)=>(i:Int))↔0<=x/\x<n:=by
 rw[List.mem_map];constructor
 .rintro⟨i,hi,rfl⟩;have:=List.mem_range.mp hi;omega
 .intro h;exact⟨x.toNat,List.mem_range.mpr (by omega),by omega⟩
theorem Pl.pairs{m:Nat}{D:List (List Int×Int)}{N:List Int}{PL:List (Int×Int)}(h:Pl m D N PL)(z:Int){nb:Int->List Int}(tie:∀{x y:Int},y∈nb x->x∈nb y)
  (ad:∀x y:Int,y∈nb x↔∃i j:Nat,x=i/\y=j/\i<(cps 0 (N++[z])).length/\j<(cps 0 (N++[z])).length/\[Mt.lo ((cps 0 (N++[z])).getD i 0) ((cps 0 (N++[z])).getD j 0),Mt.hi ((cps 0 (N++[z])).getD i 0) ((cps 0 (N++[z])).getD j 0)]∈D.map (·.1)) :
  ∃oth,Sym nb oth/\(∀{n b},oth n=some b->b∈nb n)/\(z=0->lft (cps 0 (N++[z])).length oth=[])/\(1<=z->lft (cps 0 (N++[z])).length oth≠[])/\∀x∈lft (cps 0 (N++[z])).length oth,nb x=[]:=by
 have ec:=cps_snoc N 0 z;rw[Int.zero_add,h.len] at ec;have lc:(cps 0 (N++[z])).length=(cps 0 N).length+z.toNat:=by rw[ec,List.length_append,List.length_replicate]
 have g1:∀i:Nat,i<(cps 0 N).length->(cps 0 (N++[z])).getD i 0=(cps 0 N).getD i 0:=λi hi=>by rw[ec,List.getD_eq_getElem?_getD,List.getElem?_append_left hi,<-List.getD_eq_getElem?_getD]
 have g2:∀i:Nat,(cps 0 N).length<=i->i<(cps 0 (N++[z])).length->(cps 0 (N++[z])).getD i 0=m:=λi h1 h2=>by
  rw[ec,List.getD_eq_getElem?_getD,List.getElem?_append_right h1,List.getElem?_replicate,if_pos (by omega)];rfl
 have hm:∀v∈PL.flatMap λp=>[p.1,p.2],0<=v/\v<(N.length:Int):=λv hv=>by
  obtain⟨p,hp,hv⟩:=List.mem_flatMap.mp hv;have:=(h.pl p hp).2;rw[h.len];simp at hv;rcases hv with rfl|rfl
  .exact this.1
  .exact this.2.1
 obtain⟨oth,S,ob,dm⟩:=mates_all tie h.n0 h.cnt hm (λ(i:Int)=>(cps 0 N).getD i.toNat 0) ((List.range (cps 0 N).length).map λ(i:Nat)=>(i:Int)) (pos_nd _) (by rw[pos_map]) λi hi j hj p hp e1 e2=>by
  have hi:=pos_mem.mp hi;have hj:=pos_mem.mp hj;refine(ad i j).mpr ⟨i.toNat,j.toNat,by omega,by omega,by omega,by omega,?_⟩;rw[g1 _ (by omega),g1 _ (by omega),e1,e2];exact(h.pl p hp).1
 have ml:∀x,x∈lft (cps 0 (N++[z])).length oth↔((cps 0 N).length:Int)<=x/\x<(cps 0 (N++[z])).length:=λx=>by
  rw[mem_lft];have:=dm x;rw[pos_mem] at this;constructor
  .rintro⟨⟨h0,h1⟩,h2⟩;refine⟨?_,h1⟩;by_cases c:((cps 0 N).length:Int)<=x
   .exact c
   .exact absurd h2 (this.mpr (by omega))
  .rintro⟨h0,h1⟩;refine⟨⟨by omega,h1⟩,Classical.byContradiction λc=>?_⟩;have:=this.mp c;omega
 refine⟨oth,S,ob,λz0=>?_,λz1 e=>?_,λx hx=>?_⟩
 .refine List.eq_nil_iff_forall_not_mem.mpr λx hx=>?_;have:=(ml x).mp hx;omega
 .have:=(ml (cps 0 N).length).mpr ⟨by omega,by omega⟩;rw[e] at this;exact(nomatch this)
 .have hx:=(ml x).mp hx;refine List.eq_nil_iff_forall_not_mem.mpr λy hy=>?_;obtain⟨i,j,rfl,rfl,hi,hj,mk⟩:=(ad x y).mp hy;rw[g2 i (by omega) hi] at mk;obtain⟨r,hr,e⟩:=List.mem_map.mp mk;obtain⟨a,b,e2,a0,ab,bm⟩:=h.key r hr;rw[e2] at e;injection e with e3 e4
  injection e4 with e4
  unfold Mt.lo at e3;unfold Mt.hi at e4
  split at e3<;>split at e4<;>omega
end Cw
namespace K67
open PySem L2 PyProof.Rows
theorem wd_int{T:List Mt.Tri}{k:List Key}{v:V}(h:valV (wd T) k=some v):∃z,v=.int z:=by
 unfold valV at h;cases q:(wd T).find? λkv=>decide (kv.1=k) with
 | none=>rw[q] at h;cases h
 | some p=>
  rw[q] at h;obtain⟨u,_,eu⟩:=List.mem_map.mp (List.mem_of_find?_eq_some q);rw[<-eu] at h;exact⟨_,(Option.some.inj h).symm⟩
theorem wtV_non{T:List Mt.Tri}{a b:Int}:wtV T a b=.non↔¬[Mt.lo a b,Mt.hi a b]∈T.map Mt.key:=by
 have e:=wd_some T (a,b,0);unfold wtV;show(valV (wd T) (kk (a,b,0))).getD .non=.non↔¬Mt.key (a,b,0)∈T.map Mt.key;cases q:valV (wd T) (kk (a,b,0)) with
 | none=>
  rw[q] at e;refine⟨λ_ h=>?_,λ_=>rfl⟩;have:((T.map Mt.key).any λk=>decide (k=Mt.key (a,b,0)))=true:=List.any_eq_true.mpr ⟨_,h,decide_eq_true rfl⟩;rw[this] at e;cases e
 | some v=>
  rw[q] at e;obtain⟨z,rfl⟩:=wd_int q;obtain⟨k,hk,ek⟩:=List.any_eq_true.mp e.symm;have ek:=of_decide_eq_true ek;subst ek;exact⟨λz=>(by cases z),λh=>absurd hk h⟩
section
variable{P:Program}{w:World}{K:W.Frag}{mg:Str->Option Value}{base:Heap}{C:Addr}
theorem sl(k:Nat)(h:k<1000):k<=sizeLine:=Nat.le_of_lt (small1000 (Nat.le_of_lt h))
def spCopies:Sp:=λvs H Q _=>∃(q:Addr)(N:List Int),vs=[.ref q]/\H q=some (.lst (N.map V.int))/\N.length<=100/\(∀n∈N,0<=n)/\N.sum<=24/\∀l H',H l=none->Same H H'->H' l=some (.lst ((Cw.cps 0 N).map V.int))->Q (.ref l) H'
theorem ok_copies{f:Addr}{fd:FuncData}(F:Fun K "copies_of" "copies_of" sCopies f fd)(genum:mg "enumerate"=none):FnOk P w K mg base CX0 1 f fd ["numbers"] spCopies:=by
 have sc:=sc_mk (N:=["numbers","copies","point","number"]) (P:=["numbers"]) (sc:=defScope sCopies) (by decide +kernel);refine F.ok sc (λvs H Q E h=>?_) (λcdv A outer s H vs Q E hr h=>?_)
 .obtain⟨q,N,rfl,_⟩:=h;rfl
 .obtain ⟨q,N,rfl,hq,lN,n0,sm,hQ⟩:=h;refine'⟨_,pss_cons (ps_set (i:=1) sc.nd rfl (Or.inl rfl) (pe_lst pa_nil)) (pss_cons (ps_for PassesOwn.never rfl (pi_enum rfl genum (pa_cons (pv 0) pa_nil)) (pg_tup rfl (pgs_cons (pg_name (i:=2) sc.nd rfl (Or.inl rfl)) (pgs_cons (pg_name (i:=3) sc.nd rfl (Or.inl rfl)) pgs_nil))) (pss_one (ps_expr (pe_bm PySem.F.plainAttrs_list PySem.F.slot_list_extend PySem.F.type_list_extend mt_extend (pv 1) (pa_cons (pe_op op_rep (pe_lst (pa_cons (pv 2) pa_nil)) (pv 3)) pa_nil))))) (pss_one (ps_ret (pv 1)))),?_⟩;refine⟨Nat.zero_le _,λl hl=>?_⟩;have s0:Same H (upd H l (.lst [])):=Same.new hl;refine⟨_,rfl,q,rfl,⟨_,SqL.of (s0 q _ hq)⟩,for_enum (K:=K) (a:=q) (xs:=N.map V.int)
   (λi σ H3=>∃(e2 e3:Option V),σ=[some (.ref q),some (.ref l),e2,e3]/\Same H H3/\H3 l=some (.lst ((Cw.cps 0 (N.take i)).map V.int)))
   ⟨none,none,rfl,s0,upd_same⟩ (λi σ H3 _ ⟨_,_,_,s3,_⟩=>SqL.of (s3 q _ hq)) ?_ ?_⟩
  .rintro i y t σ H3 hi ⟨e2,e3,rfl,s3,hl3⟩ nt;obtain⟨n,rfl,en⟩:=map_int_at hi;have h0:=n0 n (List.mem_of_getElem? en);have tk:=Cw.sum_take (i+1) n0;have tk0:=Cw.sum_take i n0;have lc:=Cw.cps_len (i:=0) (N:=N.take i) λx hx=>n0 x (List.mem_of_mem_take hx);have sn:(N.take (i+1)).sum=(N.take i).sum+n:=by rw[List.take_succ,en,List.sum_append];simp
   have s4:Same H3 (upd H3 t (.tup [.int (i:Int),.int n])):=Same.new nt;refine⟨t,_,rfl,SqT.of upd_same,rfl,_,_,rfl,_,_,rfl,rfl,?_⟩;generalize upd H3 t (.tup [.int (i:Int),.int n])=H4 at s4 ⊢;refine⟨_,rfl,.inl ⟨rfl,_,SqL.of (s4 _ _ hl3)⟩,_,rfl,(by show 1<=sizeLine;decide),λc nc=>?_⟩;have s5:Same H4 (upd H4 c (.lst [.int (i:Int)])):=Same.new nc;have hc5:upd H4 c (.lst [.int (i:Int)]) c=some (.lst [.int (i:Int)]):=upd_same;generalize upd H4 c (.lst [.int (i:Int)])=H5 at s5 hc5 ⊢;refine⟨_,rfl,c,n,_,rfl,rfl,hc5,by omega,by omega,sl _ (by show 1*n.toNat<1000;omega),λp np=>?_⟩;have s6:Same H5 (upd H5 p (.lst (List.replicate n.toNat [V.int (i:Int)]).flatten)):=Same.new np;refine⟨l,p,_,_,rfl,rfl,s6 _ _ (s5 _ _ (s4 _ _ hl3)),upd_same,sl _ (by rw[List.length_map,len_rep];show _+n.toNat*1<1000;omega),?_⟩;refine⟨_,_,rfl,λb o e=>?_,?_⟩
   .rw[upd_ne (ne_of_none e hl)];exact s6 b o (s5 b o (s4 b o (s3 b o e)))
   .rw[upd_same,List.take_succ,en];show _=some (HO.lst ((Cw.cps 0 (N.take i++[n])).map V.int));rw[Cw.cps_snoc,List.map_append,List.map_replicate,Int.zero_add,List.length_take,Nat.min_eq_left (by have:=(List.getElem?_eq_some_iff.mp en).1;omega)]
    congr 3
    generalize n.toNat=k
    induction k with
    | zero=>rfl
    | succ k ih=>rw[List.replicate_succ,List.flatten_cons,ih];rfl
  .rintro σ H3 ⟨e2,e3,rfl,s3,hl3⟩;rw[List.length_map,List.take_length] at hl3;exact⟨_,rfl,hQ l H3 hl s3 hl3⟩
abbrev FT:List Int->V->Hp->Prop:=λt v H=>∃r,v=.ref r/\H r=some (.tup (t.map V.int))/\t≠[]
theorem tups_fr{D:Addr}{H H':Hp}{xs:List V}(f:Fr D H H')(hD:H D=some (.lst xs)):∀{rs:List Addr}{ts:List (List Int)},TupsH H rs ts->TupsH H' rs ts
 | _,_,.nil=>.nil
 | _,_,.cons h r=>.cons ⟨f _ _ h.1 (ne_of h.1 hD λz=>(nomatch z)),h.2⟩ (tups_fr f hD r)
theorem paired_app{α β:Type}{R:α->β->Prop}:∀{a c:List α}{b d:List β},Paired R a b->Paired R c d->Paired R (a++c) (b++d)
 | _,_,_,_,.nil,h=>h
 | _,_,_,_,.cons h r,q=>.cons h (paired_app r q)
theorem fm_tri(p:Nat->Bool)(b:Nat)(l:List Nat):(l.map λ(a:Nat)=>if p a=true then some [(a:Int),(b:Int),0] else none).filterMap id=((l.filter p).map λ(a:Nat)=>((a:Int),(b:Int),(0:Int))).map Mt.tri:=by
 induction l with
 | nil=>rfl
 | cons x l ih=>
  rw[List.map_cons,List.filterMap_cons,List.filter_cons,ih];cases p x<;>rfl
theorem ix_lK{X:Cx}(K:W.Frag)(h:X.K=K):IxR X (rIxL K):=by subst h;exact ix_list
def tst(U:List Mt.Tri)(cs:List Int)(a b:Nat):Bool:=!decide (wtV U (cs.getD a 0) (cs.getD b 0)=.non)
def spCopied(C:Addr):Sp:=λvs H Q _=>∃(x q:Addr)(m:Int)(U:List Mt.Tri)(ks:List (List Int))(cs:List Int),vs=[.ref x,.ref q]/\WebAt C H x m U ks/\H q=some (.lst (cs.map V.int))/\cs.length<=24 ∧
 ∀(x':Addr)(ks':List (List Int))(H':Hp),H x'=none->Same H H'->WebAt C H' x' cs.length (Cw.tieM (tst U cs) cs.length) ks'->Q (.ref x') H'
theorem at_cs{cs:List Int}{i:Nat}(h:i<cs.length):atI (cs.map V.int) (i:Int)=some (.int (cs.getD i 0)):=
 atI_nat (by rw[List.getElem?_map,List.getElem?_eq_getElem h,List.getD_eq_getElem?_getD,List.getElem?_eq_getElem h];rfl)
theorem ok_copied{f fG fI:Addr}{fd fdG fdI:FuncData}(F:Fun K "copied" "copied" sCopied f fd)(T0:TxtW K mg C)(grange:mg "range"=none)(glen:mg "len"=none)
  (mG:Meth K C "weight" fG) (GG:FnOk P w K mg base CX0 2 fG fdG ["self","a","b"] (spWeight C)) (bG:Binds K fdG ["self","a","b"] [])
  (MI:Mk K C fI) (GI:FnOk P w K mg base CX0 3 fI fdI ["self","many","ties"] (spInit C K)) (bI:Binds K fdI ["self","many","ties"] []):FnOk P w K mg base CX0 5 f fd ["web","copies"] (spCopied C):=by
 have sc:=sc_mk (N:=["web","copies","ties","b"]) (P:=["web","copies"]) (sc:=defScope sCopied) (by decide +kernel);refine F.ok sc (λvs H Q E h=>?_) (λcdv A outer s H vs Q E hr h=>?_)
 .obtain⟨x,q,m,U,ks,cs,rfl,_⟩:=h;rfl
 .obtain ⟨x,q,m,U,ks,cs,rfl,W,hq,l24,hQ⟩:=h;have hr2:Room 2 _:=hr.mono (by decide);refine'⟨_,pss_cons (ps_set (i:=2) sc.nd rfl (Or.inl rfl) (pe_lst pa_nil)) (pss_cons (ps_for PassesOwn.never rfl (pi_range1 rfl grange (pa_cons (pe_callB call_len_seq rfl glen PySem.boot_len (pa_cons (pv 1) pa_nil)) pa_nil)) (pg_name (i:=3) sc.nd rfl (Or.inr rfl)) (pss_one (ps_expr (pe_bm PySem.F.plainAttrs_list PySem.F.slot_list_extend PySem.F.type_list_extend mt_extend (pv 2) (pa_cons ?cc pa_nil))))) (pss_one (ps_ret (pe_make MI GI hr rfl T0.mgC bI .nil pass0 (pa_cons (pe_callB call_len_seq rfl glen PySem.boot_len (pa_cons (pv 1) pa_nil)) (pa_cons (pv 2) pa_nil)))))),?_⟩
  case cc=>exact pe_comp (g:=gName 1) (own:=[".0","a"]) (caps:=["b","copies","web"]) (js:=[3,1,0]) rfl (caps_of (sc:=defScope sCopied) (N:=["web","copies","ties","b"]) rfl rfl rfl rfl rfl rfl rfl (by decide +kernel)) (pi_range1 rfl grange (pa_cons (pv 3) pa_nil)) (λpins C s H1 fp=>pg_name (i:=1) (nd_is (M:=[".0","a","b","copies","web"]) rfl (by decide +kernel)) rfl (Or.inl rfl) (Or.inr rfl)) (λpins C s H1 fp=>pts_one (pt_cmp (pc_notN (pe_meth (pv 4) T0.cl mG GG hr2 bG .nil pass0 (pa_cons (pe_ix (ix_lK K rfl) (pv 3) (pv 1) (λ_ _=>rfl)) (pa_cons (pe_ix (ix_lK K rfl) (pv 3) (pv 2) (λ_ _=>rfl)) pa_nil)))) (by with_unfolding_all rfl))) (λpins C s H1 fp=>pe_tup (pa_cons (pv 1) (pa_cons (pv 2) (pa_cons pe_int pa_nil))))
  refine⟨Nat.zero_le _,λl hl=>?_⟩;have s0:Same H (upd H l (.lst [])):=Same.new hl;refine⟨_,rfl,q,_,rfl,.inl (SqL.of (s0 q _ hq)),_,rfl,by rw[List.length_map];omega,by rw[List.length_map];omega,?_⟩;rw[List.length_map,Int.toNat_natCast];refine for_range (n:=cs.length) (λb σ H3=>∃(e3:Option V)(rs:List Addr),σ=[some (.ref x),some (.ref q),some (.ref l),e3]/\Same H H3/\H3 l=some (.lst (rs.map V.ref))/\TupsH H3 rs ((Cw.tieM (tst U cs) b).map Mt.tri)) ⟨none,[],rfl,s0,upd_same,.nil⟩ ?_ ?_
  .rintro b σ H3 hb ⟨e3,rs,rfl,s3,hl3,tp⟩;have lT:=Cw.tieM_len (tst U cs) b;have lb:b*b<=24*24:=Nat.mul_le_mul (by omega) (by omega);have lrs:=Paired.length tp;rw[List.length_map] at lrs;unfold gName;refine⟨_,rfl,.inl ⟨rfl,_,SqL.of hl3⟩,_,rfl,_,rfl,by omega,by omega,λD hD=>?_⟩;rw[show(0+(b:Int)).toNat=b by omega];refine turns_gvR (F:=FT) (J:=λσ=>∃e0 e1,σ=[e0,e1,some (.int (0+(b:Int))),some (.ref q),some (.ref x)]) ((List.range b).map λ(a:Nat)=>if tst U cs a b=true then some [(a:Int),(b:Int),0] else none) hD (by simp) (by omega) ⟨_,_,rfl⟩ ?_ ?_
   .rintro a z σ H4 Y Z ha hz ⟨e0,e1,rfl⟩ s4 gv;rw[List.getElem?_map,List.getElem?_range ha] at hz;have hz:(if tst U cs a b=true then some [(a:Int),(b:Int),0] else none)=z:=Option.some.inj hz;have W4:=(W.same s3).same s4;have hq4:=s4 q _ (s3 q _ hq);obtain⟨dx,_,_,_,fs,_,w1,_,_,_,_,w6,_⟩:=W4.ex;refine⟨_,rfl,x,dx,fs,rfl,w1,w6.2.2.1,_,rfl,_,rfl,q,_,_,_,rfl,rfl,SqL.of hq4,(by rw[Int.zero_add];exact at_cs (by omega)),_,rfl,_,rfl,q,_,_,_,rfl,rfl,SqL.of hq4,(by rw[Int.zero_add];exact at_cs hb),x,m,U,ks,_,_,rfl,W4,λH5 s5=>?_⟩;refine⟨_,rfl,?_⟩;cases c:tst U cs a b with
    | true=>
     rw[c,if_pos rfl] at hz;unfold tst at c;rw[c];refine⟨_,rfl,_,rfl,(by show 3<=sizeLine;decide),λr hr=>gv.1 _ _ _ [(a:Int),(b:Int),0] hz.symm ⟨_,_,rfl⟩ (s5.trans (Same.new hr)) λH' fr=>⟨r,rfl,?_,λz=>(nomatch z)⟩⟩;obtain⟨yd,hyd⟩:=gv.2.2;have:=fr r _ upd_same (ne_of_none (s5 _ _ hyd) hr).symm;rw[Int.zero_add,Int.zero_add] at this;exact this
    | false=>
     rw[c,if_neg (λz=>(nomatch z))] at hz;unfold tst at c;rw[c];exact gv.2.1 _ _ hz.symm ⟨_,_,rfl⟩ s5
   .intro ys H4 s4 h4 pr;rw[fm_tri] at pr;obtain⟨rs',rfl,pr2⟩:=gv_refs pr;have lB:rs'.length<=b:=by
     have l1:=Paired.length pr2;rw[List.length_map,List.length_map] at l1;have:=List.length_filter_le (λa=>tst U cs a b) (List.range b);rw[List.length_range] at this;omega
    have hl4:=s4 l _ hl3;refine⟨l,D,_,_,rfl,rfl,hl4,h4,sl _ (by rw[List.length_map,List.length_map];omega),?_⟩;have f5:Fr l H4 (upd H4 l (.lst (rs.map V.ref++rs'.map V.ref))):=λc o e n=>by rw[upd_ne n];exact e
    refine⟨_,rs++rs',rfl,λc o e=>?_,by rw[upd_same,List.map_append],?_⟩
    .exact f5 c o (s4 c o (s3 c o e)) (ne_of_none e hl)
    .rw[Cw.tieM_succ,List.map_append];exact paired_app (tups_fr f5 hl4 (TupsH.same s4 tp)) (tups_fr f5 hl4 pr2)
  .rintro σ H3 ⟨e3,rs,rfl,s3,hl3,tp⟩;have lT:=Cw.tieM_len (tst U cs) cs.length;have lb:cs.length*cs.length<=24*24:=Nat.mul_le_mul l24 l24;refine⟨_,rfl,q,_,rfl,.inl (SqL.of (s3 q _ hq)),_,rfl,λx' dx nx nd ne=>?_⟩;rw[List.length_map];have nx0:=s3.free nx;have s4:Same H3 (upd (upd H3 dx (.own x')) x' (.ins C dx [])):=(Same.new nd).trans (Same.new (by rw[upd_ne ne.symm];exact nx));refine⟨x',_,l,dx,rs,_,rfl,upd_same,⟨SqL.of (s4 l _ hl3),TupsH.same s4 tp⟩,by omega,by omega,Mt.scan_okA (by rw[List.nil_append];exact Cw.tieM_nd _ _) (Cw.tieM_good _ _),λH5 ks' f5 W5=>⟨rfl,hQ x' ks' H5 nx0 (λc o e=>f5 c o (s4 c o (s3 c o e)) (ne_of_none e nx0)) W5.web⟩⟩
def spCounted:Sp:=λvs H Q _=>∃(c q:Addr)(qs:List Addr)(cs:List Int)(ps:List (List Int)),vs=[.ref c,.ref q]/\H c=some (.lst (cs.map V.int))/\H q=some (.lst (qs.map V.ref))/\TupsH H qs ps/\ps.length<=200/\(∀t∈ps,∃a b:Nat,t=[(a:Int),(b:Int)]/\a<cs.length/\b<cs.length) ∧
 ∀(l:Addr)(rs:List Addr)(R:List (List Int×Int))(H':Hp),H l=none->Same H H'->H' l=some (.lst (rs.map V.ref))->TupsH H' rs (R.map λp=>p.1++[p.2])->R.Perm (Cw.bmps (ps.map (Cw.img cs)))->Q (.ref l) H'
theorem ok_counted{f:Addr}{fd:FuncData}(F:Fun K "counted" "counted" sCounted f fd)(gsrt:mg "sorted"=none):FnOk P w K mg base CX0 1 f fd ["copies","pairs"] spCounted:=by
 have sc:=sc_mk (N:=["copies","pairs","times","a","b","tie"]) (P:=["copies","pairs"]) (sc:=defScope sCounted) (by decide +kernel);refine F.ok sc (λvs H Q E h=>?_) (λcdv A outer s H vs Q E hr h=>?_)
 .obtain⟨c,q,qs,cs,ps,rfl,_⟩:=h;rfl
 .obtain ⟨c,q,qs,cs,ps,rfl,hc,hq,tp,lp,h2,hQ⟩:=h;have hu:=hu_of hr;have lqs:=Paired.length tp;refine'⟨_,pss_cons (ps_set (i:=2) sc.nd rfl (Or.inr rfl) pe_dnewT) (pss_cons (ps_for PassesOwn.never rfl (pi_list (pv 1)) (pg_tup rfl (pgs_cons (pg_name (i:=3) sc.nd rfl (Or.inl rfl)) (pgs_cons (pg_name (i:=4) sc.nd rfl (Or.inl rfl)) pgs_nil))) (pss_cons (ps_set (i:=5) sc.nd rfl (Or.inl rfl) (pe_tup (pa_cons (pe_ix ix_list (pv 0) (pv 3) (λ_ _=>rfl)) (pa_cons (pe_ix ix_list (pv 0) (pv 4) (λ_ _=>rfl)) pa_nil)))) (pss_one (ps_dput hu (pv 2) (pv 5) (pe_op op_add (pe_dget2 hu (pv 2) (pv 5) pe_int ⟨rfl,rfl,rfl,rfl⟩) pe_int) rfl)))) (pss_one (ps_ret ?cc))),?_⟩
  case cc=>exact pe_comp (g:=gTup K 2 (gCons (gName 1) (gCons (gName 2) gNil))) (own:=[".0","a","b"]) (caps:=["times"]) (js:=[2]) rfl (caps_of (sc:=defScope sCounted) (N:=["copies","pairs","times","a","b","tie"]) rfl rfl rfl rfl rfl rfl rfl (by decide +kernel)) (pi_list (pe_callB (call_sortedDB rfl) (by rfl) gsrt boot_sorted (pa_cons (pv 2) pa_nil))) (λpins C s H1 fp=>pg_tup (n:=2) rfl (pgs_cons (pg_name (i:=1) (nd_is (M:=[".0","a","b","times"]) rfl (by decide +kernel)) rfl (Or.inl rfl) (Or.inr rfl)) (pgs_cons (pg_name (i:=2) (nd_is (M:=[".0","a","b","times"]) rfl (by decide +kernel)) rfl (Or.inl rfl) (Or.inr rfl)) pgs_nil))) (λpins C s H1 fp=>pts_nil) (λpins C s H1 fp=>pe_tup (pa_cons (pv 1) (pa_cons (pv 2) (pa_cons (pe_dget hu (pv 3) (pe_tup (pa_cons (pv 1) (pa_cons (pv 2) pa_nil))) (λ_ _=>rfl)) pa_nil))))
  intro d hd;have s0:Same H (upd H d (.dT [])):=Same.new hd;refine⟨_,rfl,q,rfl,⟨_,SqL.of (s0 q _ hq)⟩,for_list (K:=K) (a:=q) (xs:=qs.map V.ref)
   (λi σ H3=>∃(e3 e4 e5:Option V),σ=[some (.ref c),some (.ref q),some (.ref d),e3,e4,e5]/\Same H H3/\H3 d=some (.dT ((Cw.bmps ((ps.take i).map (Cw.img cs))).map Cw.en)))
   ⟨none,none,none,rfl,s0,upd_same⟩ (λi σ H3 _ ⟨_,_,_,_,s3,_⟩=>SqL.of (s3 q _ hq)) ?_ ?_⟩
  .rintro i y σ H3 hi ⟨e3,e4,e5,rfl,s3,hd3⟩;obtain⟨r,t,rfl,et,hr3⟩:=tup_at (TupsH.same s3 tp) hi;obtain⟨a,b,rfl,la,lb⟩:=h2 t (List.mem_of_getElem? et);have hc3:=s3 c _ hc;obtain⟨nd,ll,_,_⟩:=Cw.bmps_ok (R:=λ_=>True) ((ps.take i).map (Cw.img cs)) λ_ _=>trivial;obtain⟨n,en,ep⟩:=Cw.bump_put (k:=[cs.getD a 0,cs.getD b 0]) nd;rw[List.length_map,List.length_take] at ll;refine⟨r,_,rfl,SqT.of hr3,rfl,_,_,rfl,_,_,rfl,rfl,?_⟩;refine⟨_,rfl,_,rfl,c,_,_,_,rfl,rfl,SqL.of hc3,at_cs la,_,rfl,_,rfl,c,_,_,_,rfl,rfl,SqL.of hc3,at_cs lb,(by show 2<=sizeLine;decide),λz hz=>?_⟩;have s4:Same H3 (upd H3 z (.tup [.int (cs.getD a 0),.int (cs.getD b 0)])):=Same.new hz;have h4:upd H3 z (.tup [.int (cs.getD a 0),.int (cs.getD b 0)]) z=some (.tup (([cs.getD a 0,cs.getD b 0].map Sum.inl:List Key).map kV)):=upd_same;generalize upd H3 z (.tup [.int (cs.getD a 0),.int (cs.getD b 0)])=H4 at s4 h4 ⊢;have hd4:=s4 d _ hd3;refine⟨_,rfl,d,rfl,.inr ⟨_,.inl hd4⟩,_,rfl,_,DGet.t hd4 h4,?_⟩;rw[en];refine⟨_,_,rfl,rfl,_,rfl,_,rfl,d,_,rfl,DPut.t hd4 h4 (small1000 (by rw[List.length_map];omega)),?_⟩;rw[ep];refine⟨_,_,_,rfl,λx o e=>?_,?_⟩
   .rw[upd_ne (ne_of_none e hd)];exact s4 x o (s3 x o e)
   .rw[upd_same,List.take_succ,et,List.map_append];show _=some (HO.dT ((Cw.bmps ((ps.take i).map (Cw.img cs)++[Cw.img cs [(a:Int),(b:Int)]])).map Cw.en));rw[Cw.bmps_snoc];rfl
  .rintro σ H3 ⟨e3,e4,e5,rfl,s3,hd3⟩;rw[List.length_map,lqs,List.take_length] at hd3;obtain⟨nd,ll,k2,_⟩:=Cw.bmps_ok (R:=λk=>∃x y:Int,k=[x,y]) (ps.map (Cw.img cs)) λk hk=>by
    obtain⟨t,ht,rfl⟩:=List.mem_map.mp hk;obtain⟨a,b,rfl,_⟩:=h2 t ht;exact⟨_,_,rfl⟩
   rw[List.length_map] at ll;generalize hB:Cw.bmps (ps.map (Cw.img cs))=B at nd ll k2 hd3 hQ;refine⟨_,rfl,d,_,B.map (·.1),rfl,hd3,?_,?_,?_,λrs rs' ts' q' hrs hS hq'=>?_⟩
   .rw[List.map_map,List.map_map];rfl
   .intro t ht;obtain⟨p,hp,rfl⟩:=List.mem_map.mp ht;obtain⟨x,y,e⟩:=(k2 p hp).1;rw[e];exact λz=>(nomatch z)
   .rw[List.length_map];omega
   obtain⟨hrs',hperm,hlen⟩:=hrs.sorted hS;obtain⟨cp,cv⟩:=Cw.cnt_perm nd hperm;have lts:ts'.length<=200:=by have:=hperm.length_eq;rw[List.length_map] at this;omega
   have lrs:=Paired.length hrs';have s4:Same H3 (upd H3 q' (.lst (rs'.map V.ref))):=Same.new hq';have h4:upd H3 q' (.lst (rs'.map V.ref)) q'=some (.lst (rs'.map V.ref)):=upd_same;generalize upd H3 q' (.lst (rs'.map V.ref))=H4 at s4 h4 ⊢;have s04:=s3.trans s4;refine⟨q',rfl,⟨_,SqL.of h4⟩,λD hD=>?_⟩;refine turns_gv (K:=K) (F:=FT) (J:=λσ=>∃e0 e1 e2,σ=[e0,e1,e2,some (.ref d)]) (ts'.map λk=>some (k++[Cw.cnt B k])) (SqL.of h4) hD (by simp;omega) (by rw[List.length_map];omega) ⟨_,_,_,rfl⟩ ?_ ?_
   .rintro i y z σ H5 Y Z hi hz ⟨e0,e1,e2,rfl⟩ s5 gv;obtain⟨r,k,rfl,ek,hr5⟩:=tup_at (TupsH.same s4 hrs') hi;rw[List.getElem?_map,ek] at hz;have hz:some (k++[Cw.cnt B k])=z:=Option.some.inj hz;have mk:=List.mem_of_getElem? ek;obtain⟨p,hp,e⟩:=List.mem_map.mp (hperm.mem_iff.mp mk);obtain⟨a,b,e'⟩:=(k2 p hp).1;have ev:=cv k mk;have e:=e.symm.trans e';subst e;refine⟨r,_,rfl,SqT.of (s5 r _ hr5),rfl,_,_,rfl,_,_,rfl,rfl,?_⟩;refine yes_of ⟨_,rfl,_,rfl,_,rfl,_,rfl,_,rfl,(by show 2<=sizeLine;decide),λz1 hz1=>?_⟩;have s6:Same H5 (upd H5 z1 (.tup [.int a,.int b])):=Same.new hz1;have h6:upd H5 z1 (.tup [.int a,.int b]) z1=some (.tup (([a,b].map Sum.inl:List Key).map kV)):=upd_same;generalize upd H5 z1 (.tup [.int a,.int b])=H6 at s6 h6 ⊢;have g:=DGet.t (s6 d _ (s5 d _ (s4 d _ hd3))) h6;rw[ev] at g;refine⟨d,_,rfl,g,(by show 3<=sizeLine;decide),λz2 hz2=>gv.1 _ _ _ _ hz.symm ⟨_,_,_,rfl⟩ (s6.trans (Same.new hz2)) λH' fr=>⟨z2,rfl,?_,λz=>(nomatch z)⟩⟩;obtain⟨yd,hyd⟩:=gv.2.2;exact fr z2 _ upd_same (ne_of_none (s6 _ _ hyd) hz2).symm
   .intro ys H' s5 h5 pr;rw[fm_some] at pr;obtain⟨rz,rfl,pr2⟩:=gv_refs pr;refine hQ D rz (ts'.map λk=>(k,Cw.cnt B k)) H' (s04.free hD) (s04.trans s5) h5 ?_ (hB ▸ cp);rw[List.map_map];exact pr2
end
end K67
namespace L2
open PySem PySem.Spec PyProof.Rows
theorem slot_si_next:Slot "set_iterator" "__next__" "set_iterator.__next__":=
 .of (owner:="set_iterator") (n:="__next__") (by rw[typeLookup_type,builtinLookup_eq_fast];kernel_rfl) (by decide +kernel) (by decide +kernel) (by decide +kernel)
  (by first|exact .inl (by decide +kernel)|exact .inr (by decide +kernel)) (by rw[isSubtype_type];kernel_rfl)
theorem slot_si_iter:Slot "set_iterator" "__iter__" "set_iterator.__iter__":=
 .of (owner:="set_iterator") (n:="__iter__") (by rw[typeLookup_type,builtinLookup_eq_fast];kernel_rfl) (by decide +kernel) (by decide +kernel) (by decide +kernel)
  (by first|exact .inl (by decide +kernel)|exact .inr (by decide +kernel)) (by rw[isSubtype_type];kernel_rfl)
theorem entry_si_next:entryFor table "set_iterator.__next__"=some Builtin.«set_iterator.__next__»:=entryFor_of_fast (by kernel_rfl)
theorem entry_s_iter:entryFor table "set.__iter__"=some Builtin.«frozenset.__iter__»:=entryFor_alias (id':="frozenset.__iter__") (by kernel_rfl) rfl (by decide +kernel) (by kernel_rfl)
theorem args_si_next(a:Value):argsOk "set_iterator.__next__" ⟨[a],[]⟩:=by unfold argsOk;kernel_rfl
section
variable{prog:Program}{w:World}{A:Around}{E:Value->Shared->Prop}{s:Shared}{d:Addr}{o:Obj}{ep:Nat}{t:SetTable}
theorem pyIter_set0{Q:Value->Shared->Prop}(ho:s.heap.get? d=some o)(hc:o.cls=.type "set")(hd:o.data=.set #[] ep t)(hf:t.fits 0=true)
  (hQ:Q (.ref s.heap.objs.size) {s with heap:=s.heap.push {cls:=.type "set_iterator",data:=.fields #[.int 0 0,.int 0 0,.ref d,.int 0 0,.int ep 0]}}):wpAny (model prog w) A (pyIter (.ref d)) Q E s:=by
 have hT:s.TypeIs (.ref d) "set":=⟨o,ho,hc⟩;refine wpAny_pyIter_slot hT F.slot_set_iter (wpAny_call_entry F.slot_set_iter hT entry_s_iter ?_ (F.args_set_iter_1 _));unfold Builtin.«frozenset.__iter__»;refine wpAny_bind (m:=Builtin.Frozenset.slot0 _ _) (wpAny_pure ?_);unfold Builtin.Frozenset.sizeOf;refine wpAny_bind (wpAny_bind (wpAny_setEntries_of ho hd hf (wpAny_pure ?_)));unfold setDrawn setsByText;refine wpAny_bind (wpAny_bind (wpAny_setState_of ho hd hf (wpAny_bind (wpAny_bind (wpAny_askSetting (wpAny_pure ?_))))));generalize (model prog w).w.params.followText "set-order"=b;refine wpAny_pure ?_;dsimp only;refine wpAny_ite_split (λh=>?_) (λ_=>?_)
 .have h:(!t.plain&&decide ((#[]:Array (Int×Value)).size>1))=true:=by
   cases b with
   | false=>exact h
   | true=>cases h
  rw[show decide ((#[]:Array (Int×Value)).size>1)=false from rfl,Bool.and_false] at h;cases h
 refine wpAny_bind (wpAny_pure ?_);refine wpAny_bind (wpAny_setEpoch_of ho hd hf ?_);refine wpAny_bind (m:=newFields _ _) (wpAny_newObj_type (wpAny_pure ⟨_,rfl,"set_iterator",_,⟨_,Heap.get?_push_size _ rfl,rfl⟩,slot_si_next.lookup,?_⟩));exact hQ
theorem pyNext_set0{it:Addr}{oi:Obj}{Q:Option Value->Shared->Prop}(hh:A.handled=none)(hi:s.heap.get? it=some oi)(hci:oi.cls=.type "set_iterator")(hdi:oi.data=.fields #[.int 0 0,.int 0 0,.ref d,.int 0 0,.int ep 0])(ho:s.heap.get? d=some o)(hd:o.data=.set #[] ep t)(hf:t.fits 0=true)
  (hQ:∀h',Heap.ExtBut it s.heap h'->Q none {s with heap:=h'}):wpAny (model prog w) A (pyNext (.ref it)) Q E s:=by
 have hT:s.TypeIs (.ref it) "set_iterator":=⟨oi,hi,hci⟩;unfold pyNext;refine wpAny_bind (wpAny_attempt (wpAny_callSpecial?_slot (name:=Str.ofString "__next__") hT slot_si_next (wpAny_call_entry slot_si_next hT entry_si_next ?_ (args_si_next _))));unfold Builtin.«set_iterator.__next__»;refine wpAny_bind (m:=slotArgs _ _ _) (wpAny_pure ?_);refine wpAny_bind (wpAny_fieldsOf hi hdi ?_);dsimp only;refine wpAny_bind (wpAny_setEntries_of ho hd hf ?_);rw[if_neg (show ¬(((#[]:Array (Int×Value)).size:Int) != 0)=true from λh=>by cases h)];unfold setNext;refine wpAny_bind (wpAny_bind (wpAny_setState_of ho hd hf ?_));unfold setsByText;dsimp only;have stop:wpAny (model prog w) A.in1 (setField (.ref it) 2 .none >>= λ_=>newExc (.type "StopIteration") [] >>= λe=>raiseNew e) (λfin s'=>∃v,fin=Fin.done (Flow.ret v)/\wpAny (model prog w) A (pure (some v)) Q E s')
   (λe s'=>wpAny (model prog w) A (isInstance e (.type "StopIteration") >>= λb=>if b=true then pure none else throw e) Q E s') s:=by
  refine wpAny_bind (wpAny_setField hi hdi (by simp) ?_);refine wpAny_bind ?_;simp only[newExc,newTuple];refine wpAny_bind (wpAny_newObj_type ?_ (by size_fits));refine wpAny_bind (m:=firstArgMember _ _) (wpAny_of_eq (a:=Value.none) (by first|rfl|(simp only[firstArgMember];rfl)) ?_);refine wpAny_newObj_type ?_ (by size_fits);simp only[raiseNew];refine wpAny_bind (wpAny_handled ?_);rw[show A.in1.handled=none from hh];refine wpAny_bind (wpAny_pure (wpAny_throw ?_));refine wpAny_bind (wpAny_isInstance (T:="StopIteration") (b:=true) ⟨_,Heap.get?_push_size _ rfl,rfl⟩ isSubtype_stop ?_);exact wpAny_pure (hQ _ (((Heap.SameBut.update ..).extBut.push _).push _))
 refine wpAny_bind (wpAny_bind (wpAny_askSetting (wpAny_pure ?_)));have nd:∀D:Bool,D=(!t.plain&&decide ((#[]:Array (Int×Value)).size>1))->D=true->False:=λD e h=>by
  rw[e,show decide ((#[]:Array (Int×Value)).size>1)=false from rfl,Bool.and_false] at h;cases h
 refine wpAny_ite_split (λhb=>?_) (λhb=>?_)
 .rw[if_neg (by simp)];refine wpAny_bind ?_;unfold setWalk;refine wpAny_bind (wpAny_setState_of ho hd hf ?_);unfold setsByText;dsimp only;refine wpAny_bind (wpAny_bind (wpAny_askSetting (wpAny_pure ?_)));refine wpAny_ite_split (λ_=>?_) (λh=>absurd hb h);refine wpAny_bind (wpAny_askSetting (wpAny_pure (wpAny_pure ?_)));exact stop
 .refine wpAny_ite_split (λh=>(nd _ rfl h).elim) (λ_=>?_);refine wpAny_bind ?_;show wpAny _ _ (if (!t.led&&!(#[]:Array (Int×Value)).isEmpty)=true then unsupported "set:maker-not-led" else pure ()) _ _ _;rw[if_neg (by rw[show(#[]:Array (Int×Value)).isEmpty=true from rfl];simp)];refine wpAny_pure (wpAny_pure ?_);exact stop
theorem hint_set(hT:s.TypeIs (.ref d) "set"){Q:Bool->Shared->Prop}(h:Q false s):wpAny (model prog w) A (Builtin.List.listLengthHint (.ref d)) Q E s:=by
 unfold Builtin.List.listLengthHint;refine wpAny_bind (wpAny_specialOf hT PySem.F.slot_set_len.lookup ?_);generalize hid:("set.__len__":String)=id0
 wp_delta
 rw[show splitId id0=some ("set","__len__") from by subst hid;decide +kernel];subst hid;refine wpAny_bind (wpAny_isInstance (T:="set") (b:=true) hT (by rw[isSubtype_type];kernel_rfl) ?_);refine wpAny_ite_split (λhab=>absurd hab (by decide)) (λ_=>?_);refine wpAny_ite_split (λ_=>?_) (λhab=>absurd (by decide +kernel) hab);refine wpAny_bind (wpAny_typeOf hT ?_);exact wpAny_pure h
def Set0(h:Heap)(d:Addr)(ep:Nat):Prop:=∃o t,h.get? d=some o/\o.cls=.type "set"/\o.data=.set #[] ep t/\t.fits 0=true
theorem entry_si_iter:entryFor table "set_iterator.__iter__"=some Builtin.«dict_keyiterator.__iter__»:=entryFor_alias (id':="dict_keyiterator.__iter__") (by kernel_rfl) rfl (by decide +kernel) (by kernel_rfl)
theorem args_si_iter(a:Value):argsOk "set_iterator.__iter__" ⟨[a],[]⟩:=by unfold argsOk;kernel_rfl
theorem kdl_set0:PySem.W.KdlSrc prog w "set" d d 0 (λ_ _=>True) (λh=>Set0 h d ep) where
 type:=λ_ ⟨o,_,h,c,_⟩=>⟨o,h,c⟩
 there:=λ_ ⟨_,_,h,_⟩=>⟨Heap.lt_size h,Heap.lt_size h⟩
 keep:=λ_ _ ⟨o,t,h,c⟩ hk=>⟨o,t,hk d (.inl rfl) o h,c⟩
 notList:=by decide
 notTuple:=by decide
 hint:=λ_ _ _ _ ⟨o,_,h,c,_⟩ hq=>hint_set ⟨o,h,c⟩ hq
 iter:=λA s hh ⟨o,t,h,c,dd,f⟩=>by
  refine⟨_,λ_ h=>(∃oi,h.get? s.heap.objs.size=some oi/\oi.cls=.type "set_iterator"/\oi.data=.fields #[.int 0 0,.int 0 0,.ref d,.int 0 0,.int ep 0])/\Set0 h d ep,λE Q hq=>pyIter_set0 h c dd f hq,?_,⟨_,Heap.get?_push_size _ rfl,rfl,rfl⟩,o,t,Heap.get?_push_of_some _ h,c,dd,f⟩;exact {
   sub:=λb hb=>by rw[List.mem_singleton.mp hb];exact .head _
   frame:=λ_ _ _ ⟨⟨oi,h1,h2⟩,o,t,h3,h4⟩ hk=>⟨⟨oi,hk _ (.head _) _ h1,h2⟩,o,t,hk _ (.tail _ (.head _)) _ h3,h4⟩
   item:=λi s Q E hi=>absurd hi (Nat.not_lt_zero _)
   done:=λs' Q E ⟨⟨oi,h1,h2,h3⟩,o,t,h4,h5,h6,h7⟩ hQ=>pyNext_set0 hh h1 h2 h3 h4 h6 h7 λh' he=>hQ h' s'.toks λb o hb e=>he b o (λz=>hb (z ▸ .head _)) e
   self:=λi s' Q E ⟨⟨oi,h1,h2,h3⟩,_⟩ hQ=>by
    have hT:s'.TypeIs (.ref s.heap.objs.size) "set_iterator":=⟨oi,h1,h2⟩;refine wpAny_pyIter_slot hT slot_si_iter (wpAny_call_entry slot_si_iter hT entry_si_iter ?_ (args_si_iter _));exact wpAny_pure ⟨_,rfl,"set_iterator",_,hT,slot_si_next.lookup,hQ⟩}
end
section
variable{X:Cx}
theorem call_set0(hc:X.calm=true):CallR X (.type "set") (λvs H Q=>∃a:Addr,vs=[.ref a]/\SqL X.K H a []/\∀p,H p=none->Q (.ref p) (upd H p (.set (λ_=>false) 0))):=by
 intro pins s σ H xs us Q I r h;obtain⟨a,rfl,ha,q⟩:=h;obtain⟨u,rfl,ru⟩:=vals1 r;cases ru;obtain⟨ia,ra,pa,za⟩:=I.list ha;cases ra;refine call_set_list (ns:=[]) (I.ok.hd hc) pa.isList (by first|exact .nil|trivial) (by decide) λh' tk hS hk=>?_;exact⟨.ref _,_,I.laid (a:=s.heap.objs.size) (o:=.set (λ_=>false) 0) (t':=tk) (λb o e=>hk b o (Heap.lt_size e) e) (Nat.le_refl _) hS,rfl,q _ I.fresh⟩
theorem call_sorted0(hc:X.calm=true):CallR X (.builtin "sorted") (λvs H Q=>∃(a:Addr)(S:Int->Bool),vs=[.ref a]/\H a=some (.set S 0)/\∀p,H p=none->Q (.ref p) (upd H p (.lst []))):=by
 intro pins s σ H xs us Q I r h;obtain⟨a,S,rfl,ha,q⟩:=h;obtain⟨u,rfl,ru⟩:=vals1 r;cases ru;obtain⟨o,es,ep,t,e1,e2,e3,_,_,_,e4,e5⟩:=I.hok a _ ha;have e6:es=#[]:=Array.size_eq_zero_iff.mp e5;subst e6;have st:Set0 s.heap a ep:=⟨o,t,e1,e2.1,e3,e4⟩;refine Calls.call_function_entry kind_sorted plain_sorted entry_sorted (args_sorted1 _) ?_;unfold Builtin.«sorted»;refine wpAny_bind (m:=checkCount "sorted" 1 1 _) (wpAny_pure (wpAny_bind (PySem.W.kdu_collect (A:=X.A.in1) kdl_set0 (I.ok.hd hc) st (Nat.zero_le _) λh' tk acc hkp hacc=>?_)));have ea:acc.toList=[]:=List.length_eq_zero_iff.mp (by rw[Array.length_toList];exact hacc.1);rw[ea];have I1:Inv X pins σ H {s with heap:=h',toks:=tk}:=I.kept hkp;refine wpAny_bind (wpAny_newList ?_ (Nat.zero_le _));have ho:(h'.push {cls:=.type "list",data:=.seq ([]:List Value).toArray}).get? h'.objs.size=some (seqObj "list" ([]:List Value).toArray 0):=Heap.get?_push_size _ rfl;refine wpAny_bind (wpAny_holding (wpAny_call_entry slot_list_sort ⟨_,ho,rfl⟩ entry_list_sort (list_sort_tree (ns:=[]) (s:={s with heap:=h'.push {cls:=.type "list",data:=.seq ([]:List Value).toArray},toks:=tk}) ho (by first|exact .nil|trivial) (by decide) λout ns' a1 a2 a3=>⟨_,rfl,?_⟩) (args_list_sort _)));obtain⟨e,he⟩:=sortedHeap_at (out:=out) ho;have hfr:H h'.objs.size=none:=I1.hok.fresh (Nat.le_refl _);have en:ns'=[]:=List.length_eq_zero_iff.mp a2.length_eq;subst en;refine wpAny_pure ⟨_,rfl,⟨.ref h'.objs.size,_,I1.laid (a:=h'.objs.size) (o:=.lst []) (t':=tk) (λb o z=>?_) (Nat.le_refl _) ⟨Nat.zero_le _,out.toList,e,vals_ints a1,he⟩,rfl,q _ hfr⟩⟩;have hlt:=Heap.lt_size z;exact(sortedHeap_old (Nat.ne_of_lt hlt) (by rw[size_push'];exact Nat.lt_succ_of_lt hlt)).trans (Heap.get?_push_of_some _ z)
end
theorem Fun.okX{P:Program}{w:World}{K:W.Frag}{mg:Str->Option Value}{base:Heap}{x qual:Str}{st:Stmt}{f:Addr}{fd:FuncData}{N ps:List Str}{k:Nat}{sp:Sp}(F:Fun K x qual st f fd)(S:FnScope N ps (defScope st))(len:∀vs H Q E,sp vs H Q E->vs.length=ps.length)
  (hb:∀(cdv:Value)(A:Around)(outer:List Env)(s:Shared)(H:Hp)(vs:List V)(Q:VK)(E:XK),Room k (A.deeper (envOfC qual (defScope st) s.heap.objs.size f cdv))->sp vs H Q E →
   ∃t,PSs (cxOf (CXx P w) P w K mg base N qual (defScope st) f cdv A outer s H E) (defBody st) t/\t {nx:=λ_ H'=>Q .non H',rt:=Q} (start N vs) H):FnOk P w K mg base (CXx P w) (k+1) f fd ps sp:=by
 obtain⟨oc,od,kV,doc,pm,an,cdv,ct,osl,rfl,lk,hcd⟩:=F.ex;exact fn_of lk hcd S len λA outer s H vs Q E hr hsp=>hb cdv A outer s H vs Q E hr hsp
end L2
namespace K67
open PySem L2 PyProof.Rows
abbrev mroV:List Value:=[.type "ValueError",.type "Exception",.type "BaseException",.type "object"]
abbrev newV:String:="ValueError.__new__"
def Adj(U:List Mt.Tri)(cs:List Int)(nb:Int->List Int):Prop:=∀x y:Int,y∈nb x↔∃i j:Nat,x=i/\y=j/\i<cs.length/\j<cs.length/\[Mt.lo (cs.getD i 0) (cs.getD j 0),Mt.hi (cs.getD i 0) (cs.getD j 0)]∈U.map Mt.key
theorem tst_iff{U:List Mt.Tri}{cs:List Int}{a b:Nat}:tst U cs a b=true↔[Mt.lo (cs.getD a 0) (cs.getD b 0),Mt.hi (cs.getD a 0) (cs.getD b 0)]∈U.map Mt.key:=by
 unfold tst;rw[Bool.not_eq_true',decide_eq_false_iff_not,wtV_non,Classical.not_not]
theorem adj_of{C x x':Addr}{H H':Hp}{m:Int}{U:List Mt.Tri}{ks ks':List (List Int)}{cs:List Int}(W:WebAt C H x m U ks)(W':WebAt C H' x' cs.length (Cw.tieM (tst U cs) cs.length) ks'):Adj U cs (nbM ks'):=λx y=>by
 have mem:∀a b:Int,[a,b]∈ks'↔∃i j:Nat,i<j/\j<cs.length/\tst U cs i j=true/\a=i/\b=j:=λa b=>by
  rw[W'.pm.mem_iff,List.mem_map];constructor
  .rintro⟨t,ht,e⟩;obtain⟨i,j,h1,h2,h3,rfl⟩:=Cw.mem_tieM.mp ht;rw[Cw.key_ab (by omega)] at e;cases e;exact⟨i,j,h1,h2,h3,rfl,rfl⟩
  .rintro⟨i,j,h1,h2,h3,rfl,rfl⟩;exact⟨_,Cw.mem_tieM.mpr ⟨i,j,h1,h2,h3,rfl⟩,Cw.key_ab (by omega) _⟩
 rw[nb_mem W',mem,mem];constructor
 .rintro(⟨i,j,h1,h2,h3,rfl,rfl⟩|⟨i,j,h1,h2,h3,rfl,rfl⟩)
  .exact⟨i,j,rfl,rfl,by omega,h2,tst_iff.mp h3⟩
  .refine⟨j,i,rfl,rfl,h2,by omega,?_⟩;rw[lo_c,hi_c];exact tst_iff.mp h3
 .rintro⟨i,j,rfl,rfl,h1,h2,h3⟩;rcases Nat.lt_trichotomy i j with h|h|h
  .exact .inl ⟨i,j,h,h2,tst_iff.mpr h3,rfl,rfl⟩
  .subst h;obtain⟨a,b,e,_,ab,_⟩:=W.pair _ (W.pm.mem_iff.mpr h3);injection e with e1 e2
   injection e2 with e2
   unfold Mt.lo at e1;unfold Mt.hi at e2
   split at e1<;>split at e2<;>omega
  .refine .inr ⟨j,i,h,h1,tst_iff.mpr ?_,rfl,rfl⟩;rw[lo_c,hi_c];exact h3
def Rws(H:Hp)(p:Addr)(U:List Mt.Tri)(N:List Int):Prop:=∃(l:Addr)(rs:List Addr)(R:List (List Int×Int)),H p=some (.tup [.str "ties",.ref l])/\H l=some (.lst (rs.map V.ref))/\TupsH H rs (R.map λp=>p.1++[p.2])/\(∀r∈R,(∃a b,r.1=[a,b]/\a<b/\r.1∈U.map Mt.key)/\1<=r.2)/\R.length<=200/\∀(k:Nat)(n:Int),N[k]?=some n->Cw.dg R k=n
def spWanted(C CT:Addr):Sp:=λvs H Q E=>∃(x q:Addr)(m:Int)(U:List Mt.Tri)(ks:List (List Int))(N:List Int),vs=[.ref x,.ref q]/\WebAt C H x m U ks/\H q=some (.lst (N.map V.int))/\N.length<=100/\((24<N.sum/\E (.ref CT) none H)\/(N.sum<=24/\(∀n∈N,0<=n) ∧
  (((∀nb:Int->List Int,Adj U (Cw.cps 0 N) nb->(∀{x y:Int},y∈nb x->x∈nb y)->∃oth,Tr.Sym nb oth/\(∀{n b},oth n=some b->b∈nb n)/\Tr.lft (Cw.cps 0 N).length oth=[])/\∀p H',H p=none->Same H H'->Rws H' p U N->Q (.ref p) H') ∨
   ((∀nb:Int->List Int,Adj U (Cw.cps 0 N) nb->(∀{x y:Int},y∈nb x->x∈nb y)->∃oth,Tr.Sym nb oth/\(∀{n b},oth n=some b->b∈nb n)/\Tr.lft (Cw.cps 0 N).length oth≠[]/\∀x∈Tr.lft (Cw.cps 0 N).length oth,nb x=[])/\∀p l H',H p=none->Same H H'->H' p=some (.tup [.str "none",.ref l])->H' l=some (.lst [])->Q (.ref p) H'))))
section
variable{P:Program}{w:World}{K:W.Frag}{mg:Str->Option Value}{base:Heap}{C:Addr}
theorem ok_wanted{f CT:Addr}{fd:FuncData}{u24:Value}(F:Fun K "wanted" "wanted" sWanted f fd)(T:ExcC K mg "TooMany" CT mroV newV)(g24:mg "MOST_POINTS"=some u24)(r24:RelV (.int 24) u24)(gsum:mg "sum"=none)(gsrt:mg "sorted"=none)(gset:mg "set"=none)
  (GC:Has P w K mg base 1 "copies_of" ["numbers"] spCopies) (GD:Has P w K mg base 5 "copied" ["web","copies"] (spCopied C)) (GM:Has P w K mg base 6 "most" ["web"] (spMost C)) (GL:Has P w K mg base 2 "left" ["web","pairs"] (spLeft C)) (GK:Has P w K mg base 1 "counted" ["copies","pairs"] spCounted) (GR:Has P w K mg base 7 "reason" ["web"] (spReason C)) :
  FnOk P w K mg base (CXx P w) 8 f fd ["web","numbers"] (spWanted C CT):=by
 have sc:=sc_mk (N:=["web","numbers","copies","web_of_copies","pairs"]) (P:=["web","numbers"]) (sc:=defScope sWanted) (by decide +kernel);refine F.okX sc (λvs H Q E h=>?_) (λcdv A outer s H vs Q E hr h=>?_)
 .obtain⟨x,q,m,U,ks,N,rfl,_⟩:=h;rfl
 .obtain ⟨x,q,m,U,ks,N,rfl,W,hq,lN,h⟩:=h;have hr1:Room 1 _:=hr.mono (by decide);have hr2:Room 2 _:=hr.mono (by decide);have hr5:Room 5 _:=hr.mono (by decide);have hr6:Room 6 _:=hr.mono (by decide);refine'⟨_,pss_cons ?s0 (pss_cons ?s1 (pss_cons ?s2 (pss_cons ?s3 (pss_cons ?s4 (pss_one ?s5))))),?_⟩
  case s0=>exact ps_if (pt_cmpR op_gt (pe_callB (call_sumI rfl) (by rfl) gsum boot_sum (pa_cons (pv 1) pa_nil)) (pe_glob (by rfl) g24 r24) (nomark _)) (pss_one (ps_raise T PySem.F.excBase_ValueError hr.hd rfl)) pss_nil
  case s1=>exact ps_set (i:=2) sc.nd rfl (Or.inr rfl) (pe_h GC hr1 (pa_cons (pv 1) pa_nil))
  case s2=>exact ps_set (i:=3) sc.nd rfl (Or.inl rfl) (pe_h GD hr5 (pa_cons (pv 0) (pa_cons (pv 2) pa_nil)))
  case s3=>exact ps_set (i:=4) sc.nd rfl (Or.inl rfl) (pe_h GM hr6 (pa_cons (pv 3) pa_nil))
  case s4=>exact ps_if (pt_not (pt_truth (pe_h GL hr2 (pa_cons (pv 3) (pa_cons (pv 4) pa_nil))) (λ_=>rfl))) (pss_one (ps_ret (pe_tup (pa_cons pe_str (pa_cons (pe_h GK hr1 (pa_cons (pv 2) (pa_cons (pv 4) pa_nil))) pa_nil))))) pss_nil
  case s5=>exact ps_ret (pe_tup (pa_cons pe_str (pa_cons (pe_callB (call_sorted0 rfl) (by rfl) gsrt boot_sorted (pa_cons (pe_callTy (call_set0 rfl) (by rfl) gset L2.boot_set (pa_cons (pe_comp (g:=gName 1) (own:=[".0","copy"]) (caps:=["copies"]) (js:=[2]) rfl (caps_of (sc:=defScope sWanted) (N:=["web","numbers","copies","web_of_copies","pairs"]) rfl rfl rfl rfl rfl rfl rfl (by decide +kernel)) (pi_list (pe_h GR hr (pa_cons (pv 3) pa_nil))) (λpins C s H1 fp=>pg_name (i:=1) (nd_is (M:=[".0","copy","copies"]) rfl (by decide +kernel)) rfl (Or.inl rfl) (Or.inr rfl)) (λpins C s H1 fp=>pts_nil) (λpins C s H1 fp=>pe_ix (ix_lK K rfl) (pv 2) (pv 1) (λ_ _=>rfl))) pa_nil)) pa_nil)) pa_nil)))
  refine⟨_,rfl,q,N,rfl,SqL.of hq,_,_,rfl,rfl,_,rfl,?_⟩;rcases h with⟨h24,hE⟩|⟨h24,n0,h⟩
  .exact ite2 (λ_=>hE) (λc=>absurd (decide_eq_true h24) c)
  refine ite2 (λc=>absurd (of_decide_eq_true c) (by omega)) (λ_=>?_);have lc:=Cw.cps_len (i:=0) n0;have up:=Cw.cps_up N 0;generalize hcs:Cw.cps 0 N=cs at lc h up;have l24:cs.length<=24:=by omega
  refine⟨_,rfl,q,N,rfl,hq,lN,n0,h24,λc H1 nc s1 hc1=>?_⟩;rw[hcs] at hc1;refine⟨_,rfl,_,rfl,x,c,m,U,ks,cs,rfl,W.same s1,hc1,l24,λx' ks' H2 nx' s2 W2=>?_⟩;have ad:=adj_of W W2;refine⟨_,rfl,x',_,_,ks',rfl,W2,by omega,by omega,λlm zm ps par H3 nlm s3 hlm hzm ch _ B=>?_⟩;rw[Int.toNat_natCast] at B;have mate:=chs_mate ch B.sym;have ct:=ch.count B.sym B.rg;refine⟨_,rfl,_,rfl,x',lm,_,_,ks',zm,ps,rfl,W2.same s3,hlm,hzm,ch.two,by omega,λll H4 nl s4 h4=>?_⟩;rw[lftP_eq mate,Int.toNat_natCast] at h4;refine⟨_,.inl ⟨_,SqL.of h4,rfl⟩,?_⟩;have s13:=s1.trans (s2.trans s3);have hc4:=s4 c _ (s3 c _ (s2 c _ hc1));rcases h with⟨hA,hQ⟩|⟨hB,hQ⟩
  .obtain ⟨oth,S,ob,full⟩:=hA (nbM ks') ad B.sym.tie;have le:=B.le S ob;rw[full] at le;have full2:Tr.lft cs.length par=[]:=List.length_eq_zero_iff.mp (Nat.le_zero.mp le);rw[full2];refine iteT ⟨_,rfl,_,rfl,c,lm,zm,cs,ps,rfl,hc4,s4 lm _ hlm,TupsH.same s4 hzm,by omega,λt ht=>?_,λl rs R H5 nl5 s5 h5 tp pr=>⟨(by show 2<=sizeLine;decide),λp np=>?_⟩⟩
   .obtain⟨a,b,rfl,ab,e⟩:=(ch.mem t).mp ht;have r1:=B.rg.par e;have r2:=B.rg.par (B.sym.mate e);exact⟨a.toNat,b.toNat,by rw[Int.toNat_of_nonneg r2.1,Int.toNat_of_nonneg r1.1],by omega,by omega⟩
   .have s15:=s13.trans (s4.trans s5);have s6:Same H5 (upd H5 p (.tup [.str "ties",.ref l])):=Same.new np;have ok:=Cw.bmps_ok (R:=λk=>∃a b,k=[a,b]/\a<b/\k∈U.map Mt.key) (ps.map (Cw.img cs)) λk hk=>by
     obtain⟨t,ht,rfl⟩:=List.mem_map.mp hk;obtain⟨a,b,rfl,ab,e⟩:=(ch.mem t).mp ht;obtain⟨i,j,rfl,rfl,hi,hj,mk⟩:=(ad a b).mp (B.nbp e);have le:cs.getD i 0<=cs.getD j 0:=by
      rw[List.getD_eq_getElem?_getD,List.getD_eq_getElem?_getD,List.getElem?_eq_getElem hi,List.getElem?_eq_getElem hj];exact List.pairwise_iff_getElem.mp up i j hi hj (by omega)
     show ∃a b,[cs.getD i 0,cs.getD j 0]=[a,b]/\_/\[cs.getD i 0,cs.getD j 0]∈_;generalize cs.getD i 0=u at le mk ⊢;generalize cs.getD j 0=v at le mk ⊢;have e1:Mt.lo u v=u:=by unfold Mt.lo;split<;>omega
     have e2:Mt.hi u v=v:=by unfold Mt.hi;split<;>omega
     rw[e1,e2] at mk;obtain⟨a,b,e,_,ab,_⟩:=W.pair _ (W.pm.mem_iff.mpr mk);cases e;exact⟨u,v,rfl,ab,mk⟩
    refine hQ p _ (s15.free np) (s15.trans s6) ⟨l,rs,R,upd_same,s6 l _ h5,TupsH.same s6 tp,λr hr=>ok.2.2.1 r (pr.mem_iff.mp hr),?_,λk n hk=>?_⟩
    .rw[pr.length_eq];have:=ok.2.1;rw[List.length_map] at this;omega
    .subst hcs;exact Cw.dg_all ch B.sym B.rg full2 n0 pr hk
  .obtain ⟨oth,S,ob,ne,iso⟩:=hB (nbM ks') ad B.sym.tie;obtain⟨y,hy⟩:=List.exists_mem_of_ne_nil _ ne;have hy2:y∈Tr.lft cs.length par:=Tr.mem_lft.mpr ⟨(Tr.mem_lft.mp hy).1,by
    cases e:par y with
    | none=>rfl
    | some b=>
     have:=B.nbp e;rw[iso y hy] at this;exact(nomatch this)⟩
   have tr:(!(!((Tr.lft cs.length par).map V.int).isEmpty))=false:=by
    cases e:Tr.lft cs.length par with
    | nil=>rw[e] at hy2;exact(nomatch hy2)
    | cons a l=>rfl
   refine ite2 (λc=>by rw[tr] at c;cases c) (λ_=>?_);refine⟨_,rfl,x',_,_,ks',rfl,(W2.same s3).same s4,by omega,by omega,λlo out par2 H5 nlo s5 h5 B2 bs _=>?_⟩;rw[Int.toNat_natCast] at B2 bs;have eo:=Cw.lone_out B2 bs S ob iso;subst eo;refine⟨lo,rfl,⟨_,SqL.of h5⟩,λD hD=>?_⟩;refine turns_gv (K:=K) (F:=FI) (J:=λ_=>True) [] (SqL.of h5) hD rfl (Nat.zero_le _) trivial (λi y z σ H6 Y Z hi=>(nomatch hi)) ?_;intro ys H6 s6 h6 pr;have ey:=gv_ints pr;subst ey;refine⟨D,rfl,SqL.of h6,λp1 np1=>⟨p1,_,rfl,upd_same,λl np2=>⟨(by show 2<=sizeLine;decide),λp np=>?_⟩⟩⟩;have s7:=(Same.new (o:=.set (λ_=>false) 0) np1).trans (Same.new (o:=.lst []) np2);have s17:=(s13.trans (s4.trans (s5.trans s6))).trans s7;have s8:=Same.new (o:=.tup [.str "none",.ref l]) np;exact hQ p l _ (s17.free np) (s17.trans s8) upd_same (s8 l _ upd_same)
def spCell(K:W.Frag):Sp:=λvs H Q _=>∃(a:Addr)(ns:List Int)(k:Int),vs=[.ref a,.int k]/\0<=k/\SqL K H a (ns.map V.int)/\∀n:Int,Q (.int n) H
theorem ok_cell{f:Addr}{fd:FuncData}(F:Fun K "_law_cell_at" "_law_cell_at" sLcellat f fd)(glen:mg "len"=none):FnOk P w K mg base CX0 1 f fd ["_law_script","_law_k"] (spCell K):=by
 refine F.ok (sc_mk (N:=["_law_script","_law_k"]) (by decide +kernel)) (λvs H Q E h=>?_) (λcdv A outer s H vs Q E hr h=>?_)
 .obtain⟨a,ns,k,rfl,_⟩:=h;rfl
 .obtain ⟨a,ns,k,rfl,k0,hS,hQ⟩:=h;refine⟨_,pss_cons (ps_if (pt_cmpR op_lt (pv 1) (pe_callB call_len_seq rfl glen PySem.boot_len (pa_cons (pv 0) pa_nil)) (nomark _)) (pss_one (ps_ret (pe_ix ix_list (pv 0) (pv 1) (λ_ _=>rfl)))) pss_nil) (pss_one (ps_ret pe_int)),?_⟩;refine⟨_,rfl,_,rfl,a,_,rfl,.inl hS,_,_,rfl,rfl,_,rfl,?_⟩;rw[List.length_map];refine ite2 (λc=>?_) (λ_=>hQ 0);have c:k<ns.length:=of_decide_eq_true c;have hk:k.toNat<ns.length:=by omega
  have e:atI (ns.map V.int) k=some (.int ns[k.toNat]):=by
   have:=atI_nat (xs:=ns.map V.int) (j:=k.toNat) (v:=.int ns[k.toNat]) (by simp[hk])
   rwa [Int.toNat_of_nonneg k0] at this
  exact⟨_,rfl,_,rfl,a,_,_,_,rfl,rfl,hS,e,hQ _⟩
def spMixed:Sp:=λvs H Q _=>∃c f:Int,vs=[.int c,.int f]/\-(2 ^ 64)<f/\f<2 ^ 64/\∀n:Int,Q (.int n) H
theorem ok_mixed{f:Addr}{fd:FuncData}(F:Fun K "_law_mixed" "_law_mixed" sLmixed f fd):FnOk P w K mg base CX0 1 f fd ["_law_cell","_law_factor"] spMixed:=by
 refine F.ok (sc_mk (N:=["_law_cell","_law_factor"]) (by decide +kernel)) (λvs H Q E h=>?_) (λcdv A outer s H vs Q E hr h=>?_)
 .obtain⟨c,f,rfl,_⟩:=h;rfl
 .obtain⟨c,f,rfl,h1,h2,hQ⟩:=h;exact⟨_,pss_one (ps_ret (pe_op op_mod (pe_op op_mul (pe_op op_add (pv 0) (pe_op op_mod (pv 1) pe_int)) (pv 1)) pe_int)),⟨_,rfl,_,rfl,_,_,rfl,rfl,(by show(0:Int)<97;decide),_,_,rfl,rfl,_,rfl,_,_,rfl,rfl,.inr ⟨h1,h2⟩,_,_,rfl,rfl,(by show(0:Int)<2147483647;decide),hQ _⟩⟩
def spPlanted(K:W.Frag):Sp:=λvs H Q _=>∃(a:Addr)(ns:List Int)(m:Nat),vs=[.ref a,.int m]/\SqL K H a (ns.map V.int)/\ns.length<=63/\2<=m/\m<=9 ∧
 ∀(p d l:Addr)(D:List (List Int×Int))(N:List Int)(PL:List (Int×Int))(H':Hp),H d=none->H l=none->Same H H'->H' p=some (.tup [.ref d,.ref l])->H' d=some (.dT (D.map Cw.en))->H' l=some (.lst (N.map V.int))->D.length<=63->Cw.Pl m D N PL->Q (.ref p) H'
theorem ix_n{n i:Nat}(h:i<n):ixN n (i:Int)=some i:=by
 unfold ixN;rw[if_pos (by omega),if_pos (by omega),Int.toNat_natCast]
theorem ok_planted{f:Addr}{fd:FuncData}(F:Fun K "_law_planted" "_law_planted" sLplanted f fd)(gmin:mg "min"=none)(gmax:mg "max"=none)(gint:mg "int"=none)(gsum:mg "sum"=none)(G:Has P w K mg base 1 "_law_mixed" ["_law_cell","_law_factor"] spMixed):FnOk P w K mg base CX0 2 f fd ["_law_script","_law_many"] (spPlanted K):=by
 have sc:=sc_mk (N:=["_law_script","_law_many","_law_rows","_law_numbers","_law_cell","_law_a","_law_b","_law_times"]) (P:=["_law_script","_law_many"]) (sc:=defScope sLplanted) (by decide +kernel);refine F.ok sc (λvs H Q E h=>?_) (λcdv A outer s H vs Q E hr h=>?_)
 .obtain⟨a,ns,m,rfl,_⟩:=h;rfl
 .obtain ⟨a,ns,m,rfl,hS,lns,m2,m9,hQ⟩:=h;have hu:=hu_of hr;refine'⟨_,pss_cons (ps_set (i:=2) sc.nd rfl (Or.inl rfl) pe_dnewT) (pss_cons (ps_set (i:=3) sc.nd rfl (Or.inl rfl) (pe_op op_rep (pe_lst (pa_cons pe_int pa_nil)) (pv 1))) (pss_cons (ps_for PassesOwn.never rfl (pi_list (pe_slice sl_list (pv 0) (po_some pe_int) (po_some pe_int))) (pg_name (i:=4) sc.nd rfl (Or.inl rfl)) (pss_cons ?a0 (pss_cons ?a1 (pss_cons (ps_if (pt_cmp (pc_dnotin hu (pe_tup (pa_cons (pe_callB (call_min2 rfl) (by rfl) gmin boot_min (pa_cons (pv 5) (pa_cons (pv 6) pa_nil))) (pa_cons (pe_callB (call_max2 rfl) (by rfl) gmax boot_max (pa_cons (pv 5) (pa_cons (pv 6) pa_nil))) pa_nil))) (pv 2)) (by with_unfolding_all rfl)) (pss_one ?a2) pss_nil) (pss_cons ?a3 (pss_one (ps_if (pt_cmpR op_gt (pe_op op_mod (pv 4) pe_int) pe_int (nomark _)) (pss_cons ?a4 (pss_one ?a5)) pss_nil))))))) (pss_one (ps_ret (pe_tup (pa_cons (pv 2) (pa_cons (pv 3) pa_nil))))))),?_⟩
  case a0=>exact ps_set (i:=5) sc.nd rfl (Or.inl rfl) (pe_op op_mod (pe_op op_fdiv (pe_h G hr (pa_cons (pv 4) (pa_cons pe_int pa_nil))) pe_int) (pv 1))
  case a1=>exact ps_set (i:=6) sc.nd rfl (Or.inl rfl) (pe_op op_mod (pe_op op_add (pe_op op_add (pv 5) pe_int) (pe_op op_mod (pe_op op_fdiv (pe_h G hr (pa_cons (pv 4) (pa_cons pe_int pa_nil))) pe_int) (pe_op op_sub (pv 1) pe_int))) (pv 1))
  case a2=>exact ps_dput hu (pv 2) (pe_tup (pa_cons (pe_callB (call_min2 rfl) (by rfl) gmin boot_min (pa_cons (pv 5) (pa_cons (pv 6) pa_nil))) (pa_cons (pe_callB (call_max2 rfl) (by rfl) gmax boot_max (pa_cons (pv 5) (pa_cons (pv 6) pa_nil))) pa_nil))) (pe_op op_mul (pe_op op_add (pe_op op_sub (pe_op op_mod (pv 4) (pe_op op_sub (pe_op op_mul pe_int (pe_op op_pow pe_int pe_int)) pe_int)) (pe_op op_pow pe_int pe_int)) pe_int) (pe_callTy call_int1 (by rfl) gint bt_int (pa_cons (pe_cmpR op_gt (pe_op op_mod (pv 4) pe_int) pe_int (nomark _)) pa_nil))) rfl
  case a3=>exact ps_set (i:=7) sc.nd rfl (Or.inl rfl) (pe_callB (call_min2 rfl) (by rfl) gmin boot_min (pa_cons (pe_op op_add pe_int (pe_op op_mod (pe_op op_fdiv (pv 4) pe_int) pe_int)) (pa_cons (pe_op op_fdiv (pe_op op_sub pe_int (pe_callB (call_sumI rfl) (by rfl) gsum boot_sum (pa_cons (pv 3) pa_nil))) pe_int) pa_nil)))
  case a4=>exact ps_asg (pe_op op_add (pe_ix ix_list (pv 3) (pv 5) (λ_ _=>rfl)) (pv 7)) (pg_sub (pv 3) (pv 5) set_list)
  case a5=>exact ps_asg (pe_op op_add (pe_ix ix_list (pv 3) (pv 6) (λ_ _=>rfl)) (pv 7)) (pg_sub (pv 3) (pv 6) set_list)
  intro d nd;have s1:Same H (upd H d (.dT [])):=Same.new nd;have hd1:upd H d (.dT []) d=some (.dT (([]:List (List Int×Int)).map Cw.en)):=upd_same;trivial;generalize upd H d (.dT [])=H1 at s1 hd1 ⊢;refine⟨(by show 1<=sizeLine;decide),λc nc=>?_⟩;have s2:Same H1 (upd H1 c (.lst [.int 0])):=Same.new nc;have hc2:upd H1 c (.lst [.int 0]) c=some (.lst [.int 0]):=upd_same;generalize upd H1 c (.lst [.int 0])=H2 at s2 hc2 ⊢;refine⟨_,rfl,c,_,_,rfl,rfl,hc2,by omega,by omega,sl _ (by show 1*(m:Int).toNat<1000;omega),λl nl=>?_⟩;have el:(List.replicate (m:Int).toNat [V.int 0]).flatten=(List.replicate m (0:Int)).map V.int:=by
   rw[Int.toNat_natCast];have:∀k:Nat,(List.replicate k [V.int 0]).flatten=(List.replicate k (0:Int)).map V.int:=λk=>by
    induction k with
    | zero=>rfl
    | succ k ih=>rw[List.replicate_succ,List.flatten_cons,ih];rfl
   exact this m
  rw[el];have s3:Same H2 (upd H2 l (.lst ((List.replicate m (0:Int)).map V.int))):=Same.new nl;have hl3:upd H2 l (.lst ((List.replicate m (0:Int)).map V.int)) l=some (.lst ((List.replicate m (0:Int)).map V.int)):=upd_same;have nl0:=(s1.trans s2).free nl;trivial;generalize upd H2 l (.lst ((List.replicate m (0:Int)).map V.int))=H3 at s3 hl3 ⊢;have hd3:=s3 d _ (s2 d _ hd1);have s03:=s1.trans (s2.trans s3);refine⟨_,rfl,_,rfl,_,rfl,a,_,rfl,s03.seq hS,λlc nlc=>?_⟩;have lcu:(cutV (ns.map V.int) (some 3) (some 63)).length<=63:=by
   have:=cutV_length (ns.map V.int) (some 3) (some 63);rw[List.length_map] at this;omega
  have hci:=cut_int ns (some 3) (some 63);generalize cutV (ns.map V.int) (some 3) (some 63)=cut at lcu hci ⊢;have s4:Same H3 (upd H3 lc (.lst cut)):=Same.new nlc;have hc4:upd H3 lc (.lst cut) lc=some (.lst cut):=upd_same;generalize upd H3 lc (.lst cut)=H4 at s4 hc4 ⊢;have hd4:=s4 d _ hd3;have hl4:=s4 l _ hl3;have s04:=s03.trans s4;have nld:lc≠d:=λz=>by subst z;rw[hd3] at nlc;cases nlc
  have nll:lc≠l:=λz=>by subst z;rw[hl3] at nlc;cases nlc
  have ndl:d≠l:=λz=>by subst z;rw[hd4] at hl4;cases hl4
  refine⟨lc,rfl,⟨_,SqL.of hc4⟩,for_list (K:=K) (a:=lc) (xs:=cut)
   (λi σ H5=>∃(D:List (List Int×Int))(N:List Int)(PL:List (Int×Int))(e4 e5 e6 e7:Option V),σ=[some (.ref a),some (.int m),some (.ref d),some (.ref l),e4,e5,e6,e7]/\(∀b o,H4 b=some o->b≠d->b≠l->H5 b=some o)/\H5 d=some (.dT (D.map Cw.en))/\H5 l=some (.lst (N.map V.int))/\D.length<=i/\Cw.Pl m D N PL)
   ⟨[],_,[],none,none,none,none,rfl,λb o e _ _=>e,hd4,hl4,Nat.le_refl _,Cw.Pl.nil m⟩ (λi σ H5 _ ⟨_,_,_,_,_,_,_,_,fr,_⟩=>SqL.of (fr lc _ hc4 nld nll)) ?_ ?_⟩
  .rintro i y σ H5 hi ⟨D,N,PL,e4,e5,e6,e7,rfl,fr,hd5,hl5,lD,pl⟩;have hil:i<63:=Nat.lt_of_lt_of_le (List.getElem?_eq_some_iff.mp hi).1 lcu;obtain⟨c0,rfl⟩:=hci i y hi;trivial;refine⟨_,rfl,c0,_,rfl,by decide,by decide,λn1=>⟨_,_,rfl,rfl,⟨by decide,by decide⟩,_,rfl,_,_,rfl,rfl,(by show(0:Int)<m;omega),?_⟩⟩;have a0:=Int.emod_nonneg (n1 / 8) (b:=(m:Int)) (by omega);have a1:=Int.emod_lt_of_pos (n1 / 8) (b:=(m:Int)) (by omega);trivial;generalize n1 / 8 % (m:Int)=x at a0 a1 ⊢;refine⟨_,rfl,_,_,rfl,rfl,_,rfl,c0,_,rfl,by decide,by decide,λn2=>⟨_,_,rfl,rfl,⟨by decide,by decide⟩,_,rfl,_,_,rfl,rfl,_,_,rfl,rfl,(by show(0:Int)<m-1;omega),_,_,rfl,rfl,_,rfl,_,_,rfl,rfl,(by show(0:Int)<m;omega),?_⟩⟩;have r0:=Int.emod_nonneg (n2 / 8) (b:=(m:Int)-1) (by omega);have r1:=Int.emod_lt_of_pos (n2 / 8) (b:=(m:Int)-1) (by omega);trivial;generalize n2 / 8 % ((m:Int)-1)=r at r0 r1 ⊢;have bx:0<=(x+1+r) % (m:Int)/\(x+1+r) % (m:Int)<m/\(x+1+r) % (m:Int)≠x:=by
    refine⟨Int.emod_nonneg _ (by omega),Int.emod_lt_of_pos _ (by omega),?_⟩;by_cases c:x+1+r<m
    .rw[Int.emod_eq_of_lt (by omega) c];omega
    .rw[<-Int.sub_emod_right,Int.emod_eq_of_lt (by omega) (by omega)];omega
   generalize (x+1+r) % (m:Int)=y at bx ⊢;obtain⟨b0,b1,bn⟩:=bx;obtain⟨xa,rfl⟩:∃n:Nat,x=n:=⟨x.toNat,by omega⟩;obtain⟨yb,rfl⟩:∃n:Nat,y=n:=⟨y.toNat,by omega⟩;refine⟨_,rfl,_,rfl,_,_,rfl,_,rfl,_,rfl,_,_,rfl,(by show 2<=sizeLine;decide),λq1 nq1=>?_⟩;have s6:Same H5 (upd H5 q1 (.tup [.int (if (yb:Int)<(xa:Int) then (yb:Int) else (xa:Int)),.int (if (yb:Int)>(xa:Int) then (yb:Int) else (xa:Int))])):=Same.new nq1;have hq6:upd H5 q1 (.tup [.int (if (yb:Int)<(xa:Int) then (yb:Int) else (xa:Int)),.int (if (yb:Int)>(xa:Int) then (yb:Int) else (xa:Int))]) q1=some (.tup (([Mt.lo (xa:Int) (yb:Int),Mt.hi (xa:Int) (yb:Int)].map Sum.inl:List Key).map kV)):=upd_same;generalize upd H5 q1 (.tup [.int (if (yb:Int)<(xa:Int) then (yb:Int) else (xa:Int)),.int (if (yb:Int)>(xa:Int) then (yb:Int) else (xa:Int))])=H6 at s6 hq6 ⊢;have hd6:=s6 d _ hd5;have hl6:=s6 l _ hl5;have fr6:∀b o,H4 b=some o->b≠d->b≠l->H6 b=some o:=λb o e n1 n2=>s6 b o (fr b o e n1 n2);refine⟨_,rfl,d,_,rfl,DGet.t hd6 hq6,_,rfl,?_⟩;have vi:=Cw.val_iff [Mt.lo (xa:Int) (yb:Int),Mt.hi (xa:Int) (yb:Int)] D;refine ite2 (λc=>?_) (λc=>?_)
   .have no:[Mt.lo (xa:Int) (yb:Int),Mt.hi (xa:Int) (yb:Int)]∉D.map (·.1):=λz=>by rw[vi.mpr z] at c;cases c
    have vn:valV (D.map Cw.en) ([Mt.lo (xa:Int) (yb:Int),Mt.hi (xa:Int) (yb:Int)].map Sum.inl)=none:=by
     cases e:valV (D.map Cw.en) ([Mt.lo (xa:Int) (yb:Int),Mt.hi (xa:Int) (yb:Int)].map Sum.inl) with
     | none=>rfl
     | some v=>rw[e] at c;cases c
    refine⟨_,rfl,_,_,rfl,rfl,⟨by decide,by decide,by decide⟩,_,_,rfl,rfl,.inl ⟨by decide,by decide⟩,_,_,rfl,rfl,_,_,rfl,rfl,(by show(0:Int)<2*10 ^ (60:Int).toNat-1;decide),_,_,rfl,rfl,⟨by decide,by decide,by decide⟩,_,_,rfl,rfl,_,_,rfl,rfl,_,rfl,_,_,rfl,rfl,(by show(0:Int)<5;decide),_,_,rfl,rfl,.inr ⟨_,rfl,_,_,rfl,rfl,.inr (by split<;>decide),_,rfl,_,rfl,_,rfl,_,_,rfl,_,rfl,_,rfl,_,_,rfl,(by show 2<=sizeLine;decide),λq2 nq2=>?_⟩⟩;dsimp only;generalize hz:(c0 % _-_+1)*_=z;clear hz;have s7:Same H6 (upd H6 q2 (.tup [.int (if (yb:Int)<(xa:Int) then (yb:Int) else (xa:Int)),.int (if (yb:Int)>(xa:Int) then (yb:Int) else (xa:Int))])):=Same.new nq2;have hq7:upd H6 q2 (.tup [.int (if (yb:Int)<(xa:Int) then (yb:Int) else (xa:Int)),.int (if (yb:Int)>(xa:Int) then (yb:Int) else (xa:Int))]) q2=some (.tup (([Mt.lo (xa:Int) (yb:Int),Mt.hi (xa:Int) (yb:Int)].map Sum.inl:List Key).map kV)):=upd_same;generalize upd H6 q2 (.tup [.int (if (yb:Int)<(xa:Int) then (yb:Int) else (xa:Int)),.int (if (yb:Int)>(xa:Int) then (yb:Int) else (xa:Int))])=H65 at s7 hq7 ⊢;refine⟨d,_,rfl,DPut.t (s7 d _ hd6) hq7 (small1000 (by rw[List.length_map];omega)),?_⟩;rw[putK_new _ vn,show D.map Cw.en++[([Mt.lo (xa:Int) (yb:Int),Mt.hi (xa:Int) (yb:Int)].map Sum.inl,V.int z)]=(D++[([Mt.lo (xa:Int) (yb:Int),Mt.hi (xa:Int) (yb:Int)],z)]).map Cw.en by rw[List.map_append];rfl];obtain⟨D7,H7,eH,fr7,hd7,hl7,l7,pl7,mk⟩:∃(D7:List (List Int×Int))(H7:Hp),H7=upd H65 d (.dT ((D++[([Mt.lo (xa:Int) (yb:Int),Mt.hi (xa:Int) (yb:Int)],z)]).map Cw.en))/\(∀b o,H4 b=some o->b≠d->b≠l->H7 b=some o)/\H7 d=some (.dT (D7.map Cw.en))/\H7 l=some (.lst (N.map V.int))/\D7.length<=i+1/\Cw.Pl m D7 N PL/\[Mt.lo (xa:Int) (yb:Int),Mt.hi (xa:Int) (yb:Int)]∈D7.map (·.1):=⟨_,_,rfl,λb o e n1 n2=>by rw[upd_ne n1];exact s7 b o (fr6 b o e n1 n2),upd_same,by rw[upd_ne ndl.symm];exact s7 l _ hl6,by rw[List.length_append,List.length_singleton];omega,pl.row z ⟨a0,a1⟩ ⟨b0,b1⟩ (Ne.symm bn) no,by rw[List.map_append];exact List.mem_append_right _ (.head _)⟩;rw[<-eH];clear eH s7 hq7 s6 hq6 hd6 hl6 fr6;refine⟨_,rfl,_,_,rfl,rfl,⟨by decide,by decide⟩,_,_,rfl,rfl,(by show(0:Int)<5;decide),_,_,rfl,rfl,_,rfl,l,N,rfl,SqL.of hl7,_,_,rfl,rfl,_,_,rfl,rfl,⟨by decide,by decide⟩,_,_,rfl,?_⟩;have sm:=pl7.sum;have ht:0<=(if (24-N.sum) / 2<1+c0 / 3 % 5 then (24-N.sum) / 2 else 1+c0 / 3 % 5)/\N.sum+2*(if (24-N.sum) / 2<1+c0 / 3 % 5 then (24-N.sum) / 2 else 1+c0 / 3 % 5)<=24:=by split<;>omega
    trivial;generalize (if (24-N.sum) / 2<1+c0 / 3 % 5 then (24-N.sum) / 2 else 1+c0 / 3 % 5)=t at ht ⊢;refine⟨_,rfl,_,_,rfl,rfl,(by show(0:Int)<3;decide),_,_,rfl,rfl,_,rfl,?_⟩;refine ite2 (λ_=>?_) (λ_=>⟨D7,N,PL,_,_,_,_,rfl,fr7,hd7,hl7,l7,pl7⟩);have lm:=pl7.len;have la:xa<N.length:=by omega
    have lb:yb<N.length:=by omega
    have ga:N[xa]?=some (N.getD xa 0):=by rw[List.getD_eq_getElem?_getD,List.getElem?_eq_getElem la];rfl
    have gb:N[yb]?=some (N.getD yb 0):=by rw[List.getD_eq_getElem?_getD,List.getElem?_eq_getElem lb];rfl
    refine⟨_,rfl,_,rfl,l,_,_,_,rfl,rfl,SqL.of hl7,at_cs la,_,rfl,_,_,rfl,rfl,_,rfl,_,rfl,l,_,_,_,rfl,rfl,hl7,ix_n (by rw[List.length_map];exact la),?_⟩;have h8:upd H7 l (.lst ((N.map V.int).set xa (.int (N.getD xa 0+t)))) l=some (.lst ((N.set xa (N.getD xa 0+t)).map V.int)):=by rw[upd_same,List.map_set]
    have f8:∀b o,H7 b=some o->b≠l->upd H7 l (.lst ((N.map V.int).set xa (.int (N.getD xa 0+t)))) b=some o:=λb o e n=>by rw[upd_ne n];exact e
    generalize upd H7 l (.lst ((N.map V.int).set xa (.int (N.getD xa 0+t))))=H8 at h8 f8 ⊢;have g2:(N.set xa (N.getD xa 0+t)).getD yb 0=N.getD yb 0:=by rw[List.getD_eq_getElem?_getD,List.getElem?_set_ne (by omega),<-List.getD_eq_getElem?_getD]
    have lb2:yb<(N.set xa (N.getD xa 0+t)).length:=by rw[List.length_set];exact lb
    have at2:=at_cs lb2;rw[g2] at at2;refine⟨_,rfl,_,rfl,l,_,_,_,rfl,rfl,SqL.of h8,at2,_,rfl,_,_,rfl,rfl,_,rfl,_,rfl,l,_,_,_,rfl,rfl,h8,ix_n (by rw[List.length_map];exact lb2),?_⟩;exact⟨D7,(N.set xa (N.getD xa 0+t)).set yb (N.getD yb 0+t),_,_,_,_,_,rfl,λb o e n1 n2=>by rw[upd_ne n2];exact f8 b o (fr7 b o e n1 n2) n2,by rw[upd_ne ndl];exact f8 d _ hd7 ndl,by rw[upd_same,List.map_set,List.map_set,List.map_set],l7,pl7.add ga gb (by omega) mk ht.1 ht.2⟩
   .have mk:=vi.mp (by cases e:(valV (D.map Cw.en) ([Mt.lo (xa:Int) (yb:Int),Mt.hi (xa:Int) (yb:Int)].map Sum.inl)).isSome with
     | true=>rfl
     | false=>rw[e] at c;exact absurd rfl c)
    obtain⟨D7,fr7,hd7,hl7,l7,pl7,mk⟩:∃D7:List (List Int×Int),(∀b o,H4 b=some o->b≠d->b≠l->H6 b=some o)/\H6 d=some (.dT (D7.map Cw.en))/\H6 l=some (.lst (N.map V.int))/\D7.length<=i+1/\Cw.Pl m D7 N PL/\[Mt.lo (xa:Int) (yb:Int),Mt.hi (xa:Int) (yb:Int)]∈D7.map (·.1):=⟨D,fr6,hd6,hl6,by omega,pl,mk⟩;clear s6 hq6 hd6 hl6 fr6;generalize H6=H7 at fr7 hd7 hl7 ⊢;refine⟨_,rfl,_,_,rfl,rfl,⟨by decide,by decide⟩,_,_,rfl,rfl,(by show(0:Int)<5;decide),_,_,rfl,rfl,_,rfl,l,N,rfl,SqL.of hl7,_,_,rfl,rfl,_,_,rfl,rfl,⟨by decide,by decide⟩,_,_,rfl,?_⟩;have sm:=pl7.sum;have ht:0<=(if (24-N.sum) / 2<1+c0 / 3 % 5 then (24-N.sum) / 2 else 1+c0 / 3 % 5)/\N.sum+2*(if (24-N.sum) / 2<1+c0 / 3 % 5 then (24-N.sum) / 2 else 1+c0 / 3 % 5)<=24:=by split<;>omega
    trivial;generalize (if (24-N.sum) / 2<1+c0 / 3 % 5 then (24-N.sum) / 2 else 1+c0 / 3 % 5)=t at ht ⊢;refine⟨_,rfl,_,_,rfl,rfl,(by show(0:Int)<3;decide),_,_,rfl,rfl,_,rfl,?_⟩;refine ite2 (λ_=>?_) (λ_=>⟨D7,N,PL,_,_,_,_,rfl,fr7,hd7,hl7,l7,pl7⟩);have lm:=pl7.len;have la:xa<N.length:=by omega
    have lb:yb<N.length:=by omega
    have ga:N[xa]?=some (N.getD xa 0):=by rw[List.getD_eq_getElem?_getD,List.getElem?_eq_getElem la];rfl
    have gb:N[yb]?=some (N.getD yb 0):=by rw[List.getD_eq_getElem?_getD,List.getElem?_eq_getElem lb];rfl
    refine⟨_,rfl,_,rfl,l,_,_,_,rfl,rfl,SqL.of hl7,at_cs la,_,rfl,_,_,rfl,rfl,_,rfl,_,rfl,l,_,_,_,rfl,rfl,hl7,ix_n (by rw[List.length_map];exact la),?_⟩;have h8:upd H7 l (.lst ((N.map V.int).set xa (.int (N.getD xa 0+t)))) l=some (.lst ((N.set xa (N.getD xa 0+t)).map V.int)):=by rw[upd_same,List.map_set]
    have f8:∀b o,H7 b=some o->b≠l->upd H7 l (.lst ((N.map V.int).set xa (.int (N.getD xa 0+t)))) b=some o:=λb o e n=>by rw[upd_ne n];exact e
    generalize upd H7 l (.lst ((N.map V.int).set xa (.int (N.getD xa 0+t))))=H8 at h8 f8 ⊢;have g2:(N.set xa (N.getD xa 0+t)).getD yb 0=N.getD yb 0:=by rw[List.getD_eq_getElem?_getD,List.getElem?_set_ne (by omega),<-List.getD_eq_getElem?_getD]
    have lb2:yb<(N.set xa (N.getD xa 0+t)).length:=by rw[List.length_set];exact lb
    have at2:=at_cs lb2;rw[g2] at at2;refine⟨_,rfl,_,rfl,l,_,_,_,rfl,rfl,SqL.of h8,at2,_,rfl,_,_,rfl,rfl,_,rfl,_,rfl,l,_,_,_,rfl,rfl,h8,ix_n (by rw[List.length_map];exact lb2),?_⟩;exact⟨D7,(N.set xa (N.getD xa 0+t)).set yb (N.getD yb 0+t),_,_,_,_,_,rfl,λb o e n1 n2=>by rw[upd_ne n2];exact f8 b o (fr7 b o e n1 n2) n2,by rw[upd_ne ndl];exact f8 d _ hd7 ndl,by rw[upd_same,List.map_set,List.map_set,List.map_set],l7,pl7.add ga gb (by omega) mk ht.1 ht.2⟩
  .rintro σ H5 ⟨D,N,PL,e4,e5,e6,e7,rfl,fr,hd5,hl5,lD,pl⟩;refine⟨_,rfl,_,rfl,(by show 2<=sizeLine;decide),λp np=>?_⟩;have s6:Same H5 (upd H5 p (.tup [.ref d,.ref l])):=Same.new np;exact hQ p d l D N PL _ nd nl0 (λb o e=>s6 b o (fr b o (s04 b o e) (ne_of_none e nd) (ne_of_none e nl0))) upd_same (s6 d _ hd5) (s6 l _ hl5) (by omega) pl
end
structure Kit(K:W.Frag)(mg:Str->Option Value):Prop where
 ll:PySem.W.kitOne K (.type "list") (.type "list")=some true
 tt:PySem.W.kitOne K (.type "tuple") (.type "tuple")=some true
 gis:mg "isinstance"=none
 glist:mg "list"=none
 gtup:mg "tuple"=none
 glen:mg "len"=none
def cL(f:Nat->Int)(n:Nat):List Int:=(List.range n).map f
theorem cL_len(f:Nat->Int)(n:Nat):(cL f n).length=n:=by unfold cL;simp
theorem cL_at{f:Nat->Int}{n a:Nat}(h:a<n):(cL f n).getD a 0=f a:=by
 unfold cL;rw[List.getD_eq_getElem?_getD,List.getElem?_map,List.getElem?_range h];rfl
theorem cL_set{f:Nat->Int}{n a:Nat}(v:Int):(cL f n).set a v=cL (λk=>if k=a then v else f k) n:=by
 unfold cL;refine List.ext_getElem (by simp) λi h1 h2=>?_;rw[List.getElem_set];simp only[List.getElem_map,List.getElem_range];by_cases c:a=i
 .rw[if_pos c,if_pos c.symm]
 .rw[if_neg c,if_neg λz=>c z.symm]
theorem cL_zero(n:Nat)(f:Nat->Int)(h:∀k,f k=0):(List.replicate n [V.int 0]).flatten=(cL f n).map V.int:=by
 unfold cL;rw[List.map_map]
 induction n with
 | zero=>rfl
 | succ n ih=>
  rw[List.range_succ,List.map_append,<-ih];have:∀k:Nat,(List.replicate (k+1) [V.int 0]).flatten=(List.replicate k [V.int 0]).flatten++[V.int 0]:=λk=>by rw[List.replicate_succ',List.flatten_append];rfl
  rw[this];show _=_++[V.int (f n)];rw[h]
theorem dg_take{R:List (List Int×Int)}{i:Nat}{a b:Nat}{t:Int}(h:R[i]?=some ([(a:Int),(b:Int)],t))(ab:a≠b)(k:Nat) :
  (if k=b then Cw.dg (R.take i) b+t else if k=a then Cw.dg (R.take i) a+t else Cw.dg (R.take i) k)=Cw.dg (R.take (i+1)) k:=by
 have e:Cw.dg (R.take (i+1)) k=Cw.dg (R.take i) k+t*Cw.e1 [(a:Int),(b:Int)] k:=by
  rw[List.take_succ,h];unfold Cw.dg;rw[List.map_append,List.sum_append];simp
 rw[e];have e2:Cw.e1 [(a:Int),(b:Int)] k=(if (a:Int)=k then 1 else 0)+(if (b:Int)=k then 1 else 0):=rfl;rw[e2];by_cases c:k=b
 .subst c;rw[if_pos rfl,if_neg (by omega),if_pos rfl];omega
 .rw [if_neg c];by_cases c2:k=a
  .subst c2;rw[if_pos rfl,if_pos rfl,if_neg (by omega)];omega
  .rw[if_neg c2,if_neg (by omega),if_neg (by omega)];omega
section
variable{P:Program}{w:World}{K:W.Frag}{mg:Str->Option Value}{base:Heap}{C:Addr}
theorem rdS{H H':Hp}{a:Addr}{u:HO}(s:Same H H')(h:Rd H a u):Rd H' a u:=h.elim (λe=>.inl (s _ _ e)) λ⟨o,e⟩=>.inr ⟨o,s _ _ e⟩
def spDoes:Sp:=λvs H Q _=>∃(p d q:Addr)(U:List Mt.Tri)(D:List (List Int×Int))(N:List Int),vs=[.ref p,.ref d,.ref q]/\Rd H d (.dT (D.map Cw.en))/\H q=some (.lst (N.map V.int))/\N.length<=100/\Rws H p U N/\(∀k∈U.map Mt.key,k∈D.map (·.1)/\∃a b:Nat,k=[(a:Int),(b:Int)]/\a<b/\b<N.length)/\∀H',Same H H'->Q (.bl true) H'
theorem ok_does{f:Addr}{fd:FuncData}(F:Fun K "_law_does" "_law_does" sLdoes f fd)(kit:Kit K mg):FnOk P w K mg base CX0 1 f fd ["_law_found","_law_rows","_law_numbers"] spDoes:=by
 have sc:=sc_mk (N:=["_law_found","_law_rows","_law_numbers","_law_counted","_law_row"]) (P:=["_law_found","_law_rows","_law_numbers"]) (sc:=defScope sLdoes) (by decide +kernel);refine F.ok sc (λvs H Q E h=>?_) (λcdv A outer s H vs Q E hr h=>?_)
 .obtain⟨p,d,q,U,D,N,rfl,_⟩:=h;rfl
 .obtain ⟨p,d,q,U,D,N,rfl,hd,hq,lN,⟨l,rs,R,hp,hl,tp,ok,lR,dg⟩,mem,hQ⟩:=h;have hu:=hu_of hr;refine'⟨_,pss_cons ?s0 (pss_cons ?s1 (pss_cons (ps_for PassesOwn.never rfl (pi_list (pe_ix ix_tup (pv 0) pe_int (λ_ _=>rfl))) (pg_name (i:=4) sc.nd rfl (Or.inl rfl)) (pss_cons ?b0 (pss_cons ?b1 (pss_one ?b2)))) (pss_one (ps_ret ?r)))),?_⟩
  case s0=>exact ps_if (pw_or (pt_not (pt_val (pe_callB call_isV (by rfl) kit.gis boot_isinstance (pa_cons (pv 0) (pa_cons (pe_bltn (v:=.ty "tuple") (by rfl) kit.gtup bt_tuple rfl) pa_nil))))) (pw_or (pt_cmpR op_ne (pe_callB call_len_seq (by rfl) kit.glen PySem.boot_len (pa_cons (pv 0) pa_nil)) pe_int (nomark _)) (pw_or (pt_cmpR op_ne (pe_ix ix_tup (pv 0) pe_int (λ_ _=>rfl)) pe_str (nomark _)) (pw_or1 (pt_not (pt_val (pe_callB call_isV (by rfl) kit.gis boot_isinstance (pa_cons (pe_ix ix_tup (pv 0) pe_int (λ_ _=>rfl)) (pa_cons (pe_bltn (v:=.ty "list") (by rfl) kit.glist bt_list rfl) pa_nil))))))))).pt (pss_one (ps_ret pe_bl)) pss_nil
  case s1=>exact ps_set (i:=3) sc.nd rfl (Or.inl rfl) (pe_op op_rep (pe_lst (pa_cons pe_int pa_nil)) (pe_callB call_len_seq (by rfl) kit.glen PySem.boot_len (pa_cons (pv 2) pa_nil)))
  case b0=>exact ps_if (pw_or (pt_not (pt_val (pe_callB call_isV (by rfl) kit.gis boot_isinstance (pa_cons (pv 4) (pa_cons (pe_bltn (v:=.ty "tuple") (by rfl) kit.gtup bt_tuple rfl) pa_nil))))) (pw_or (pt_cmpR op_ne (pe_callB call_len_seq (by rfl) kit.glen PySem.boot_len (pa_cons (pv 4) pa_nil)) pe_int (nomark _)) (pw_or (pt_cmp (pc_dnotin hu (pe_tup (pa_cons (pe_ix ix_tup (pv 4) pe_int (λ_ _=>rfl)) (pa_cons (pe_ix ix_tup (pv 4) pe_int (λ_ _=>rfl)) pa_nil))) (pv 1)) (by with_unfolding_all rfl)) (pw_or1 (pt_cmpR op_lt (pe_ix ix_tup (pv 4) pe_int (λ_ _=>rfl)) pe_int (nomark _)))))).pt (pss_one (ps_ret pe_bl)) pss_nil
  case b1=>exact ps_asg (pe_op op_add (pe_ix ix_list (pv 3) (pe_ix ix_tup (pv 4) pe_int (λ_ _=>rfl)) (λ_ _=>rfl)) (pe_ix ix_tup (pv 4) pe_int (λ_ _=>rfl))) (pg_sub (pv 3) (pe_ix ix_tup (pv 4) pe_int (λ_ _=>rfl)) set_list)
  case b2=>exact ps_asg (pe_op op_add (pe_ix ix_list (pv 3) (pe_ix ix_tup (pv 4) pe_int (λ_ _=>rfl)) (λ_ _=>rfl)) (pe_ix ix_tup (pv 4) pe_int (λ_ _=>rfl))) (pg_sub (pv 3) (pe_ix ix_tup (pv 4) pe_int (λ_ _=>rfl)) set_list)
  case r=>exact pe_cmpR (op_eqI (Nat.lt_of_succ_lt hu)) (pv 3) (pv 2) (nomark _)
  refine⟨_,rfl,_,"tuple",_,true,rfl,.tup hp,kit.tt,⟨true,rfl,iteF ?_⟩⟩;refine⟨_,rfl,p,_,rfl,.inr (SqT.of hp),rfl,_,rfl,iteNS rfl ?_⟩;refine⟨_,rfl,p,_,_,_,rfl,rfl,SqT.of hp,rfl,rfl,_,rfl,iteNS rfl ?_⟩;refine⟨_,rfl,p,_,_,_,rfl,rfl,SqT.of hp,rfl,_,"list",_,true,rfl,.lst hl,kit.ll,⟨true,rfl,iteF ?_⟩⟩;refine⟨(by show 1<=sizeLine;decide),λc nc=>?_⟩;have s1:Same H (upd H c (.lst [.int 0])):=Same.new nc;have hc1:upd H c (.lst [.int 0]) c=some (.lst [.int 0]):=upd_same;generalize upd H c (.lst [.int 0])=H1 at s1 hc1 ⊢;refine⟨_,rfl,q,_,rfl,.inl (SqL.of (s1 q _ hq)),c,_,_,rfl,rfl,hc1,by rw[List.length_map];omega,by rw[List.length_map];omega,sl _ (by rw[List.length_map];show 1*(N.length:Int).toNat<1000;omega),λg ng=>?_⟩;rw[List.length_map,Int.toNat_natCast,cL_zero N.length (λk=>Cw.dg (R.take 0) k) λk=>rfl];have ng0:=s1.free ng;have s2:Same H1 (upd H1 g (.lst ((cL (λk=>Cw.dg (R.take 0) k) N.length).map V.int))):=Same.new ng;have hg2:upd H1 g (.lst ((cL (λk=>Cw.dg (R.take 0) k) N.length).map V.int)) g=some (.lst ((cL (λk=>Cw.dg (R.take 0) k) N.length).map V.int)):=upd_same;trivial;generalize upd H1 g (.lst ((cL (λk=>Cw.dg (R.take 0) k) N.length).map V.int))=H2 at s2 hg2 ⊢;have s02:=s1.trans s2;have lr:=Paired.length tp;rw[List.length_map] at lr;refine⟨_,rfl,p,_,_,_,rfl,rfl,SqT.of (s02 p _ hp),rfl,l,rfl,⟨_,SqL.of (s02 l _ hl)⟩,for_list (K:=K) (a:=l) (xs:=rs.map V.ref)
   (λi σ H3=>∃(e4:Option V),σ=[some (.ref p),some (.ref d),some (.ref q),some (.ref g),e4]/\Same H H3/\H3 g=some (.lst ((cL (λk=>Cw.dg (R.take i) k) N.length).map V.int)))
   ⟨none,rfl,s02,hg2⟩ (λi σ H3 _ ⟨_,_,s3,_⟩=>SqL.of (s3 l _ hl)) ?_ ?_⟩
  .rintro i y σ H3 hi ⟨e4,rfl,s3,hg3⟩;obtain⟨r,t,rfl,et,hr3⟩:=tup_at (TupsH.same s3 tp) hi;rw[List.getElem?_map] at et;obtain⟨⟨k,n⟩,er,rfl⟩:=Option.map_eq_some_iff.mp et;obtain⟨⟨_,_,_,_,mk⟩,n1⟩:=ok _ (List.mem_of_getElem? er);obtain⟨mD,a,b,e,ab,bN⟩:=mem _ mk;have e:k=[(a:Int),(b:Int)]:=e;subst e;have n1:1<=n:=n1;have hr3:H3 r=some (.tup [.int a,.int b,.int n]):=hr3;trivial;refine⟨_,rfl,_,"tuple",_,true,rfl,.tup hr3,kit.tt,⟨true,rfl,iteF ?_⟩⟩;refine⟨_,rfl,r,_,rfl,.inr (SqT.of hr3),rfl,_,rfl,iteNS rfl ?_⟩;refine⟨_,rfl,r,_,_,_,rfl,rfl,SqT.of hr3,rfl,_,rfl,r,_,_,_,rfl,rfl,SqT.of hr3,rfl,(by show 2<=sizeLine;decide),λz nz=>?_⟩;have s4:Same H3 (upd H3 z (.tup [.int a,.int b])):=Same.new nz;have hz4:upd H3 z (.tup [.int a,.int b]) z=some (.tup (([(a:Int),(b:Int)].map Sum.inl:List Key).map kV)):=upd_same;generalize upd H3 z (.tup [.int a,.int b])=H4 at s4 hz4 ⊢;have hr4:=s4 r _ hr3;have hg4:=s4 g _ hg3;refine⟨_,rfl,d,_,rfl,(.inr ⟨_,_,z,rdS s4 (rdS s3 hd),rfl,hz4,rfl⟩),_,rfl,?_⟩;refine ite2 (λc=>by rw[(Cw.val_iff _ D).mpr mD] at c;cases c) (λ_=>?_);refine⟨_,rfl,r,_,_,_,rfl,rfl,SqT.of hr4,rfl,_,_,rfl,rfl,_,rfl,?_⟩;refine ite2 (λc=>absurd (of_decide_eq_true c) (by omega)) (λ_=>?_);have la:a<(cL (λk=>Cw.dg (R.take i) k) N.length).length:=by rw[cL_len];omega
   have ata:=at_cs la;rw[cL_at (by omega)] at ata;refine⟨_,rfl,_,rfl,r,_,_,_,rfl,rfl,SqT.of hr4,rfl,g,_,_,_,rfl,rfl,SqL.of hg4,ata,_,rfl,r,_,_,_,rfl,rfl,SqT.of hr4,rfl,_,_,rfl,rfl,_,rfl,_,rfl,r,_,_,_,rfl,rfl,SqT.of hr4,rfl,g,_,_,_,rfl,rfl,hg4,ix_n (by rw[List.length_map];exact la),?_⟩;dsimp only;rw[<-List.map_set,cL_set];have h5:upd H4 g (.lst ((cL (λk=>if k=a then Cw.dg (R.take i) a+n else Cw.dg (R.take i) k) N.length).map V.int)) g=some (.lst ((cL (λk=>if k=a then Cw.dg (R.take i) a+n else Cw.dg (R.take i) k) N.length).map V.int)):=upd_same;have f5:∀x o,H4 x=some o->x≠g->upd H4 g (.lst ((cL (λk=>if k=a then Cw.dg (R.take i) a+n else Cw.dg (R.take i) k) N.length).map V.int)) x=some o:=λx o e ne=>by rw[upd_ne ne];exact e
   generalize upd H4 g (.lst ((cL (λk=>if k=a then Cw.dg (R.take i) a+n else Cw.dg (R.take i) k) N.length).map V.int))=H5 at h5 f5 ⊢;have hr5:=f5 r _ hr4 (ne_of hr4 hg4 λz=>(nomatch z));have lb:b<(cL (λk=>if k=a then Cw.dg (R.take i) a+n else Cw.dg (R.take i) k) N.length).length:=by rw[cL_len];omega
   have atb:=at_cs lb;rw[cL_at (by omega),if_neg (by omega)] at atb;refine⟨_,rfl,_,rfl,r,_,_,_,rfl,rfl,SqT.of hr5,rfl,g,_,_,_,rfl,rfl,SqL.of h5,atb,_,rfl,r,_,_,_,rfl,rfl,SqT.of hr5,rfl,_,_,rfl,rfl,_,rfl,_,rfl,r,_,_,_,rfl,rfl,SqT.of hr5,rfl,g,_,_,_,rfl,rfl,h5,ix_n (by rw[List.length_map];exact lb),?_⟩;dsimp only;rw[<-List.map_set,cL_set];refine⟨_,rfl,λx o e=>?_,?_⟩
   .rw[upd_ne (ne_of_none e ng0)];exact f5 x o (s4 x o (s3 x o e)) (ne_of_none e ng0)
   .rw[upd_same,show(λk=>if k=b then Cw.dg (R.take i) b+n else if k=a then Cw.dg (R.take i) a+n else Cw.dg (R.take i) k)=λ(k:Nat)=>Cw.dg (R.take (i+1)) k from funext λk=>dg_take er (by omega) k]
  .rintro σ H3 ⟨e4,rfl,s3,hg3⟩;refine⟨_,rfl,_,rfl,g,q,_,N,rfl,rfl,SqL.of hg3,SqL.of (s3 q _ hq),?_⟩;have:cL (λk=>Cw.dg (R.take (rs.map V.ref).length) k) N.length=N:=by
    rw[List.length_map,lr,List.take_length];unfold cL;refine List.ext_getElem (by simp) λk h1 h2=>?_;simp only[List.getElem_map,List.getElem_range];exact dg k _ (List.getElem?_eq_getElem h2)
   rw[decide_eq_true this];exact hQ H3 s3
end
end K67
namespace L2
open PySem PySem.Spec PyProof.Rows
def tCallS(sp:Sp)(E:St->XK)(t:TA):TE:=λσ H Q=>t σ H λvs H1=>sp vs H1 Q (E σ)
theorem pe_callS{X:Cx}{CX:CXT}{k:Nat}{f:Addr}{fd:FuncData}{ps:List Str}{sp:Sp}{E:St->XK}{x:Str}{p pos:Pos}{e:Expr}{es:List Expr}{t:TA}(F:FnOk X.prog X.w X.K X.mg X.base CX k f fd ps sp)(hr:Room k X.A)(hg:Gl X x)(hm:X.mg x=some (.ref f))(hk:PySem.W.keepIn X.K (.ref f)=true)(hb:Binds X.K fd ps [])(hx:PassS CX X E)
  (ha:PA X (e::es) t) (hdb:(x==("__debug__":Str))=false:=by decide) (he:starEach (e::es) X.env=(false,eval e X.env)::starEach es X.env:=by rfl) (hpl:(backTo pos (starEach es X.env)).any (·.1)=false:=by rfl) :
  PE X (.Call (.Name x p) (e::es) [] pos) (tCallS sp E t):=by
 intro pins s σ H Q I h;refine wpAny_Call_Name_kw (ld_glob I hg hm ?_ hdb);refine PySem.W.callWith_K (h₀:=X.base) I.ok.mod.kin hk (thn (ha pos pins s σ H _ I h) λus s1 ⟨vs,H1,I1,r,q⟩=>⟨I1.kIn,?_⟩) he hpl;have hl:(us++[]).length=ps.length:=by rw[List.append_nil,<-r.length];exact F.len _ _ _ _ q
 have hb2:=hb s1 us I1.kIn hl;rw[List.append_nil] at hb2;refine wpAny_call (codeAny_mono (F.run X.A X.stack s1 H1 ⟨us,[]⟩ us vs Q (E σ) hr I1.env0 hb2 r q) λr s' hq=>?_);cases r with
 | error e=>exact hx pins σ H1 s1 e s' I1 hq
 | ok fl=>
  cases fl with
  | ret u=>exact I1.after hq
  | next=>exact False.elim hq
  | brk=>exact False.elim hq
  | cont=>exact False.elim hq
end L2
namespace K67
open PySem L2 PyProof.Rows
structure Adr where
 W:Addr
 T:Addr
 l1:List Addr
 l2:List Addr
structure TxtL(K:W.Frag)(mg:Str->Option Value)(a:Adr)(ap br bx bt bn nn nt tk tw:Addr):Prop where
 T:ExcC K mg "TooMany" a.T mroV newV
 ea:ExcA K a.T
 w:PySem.W.exmOne K (.ref a.T) (.ref a.W)=some true
 k1:PySem.W.kitOne K (.ref a.T) (.ref a.T)=some true
 kv:PySem.W.kitOne K (.ref a.T) (.type "ValueError")=some true
 t1:PySem.W.kitAny K (.ref a.T) ([ap,br,bx,bt,bn].map Value.ref)=some false
 t2:PySem.W.kitAny K (.ref a.T) ([nn,nt,tk,tw].map Value.ref)=some false
 gW:mg "WebError"=some (.ref a.W)
 gap:mg "Apart"=some (.ref ap)
 gbr:mg "BadRow"=some (.ref br)
 gbx:mg "BadText"=some (.ref bx)
 gbt:mg "BadTie"=some (.ref bt)
 gbn:mg "BelowNought"=some (.ref bn)
 gnn:mg "NoName"=some (.ref nn)
 gnt:mg "NoTie"=some (.ref nt)
 gtk:mg "Taken"=some (.ref tk)
 gtw:mg "Twice"=some (.ref tw)
 gis:mg "isinstance"=none
 gve:mg "ValueError"=none
theorem boot_VE:bootBuiltins "ValueError"=some (.type "ValueError"):=by decide +kernel
section
variable{P:Program}{w:World}{K:W.Frag}{mg:Str->Option Value}{base:Heap}{C:Addr}
def spTooMany(C:Addr):Sp:=λvs H Q _=>∃(x q:Addr)(m:Int)(U:List Mt.Tri)(ks:List (List Int))(N:List Int),vs=[.ref x,.ref q]/\WebAt C H x m U ks/\H q=some (.lst (N.map V.int))/\N.length<=100/\24<N.sum/\∀H',Same H H'->Q (.bl true) H'
abbrev nmTm:List Str:=["_law_web","_law_numbers","_law_refused","error"]
theorem scTm:FnScope nmTm ["_law_web","_law_numbers"] (defScope sLtoomany):=sc_mk (by decide +kernel)
def tSuite(a:Adr):TS:=λD σ H=>∃(ea:Addr)(e0 e1 e2:Option V),σ=[e0,e1,e2,some (.ref ea)]/\H ea=some (excO ea a.T)/\∀H',Same H H'->D.nx [e0,e1,some (.bl true),some (.ref ea)] H'
theorem ok_toomany{f fW:Addr}{fd fdW:FuncData}{a:Adr}{ap br bx bt bn nn nt tk tw:Addr}(F:Fun K "_law_too_many" "_law_too_many" sLtoomany f fd)(T:TxtL K mg a ap br bx bt bn nn nt tk tw)
  (GW:FnOk P w K mg base (CXx P w) 8 fW fdW ["web","numbers"] (spWanted C a.T)) (mW:mg "wanted"=some (.ref fW)) (kW:PySem.W.keepIn K (.ref fW)=true) (bW:Binds K fdW ["web","numbers"] []):FnOk P w K mg base CX0 9 f fd ["_law_web","_law_numbers"] (spTooMany C):=by
 refine F.ok scTm (λvs H Q E h=>?_) (λcdv A outer s H vs Q E hr h=>?_)
 .obtain⟨x,q,m,U,ks,N,rfl,_⟩:=h;rfl
 .obtain ⟨x,q,m,U,ks,N,rfl,W,hq,lN,h24,hQ⟩:=h;have passA:∀pins R,PassS (CXx P w) ((cxOf CX0 P w K mg base nmTm "_law_too_many" (defScope sLtoomany) f cdv A outer s H E).nox.tr pins R) (λσ cls _ H'=>R cls σ H'):=λpins R=>passTr;refine'⟨_,pss_cons (ps_set (i:=2) scTm.nd rfl (Or.inl rfl) pe_bl) (pss_cons ?s1 (pss_one (ps_ret (pv 2)))),?_⟩
  case s1=>
   refine ps_try (tb:=λR=>tDrop (tCallS (spWanted C a.T) (λσ cls _ H'=>R cls σ H') (tCons (tVar 0) (tCons (tVar 1) tNil)))) ⟨rfl,rfl,rfl⟩ (λpins R=>pss_one (ps_expr (pe_callS GW hr (by rfl) mW kW bW (passA pins R) (pa_cons (pv 0) (pa_cons (pv 1) pa_nil)))))
    (ph_hitAs (i:=3) (ts:=tSuite a) ⟨rfl,rfl,rfl⟩ (by rfl) T.gW scTm.nd rfl rfl rfl (λea=>?_) ph_nil)
   refine' PSs.imp (t':=tSuite a) (pss_cons ?h1 (pss_cons ?h2 (pss_one ?h3))) ?i
   case h1=>exact ps_set (i:=2) scTm.nd rfl (Or.inl rfl) (pe_and (pe_callB call_isi (by rfl) T.gis boot_isinstance (pa_cons (pv 3) (pa_cons (pe_bltn (v:=.ty "ValueError") (by rfl) T.gve boot_VE rfl) pa_nil))) (pe_one (pe_callB call_isi (by rfl) T.gis boot_isinstance (pa_cons (pv 3) (pa_cons (pe_glob (v:=.ref a.T) (by rfl) T.T.at_ rfl) pa_nil)))))
   case h2=>exact ps_set (i:=2) scTm.nd rfl (Or.inl rfl) (pe_and (pv 2) (pe_one (pe_not (pe_callB call_isi (by rfl) T.gis boot_isinstance (pa_cons (pv 3) (pa_cons (pe_tup (pa_cons (pe_glob (v:=.ref ap) (by rfl) T.gap rfl) (pa_cons (pe_glob (v:=.ref br) (by rfl) T.gbr rfl) (pa_cons (pe_glob (v:=.ref bx) (by rfl) T.gbx rfl) (pa_cons (pe_glob (v:=.ref bt) (by rfl) T.gbt rfl) (pa_cons (pe_glob (v:=.ref bn) (by rfl) T.gbn rfl) pa_nil)))))) pa_nil))))))
   case h3=>exact ps_set (i:=2) scTm.nd rfl (Or.inl rfl) (pe_and (pv 2) (pe_one (pe_not (pe_callB call_isi (by rfl) T.gis boot_isinstance (pa_cons (pv 3) (pa_cons (pe_tup (pa_cons (pe_glob (v:=.ref nn) (by rfl) T.gnn rfl) (pa_cons (pe_glob (v:=.ref nt) (by rfl) T.gnt rfl) (pa_cons (pe_glob (v:=.ref tk) (by rfl) T.gtk rfl) (pa_cons (pe_glob (v:=.ref tw) (by rfl) T.gtw rfl) pa_nil))))) pa_nil))))))
   rintro D σ H2 ⟨ea,e0,e1,e2,rfl,he,hn⟩;refine⟨_,rfl,ea,a.T,true,he,T.ea,⟨true,rfl,iteT ⟨_,rfl,ea,a.T,true,he,T.ea,?_,.inl ⟨a.T,rfl,T.k1⟩⟩⟩,.inr (.inl ⟨"ValueError",rfl,T.kv⟩)⟩;refine⟨_,rfl,true,rfl,iteT ⟨_,rfl,(by show 5<=sizeLine;decide),λt ht=>?_⟩⟩;have s4:=Same.new (o:=.tup [.ref ap,.ref br,.ref bx,.ref bt,.ref bn]) ht;refine⟨ea,a.T,false,s4 ea _ he,T.ea,⟨false,rfl,?_⟩,.inr (.inr ⟨t,[ap,br,bx,bt,bn],rfl,upd_same,T.t1⟩)⟩;refine⟨_,rfl,true,rfl,iteT ⟨_,rfl,(by show 4<=sizeLine;decide),λt2 ht2=>?_⟩⟩;have s5:=s4.trans (Same.new (o:=.tup [.ref nn,.ref nt,.ref tk,.ref tw]) ht2);refine⟨ea,a.T,false,s5 ea _ he,T.ea,⟨false,rfl,?_⟩,.inr (.inr ⟨t2,[nn,nt,tk,tw],rfl,upd_same,T.t2⟩)⟩;exact hn _ s5
  refine⟨_,rfl,_,rfl,x,q,m,U,ks,N,rfl,W,hq,lN,.inl ⟨h24,?_⟩⟩;refine⟨true,T.w,iteT ⟨a.T,rfl,λea hea=>⟨ea,_,_,_,rfl,upd_same,λH6 s6=>?_⟩⟩⟩;exact⟨_,rfl,hQ H6 ((Same.new (o:=excO ea a.T) hea).trans s6)⟩
end
end K67
namespace L2
open PySem PySem.Spec PyProof.Rows
def iDictF(tl:TE):TI:=λσ H R=>tl σ H λx H1=>∃(d:Addr)(o:Obj)(kvs:List (List Key×V))(ts:List (List Int)),x=.ref d/\H1 d=some (.frz o (.dT kvs))/\kvs.map (·.1)=ts.map (·.map Sum.inl)/\(∀t∈ts,t≠[])/\∀(rs:List Addr),TupsH H1 rs ts->R (Itd d o (.dT kvs) rs) H1
theorem pi_dictF{X:Cx}{tg l:Expr}{tl:TE}(hl:PE X l tl):PI X tg l (iDictF tl):=by
 intro pins s σ H R I h;refine thn (hl pins s σ H _ I h) λv s1 ⟨x,H1,I1,r1,q1⟩=>?_;obtain⟨d,o,kvs,ts,rfl,hd,hk,hne,q⟩:=q1;cases r1;obtain⟨e1,z,lo,xs,rel,o',es,ep,e1',e2,e3,e4,_⟩:=(show ObjOk X.prog X.w H1 s1.heap d (.frz o (.dT kvs)) from I1.hok d _ hd);rw[e1] at e1';cases e1';have hT:TupsH H1 (xs.map (·.2.1)) ts:=keys_tups rel hk hne;refine Sx.iter_dictE lo ⟨o,e1,e2,e3⟩ ?_;refine⟨s1.heap.objs.size,[s1.heap.objs.size],_,Itd d o (.dT kvs) (xs.map (·.2.1)),_,rfl,I1.kept (t':=s1.toks) λb o e=>Heap.get?_push_of_some _ e,turn_dict _ d o _ es ep _ e2 e3 ?_,⟨_,Heap.get?_push_size _ rfl,rfl,rfl⟩,λb hb=>?_,q _ hT⟩
 .rw[e4,List.map_map,List.map_map];rfl
 .have e:b=s1.heap.objs.size:=by simpa using hb
  subst e;exact I1.fpOk (Nat.le_refl _) (I1.hok.fresh (Nat.le_refl _))
end L2
namespace K67
open PySem L2 PyProof.Rows
section
variable{P:Program}{w:World}{K:W.Frag}{mg:Str->Option Value}{base:Heap}{C:Addr}
def spShows:Sp:=λvs H Q _=>∃(p d q l:Addr)(o:Obj)(m:Nat)(D:List (List Int×Int))(N:List Int)(al:Int),vs=[.ref p,.int ((m+1:Nat):Int),.ref d,.ref q]/\H p=some (.tup [.str "none",.ref l])/\H l=some (.lst [])/\H d=some (.frz o (.dT (D.map Cw.en)))/\H q=some (.lst (N.map V.int))/\m<=20/\N.length=m+1/\(∀n∈N,0<=n)/\N.getD m 0=al/\1<=al/\(∀r∈D,∃a b:Nat,r.1=[(a:Int),(b:Int)]/\a<b/\b<m)/\∀H',Same H H'->Q (.bl true) H'
abbrev nmSh:List Str:=["_law_found","_law_many","_law_rows","_law_numbers","_law_gone","_law_label","_law_a","_law_b","_law_old","_law_total","_law_one","_law_part"]
theorem scSh:FnScope nmSh ["_law_found","_law_many","_law_rows","_law_numbers"] (defScope sLshows):=sc_mk (by decide +kernel)
theorem ok_shows{f:Addr}{fd:FuncData}(F:Fun K "_law_shows" "_law_shows" sLshows f fd)(kit:Kit K mg)(grange:mg "range"=none)(gsum:mg "sum"=none):FnOk P w K mg base CX0 1 f fd ["_law_found","_law_many","_law_rows","_law_numbers"] spShows:=by
 refine F.ok scSh (λvs H Q E h=>?_) (λcdv A outer s H vs Q E hr h=>?_)
 .obtain⟨p,d,q,l,o,m,D,N,al,rfl,_⟩:=h;rfl
 .obtain ⟨p,d,q,l,o,m,D,N,al,rfl,hp,hl,hd,hq,m20,lN,n0,eal,al1,key,hQ⟩:=h;have hu:=hu_of hr;refine'⟨_,pss_cons ?s0 (pss_cons (ps_set (i:=4) scSh.nd rfl (Or.inr rfl) (pe_op op_cat (pe_ix ix_tup (pv 0) pe_int (λ_ _=>rfl)) ?c1)) (pss_cons (ps_set (i:=5) scSh.nd rfl (Or.inr rfl) (pe_listRange rfl kit.glist rfl grange rfl (pa_cons (pv 1) pa_nil))) (pss_cons (ps_for PassesOwn.never rfl (pi_dictF (pv 2)) (pg_tup rfl (pgs_cons (pg_name (i:=6) scSh.nd rfl (Or.inl rfl)) (pgs_cons (pg_name (i:=7) scSh.nd rfl (Or.inr rfl)) pgs_nil))) (pss_one (ps_if ?b0 (pss_cons ?b1 (pss_one ?b2)) pss_nil))) (pss_cons (ps_set (i:=9) scSh.nd rfl (Or.inl rfl) pe_int) (pss_cons (ps_for PassesOwn.never rfl (pi_range1 rfl grange (pa_cons (pv 1) pa_nil)) (pg_name (i:=10) scSh.nd rfl (Or.inr rfl)) (pss_cons ?c3 (pss_one (ps_if (pt_cmpR op_eq (pe_callB call_len_seq (by rfl) kit.glen PySem.boot_len (pa_cons (pv 11) pa_nil)) pe_int (nomark _)) (pss_one ?d0) (pss_one (ps_if (pt_cmpR op_gt (pe_callB call_len_seq (by rfl) kit.glen PySem.boot_len (pa_cons (pv 11) pa_nil)) pe_int (nomark _)) (pss_one ?d1) pss_nil)))))) (pss_one (ps_ret ?r))))))),?_⟩
  case s0=>exact ps_if (pw_or (pt_not (pt_val (pe_callB call_isV (by rfl) kit.gis boot_isinstance (pa_cons (pv 0) (pa_cons (pe_bltn (v:=.ty "tuple") (by rfl) kit.gtup bt_tuple rfl) pa_nil))))) (pw_or (pt_cmpR op_ne (pe_callB call_len_seq (by rfl) kit.glen PySem.boot_len (pa_cons (pv 0) pa_nil)) pe_int (nomark _)) (pw_or (pt_cmpR op_ne (pe_ix ix_tup (pv 0) pe_int (λ_ _=>rfl)) pe_str (nomark _)) (pw_or1 (pt_not (pt_val (pe_callB call_isV (by rfl) kit.gis boot_isinstance (pa_cons (pe_ix ix_tup (pv 0) pe_int (λ_ _=>rfl)) (pa_cons (pe_bltn (v:=.ty "list") (by rfl) kit.glist bt_list rfl) pa_nil))))))))).pt (pss_one (ps_ret pe_bl)) pss_nil
  case c1=>exact pe_comp (g:=gName 1) (own:=[".0","_law_a"]) (caps:=["_law_numbers"]) (js:=[3]) rfl (caps_of (sc:=defScope sLshows) (N:=nmSh) rfl rfl rfl rfl rfl rfl rfl (by decide +kernel)) (pi_range1 rfl grange (pa_cons (pv 1) pa_nil)) (λpins C s H1 fp=>pg_name (i:=1) (nd_is (M:=[".0","_law_a","_law_numbers"]) rfl (by decide +kernel)) rfl (Or.inl rfl) (Or.inr rfl)) (λpins C s H1 fp=>pts_one (pt_cmpR op_eq (pe_ix (ix_lK K rfl) (pv 2) (pv 1) (λ_ _=>rfl)) pe_int (nomark _))) (λpins C s H1 fp=>pv 1)
  case b0=>exact(pw_and (pt_cmpR op_notIn_seq (pv 6) (pv 4) (by with_unfolding_all rfl)) (pw_and (pt_cmpR op_notIn_seq (pv 7) (pv 4) (by with_unfolding_all rfl)) (pw_and1 (pt_cmpR op_ne (pe_ix ix_list (pv 5) (pv 6) (λ_ _=>rfl)) (pe_ix ix_list (pv 5) (pv 7) (λ_ _=>rfl)) (nomark _))))).pt
  case b1=>exact ps_set (i:=8) scSh.nd rfl (Or.inr rfl) (pe_ix ix_list (pv 5) (pv 6) (λ_ _=>rfl))
  case b2=>exact ps_set (i:=5) scSh.nd rfl (Or.inr rfl) (pe_comp (g:=gName 1) (own:=[".0","_law_one"]) (caps:=["_law_b","_law_label","_law_old"]) (js:=[7,5,8]) rfl (caps_of (sc:=defScope sLshows) (N:=nmSh) rfl rfl rfl rfl rfl rfl rfl (by decide +kernel)) (pi_list (pv 5)) (λpins C s H1 fp=>pg_name (i:=1) (nd_is (M:=[".0","_law_one","_law_b","_law_label","_law_old"]) rfl (by decide +kernel)) rfl (Or.inl rfl) (Or.inr rfl)) (λpins C s H1 fp=>pts_nil) (λpins C s H1 fp=>pe_ifExp (pt_cmpR op_eq (pv 1) (pv 4) (nomark _)) (pe_ix (ix_lK K rfl) (pv 3) (pv 2) (λ_ _=>rfl)) (pv 1)))
  case c3=>exact ps_comp (i:=11) (g:=gName 1) (own:=[".0","_law_a"]) (caps:=["_law_gone","_law_label","_law_one"]) (js:=[4,5,10]) rfl (caps_of (sc:=defScope sLshows) (N:=nmSh) rfl rfl rfl rfl rfl rfl rfl (by decide +kernel)) (pi_range1 rfl grange (pa_cons (pv 1) pa_nil)) (λpins C s H1 fp=>pg_name (i:=1) (nd_is (M:=[".0","_law_a","_law_gone","_law_label","_law_one"]) rfl (by decide +kernel)) rfl (Or.inl rfl) (Or.inr rfl)) (λpins C s H1 fp=>pts_one (pw_and (pt_cmpR (op_notInSK K rfl) (pv 1) (pv 2) (by with_unfolding_all rfl)) (pw_and1 (pt_cmpR op_eq (pe_ix (ix_lK K rfl) (pv 3) (pv 1) (λ_ _=>rfl)) (pv 4) (nomark _)))).pt) (λpins C s H1 fp=>pv 1) scSh.nd rfl rfl rfl
  case d0=>exact ps_set (i:=9) scSh.nd rfl (Or.inl rfl) (pe_op op_add (pv 9) (pe_ix ix_list (pv 3) (pe_ix ix_list (pv 11) pe_int (λ_ _=>rfl)) (λ_ _=>rfl)))
  case d1=>exact ps_set (i:=9) scSh.nd rfl (Or.inl rfl) (pe_op op_add (pv 9) (pe_op op_mod (pe_callB (call_sumI rfl) (by rfl) gsum boot_sum (pa_cons (pe_comp (g:=gName 1) (own:=[".0","_law_a"]) (caps:=["_law_numbers"]) (js:=[3]) rfl (caps_of (sc:=defScope sLshows) (N:=nmSh) rfl rfl rfl rfl rfl rfl rfl (by decide +kernel)) (pi_list (pv 11)) (λpins C s H1 fp=>pg_name (i:=1) (nd_is (M:=[".0","_law_a","_law_numbers"]) rfl (by decide +kernel)) rfl (Or.inl rfl) (Or.inr rfl)) (λpins C s H1 fp=>pts_nil) (λpins C s H1 fp=>pe_ix (ix_lK K rfl) (pv 2) (pv 1) (λ_ _=>rfl))) pa_nil)) pe_int))
  case r=>exact pe_cmpR op_gt (pv 9) (pe_callB (call_sumI rfl) (by rfl) gsum boot_sum (pa_cons (pe_comp (g:=gName 1) (own:=[".0","_law_a"]) (caps:=["_law_numbers"]) (js:=[3]) rfl (caps_of (sc:=defScope sLshows) (N:=nmSh) rfl rfl rfl rfl rfl rfl rfl (by decide +kernel)) (pi_list (pe_ix ix_tup (pv 0) pe_int (λ_ _=>rfl))) (λpins C s H1 fp=>pg_name (i:=1) (nd_is (M:=[".0","_law_a","_law_numbers"]) rfl (by decide +kernel)) rfl (Or.inl rfl) (Or.inr rfl)) (λpins C s H1 fp=>pts_nil) (λpins C s H1 fp=>pe_ix (ix_lK K rfl) (pv 2) (pv 1) (λ_ _=>rfl))) pa_nil)) (nomark _)
  refine⟨_,rfl,_,"tuple",_,true,rfl,.tup hp,kit.tt,⟨true,rfl,iteF ?_⟩⟩;refine⟨_,rfl,p,_,rfl,.inr (SqT.of hp),rfl,_,rfl,iteNS rfl ?_⟩;refine⟨_,rfl,p,_,_,_,rfl,rfl,SqT.of hp,rfl,rfl,_,rfl,iteNS rfl ?_⟩;refine⟨_,rfl,p,_,_,_,rfl,rfl,SqT.of hp,rfl,_,"list",_,true,rfl,.lst hl,kit.ll,⟨true,rfl,iteF ?_⟩⟩;refine⟨_,rfl,p,_,_,_,rfl,rfl,SqT.of hp,rfl,_,rfl,_,rfl,by omega,by omega,λD1 hD1=>?_⟩;rw[Int.toNat_natCast];refine turns_gvR (F:=FI) (J:=λσ=>∃e0 e1,σ=[e0,e1,some (.ref q)]) ((List.range (m+1)).map λ(a:Nat)=>if decide (N.getD a 0=0)=true then some (a:Int) else none) hD1 (by simp) (by omega) ⟨_,_,rfl⟩ ?_ ?_
  .rintro a z σ H2 Y Z ha hz ⟨e0,e1,rfl⟩ s2 gv;rw[List.getElem?_map,List.getElem?_range ha] at hz;have hz:(if decide (N.getD a 0=0)=true then some (a:Int) else none)=z:=Option.some.inj hz;unfold gName;refine⟨_,rfl,_,rfl,q,_,_,_,rfl,rfl,SqL.of (s2 q _ hq),(by rw[Int.zero_add];exact at_cs (by omega)),rfl,_,rfl,?_⟩;by_cases c:N.getD a 0=0
   .rw[decide_eq_true c,if_pos rfl] at hz;rw[show decide (V.int (N.getD a 0)=V.int 0)=true from decide_eq_true (congrArg V.int c)];exact⟨_,rfl,gv.1 _ _ _ _ hz.symm ⟨_,_,rfl⟩ (Same.refl _) λ_ _=>by rw[Int.zero_add]⟩
   .rw[decide_eq_false c,if_neg (λz=>(nomatch z))] at hz;rw[show decide (V.int (N.getD a 0)=V.int 0)=false from decide_eq_false λz=>c (by injection z)];exact gv.2.1 _ _ hz.symm ⟨_,_,rfl⟩ (Same.refl _)
  intro ys H1 s1 h1 pr;have ey:=gv_ints pr;have nm:(m:Int)∉((List.range (m+1)).map λ(a:Nat)=>if decide (N.getD a 0=0)=true then some (a:Int) else none).filterMap id:=λz=>by
   obtain⟨o,ho,e⟩:=List.mem_filterMap.mp z;obtain⟨a,_,rfl⟩:=List.mem_map.mp ho;have e:(if decide (N.getD a 0=0)=true then some (a:Int) else none)=some (m:Int):=e
   split at e
   .rename_i c
    have c:=of_decide_eq_true c;have:a=m:=by have:=Option.some.inj e;omega
    rw[this,eal] at c;omega
   .cases e
  have lz:=List.length_filterMap_le (f:=id) ((List.range (m+1)).map λ(a:Nat)=>if decide (N.getD a 0=0)=true then some (a:Int) else none);rw[List.length_map,List.length_range] at lz;generalize ((List.range (m+1)).map λ(a:Nat)=>if decide (N.getD a 0=0)=true then some (a:Int) else none).filterMap id=Z at ey nm lz;subst ey;clear pr;refine⟨l,D1,_,_,rfl,rfl,s1 l _ hl,h1,sl _ (by rw[List.length_map];show 0+_<1000;omega),λg ng=>?_⟩;rw[List.nil_append];have s2:Same H1 (upd H1 g (.lst (Z.map V.int))):=Same.new ng;have hg2:upd H1 g (.lst (Z.map V.int)) g=some (.lst (Z.map V.int)):=upd_same;trivial;generalize upd H1 g (.lst (Z.map V.int))=H2 at s2 hg2 ⊢;have s02:=s1.trans s2;refine⟨_,rfl,_,rfl,by omega,by omega,λlb nlb=>?_⟩;rw[Int.toNat_natCast];have s3:Same H2 (upd H2 lb (.lst ((upto (m+1)).map V.int))):=Same.new nlb;have hb3:upd H2 lb (.lst ((upto (m+1)).map V.int)) lb=some (.lst ((upto (m+1)).map V.int)):=upd_same;trivial;generalize upd H2 lb (.lst ((upto (m+1)).map V.int))=H3 at s3 hb3 ⊢;have s03:=s02.trans s3;have hup:(upto (m+1)).length=m+1/\∀k:Nat,k<m+1->(upto (m+1)).getD k 0=k:=⟨by simp[upto],λk hk=>by simp[upto,hk]⟩;generalize upto (m+1)=L0 at hb3 hup;refine⟨_,rfl,d,o,_,D.map (·.1),rfl,s03 d _ hd,by rw[List.map_map,List.map_map];rfl,λt ht=>?_,λrs tp=>?_⟩
  .obtain⟨r,hr0,rfl⟩:=List.mem_map.mp ht;obtain⟨a,b,e,_⟩:=key r hr0;rw[e];exact λz=>(nomatch z)
  refine for_dict (rs:=rs) (λi σ H4=>∃(lb:Addr)(L:List Int)(e6 e7 e8 e9 e10 e11:Option V),σ=[some (.ref p),some (.int ((m+1:Nat):Int)),some (.ref d),some (.ref q),some (.ref g),some (.ref lb),e6,e7,e8,e9,e10,e11]/\Same H3 H4/\H4 lb=some (.lst (L.map V.int))/\L.length=m+1/\L.getD m 0=m/\∀k:Nat,k<m->L.getD k 0≠m)
   ⟨lb,L0,_,_,_,_,_,_,rfl,Same.refl _,hb3,hup.1,hup.2 m (by omega),λk hk=>by rw[hup.2 k (by omega)];omega⟩ (λi σ H4 _ ⟨_,_,_,_,_,_,_,_,_,s4,_⟩=>s4 d _ (s03 d _ hd)) ?_ ?_
  .rintro i r σ H4 er ⟨lb,L,e6,e7,e8,e9,e10,e11,rfl,s4,hb4,lL,Lm,Lk⟩;obtain⟨t,et,ht,_⟩:=Sx.pair_at (i:=i) (a:=r) tp er;obtain⟨r0,hr0,rfl⟩:=List.mem_map.mp (List.mem_of_getElem? et);obtain⟨a,b,e,ab,bm⟩:=key r0 hr0;rw[e] at ht;have ht4:H4 r=some (.tup [.int a,.int b]):=s4 r _ ht;have hg4:=s4 g _ (s3 g _ hg2);have la:a<L.length:=by omega
   have lbb:b<L.length:=by omega
   trivial;refine⟨r,_,rfl,SqT.of ht4,rfl,_,_,rfl,_,_,rfl,rfl,?_⟩;trivial;refine⟨_,rfl,_,rfl,g,_,rfl,.inl (SqL.of hg4),rfl,flat_ints Z,_,rfl,?_⟩;refine ite2 (λ_=>?_) (λ_=>⟨lb,L,_,_,_,_,_,_,rfl,s4,hb4,lL,Lm,Lk⟩);refine⟨_,rfl,_,rfl,g,_,rfl,.inl (SqL.of hg4),rfl,flat_ints Z,_,rfl,?_⟩;refine ite2 (λ_=>?_) (λ_=>⟨lb,L,_,_,_,_,_,_,rfl,s4,hb4,lL,Lm,Lk⟩);refine⟨_,rfl,_,rfl,lb,_,_,_,rfl,rfl,SqL.of hb4,at_cs la,_,rfl,_,rfl,lb,_,_,_,rfl,rfl,SqL.of hb4,at_cs lbb,rfl,_,rfl,?_⟩;refine ite2 (λ_=>?_) (λ_=>⟨lb,L,_,_,_,_,_,_,rfl,s4,hb4,lL,Lm,Lk⟩);refine⟨_,rfl,_,rfl,lb,_,_,_,rfl,rfl,SqL.of hb4,at_cs la,?_⟩;trivial;refine⟨_,rfl,lb,rfl,⟨_,SqL.of hb4⟩,λD2 hD2=>?_⟩;refine turns_gv (K:=K) (F:=FI) (J:=λσ=>∃e0 e1,σ=[e0,e1,some (.int (b:Int)),some (.ref lb),some (.int (L.getD a 0))]) (L.map λone=>some (if one=L.getD a 0 then L.getD b 0 else one)) (SqL.of hb4) hD2 (by simp) (by rw[List.length_map];omega) ⟨_,_,rfl⟩ ?_ ?_
   .rintro j y z σ H5 Y Z' hj hz ⟨e0,e1,rfl⟩ s5 gv;obtain⟨one,rfl,eo⟩:=map_int_at hj;rw[List.getElem?_map,eo] at hz;have hz:some (if one=L.getD a 0 then L.getD b 0 else one)=z:=Option.some.inj hz;unfold gName;refine yes_of ⟨_,rfl,_,rfl,rfl,_,rfl,?_⟩;by_cases c:one=L.getD a 0
    .rw[if_pos c] at hz;rw[show decide (V.int one=V.int (L.getD a 0))=true from decide_eq_true (congrArg V.int c)];exact⟨_,rfl,_,rfl,lb,_,_,_,rfl,rfl,SqL.of (s5 lb _ hb4),at_cs lbb,gv.1 _ _ _ _ hz.symm ⟨_,_,rfl⟩ (Same.refl _) λ_ _=>rfl⟩
    .rw[if_neg c] at hz;rw[show decide (V.int one=V.int (L.getD a 0))=false from decide_eq_false λz=>c (by injection z)];exact⟨_,rfl,gv.1 _ _ _ _ hz.symm ⟨_,_,rfl⟩ (Same.refl _) λ_ _=>rfl⟩
   .intro ys H5 s5 h5 pr;rw[fm_some] at pr;rw[gv_ints pr] at h5;have gt:∀k,k<m+1->(L.map λone=>if one=L.getD a 0 then L.getD b 0 else one).getD k 0=if L.getD k 0=L.getD a 0 then L.getD b 0 else L.getD k 0:=λk hk=>by
     rw[List.getD_eq_getElem?_getD,List.getElem?_map,List.getElem?_eq_getElem (by omega)];show(if L[k]=_ then _ else L[k])=_;rw[show L.getD k 0=L[k]'(by omega) by rw[List.getD_eq_getElem?_getD,List.getElem?_eq_getElem (by omega)];rfl]
    have na:=Lk a (by omega);have nb:=Lk b bm;refine⟨D2,_,_,_,_,_,_,_,rfl,s4.trans s5,h5,by rw[List.length_map];exact lL,?_,λk hk=>?_⟩
    .rw[gt m (by omega),Lm,if_neg (Ne.symm na)]
    .rw[gt k (by omega)]
     split
     .exact nb
     .exact Lk k hk
  .rintro σ H4 ⟨lb,L,e6,e7,e8,e9,e10,e11,rfl,s4,hb4,lL,Lm,Lk⟩;have s04:=s03.trans s4;trivial;refine⟨_,rfl,_,rfl,by omega,by omega,?_⟩;rw[Int.toNat_natCast];refine for_range (n:=m+1) (λi σ H5=>∃(tt:Int)(e10 e11:Option V),σ=[some (.ref p),some (.int ((m+1:Nat):Int)),some (.ref d),some (.ref q),some (.ref g),some (.ref lb),e6,e7,e8,some (.int tt),e10,e11]/\Same H4 H5/\0<=tt/\(i=m+1->1<=tt)) ⟨0,e10,e11,rfl,Same.refl _,by decide,λz=>absurd z (by omega)⟩ ?_ ?_
   .rintro i σ H5 hi ⟨tt,e10,e11,rfl,s5,t0,_⟩;trivial;rw[Int.zero_add];have hb5:=s5 lb _ hb4;have hg5:=s5 g _ (s4 g _ (s3 g _ hg2));have hq5:=s5 q _ (s04 q _ hq);refine⟨_,rfl,_,rfl,by omega,by omega,λD3 hD3=>?_⟩;rw[Int.toNat_natCast];refine turns_gvR (F:=FI) (J:=λσ=>∃e0 e1,σ=[e0,e1,some (.ref g),some (.ref lb),some (.int (i:Int))]) ((List.range (m+1)).map λ(a:Nat)=>if (!decide ((a:Int)∈Z)&&decide (L.getD a 0=(i:Int)))=true then some (a:Int) else none) hD3 (by simp) (by omega) ⟨_,_,rfl⟩ ?_ ?_
    .rintro a z σ H6 Y Z' ha hz ⟨e0,e1,rfl⟩ s6 gv;rw[List.getElem?_map,List.getElem?_range ha] at hz;have hz:(if (!decide ((a:Int)∈Z)&&decide (L.getD a 0=(i:Int)))=true then some (a:Int) else none)=z:=Option.some.inj hz;unfold gName;refine⟨_,rfl,_,rfl,g,_,rfl,.inl (SqL.of (s6 g _ hg5)),rfl,flat_ints Z,_,rfl,?_⟩;show if (!inV (.int (0+(a:Int))) (Z.map V.int))=true then _ else _
     rw[inV_ints,Int.zero_add];by_cases c:(a:Int)∈Z
     .rw[decide_eq_true c] at hz ⊢;exact iteF (gv.2.1 _ _ hz.symm ⟨_,_,rfl⟩ (Same.refl _))
     .rw [decide_eq_false c] at hz ⊢;refine iteT ⟨_,rfl,_,rfl,lb,_,_,_,rfl,rfl,SqL.of (s6 lb _ hb5),at_cs (by omega),_,rfl,rfl,_,rfl,?_⟩;by_cases c2:L.getD a 0=(i:Int)
      .rw[decide_eq_true c2] at hz;rw[show decide (V.int (L.getD a 0)=V.int (i:Int))=true from decide_eq_true (congrArg V.int c2)];exact⟨_,rfl,gv.1 _ _ _ _ hz.symm ⟨_,_,rfl⟩ (Same.refl _) λ_ _=>rfl⟩
      .rw[decide_eq_false c2] at hz;rw[show decide (V.int (L.getD a 0)=V.int (i:Int))=false from decide_eq_false λz=>c2 (by injection z)];exact gv.2.1 _ _ hz.symm ⟨_,_,rfl⟩ (Same.refl _)
    .intro ys H6 s6 h6 pr;rw[gv_ints pr] at h6;have F1:∀x∈((List.range (m+1)).map λ(a:Nat)=>if (!decide ((a:Int)∈Z)&&decide (L.getD a 0=(i:Int)))=true then some (a:Int) else none).filterMap id,∃a:Nat,x=a/\a<m+1:=λx hx=>by
      obtain⟨o,ho,e⟩:=List.mem_filterMap.mp hx;obtain⟨a,ha,rfl⟩:=List.mem_map.mp ho;have e:(if (!decide ((a:Int)∈Z)&&decide (L.getD a 0=(i:Int)))=true then some (a:Int) else none)=some x:=e
      split at e
      .exact⟨a,(Option.some.inj e).symm,List.mem_range.mp ha⟩
      .cases e
     have F2:i=m->((List.range (m+1)).map λ(a:Nat)=>if (!decide ((a:Int)∈Z)&&decide (L.getD a 0=(i:Int)))=true then some (a:Int) else none).filterMap id=[(m:Int)]:=λe=>by
      subst e;rw[List.range_succ,List.map_append,List.filterMap_append,List.filterMap_eq_nil_iff.mpr λo ho=>?_]
      .show List.filterMap id [if (!decide ((i:Int)∈Z)&&decide (L.getD i 0=(i:Int)))=true then some (i:Int) else none]=_;rw[decide_eq_false nm,decide_eq_true Lm];rfl
      .obtain⟨a,ha,rfl⟩:=List.mem_map.mp ho;show id (if (!decide ((a:Int)∈Z)&&decide (L.getD a 0=(i:Int)))=true then some (a:Int) else none)=none;rw[decide_eq_false (Lk a (List.mem_range.mp ha)),Bool.and_false];rfl
     have lP:=List.length_filterMap_le (f:=id) ((List.range (m+1)).map λ(a:Nat)=>if (!decide ((a:Int)∈Z)&&decide (L.getD a 0=(i:Int)))=true then some (a:Int) else none);rw[List.length_map,List.length_range] at lP;generalize ((List.range (m+1)).map λ(a:Nat)=>if (!decide ((a:Int)∈Z)&&decide (L.getD a 0=(i:Int)))=true then some (a:Int) else none).filterMap id=Pt at h6 F1 F2 lP;have hq6:=s6 q _ hq5;have s46:=s5.trans s6;trivial;refine⟨_,rfl,D3,_,rfl,.inl (SqL.of h6),rfl,_,rfl,?_⟩;rw[List.length_map];refine ite2 (λc=>?_) (λc=>?_)
     .have c:((Pt.length:Nat):Int)=1:=by have:=of_decide_eq_true c;injection this
      obtain⟨x0,rfl⟩:∃x0,Pt=[x0]:=List.length_eq_one_iff.mp (by omega);obtain⟨a,rfl,ha⟩:=F1 _ (.head _);refine⟨_,rfl,_,rfl,_,rfl,D3,_,_,_,rfl,rfl,SqL.of h6,rfl,q,_,_,_,rfl,rfl,SqL.of hq6,at_cs (by omega),_,_,rfl,rfl,?_⟩;have na:0<=N.getD a 0:=by
       rw[List.getD_eq_getElem?_getD,List.getElem?_eq_getElem (by omega)];exact n0 _ (List.getElem_mem _)
      refine⟨_,_,_,rfl,s46,by omega,λe=>?_⟩;have e2:=F2 (by omega);have:a=m:=by injection e2 with e2;omega
      rw[this,eal];omega
     .have c:((Pt.length:Nat):Int)≠1:=λz=>c (decide_eq_true (congrArg V.int z));have ni:i≠m:=λe=>c (by rw[F2 e];rfl);refine⟨_,rfl,D3,_,rfl,.inl (SqL.of h6),_,_,rfl,rfl,_,rfl,?_⟩;refine ite2 (λ_=>?_) (λ_=>⟨tt,_,_,rfl,s46,t0,λe=>absurd e (by omega)⟩);refine⟨_,rfl,_,rfl,D3,rfl,⟨_,SqL.of h6⟩,λD4 hD4=>?_⟩;refine turns_gv (K:=K) (F:=FI) (J:=λσ=>∃e0 e1,σ=[e0,e1,some (.ref q)]) (Pt.map λx=>some (N.getD x.toNat 0)) (SqL.of h6) hD4 (by simp) (by rw[List.length_map];omega) ⟨_,_,rfl⟩ ?_ ?_
      .rintro j y z σ H7 Y Z' hj hz ⟨e0,e1,rfl⟩ s7 gv;obtain⟨x,rfl,ex⟩:=map_int_at hj;rw[List.getElem?_map,ex] at hz;have hz:some (N.getD x.toNat 0)=z:=Option.some.inj hz;obtain⟨a,rfl,ha⟩:=F1 x (List.mem_of_getElem? ex);unfold gName;exact yes_of ⟨_,rfl,_,rfl,q,_,_,_,rfl,rfl,SqL.of (s7 q _ hq6),at_cs (by omega),gv.1 _ _ _ _ hz.symm ⟨_,_,rfl⟩ (Same.refl _) λ_ _=>rfl⟩
      .intro ys H7 s7 h7 pr;rw[fm_some] at pr;rw[gv_ints pr] at h7;refine⟨D4,_,rfl,SqL.of h7,_,_,rfl,rfl,(by show(0:Int)<2;decide),_,_,rfl,rfl,?_⟩;exact⟨_,_,_,rfl,s46.trans s7,by have:=Int.emod_nonneg (Pt.map λx=>N.getD x.toNat 0).sum (b:=2) (by decide);omega,λe=>absurd e (by omega)⟩
   .rintro σ H5 ⟨tt,e10,e11,rfl,s5,t0,t1⟩;have t1:=t1 rfl;have s05:=s04.trans s5;refine⟨_,rfl,_,rfl,p,_,_,_,rfl,rfl,SqT.of (s05 p _ hp),rfl,l,rfl,⟨_,SqL.of (s05 l _ hl)⟩,λD4 hD4=>?_⟩;refine turns_gv (K:=K) (F:=FI) (J:=λ_=>True) [] (SqL.of (s05 l _ hl)) hD4 rfl (Nat.zero_le _) trivial (λi y z σ H6 Y Z hi=>(nomatch hi)) ?_;intro ys H6 s6 h6 pr;have ey:=gv_ints pr;subst ey;refine⟨D4,[],rfl,SqL.of h6,_,_,rfl,rfl,?_⟩;have:=hQ H6 (s05.trans s6);show Q (V.bl (decide (([]:List Int).sum<tt))) H6;rw[show(decide (([]:List Int).sum<tt))=true from decide_eq_true (by show(0:Int)<tt;omega)];exact this
end
end K67
namespace L2
open PySem PySem.Spec PyProof.Rows
theorem turns_gvD{α:Type}{F:α->V->Hp->Prop}{J:St->Prop}{D:Addr}{g:TG}{tt:TT}{te:TE}{σ0:St}{Qd:Hp->Prop}{H1:Hp}{d:Addr}{o:Obj}{u:HO}{rs:List Addr}(its:List (Option α))(hd:H1 d=some (.frz o u))(hD:H1 D=none)(hl:its.length=rs.length)(h9:rs.length<=900)(j0:J σ0)
  (hs:∀(i:Nat) r z σ H2 Y Z,rs[i]?=some r->its[i]?=some z->J σ->Same H1 H2->Gv F J D z H2 Y Z->g (.ref r) σ H2 λσ2 H4=>tt σ2 H4 λc H5=>if c=true then te σ2 H5 λy H6=>Y y σ2 H6 else Z σ2 H5)
  (hq:∀ys H',Same H1 H'->H' D=some (.lst ys)->Paired (λv z=>F z v H') ys (its.filterMap id)->Qd H'):tTurns (Itd d o u rs) g tt te σ0 D Qd H1:=by
 refine turns_dict (Gat F J D H1 its) ⟨j0,Same.new' hD,upd_same,Nat.le_refl _,Nat.zero_le _,λ_ _=>.nil⟩ ?_ ?_ ?_
 .rintro i ys σ H ⟨_,s1,h2,l1,l2,_⟩;exact⟨h2,small1000 (by omega),s1 d _ hd⟩
 .intro i x ys σ H hi G;have li:i<its.length:=by have:=(List.getElem?_eq_some_iff.mp hi).1;omega
  have ez:=List.getElem?_eq_getElem li;exact hs i x _ σ H _ _ hi ez G.1 G.2.1 (gat_step hl hD ez G)
 .rintro ys σ H ⟨_,s1,h2,_,_,pr⟩;have:=pr H λ_ _ e _=>e;rw[<-hl,List.take_length] at this;exact hq ys H s1 h2 this
theorem get_list{X:Cx}:PGet X (λx y H Q=>∃p xs i v,x=.ref p/\y=.int i/\0<=i/\SqL X.K H p xs/\atI xs i=some v/\Q v H):=by
 intro pins s σ H x y v u Q I rx ry h;obtain⟨p,xs,i,z,rfl,rfl,h0,hq,he,q⟩:=h;cases rx;obtain⟨t,rfl⟩:=ry;obtain⟨its,r,pl,hz⟩:=I.list hq;obtain⟨j,h1,h2,h3,h4,h5⟩:=atI_get he;obtain⟨w,ew,rw'⟩:=r.get h2;have hl:=r.length;have hn:=line63;have hj:i.toNat=j:=by
  rw[seqIndex_of h0 h5] at h1;exact Option.some.inj h1
 exact wpAny_getItem_list pl.isList h0 (by omega) (by rw[hj];simpa using ew) ⟨z,H,I,rw',q⟩
theorem passN{P:Program}{w:World}{X:Cx}:Passes (CXx P w) X (λ_ _ _=>False):=λ_ _ _ _ _ _ _ h=>by
 obtain⟨_,_,_,_,_,_,_,_,_,_,_,_,_,hE⟩:=h;exact hE.elim
end L2
namespace K67
open PySem L2 PyProof.Rows
theorem ix_tK{X:Cx}(K:W.Frag)(h:X.K=K):IxR X (rIxT K):=by subst h;exact ix_tup
section
variable{P:Program}{w:World}{K:W.Frag}{mg:Str->Option Value}{base:Heap}{C:Addr}
def tiesD(D:List (List Int×Int)):List Mt.Tri:=D.map λr=>(r.1.getD 1 0,r.1.getD 0 0,r.2)
theorem tiesD_key{m:Nat}{D:List (List Int×Int)}{N:List Int}{PL:List (Int×Int)}(h:Cw.Pl m D N PL):(tiesD D).map Mt.key=D.map (·.1)/\∀t∈tiesD D,¬Mt.bad ((m+1:Nat):Int) t.1 t.2.1:=by
 unfold tiesD;refine⟨?_,λt ht=>?_⟩
 .rw[List.map_map];refine List.map_congr_left λr hr=>?_;obtain⟨a,b,e,a0,ab,bm⟩:=h.key r hr;show Mt.key (r.1.getD 1 0,r.1.getD 0 0,r.2)=r.1;rw[e];show[Mt.lo b a,Mt.hi b a]=[a,b];rw[show Mt.lo b a=a by unfold Mt.lo;split<;>omega,show Mt.hi b a=b by unfold Mt.hi;split<;>omega]
 .obtain⟨r,hr,rfl⟩:=List.mem_map.mp ht;obtain⟨a,b,e,a0,ab,bm⟩:=h.key r hr;dsimp only;rw[e];show ¬Mt.bad _ b a;unfold Mt.bad;omega
theorem adjD{m:Nat}{D:List (List Int×Int)}{N:List Int}{PL:List (Int×Int)}(h:Cw.Pl m D N PL){cs:List Int}{nb:Int->List Int}(ad:Adj (tiesD D) cs nb):∀x y:Int,y∈nb x↔∃i j:Nat,x=i/\y=j/\i<cs.length/\j<cs.length/\[Mt.lo (cs.getD i 0) (cs.getD j 0),Mt.hi (cs.getD i 0) (cs.getD j 0)]∈D.map (·.1):=by
 rw[<-(tiesD_key h).1];exact ad
def spLaw(K:W.Frag):Sp:=λvs H Q _=>∃(a:Addr)(ns:List Int),vs=[.ref a]/\SqL K H a (ns.map V.int)/\ns.length<=63/\∀H',Q (.bl true) H'
abbrev nmL:List Str:=["_law_script","_law_head","_law_many","_law_rows","_law_numbers","_law_web","_law_higher","_law_alone"]
def tRest(C:Addr):TS:=λDs σ H=>∃(a d l x hi:Addr)(o:Obj)(hd:Int)(m:Nat)(D:List (List Int×Int))(N HN:List Int)(PL:List (Int×Int))(ks:List (List Int))(e7:Option V),σ=[some (.ref a),some (.int hd),some (.int m),some (.ref d),some (.ref l),some (.ref x),some (.ref hi),e7]/\0<=hd/\2<=m/\m<=9/\H d=some (.frz o (.dT (D.map Cw.en)))/\H l=some (.lst (N.map V.int))/\H hi=some (.lst (HN.map V.int))/\HN.length<=100/\24<HN.sum/\WebAt C H x ((m:Int)+1) (tiesD D) ks/\D.length<=63/\Cw.Pl m D N PL/\∀H',Ds.rt (.bl true) H'
theorem scLaw:FnScope nmL ["_law_script"] (defScope sLaw):=sc_mk (by decide +kernel)
theorem ok_law0{f fW fI aT:Addr}{fd fdW fdI:FuncData}(F:Fun K "law" "law" sLaw f fd)(T0:TxtW K mg C)(gsum:mg "sum"=none)
  (G1:Has P w K mg base 1 "_law_cell_at" ["_law_script","_law_k"] (spCell K)) (G2:Has P w K mg base 2 "_law_planted" ["_law_script","_law_many"] (spPlanted K)) (G3:Has P w K mg base 9 "_law_too_many" ["_law_web","_law_numbers"] (spTooMany C)) (G4:Has P w K mg base 1 "_law_does" ["_law_found","_law_rows","_law_numbers"] spDoes) (G5:Has P w K mg base 1 "_law_shows" ["_law_found","_law_many","_law_rows","_law_numbers"] spShows)
  (MI:Mk K C fI) (GI:FnOk P w K mg base CX0 3 fI fdI ["self","many","ties"] (spInit C K)) (bI:Binds K fdI ["self","many","ties"] [])
  (GW:FnOk P w K mg base (CXx P w) 8 fW fdW ["web","numbers"] (spWanted C aT)) (mW:mg "wanted"=some (.ref fW)) (kW:PySem.W.keepIn K (.ref fW)=true) (bW:Binds K fdW ["web","numbers"] []):FnOk P w K mg base CX0 10 f fd ["_law_script"] (spLaw K):=by
 refine F.ok scLaw (λvs H Q E h=>?_) (λcdv A outer s H vs Q E hr h=>?_)
 .obtain⟨a,ns,rfl,_⟩:=h;rfl
 .obtain ⟨a,ns,rfl,hS,lns,hQ⟩:=h;have hr1:Room 1 _:=hr.mono (by decide);have hr2:Room 2 _:=hr.mono (by decide);have hr4:Room 4 _:=hr.mono (by decide);have hr8:Room 8 _:=hr.mono (by decide);have hu:=hu_of hr;refine'⟨_,pss_cons ?s0 (pss_cons ?s1 (pss_cons ?s2 (pss_cons ?s3 (pss_cons ?s4 (pss_cons ?s5 (pss_cons ?s6 (PSs.imp (t':=tRest C) (pss_cons ?s7 (pss_cons ?s8 (pss_cons ?s9 (pss_one ?s10)))) ?i))))))),?_⟩
  case s0=>exact ps_set (i:=1) scLaw.nd rfl (Or.inl rfl) (pe_op op_mod (pe_h G1 hr1 (pa_cons (pv 0) (pa_cons pe_int pa_nil))) pe_int)
  case s1=>exact ps_set (i:=2) scLaw.nd rfl (Or.inl rfl) (pe_op op_add pe_int (pe_op op_mod (pv 1) pe_int))
  case s2=>exact ps_asg (pe_h G2 hr2 (pa_cons (pv 0) (pa_cons (pv 2) pa_nil))) (pg_tup (n:=2) rfl (pgs_cons (pg_name (i:=3) scLaw.nd rfl (Or.inr rfl)) (pgs_cons (pg_name (i:=4) scLaw.nd rfl (Or.inl rfl)) pgs_nil)))
  case s3=>exact ps_set (i:=5) scLaw.nd rfl (Or.inl rfl) (pe_make MI GI hr4 rfl T0.mgC bI .nil pass0 (pa_cons (pe_op op_add (pv 2) pe_int) (pa_cons (pe_comp (g:=gName 1) (own:=[".0","_law_ends"]) (caps:=["_law_rows"]) (js:=[3]) rfl (caps_of (sc:=defScope sLaw) (N:=nmL) rfl rfl rfl rfl rfl rfl rfl (by decide +kernel)) (pi_dict (pv 3)) (λpins C s H1 fp=>pg_name (i:=1) (nd_is (M:=[".0","_law_ends","_law_rows"]) rfl (by decide +kernel)) rfl (Or.inl rfl) (Or.inr rfl)) (λpins C s H1 fp=>pts_nil) (λpins C s H1 fp=>pe_tup (pa_cons (pe_ix (ix_tK K rfl) (pv 1) pe_int (λ_ _=>rfl)) (pa_cons (pe_ix (ix_tK K rfl) (pv 1) pe_int (λ_ _=>rfl)) (pa_cons (pe_dget hu (pv 2) (pv 1) (λ_ _=>rfl)) pa_nil))))) pa_nil)))
  case s4=>exact ps_set (i:=6) scLaw.nd rfl (Or.inl rfl) (pe_op op_cat (pv 4) (pe_lst (pa_cons pe_int pa_nil)))
  case s5=>exact ps_augS (pv 6) (pe_op op_mod (pe_op op_fdiv (pv 1) pe_int) (pv 2)) get_list (pe_op op_sub pe_int (pe_callB (call_sumI rfl) (by rfl) gsum boot_sum (pa_cons (pv 4) pa_nil))) ip_add set_list
  case s6=>exact ps_if (pt_cmpR op_eq (pe_op op_mod (pe_op op_fdiv (pv 1) pe_int) pe_int) pe_int (nomark _)) (pss_one (ps_augS (pv 6) (pe_op op_mod (pe_op op_fdiv (pv 1) pe_int) (pv 2)) get_list (pe_op op_mod (pe_h G1 hr1 (pa_cons (pv 0) (pa_cons pe_int pa_nil))) (pe_op op_pow pe_int pe_int)) ip_add set_list)) pss_nil
  case s7=>exact ps_if (pw_or (pt_not (pt_val (pe_h G3 hr (pa_cons (pv 5) (pa_cons (pv 6) pa_nil))))) (pw_or1 (pt_not (pt_val (pe_h G4 hr1 (pa_cons (pe_call GW hr8 (by rfl) mW kW bW .nil passN (pa_cons (pv 5) (pa_cons (pe_op op_cat (pv 4) (pe_lst (pa_cons pe_int pa_nil))) pa_nil))) (pa_cons (pv 3) (pa_cons (pe_op op_cat (pv 4) (pe_lst (pa_cons pe_int pa_nil))) pa_nil)))))))).pt (pss_one (ps_ret pe_bl)) pss_nil
  case s8=>exact ps_set (i:=7) scLaw.nd rfl (Or.inl rfl) (pe_op op_add pe_int (pe_op op_mod (pe_op op_fdiv (pv 1) pe_int) pe_int))
  case s9=>exact ps_if (pt_cmpR op_le (pe_op op_add (pe_callB (call_sumI rfl) (by rfl) gsum boot_sum (pa_cons (pv 4) pa_nil)) (pv 7)) pe_int (nomark _)) (pss_one (ps_if (pt_not (pt_val (pe_h G5 hr1 (pa_cons (pe_call GW hr8 (by rfl) mW kW bW .nil passN (pa_cons (pv 5) (pa_cons (pe_op op_cat (pv 4) (pe_lst (pa_cons (pv 7) pa_nil))) pa_nil))) (pa_cons (pe_op op_add (pv 2) pe_int) (pa_cons (pv 3) (pa_cons (pe_op op_cat (pv 4) (pe_lst (pa_cons (pv 7) pa_nil))) pa_nil))))))) (pss_one (ps_ret pe_bl)) pss_nil)) pss_nil
  case s10=>exact ps_ret (pe_and (pe_h G3 hr (pa_cons (pv 5) (pa_cons (pv 6) pa_nil))) (pe_one (pe_h G4 hr1 (pa_cons (pe_call GW hr8 (by rfl) mW kW bW .nil passN (pa_cons (pv 5) (pa_cons (pe_op op_cat (pv 4) (pe_lst (pa_cons pe_int pa_nil))) pa_nil))) (pa_cons (pv 3) (pa_cons (pe_op op_cat (pv 4) (pe_lst (pa_cons pe_int pa_nil))) pa_nil))))))
  case i=>
   rintro Ds σ H ⟨a,d,l,x,hi,o,hd,m,D,N,HN,PL,ks,e7,rfl,h0,m2,m9,hd0,hl0,hh0,lHN,sHN,W,lD,pl,hQ⟩;have lm:=pl.len;have tk:=tiesD_key pl;have dz:∀(H1:Hp)(e7:Option V)(Q:VK),Same H H1->(∀H',Same H1 H'->Q (.bl true) H')->tCall spDoes [] E0 (tCons (tCall (spWanted C aT) [] (λ_ _ _=>False) (tCons (tVar 5) (tCons (tOp rCat (tVar 4) (tLst (tCons (tC (.int 0)) tNil))) tNil))) (tCons (tVar 3) (tCons (tOp rCat (tVar 4) (tLst (tCons (tC (.int 0)) tNil))) tNil))) [some (.ref a),some (.int hd),some (.int m),some (.ref d),some (.ref l),some (.ref x),some (.ref hi),e7] H1 Q:=λH1 e7 Q s1 hq=>by
    refine⟨_,rfl,_,rfl,(by show 1<=sizeLine;decide),λc nc=>?_⟩;have s2:Same H1 (upd H1 c (.lst [.int 0])):=Same.new nc;have hc2:upd H1 c (.lst [.int 0]) c=some (.lst [.int 0]):=upd_same;generalize upd H1 c (.lst [.int 0])=H2 at s2 hc2 ⊢;refine⟨l,c,_,_,rfl,rfl,s2 l _ (s1 l _ hl0),hc2,sl _ (by rw[List.length_map];show _+1<1000;omega),λq nq=>?_⟩;rw[show N.map V.int++[V.int 0]=(N++[0]).map V.int by rw[List.map_append];rfl];have s3:Same H2 (upd H2 q (.lst ((N++[0]).map V.int))):=Same.new nq;have hq3:upd H2 q (.lst ((N++[0]).map V.int)) q=some (.lst ((N++[0]).map V.int)):=upd_same;generalize upd H2 q (.lst ((N++[0]).map V.int))=H3 at s3 hq3 ⊢;have s13:=s1.trans (s2.trans s3);have sm:=pl.sum;refine⟨x,q,_,_,ks,N++[0],rfl,W.same s13,hq3,by rw[List.length_append,lm];show m+1<=100;omega,.inr ⟨by rw[List.sum_append];simp;omega,λn hn=>?_,.inl ⟨λnb ad tie=>?_,λp H4 np s4 rw4=>?_⟩⟩⟩
    .rcases List.mem_append.mp hn with hn|hn
     .exact pl.n0 n hn
     .rw[List.mem_singleton.mp hn];exact Int.le_refl _
    .obtain⟨oth,S,ob,z0,_⟩:=pl.pairs 0 tie (adjD pl ad);exact⟨oth,S,ob,z0 rfl⟩
    .have s14:=s13.trans s4;refine⟨_,rfl,_,rfl,(by show 1<=sizeLine;decide),λc2 nc2=>?_⟩;have s5:Same H4 (upd H4 c2 (.lst [.int 0])):=Same.new nc2;have hc5:upd H4 c2 (.lst [.int 0]) c2=some (.lst [.int 0]):=upd_same;generalize upd H4 c2 (.lst [.int 0])=H5 at s5 hc5 ⊢;refine⟨l,c2,_,_,rfl,rfl,s5 l _ (s14 l _ hl0),hc5,sl _ (by rw[List.length_map];show _+1<1000;omega),λq2 nq2=>?_⟩;rw[show N.map V.int++[V.int 0]=(N++[0]).map V.int by rw[List.map_append];rfl];have s6:Same H5 (upd H5 q2 (.lst ((N++[0]).map V.int))):=Same.new nq2;have hq6:upd H5 q2 (.lst ((N++[0]).map V.int)) q2=some (.lst ((N++[0]).map V.int)):=upd_same;generalize upd H5 q2 (.lst ((N++[0]).map V.int))=H6 at s6 hq6 ⊢;have s46:=s5.trans s6;obtain⟨lr,rs,R,r1,r2,r3,r4⟩:=rw4;refine⟨p,d,q2,_,D,N++[0],rfl,.inr ⟨o,s46 d _ (s14 d _ hd0)⟩,hq6,by rw[List.length_append,lm];show m+1<=100;omega,⟨lr,rs,R,s46 p _ r1,s46 lr _ r2,TupsH.same s46 r3,r4⟩,λk hk=>?_,λH7 s7=>hq H7 ((s2.trans s3).trans (s4.trans (s46.trans s7)))⟩;rw[tk.1] at hk;refine⟨hk,?_⟩;obtain⟨r,hr0,rfl⟩:=List.mem_map.mp hk;obtain⟨u,v,e,u0,uv,vm⟩:=pl.key r hr0;exact⟨u.toNat,v.toNat,by rw[e,Int.toNat_of_nonneg u0,Int.toNat_of_nonneg (by omega)],by omega,by rw[List.length_append,lm];show v.toNat<m+1;omega⟩
   refine⟨_,rfl,_,rfl,x,hi,_,_,ks,HN,rfl,W,hh0,lHN,sHN,λH1 s1=>⟨true,rfl,iteF ?_⟩⟩;refine dz H1 e7 _ s1 λH2 s2=>⟨true,rfl,iteF ?_⟩;have s02:=s1.trans s2;refine⟨_,rfl,_,_,rfl,rfl,⟨by decide,by decide⟩,_,_,rfl,rfl,(by show(0:Int)<2;decide),_,_,rfl,rfl,?_⟩;obtain⟨al,eal,al1,al2⟩:∃al:Int,1+hd / 128 % 2=al/\1<=al/\al<=2:=⟨_,rfl,by omega,by omega⟩;trivial;rw[eal];have fin:∀H3,Same H H3->tRet (tAndV (tCall (spTooMany C) [] E0 (tCons (tVar 5) (tCons (tVar 6) tNil))) ((tCall spDoes [] E0 (tCons (tCall (spWanted C aT) [] (λ_ _ _=>False) (tCons (tVar 5) (tCons (tOp rCat (tVar 4) (tLst (tCons (tC (.int 0)) tNil))) tNil))) (tCons (tVar 3) (tCons (tOp rCat (tVar 4) (tLst (tCons (tC (.int 0)) tNil))) tNil)))))) Ds [some (.ref a),some (.int hd),some (.int m),some (.ref d),some (.ref l),some (.ref x),some (.ref hi),some (.int al)] H3:=λH3 s3=>by
    refine⟨_,rfl,_,rfl,x,hi,_,_,ks,HN,rfl,W.same s3,s3 hi _ hh0,lHN,sHN,λH4 s4=>⟨true,rfl,iteT ?_⟩⟩;exact dz H4 _ _ (s3.trans s4) λH5 _=>hQ H5
   refine⟨_,rfl,l,N,rfl,SqL.of (s02 l _ hl0),_,rfl,_,_,rfl,rfl,_,_,rfl,rfl,_,rfl,?_⟩;refine ite2 (λc=>?_) (λ_=>fin H2 s02);have c:N.sum+al<=24:=of_decide_eq_true c;refine⟨_,rfl,_,rfl,_,rfl,(by show 1<=sizeLine;decide),λc nc=>?_⟩;have s3:Same H2 (upd H2 c (.lst [.int al])):=Same.new nc;have hc3:upd H2 c (.lst [.int al]) c=some (.lst [.int al]):=upd_same;generalize upd H2 c (.lst [.int al])=H3 at s3 hc3 ⊢;refine⟨l,c,_,_,rfl,rfl,s3 l _ (s02 l _ hl0),hc3,sl _ (by rw[List.length_map];show _+1<1000;omega),λq nq=>?_⟩;rw[show N.map V.int++[V.int al]=(N++[al]).map V.int by rw[List.map_append];rfl];have s4:Same H3 (upd H3 q (.lst ((N++[al]).map V.int))):=Same.new nq;have hq4:upd H3 q (.lst ((N++[al]).map V.int)) q=some (.lst ((N++[al]).map V.int)):=upd_same;generalize upd H3 q (.lst ((N++[al]).map V.int))=H4 at s4 hq4 ⊢;have s04:=s02.trans (s3.trans s4);have n01:∀n∈N++[al],0<=n:=λn hn=>by
    rcases List.mem_append.mp hn with hn|hn
    .exact pl.n0 n hn
    .rw[List.mem_singleton.mp hn];omega
   refine⟨x,q,_,_,ks,N++[al],rfl,W.same s04,hq4,by rw[List.length_append,lm];show m+1<=100;omega,.inr ⟨by rw[List.sum_append];simp;omega,n01,.inr ⟨λnb ad tie=>?_,λp lr H5 np s5 hp5 hlr5=>?_⟩⟩⟩
   .obtain⟨oth,S,ob,_,z1,iso⟩:=pl.pairs al tie (adjD pl ad);exact⟨oth,S,ob,z1 al1,iso⟩
   have s05:=s04.trans s5;refine⟨_,rfl,_,_,rfl,rfl,_,rfl,_,rfl,_,rfl,(by show 1<=sizeLine;decide),λc2 nc2=>?_⟩;have s6:Same H5 (upd H5 c2 (.lst [.int al])):=Same.new nc2;have hc6:upd H5 c2 (.lst [.int al]) c2=some (.lst [.int al]):=upd_same;generalize upd H5 c2 (.lst [.int al])=H6 at s6 hc6 ⊢;refine⟨l,c2,_,_,rfl,rfl,s6 l _ (s05 l _ hl0),hc6,sl _ (by rw[List.length_map];show _+1<1000;omega),λq2 nq2=>?_⟩;rw[show N.map V.int++[V.int al]=(N++[al]).map V.int by rw[List.map_append];rfl];have s7:Same H6 (upd H6 q2 (.lst ((N++[al]).map V.int))):=Same.new nq2;have hq7:upd H6 q2 (.lst ((N++[al]).map V.int)) q2=some (.lst ((N++[al]).map V.int)):=upd_same;generalize upd H6 q2 (.lst ((N++[al]).map V.int))=H7 at s7 hq7 ⊢;have s57:=s6.trans s7;refine⟨p,d,q2,lr,o,m,D,N++[al],al,rfl,s57 p _ hp5,s57 lr _ hlr5,s57 d _ (s05 d _ hd0),hq7,by omega,by rw[List.length_append,lm];rfl,n01,?_,al1,λr hr0=>?_,λH8 s8=>⟨true,rfl,iteF ?_⟩⟩
   .rw[List.getD_eq_getElem?_getD,List.getElem?_append_right (by omega),lm,Nat.sub_self];rfl
   .obtain⟨u,v,e,u0,uv,vm⟩:=pl.key r hr0;exact⟨u.toNat,v.toNat,by rw[e,Int.toNat_of_nonneg u0,Int.toNat_of_nonneg (by omega)],by omega,by omega⟩
   .exact fin H8 (s05.trans (s57.trans s8))
  refine⟨_,rfl,a,ns,0,rfl,by decide,hS,λc0=>⟨_,_,rfl,rfl,(by show(0:Int)<1000003;decide),?_⟩⟩;have h0:=Int.emod_nonneg c0 (b:=1000003) (by decide);trivial;generalize c0 % 1000003=hd at h0 ⊢;refine⟨_,rfl,_,_,rfl,rfl,(by show(0:Int)<8;decide),_,_,rfl,rfl,?_⟩;trivial;obtain⟨m,em,m2,m9⟩:∃m:Nat,2+hd % 8=m/\2<=m/\m<=9:=⟨(2+hd % 8).toNat,by omega,by omega,by omega⟩;rw[em];refine⟨_,rfl,_,rfl,a,ns,m,rfl,hS,lns,m2,m9,λp d l D N PL H1 nd nl s1 hp hd1 hl1 lD pl=>?_⟩;refine⟨p,_,rfl,SqT.of hp,rfl,_,_,rfl,_,_,rfl,rfl,?_⟩;trivial;have ndl:d≠l:=λz=>by subst z;rw[hd1] at hl1;cases hl1
  have tk:=tiesD_key pl;have lm:=pl.len;refine⟨_,rfl,_,_,rfl,rfl,_,rfl,d,_,D.map (·.1),rfl,hd1,by rw[List.map_map,List.map_map];rfl,λt ht=>?_,λo rs tp D2 hD2=>?_⟩
  .obtain⟨r,hr0,rfl⟩:=List.mem_map.mp ht;obtain⟨a,b,e,_⟩:=pl.key r hr0;rw[e];exact λz=>(nomatch z)
  have hd2:upd H1 d (.frz o (.dT (D.map Cw.en))) d=some (.frz o (.dT (D.map Cw.en))):=upd_same;have f2:∀b u,H1 b=some u->b≠d->upd H1 d (.frz o (.dT (D.map Cw.en))) b=some u:=λb u e n=>by rw[upd_ne n];exact e
  have hl2:=f2 l _ hl1 ndl.symm;have hS2:SqL K (upd H1 d (.frz o (.dT (D.map Cw.en)))) a (ns.map V.int):=Same.seq (λb u e=>f2 b u (s1 b u e) (ne_of_none e nd)) hS;generalize upd H1 d (.frz o (.dT (D.map Cw.en)))=H2 at tp hD2 hd2 f2 hl2 hS2 ⊢;have lrs:=Paired.length tp;rw[List.length_map] at lrs;refine turns_gvD (F:=FT) (J:=λσ=>∃e0 e1,σ=[e0,e1,some (.ref d)]) (D.map λr=>some (Mt.tri (r.1.getD 1 0,r.1.getD 0 0,r.2))) hd2 hD2 (by rw[List.length_map];omega) (by omega) ⟨_,_,rfl⟩ ?_ ?_
  .rintro i r z σ H3 Y Z er hz ⟨e0,e1,rfl⟩ s3 gv;obtain⟨k,ek,hk,_⟩:=Sx.pair_at (i:=i) (a:=r) tp er;rw[List.getElem?_map] at ek hz;obtain⟨⟨k',wv⟩,eD,rfl⟩:=Option.map_eq_some_iff.mp ek;rw[eD] at hz;have mD:=List.mem_of_getElem? eD;obtain⟨u,v,e,_⟩:=pl.key _ mD;have e:k'=[u,v]:=e;subst e;have hz:some (Mt.tri (v,u,wv))=z:=Option.some.inj hz;have hk3:H3 r=some (.tup [.int u,.int v]):=s3 r _ hk;have g:DGet H3 d (.ref r) (some (.int wv)):=by
    have:=Cw.cnt_val pl.nd _ mD;rw[<-this];exact .inr ⟨_,([u,v].map Sum.inl),r,.inr ⟨o,s3 d _ hd2⟩,rfl,hk3,rfl⟩
   unfold gName;refine yes_of ⟨_,rfl,r,_,_,_,rfl,rfl,SqT.of hk3,rfl,_,rfl,r,_,_,_,rfl,rfl,SqT.of hk3,rfl,_,rfl,_,rfl,d,_,rfl,g,(by show 3<=sizeLine;decide),λt nt=>gv.1 _ _ _ _ hz.symm ⟨_,_,rfl⟩ (Same.new nt) λH' fr=>⟨t,rfl,?_,λz=>(nomatch z)⟩⟩;obtain⟨yd,hyd⟩:=gv.2.2;exact fr t _ upd_same (ne_of_none hyd nt).symm
  intro ys H3 s3 h3 pr;rw[fm_some] at pr;obtain⟨rs',rfl,pr2⟩:=gv_refs pr;have pr2:TupsH H3 rs' ((tiesD D).map Mt.tri):=by unfold tiesD;rw[List.map_map];exact pr2
  intro x dx nx ndx ne;have s4:Same H3 (upd (upd H3 dx (.own x)) x (.ins C dx [])):=(Same.new ndx).trans (Same.new (by rw[upd_ne ne.symm];exact nx));refine⟨x,_,D2,dx,rs',tiesD D,rfl,upd_same,⟨SqL.of (s4 D2 _ h3),TupsH.same s4 pr2⟩,by unfold tiesD;rw[List.length_map];omega,by omega,Mt.scan_okA (by rw[List.nil_append,tk.1];exact pl.nd) (by have:=tk.2;rw[show((m+1:Nat):Int)=(m:Int)+1 by omega] at this;exact this),λH5 ks f5 W5=>⟨rfl,?_⟩⟩;have W:=W5.web;clear W5;have s25:Same H2 H5:=λb u e=>f5 b u (s4 b u (s3 b u e)) (ne_of_none (s3 b u e) nx);trivial;have hd5:=s25 d _ hd2;have hl5:=s25 l _ hl2;have hS5:=s25.seq hS2;clear f5 s4 s3 h3 pr pr2 s25;refine⟨_,rfl,(by show 1<=sizeLine;decide),λc nc=>?_⟩;have s6:Same H5 (upd H5 c (.lst [.int 0])):=Same.new nc;have hc6:upd H5 c (.lst [.int 0]) c=some (.lst [.int 0]):=upd_same;generalize upd H5 c (.lst [.int 0])=H6 at s6 hc6 ⊢;refine⟨l,c,_,_,rfl,rfl,s6 l _ hl5,hc6,sl _ (by rw[List.length_map];show _+1<1000;omega),λhi nhi=>?_⟩;rw[show N.map V.int++[V.int 0]=(N++[0]).map V.int by rw[List.map_append];rfl];have s7:Same H6 (upd H6 hi (.lst ((N++[0]).map V.int))):=Same.new nhi;have hh7:upd H6 hi (.lst ((N++[0]).map V.int)) hi=some (.lst ((N++[0]).map V.int)):=upd_same;trivial;generalize upd H6 hi (.lst ((N++[0]).map V.int))=H7 at s7 hh7 ⊢;have s57:=s6.trans s7;have nhd:∀b u,H5 b=some u->b≠hi:=λb u e=>ne_of_none (s6 b u e) nhi;have jm0:=Int.emod_nonneg (hd / 8) (b:=(m:Int)) (by omega);have jm1:=Int.emod_lt_of_pos (hd / 8) (b:=(m:Int)) (by omega);obtain⟨j,ej⟩:∃j:Nat,hd / 8 % (m:Int)=j:=⟨(hd / 8 % (m:Int)).toNat,by omega⟩;rw[ej] at jm0 jm1;have lN0:(N++[(0:Int)]).length=m+1:=by rw[List.length_append,lm];rfl
  have lj:j<(N++[(0:Int)]).length:=by omega
  refine⟨_,rfl,_,rfl,_,_,rfl,rfl,⟨by decide,by decide⟩,_,rfl,_,_,rfl,rfl,(by show(0:Int)<m;omega),?_⟩;dsimp only;rw[ej];refine⟨hi,_,_,_,rfl,rfl,by omega,SqL.of hh7,at_cs lj,_,rfl,l,N,rfl,SqL.of (s57 l _ hl5),_,_,rfl,rfl,_,_,rfl,rfl,hi,_,_,j,rfl,rfl,hh7,ix_n (by rw[List.length_map];exact lj),?_⟩;dsimp only;rw[<-List.map_set];have gj:(N++[(0:Int)])[j]?=some ((N++[(0:Int)]).getD j 0):=by rw[List.getD_eq_getElem?_getD,List.getElem?_eq_getElem lj];rfl
  have sum1:((N++[(0:Int)]).set j ((N++[(0:Int)]).getD j 0+(25-N.sum))).sum=25:=by
   rw[Cw.sum_set _ gj,List.sum_append];simp;omega
  have len1:((N++[(0:Int)]).set j ((N++[(0:Int)]).getD j 0+(25-N.sum))).length=m+1:=by rw[List.length_set];exact lN0
  generalize (N++[(0:Int)]).set j ((N++[(0:Int)]).getD j 0+(25-N.sum))=HN at sum1 len1 ⊢;have f8:∀b u,H5 b=some u->upd H7 hi (.lst (HN.map V.int)) b=some u:=λb u e=>by rw[upd_ne (nhd b u e)];exact s57 b u e
  have hh8:upd H7 hi (.lst (HN.map V.int)) hi=some (.lst (HN.map V.int)):=upd_same;generalize upd H7 hi (.lst (HN.map V.int))=H8 at f8 hh8 ⊢;have lj2:j<HN.length:=by omega
  refine⟨_,rfl,_,_,rfl,rfl,⟨by decide,by decide⟩,_,_,rfl,rfl,(by show(0:Int)<2;decide),rfl,_,rfl,?_⟩;refine ite2 (λ_=>?_) (λ_=>⟨a,d,l,x,hi,o,hd,m,D,N,HN,PL,ks,_,rfl,h0,m2,m9,f8 d _ hd5,f8 l _ hl5,hh8,by omega,by omega,W.same f8,lD,pl,hQ⟩);refine⟨_,rfl,_,rfl,_,_,rfl,rfl,⟨by decide,by decide⟩,_,rfl,_,_,rfl,rfl,(by show(0:Int)<m;omega),?_⟩;dsimp only;rw[ej];refine⟨hi,_,_,_,rfl,rfl,by omega,SqL.of hh8,at_cs lj2,_,rfl,a,ns,1,rfl,by decide,Same.seq f8 hS5,λc1=>⟨_,_,rfl,rfl,⟨by decide,by decide,by decide⟩,_,_,rfl,rfl,(by show(0:Int)<10 ^ (60:Int).toNat;decide),_,_,rfl,rfl,hi,_,_,j,rfl,rfl,hh8,ix_n (by rw[List.length_map];exact lj2),?_⟩⟩;have q0:=Int.emod_nonneg c1 (b:=10 ^ (60:Int).toNat) (by decide);dsimp only;generalize c1 % 10 ^ (60:Int).toNat=qv at q0 ⊢;rw[<-List.map_set];have gj2:HN[j]?=some (HN.getD j 0):=by rw[List.getD_eq_getElem?_getD,List.getElem?_eq_getElem lj2];rfl
  have sum2:=Cw.sum_set (HN.getD j 0+qv) gj2;have len2:(HN.set j (HN.getD j 0+qv)).length=m+1:=by rw[List.length_set];exact len1
  have f9:∀b u,H5 b=some u->upd H8 hi (.lst ((HN.set j (HN.getD j 0+qv)).map V.int)) b=some u:=λb u e=>by rw[upd_ne (nhd b u e)];exact f8 b u e
  exact⟨a,d,l,x,hi,o,hd,m,D,N,_,PL,ks,_,rfl,h0,m2,m9,f9 d _ hd5,f9 l _ hl5,upd_same,by omega,by omega,W.same f9,lD,pl,hQ⟩
structure CallsL(P:Program)(w:World)(K:W.Frag)(mg:Str->Option Value)(base:Heap)(C:Addr):Prop where
 web:TxtW K mg C
 gsum:mg "sum"=none
 ini:∃fI fdI,Mk K C fI/\FnOk P w K mg base CX0 3 fI fdI ["self","many","ties"] (spInit C K)/\Binds K fdI ["self","many","ties"] []
 G1:Has P w K mg base 1 "_law_cell_at" ["_law_script","_law_k"] (spCell K)
 G2:Has P w K mg base 2 "_law_planted" ["_law_script","_law_many"] (spPlanted K)
 G3:Has P w K mg base 9 "_law_too_many" ["_law_web","_law_numbers"] (spTooMany C)
 G4:Has P w K mg base 1 "_law_does" ["_law_found","_law_rows","_law_numbers"] spDoes
 G5:Has P w K mg base 1 "_law_shows" ["_law_found","_law_many","_law_rows","_law_numbers"] spShows
 wan:∃aT fW fdW,mg "wanted"=some (.ref fW)/\PySem.W.keepIn K (.ref fW)=true/\FnOk P w K mg base (CXx P w) 8 fW fdW ["web","numbers"] (spWanted C aT)/\Binds K fdW ["web","numbers"] []
theorem ok_law{f:Addr}{fd:FuncData}(F:Fun K "law" "law" sLaw f fd)(G:CallsL P w K mg base C):FnOk P w K mg base CX0 10 f fd ["_law_script"] (spLaw K):=by
 obtain⟨fI,fdI,MI,GI,bI⟩:=G.ini;obtain⟨aT,fW,fdW,mW,kW,GW,bW⟩:=G.wan;exact ok_law0 F G.web G.gsum G.G1 G.G2 G.G3 G.G4 G.G5 MI GI bI GW mW kW bW
def ExN(K:W.Frag)(mg:Str->Option Value):Prop:=∃(a:Adr)(ap br bx bt bn nn nt tk tw:Addr),mg "isinstance"=none->mg "ValueError"=none->TxtL K mg a ap br bx bt bn nn nt tk tw
end
def DefAt(K:W.Frag)(mg:Str->Option Value)(x:Str)(st:Stmt):Prop:=∃f fd,mg x=some (.ref f)/\Fun K x x st f fd
def MetAt(K:W.Frag)(C:Addr)(x q:Str)(st:Stmt):Prop:=∃f fd,Meth K C x f/\Fun K x q st f fd
theorem len0{us:List Value}(h:us.length=0):us=[]:=List.length_eq_zero_iff.mp h
theorem len1{us:List Value}(h:us.length=1):∃a0,us=[a0]:=by
 cases us with
 | nil=>exact absurd h (by decide)
 | cons a t=>exact⟨a,by rw[len0 (Nat.succ.inj h)]⟩
theorem len2{us:List Value}(h:us.length=2):∃a0 a1,us=[a0,a1]:=by
 cases us with
 | nil=>exact absurd h (Nat.succ_ne_zero _).symm
 | cons a t=>
  obtain⟨b0,e⟩:=len1 (Nat.succ.inj h);exact⟨a,b0,by rw[e]⟩
theorem len3{us:List Value}(h:us.length=3):∃a0 a1 a2,us=[a0,a1,a2]:=by
 cases us with
 | nil=>exact absurd h (Nat.succ_ne_zero _).symm
 | cons a t=>
  obtain⟨b0,b1,e⟩:=len2 (Nat.succ.inj h);exact⟨a,b0,b1,by rw[e]⟩
theorem len4{us:List Value}(h:us.length=4):∃a0 a1 a2 a3,us=[a0,a1,a2,a3]:=by
 cases us with
 | nil=>exact absurd h (Nat.succ_ne_zero _).symm
 | cons a t=>
  obtain⟨b0,b1,b2,e⟩:=len3 (Nat.succ.inj h);exact⟨a,b0,b1,b2,by rw[e]⟩
theorem calls_mk{P:Program}{w:World}{K:W.Frag}{mg:Str->Option Value}{base:Heap}{C:Addr}{u24:Value}(web:TxtW K mg C)(g24:mg "MOST_POINTS"=some u24)(r24:RelV (.int 24) u24)(mk:PySem.W.makesIn K C=true)(kc:PySem.W.keepIn K (.ref C)=true)
  (g_isinstance:mg "isinstance"=none) (g_int:mg "int"=none) (g_tuple:mg "tuple"=none) (g_min:mg "min"=none) (g_max:mg "max"=none) (g_len:mg "len"=none) (g_range:mg "range"=none) (g_enumerate:mg "enumerate"=none) (g_reversed:mg "reversed"=none) (g_zip:mg "zip"=none) (g_any:mg "any"=none) (g_sum:mg "sum"=none) (g_set:mg "set"=none) (g_ValueError:mg "ValueError"=none)
  (ll:PySem.W.kitOne K (.type "list") (.type "list")=some true) (tt:PySem.W.kitOne K (.type "tuple") (.type "tuple")=some true) (xn:ExN K mg)
  (d0:DefAt K mg "check_size" sSize) (d1:DefAt K mg "check_ends" sEnds) (d2:DefAt K mg "ordered" sOrd) (d3:DefAt K mg "weights_of" sWts) (d4:DefAt K mg "neighbours_of" sNb) (d5:DefAt K mg "partners_of" sPart) (d6:DefAt K mg "left" sLeft) (d7:DefAt K mg "turned_back" sTB) (d8:DefAt K mg "gone_on" sGone) (d9:DefAt K mg "trails_from" sTrails) (d10:DefAt K mg "row_from" sRow) (d11:DefAt K mg "better" sBetter) (d12:DefAt K mg "ties_along" sAlong) (d13:DefAt K mg "only_in" sOnly) (d14:DefAt K mg "exchanged_ties" sXch) (d15:DefAt K mg "exchanged" sExch) (d16:DefAt K mg "most" sMost) (d17:DefAt K mg "trails_of" sTrailsOf) (d18:DefAt K mg "has_tie_to" sHas) (d19:DefAt K mg "tied_to" sTiedTo) (d20:DefAt K mg "reason" sReason) (d21:DefAt K mg "copies_of" sCopies) (d22:DefAt K mg "copied" sCopied) (d23:DefAt K mg "counted" sCounted) (d24:DefAt K mg "wanted" sWanted) (d25:DefAt K mg "_law_cell_at" sLcellat) (d26:DefAt K mg "_law_mixed" sLmixed) (d27:DefAt K mg "_law_planted" sLplanted) (d28:DefAt K mg "_law_does" sLdoes) (d29:DefAt K mg "_law_too_many" sLtoomany) (d30:DefAt K mg "_law_shows" sLshows)
  (mI:MetAt K C "__init__" "Web.__init__" sInit) (mS:MetAt K C "size" "Web.size" sMSize) (mT:MetAt K C "tied" "Web.tied" sTied) (mW:MetAt K C "weight" "Web.weight" sWeight):CallsL P w K mg base C:=by
 obtain⟨f0,fd0,m0,F0⟩:=d0;obtain⟨f1,fd1,m1,F1⟩:=d1;obtain⟨f2,fd2,m2,F2⟩:=d2;obtain⟨f3,fd3,m3,F3⟩:=d3;obtain⟨f4,fd4,m4,F4⟩:=d4;obtain⟨f5,fd5,m5,F5⟩:=d5;obtain⟨f6,fd6,m6,F6⟩:=d6;obtain⟨f7,fd7,m7,F7⟩:=d7;obtain⟨f8,fd8,m8,F8⟩:=d8;obtain⟨f9,fd9,m9,F9⟩:=d9;obtain⟨f10,fd10,m10,F10⟩:=d10;obtain⟨f11,fd11,m11,F11⟩:=d11;obtain⟨f12,fd12,m12,F12⟩:=d12;obtain⟨f13,fd13,m13,F13⟩:=d13;obtain⟨f14,fd14,m14,F14⟩:=d14;obtain⟨f15,fd15,m15,F15⟩:=d15;obtain⟨f16,fd16,m16,F16⟩:=d16;obtain⟨f17,fd17,m17,F17⟩:=d17;obtain⟨f18,fd18,m18,F18⟩:=d18;obtain⟨f19,fd19,m19,F19⟩:=d19;obtain⟨f20,fd20,m20,F20⟩:=d20;obtain⟨f21,fd21,m21,F21⟩:=d21;obtain⟨f22,fd22,m22,F22⟩:=d22;obtain⟨f23,fd23,m23,F23⟩:=d23;obtain⟨f24,fd24,m24,F24⟩:=d24;obtain⟨f25,fd25,m25,F25⟩:=d25;obtain⟨f26,fd26,m26,F26⟩:=d26;obtain⟨f27,fd27,m27,F27⟩:=d27;obtain⟨f28,fd28,m28,F28⟩:=d28;obtain⟨f29,fd29,m29,F29⟩:=d29;obtain⟨f30,fd30,m30,F30⟩:=d30;obtain⟨fI,fdI,MI,FI⟩:=mI;obtain⟨fS,fdS,MS,FS⟩:=mS;obtain⟨fT,fdT,MT,FT⟩:=mT;obtain⟨fW,fdW,MW,FW⟩:=mW;have b0:=F0.binds (ps:=["many"]) λ_ _ _ _ _ _ us hl=>by obtain⟨a0,rfl⟩:=len1 hl;rfl
 have b1:=F1.binds (ps:=["many","a","b"]) λ_ _ _ _ _ _ us hl=>by obtain⟨a0,a1,a2,rfl⟩:=len3 hl;rfl
 have b2:=F2.binds (ps:=["a","b"]) λ_ _ _ _ _ _ us hl=>by obtain⟨a0,a1,rfl⟩:=len2 hl;rfl
 have b3:=F3.binds (ps:=["many","ties"]) λ_ _ _ _ _ _ us hl=>by obtain⟨a0,a1,rfl⟩:=len2 hl;rfl
 have b4:=F4.binds (ps:=["many","ends_sorted"]) λ_ _ _ _ _ _ us hl=>by obtain⟨a0,a1,rfl⟩:=len2 hl;rfl
 have b5:=F5.binds (ps:=["pairs"]) λ_ _ _ _ _ _ us hl=>by obtain⟨a0,rfl⟩:=len1 hl;rfl
 have b6:=F6.binds (ps:=["web","pairs"]) λ_ _ _ _ _ _ us hl=>by obtain⟨a0,a1,rfl⟩:=len2 hl;rfl
 have b7:=F7.binds (ps:=["trails","there","back"]) λ_ _ _ _ _ _ us hl=>by obtain⟨a0,a1,a2,rfl⟩:=len3 hl;rfl
 have b8:=F8.binds (ps:=["trails","partners","point","near"]) λ_ _ _ _ _ _ us hl=>by obtain⟨a0,a1,a2,a3,rfl⟩:=len4 hl;rfl
 have b9:=F9.binds (ps:=["web","partners","root"]) λ_ _ _ _ _ _ us hl=>by obtain⟨a0,a1,a2,rfl⟩:=len3 hl;rfl
 have b10:=F10.binds (ps:=["web","partners","root"]) λ_ _ _ _ _ _ us hl=>by obtain⟨a0,a1,a2,rfl⟩:=len3 hl;rfl
 have b11:=F11.binds (ps:=["web","pairs"]) λ_ _ _ _ _ _ us hl=>by obtain⟨a0,a1,rfl⟩:=len2 hl;rfl
 have b12:=F12.binds (ps:=["points"]) λ_ _ _ _ _ _ us hl=>by obtain⟨a0,rfl⟩:=len1 hl;rfl
 have b13:=F13.binds (ps:=["one","other"]) λ_ _ _ _ _ _ us hl=>by obtain⟨a0,a1,rfl⟩:=len2 hl;rfl
 have b14:=F14.binds (ps:=["pairs","ties"]) λ_ _ _ _ _ _ us hl=>by obtain⟨a0,a1,rfl⟩:=len2 hl;rfl
 have b15:=F15.binds (ps:=["pairs","row"]) λ_ _ _ _ _ _ us hl=>by obtain⟨a0,a1,rfl⟩:=len2 hl;rfl
 have b16:=F16.binds (ps:=["web"]) λ_ _ _ _ _ _ us hl=>by obtain⟨a0,rfl⟩:=len1 hl;rfl
 have b17:=F17.binds (ps:=["web","pairs"]) λ_ _ _ _ _ _ us hl=>by obtain⟨a0,a1,rfl⟩:=len2 hl;rfl
 have b18:=F18.binds (ps:=["web","point","some"]) λ_ _ _ _ _ _ us hl=>by obtain⟨a0,a1,a2,rfl⟩:=len3 hl;rfl
 have b19:=F19.binds (ps:=["web","spare"]) λ_ _ _ _ _ _ us hl=>by obtain⟨a0,a1,rfl⟩:=len2 hl;rfl
 have b20:=F20.binds (ps:=["web"]) λ_ _ _ _ _ _ us hl=>by obtain⟨a0,rfl⟩:=len1 hl;rfl
 have b21:=F21.binds (ps:=["numbers"]) λ_ _ _ _ _ _ us hl=>by obtain⟨a0,rfl⟩:=len1 hl;rfl
 have b22:=F22.binds (ps:=["web","copies"]) λ_ _ _ _ _ _ us hl=>by obtain⟨a0,a1,rfl⟩:=len2 hl;rfl
 have b23:=F23.binds (ps:=["copies","pairs"]) λ_ _ _ _ _ _ us hl=>by obtain⟨a0,a1,rfl⟩:=len2 hl;rfl
 have b24:=F24.binds (ps:=["web","numbers"]) λ_ _ _ _ _ _ us hl=>by obtain⟨a0,a1,rfl⟩:=len2 hl;rfl
 have b25:=F25.binds (ps:=["_law_script","_law_k"]) λ_ _ _ _ _ _ us hl=>by obtain⟨a0,a1,rfl⟩:=len2 hl;rfl
 have b26:=F26.binds (ps:=["_law_cell","_law_factor"]) λ_ _ _ _ _ _ us hl=>by obtain⟨a0,a1,rfl⟩:=len2 hl;rfl
 have b27:=F27.binds (ps:=["_law_script","_law_many"]) λ_ _ _ _ _ _ us hl=>by obtain⟨a0,a1,rfl⟩:=len2 hl;rfl
 have b28:=F28.binds (ps:=["_law_found","_law_rows","_law_numbers"]) λ_ _ _ _ _ _ us hl=>by obtain⟨a0,a1,a2,rfl⟩:=len3 hl;rfl
 have b29:=F29.binds (ps:=["_law_web","_law_numbers"]) λ_ _ _ _ _ _ us hl=>by obtain⟨a0,a1,rfl⟩:=len2 hl;rfl
 have b30:=F30.binds (ps:=["_law_found","_law_many","_law_rows","_law_numbers"]) λ_ _ _ _ _ _ us hl=>by obtain⟨a0,a1,a2,a3,rfl⟩:=len4 hl;rfl
 have bI:=FI.binds (ps:=["self","many","ties"]) λ_ _ _ _ _ _ us hl=>by obtain⟨a0,a1,a2,rfl⟩:=len3 hl;rfl
 have bS:=FS.binds (ps:=["self"]) λ_ _ _ _ _ _ us hl=>by obtain⟨a0,rfl⟩:=len1 hl;rfl
 have bT:=FT.binds (ps:=["self","a"]) λ_ _ _ _ _ _ us hl=>by obtain⟨a0,a1,rfl⟩:=len2 hl;rfl
 have bW:=FW.binds (ps:=["self","a","b"]) λ_ _ _ _ _ _ us hl=>by obtain⟨a0,a1,a2,rfl⟩:=len3 hl;rfl
 have kit:Kit K mg:=⟨ll,tt,g_isinstance,web.lst,g_tuple,g_len⟩;have G0:=ok_size (P:=P) (w:=w) (mg:=mg) (base:=base) F0 g24 r24;have G1:=ok_ends (P:=P) (w:=w) (mg:=mg) (base:=base) F1;have G2:=ok_ord (P:=P) (w:=w) (mg:=mg) (base:=base) F2 g_min g_max;have G3:=ok_wts (P:=P) (w:=w) (mg:=mg) (base:=base) F3 G1 m1 F1.kp b1 G2 m2 F2.kp b2;have G4:=ok_nb (P:=P) (w:=w) (mg:=mg) (base:=base) F4 g_range;have GI:=ok_init (P:=P) (w:=w) (mg:=mg) (base:=base) FI web G0 m0 F0.kp b0 G3 m3 F3.kp b3 G4 m4 F4.kp b4;have GS:=ok_msize (P:=P) (w:=w) (mg:=mg) (base:=base) FS web;have GT:=ok_tied (P:=P) (w:=w) (mg:=mg) (base:=base) FT web;have G5:=ok_part (P:=P) (w:=w) (mg:=mg) (base:=base) F5;have G6:=ok_left (P:=P) (w:=w) (mg:=mg) (base:=base) F6 web g_range G5 m5 F5.kp b5 MS GS bS;have G7:=ok_tb (P:=P) (w:=w) (mg:=mg) (base:=base) F7 g_enumerate web.lst g_reversed;have G8:=ok_gone (P:=P) (w:=w) (mg:=mg) (base:=base) F8 G7 m7 F7.kp b7;have G9:=ok_trails (P:=P) (w:=w) (mg:=mg) (base:=base) F9 web G8 m8 F8.kp b8 MT GT bT;have G10:=ok_row (P:=P) (w:=w) (mg:=mg) (base:=base) F10 web G9 m9 F9.kp b9 MT GT bT;have G11:=ok_better (P:=P) (w:=w) (mg:=mg) (base:=base) F11 G5 m5 F5.kp b5 G6 m6 F6.kp b6 G10 m10 F10.kp b10;have G12:=ok_along (P:=P) (w:=w) (mg:=mg) (base:=base) F12 g_zip G2 m2 F2.kp b2;have G13:=ok_only (P:=P) (w:=w) (mg:=mg) (base:=base) F13;have G14:=ok_xch (P:=P) (w:=w) (mg:=mg) (base:=base) F14 web.srt G13 m13 F13.kp b13;have G15:=ok_exch (P:=P) (w:=w) (mg:=mg) (base:=base) F15 G14 m14 F14.kp b14 G12 m12 F12.kp b12;have G16:=ok_most (P:=P) (w:=w) (mg:=mg) (base:=base) F16 G11 m11 F11.kp b11 G15 m15 F15.kp b15;have G17:=ok_trailsOf (P:=P) (w:=w) (mg:=mg) (base:=base) F17 G5 m5 F5.kp b5 G6 m6 F6.kp b6 G9 m9 F9.kp b9;have G18:=ok_has (P:=P) (w:=w) (mg:=mg) (base:=base) F18 web g_any MT GT bT;have G19:=ok_tiedTo (P:=P) (w:=w) (mg:=mg) (base:=base) F19 web g_range MS GS bS G18 m18 F18.kp b18;have G20:=ok_reason (P:=P) (w:=w) (mg:=mg) (base:=base) F20 web.srt G16 m16 F16.kp b16 G17 m17 F17.kp b17 G19 m19 F19.kp b19;have GW:=ok_weight (P:=P) (w:=w) (mg:=mg) (base:=base) FW web G2 m2 F2.kp b2;obtain⟨a,ap,br,bx,bt,bn,nn,nt,tk,tw,TX⟩:=xn;have TX:=TX g_isinstance g_ValueError;have G21:=ok_copies (P:=P) (w:=w) (mg:=mg) (base:=base) F21 g_enumerate;have G22:=ok_copied (P:=P) (w:=w) (mg:=mg) (base:=base) F22 web g_range g_len MW GW bW ⟨mk,MI.at_,MI.fn,kc⟩ GI bI;have G23:=ok_counted (P:=P) (w:=w) (mg:=mg) (base:=base) F23 web.srt;have G24:=ok_wanted (P:=P) (w:=w) (mg:=mg) (base:=base) F24 TX.T g24 r24 g_sum web.srt g_set ⟨f21,fd21,m21,F21.kp,G21,b21⟩ ⟨f22,fd22,m22,F22.kp,G22,b22⟩ ⟨f16,fd16,m16,F16.kp,G16,b16⟩ ⟨f6,fd6,m6,F6.kp,G6,b6⟩ ⟨f23,fd23,m23,F23.kp,G23,b23⟩ ⟨f20,fd20,m20,F20.kp,G20,b20⟩;have G25:=ok_cell (P:=P) (w:=w) (mg:=mg) (base:=base) F25 g_len;have G26:=ok_mixed (P:=P) (w:=w) (mg:=mg) (base:=base) F26;have G27:=ok_planted (P:=P) (w:=w) (mg:=mg) (base:=base) F27 g_min g_max g_int g_sum ⟨f26,fd26,m26,F26.kp,G26,b26⟩;have G28:=ok_does (P:=P) (w:=w) (mg:=mg) (base:=base) F28 kit;have G29:=ok_toomany (P:=P) (w:=w) (mg:=mg) (base:=base) F29 TX G24 m24 F24.kp b24;have G30:=ok_shows (P:=P) (w:=w) (mg:=mg) (base:=base) F30 kit g_range g_sum;exact⟨web,g_sum,⟨fI,fdI,⟨mk,MI.at_,MI.fn,kc⟩,GI,bI⟩,⟨f25,fd25,m25,F25.kp,G25,b25⟩,⟨f27,fd27,m27,F27.kp,G27,b27⟩,⟨f29,fd29,m29,F29.kp,G29,b29⟩,⟨f28,fd28,m28,F28.kp,G28,b28⟩,⟨f30,fd30,m30,F30.kp,G30,b30⟩,_,⟨f24,fd24,m24,F24.kp,G24,b24⟩⟩
theorem law_mk{P:Program}{w:World}{K:W.Frag}{mg:Str->Option Value}{C fa:Addr}(hmg:mg "law"=some (.ref fa))(d:DefAt K mg "law" sLaw)(G:∀base:Heap,CallsL P w K mg base C) :
  ∃fd:FuncData,(∀(s:Shared)(u:Value),BindsTo s fd ⟨[u],[]⟩ [("_law_script",u)])/\∀base:Heap,K.In base->base.Ns mainGlobals mg->FnOk P w K mg base CX0 10 fa fd ["_law_script"] (spLaw K):=by
 obtain⟨f,fd,m,F⟩:=d;cases hmg.symm.trans m;obtain⟨oc,od,kV,doc,pm,an,cdv,ct,osl,rfl,l,c⟩:=F.ex;exact⟨_,λs u=>.of_eq rfl,λbase _ _=>ok_law F (G base)⟩
theorem all_mk{P:Program}{w:World}{K:W.Frag}{mg:Str->Option Value}{h:Heap}{fa C:Addr}{t24:Tok}(X:K.In h)(G:h.Ns mainGlobals mg)(hmg:mg "law"=some (.ref fa))
  (aC:PySem.W.nsIn K mainGlobals "Web"=some (some (.ref C))) (a24:PySem.W.nsIn K mainGlobals "MOST_POINTS"=some (some (.int 24 t24))) (z0:PySem.W.nsIn K mainGlobals "isinstance"=some none) (z1:PySem.W.nsIn K mainGlobals "int"=some none) (z2:PySem.W.nsIn K mainGlobals "tuple"=some none) (z3:PySem.W.nsIn K mainGlobals "min"=some none) (z4:PySem.W.nsIn K mainGlobals "max"=some none) (z5:PySem.W.nsIn K mainGlobals "len"=some none) (z6:PySem.W.nsIn K mainGlobals "range"=some none) (z7:PySem.W.nsIn K mainGlobals "enumerate"=some none) (z8:PySem.W.nsIn K mainGlobals "reversed"=some none) (z9:PySem.W.nsIn K mainGlobals "zip"=some none) (z10:PySem.W.nsIn K mainGlobals "any"=some none) (z11:PySem.W.nsIn K mainGlobals "sum"=some none) (z12:PySem.W.nsIn K mainGlobals "set"=some none) (z13:PySem.W.nsIn K mainGlobals "ValueError"=some none) (zs:PySem.W.nsIn K mainGlobals "sorted"=some none) (zl:PySem.W.nsIn K mainGlobals "list"=some none) (cls:Cls K C) (mk:PySem.W.makesIn K C=true) (kc:PySem.W.keepIn K (.ref C)=true) (n1:PySem.W.findIn K (.ref C) "many"=some none) (n2:PySem.W.findIn K (.ref C) "weights"=some none) (n3:PySem.W.findIn K (.ref C) "ties_sorted"=some none) (n4:PySem.W.findIn K (.ref C) "neighbours"=some none)
  (ll:PySem.W.kitOne K (.type "list") (.type "list")=some true) (tt:PySem.W.kitOne K (.type "tuple") (.type "tuple")=some true) (xn:ExN K mg)
  (d0:DefAt K mg "check_size" sSize) (d1:DefAt K mg "check_ends" sEnds) (d2:DefAt K mg "ordered" sOrd) (d3:DefAt K mg "weights_of" sWts) (d4:DefAt K mg "neighbours_of" sNb) (d5:DefAt K mg "partners_of" sPart) (d6:DefAt K mg "left" sLeft) (d7:DefAt K mg "turned_back" sTB) (d8:DefAt K mg "gone_on" sGone) (d9:DefAt K mg "trails_from" sTrails) (d10:DefAt K mg "row_from" sRow) (d11:DefAt K mg "better" sBetter) (d12:DefAt K mg "ties_along" sAlong) (d13:DefAt K mg "only_in" sOnly) (d14:DefAt K mg "exchanged_ties" sXch) (d15:DefAt K mg "exchanged" sExch) (d16:DefAt K mg "most" sMost) (d17:DefAt K mg "trails_of" sTrailsOf) (d18:DefAt K mg "has_tie_to" sHas) (d19:DefAt K mg "tied_to" sTiedTo) (d20:DefAt K mg "reason" sReason) (d21:DefAt K mg "copies_of" sCopies) (d22:DefAt K mg "copied" sCopied) (d23:DefAt K mg "counted" sCounted) (d24:DefAt K mg "wanted" sWanted) (d25:DefAt K mg "_law_cell_at" sLcellat) (d26:DefAt K mg "_law_mixed" sLmixed) (d27:DefAt K mg "_law_planted" sLplanted) (d28:DefAt K mg "_law_does" sLdoes) (d29:DefAt K mg "_law_too_many" sLtoomany) (d30:DefAt K mg "_law_shows" sLshows)
  (mI:MetAt K C "__init__" "Web.__init__" sInit) (mS:MetAt K C "size" "Web.size" sMSize) (mT:MetAt K C "tied" "Web.tied" sTied) (mW:MetAt K C "weight" "Web.weight" sWeight) (dL:DefAt K mg "law" sLaw) :
  ∃fd:FuncData,(∀(s:Shared)(u:Value),BindsTo s fd ⟨[u],[]⟩ [("_law_script",u)])/\∀base:Heap,K.In base->base.Ns mainGlobals mg->FnOk P w K mg base CX0 10 fa fd ["_law_script"] (spLaw K):=by
 have z:=λ{x:Str}(e:PySem.W.nsIn K mainGlobals x=some none)=>PySem.W.mg_none_of X G e;have q:=λ{x:Str}{v:Value}(e:PySem.W.nsIn K mainGlobals x=some (some v))=>PySem.W.mg_of X G e;refine law_mk (C:=C) hmg dL λbase=>?_;exact calls_mk ⟨cls,n1,n2,n3,n4,q aC,z zs,z zl⟩ (q a24) ⟨_,rfl⟩ mk kc (z z0) (z z1) (z z2) (z z3) (z z4) (z z5) (z z6) (z z7) (z z8) (z z9) (z z10) (z z11) (z z12) (z z13) ll tt xn d0 d1 d2 d3 d4 d5 d6 d7 d8 d9 d10 d11 d12 d13 d14 d15 d16 d17 d18 d19 d20 d21 d22 d23 d24 d25 d26 d27 d28 d29 d30 mI mS mT mW
theorem walk{l:PySem.W.OpenLaw}{q:Program}{loose:List Str}{XP:(Str->Option Value)->Heap->Prop}{YP:World->Heap->Prop}{d:DefRec}{K:Params->PySem.W.Frag}(hn:l.most=some 63)(hdf:d.params.defaults=[])
  (hY:∀(w:World)(h:Heap),YP w h->(K w.params).In h)
  (F:∀(w:World)(mg:Str->Option Value)(fa:Addr)(h:Heap),(K w.params).In h->h.Ns mainGlobals mg->mg d.name=some (.ref fa) →
   ∃fd:FuncData,(∀(s:Shared)(u:Value),BindsTo s fd ⟨[u],[]⟩ [("_law_script",u)])/\∀base:Heap,(K w.params).In base->base.Ns mainGlobals mg->FnOk l.prog w (K w.params) mg base CX0 10 fa fd ["_law_script"] (spLaw (K w.params))) :
  PySem.W.WalkO q loose XP YP l.row.toRowW d [] (λf vs=>PySem.call f vs):=
 L2.walk_of (n:=63) (k:=10) (x:="_law_script") (CX:=λ_=>CX0) (sp:=λw=>spLaw (K w.params)) hn (by decide) hdf ⟨rfl,by decide,by decide⟩ hY F (λ_ _ a ns hl _ hS=>⟨a,ns,rfl,hS,hl,λ_=>rfl⟩) λ_ _ _ _ _ z=>z
theorem see_def{K:W.Frag}{mg:Str->Option Value}{h:Heap}{x:Str}{st:Stmt}(X:K.In h)(G:h.Ns mainGlobals mg)(e:defSee K x=funGood x x st):DefAt K mg x st:=by
 obtain⟨f,oc,od,an,osl,kV,doc,pm,cdv,ct,a,l,c,k⟩:=def_see e;exact⟨f,_,PySem.W.mg_of X G a,fun_mk l c k⟩
theorem see_met{K:W.Frag}{C:Addr}{x q:Str}{st:Stmt}(e:metSee K C x q=some (true,funGood x q st)):MetAt K C x q st:=by
 obtain⟨f,oc,od,an,osl,kV,doc,pm,cdv,ct,a,i,l,c,k⟩:=met_see e;exact⟨f,_,⟨a,i,k⟩,fun_mk l c k⟩
theorem see_exn{K:W.Frag}{mg:Str->Option Value}{h:Heap}(X:K.In h)(G:h.Ns mainGlobals mg)(e:excSee K "TooMany" "WebError" t1H t2H=excGood):ExN K mg:=by
 obtain⟨C,W,as,bs,n1,n2,e2,e3,hE,ea,hw,kn,kv,k1,k2⟩:=exc_see e;have q:=λ{x:Str}{v:Value}(e:PySem.W.nsIn K mainGlobals x=some (some v))=>PySem.W.mg_of X G e;unfold t1H at e2;unfold t2H at e3;obtain⟨a1,r1,rfl,m1,e2⟩:=adrs_cons e2;obtain⟨a2,r2,rfl,m2,e2⟩:=adrs_cons e2;obtain⟨a3,r3,rfl,m3,e2⟩:=adrs_cons e2;obtain⟨a4,r4,rfl,m4,e2⟩:=adrs_cons e2;obtain⟨a5,r5,rfl,m5,e2⟩:=adrs_cons e2;obtain rfl:=adrs_nil e2;obtain⟨b1,s1,rfl,m6,e3⟩:=adrs_cons e3;obtain⟨b2,s2,rfl,m7,e3⟩:=adrs_cons e3;obtain⟨b3,s3,rfl,m8,e3⟩:=adrs_cons e3;obtain⟨b4,s4,rfl,m9,e3⟩:=adrs_cons e3;obtain rfl:=adrs_nil e3;exact⟨⟨W,C,[],[]⟩,a1,a2,a3,a4,a5,b1,b2,b3,b4,λgi gv=>⟨⟨q n1,hE⟩,ea,hw,kn,kv,k1,k2,q n2,q m1,q m2,q m3,q m4,q m5,q m6,q m7,q m8,q m9,gi,gv⟩⟩
set_option maxRecDepth 100000 in
set_option maxHeartbeats 0 in
theorem callH:PySem.W.WalkX Qv [] (PySem.W.XL Qv []) seeH (λ_=>goodH) (PySem.Challenge.rw_pairsheath_k67_wanted_planted.row).toRowW dL [] (λf vs=>PySem.call f vs):=by
 refine walkS λw s₀ y=>?_;obtain⟨y,yx⟩:=Prod.mk.inj (show(_,_)=(_,_) from y);obtain⟨hz,hk,hq,hd,hC⟩:=see_of y;obtain⟨C,aC,cls,mk,kc,hn,hm⟩:=cls_see hC;obtain⟨t0,a0⟩:=num_see (hk ("MOST_POINTS",24) (List.mem_of_getElem? (i:=0) rfl));refine walk (l:=PySem.Challenge.rw_pairsheath_k67_wanted_planted) (K:=λ_=>fragH s₀.heap) rfl rfl (λw h Y=>Y) λw mg fa h KX G hmg=>?_;have z:=λ(i:Nat){x:Str}(e:zsH[i]?=some x)=>hz x (List.mem_of_getElem? e);have q:=λ(i:Nat){a b:String}{c:Bool}(e:qsH[i]?=some (a,b,c))=>hq (a,b,c) (List.mem_of_getElem? e);have n:=λ(i:Nat){x:Str}(e:noH[i]?=some x)=>hn x (List.mem_of_getElem? e);have d:=λ(i:Nat){x:Str}{st:Stmt}(e:dsH[i]?=some (x,st))=>see_def KX G (hd (x,st) (List.mem_of_getElem? e));have m:=λ(i:Nat){x q:Str}{st:Stmt}(e:msH[i]?=some (x,q,st))=>see_met (hm (x,q,st) (List.mem_of_getElem? e));have xn:=see_exn KX G yx;exact all_mk KX G hmg aC a0 (z 0 rfl) (z 1 rfl) (z 2 rfl) (z 3 rfl) (z 4 rfl) (z 5 rfl) (z 6 rfl) (z 7 rfl) (z 8 rfl) (z 9 rfl) (z 10 rfl) (z 11 rfl) (z 12 rfl) (z 13 rfl) (z 14 rfl) (z 15 rfl) ⟨cls.1,cls.2.1,cls.2.2.1,cls.2.2.2⟩ mk kc (n 0 rfl) (n 1 rfl) (n 2 rfl) (n 3 rfl) (q 0 rfl) (q 1 rfl) xn (d 0 rfl) (d 1 rfl) (d 2 rfl) (d 3 rfl) (d 4 rfl) (d 5 rfl) (d 6 rfl) (d 7 rfl) (d 8 rfl) (d 9 rfl) (d 10 rfl) (d 11 rfl) (d 12 rfl) (d 13 rfl) (d 14 rfl) (d 15 rfl) (d 16 rfl) (d 17 rfl) (d 18 rfl) (d 19 rfl) (d 20 rfl) (d 21 rfl) (d 22 rfl) (d 23 rfl) (d 24 rfl) (d 25 rfl) (d 26 rfl) (d 27 rfl) (d 28 rfl) (d 29 rfl) (d 30 rfl) (m 0 rfl) (m 1 rfl) (m 2 rfl) (m 3 rfl) (d 31 rfl)
end K67
end
set_option Elab.async false
set_option linter.all false
set_option maxRecDepth 100000
set_option maxHeartbeats 4000000
open PySem PySem.W PyProof.Rows
set_option maxRecDepth 100000 in
set_option maxHeartbeats 0 in
theorem PySem.Challenge.cw_pairsheath_k67_wanted_planted_holds : PySem.Challenge.rw_pairsheath_k67_wanted_planted.Holds := by
 refine holds_law (by kernel_rfl) λsaid=>?_;refine holds_openX (q:=K67.Qv) (Xt:=K67.XtH) (d:=K67.dL) K67.leftH (λs e=>xl_of s (Bool.and_eq_true_iff.mp e).1) XL.keeps (by kernel_rfl) (by kernel_rfl) (by kernel_rfl) (λs e=>recFacts_of (Bool.and_eq_true_iff.mp e).2) (by kernel_rfl) said (by kernel_rfl) ⟨rfl,rfl,rfl,rfl,rfl,by decide +kernel⟩ ?hw K67.callH
 w_witness2
