import PyProof.Rows.All
import Wide.All
import OpenK.AllK
import Wide.FinOn
import Lean
import PyProof.EqAt
import PyProof.EqKinds
import PyProof.TupleCall
import PySem.Challenge.RW_pairsheath_k26_whole_from_one_choice_to
noncomputable section
set_option Elab.async false
set_option linter.all false
set_option maxRecDepth 100000
set_option maxHeartbeats 4000000
namespace L2
open PySem PySem.Spec PyProof.Rows
abbrev Key:=Sum Int Str
def keyIs:Key->Value->Bool
 | .inl k,v=>Value.isInt k v
 | .inr x,v=>Value.isStrOf x v
def keyH(w:World):Key->Int
 | .inl k=>hashInt k
 | .inr x=>hashStr w x
theorem keyIs_shape:∀{k:Key}{v:Value},keyIs k v=true->(∃i t,k=Sum.inl i/\v=Value.int i t)\/(∃x t,k=Sum.inr x/\v=Value.str x t)
 | .inl i,v,h=>by
  obtain⟨t,e⟩:=Value.isInt_shape (k:=i) (v:=v) h;exact .inl ⟨i,t,rfl,e⟩
 | .inr x,v,h=>by
  obtain⟨t,e⟩:=Value.isStrOf_shape (x:=x) (v:=v) h;exact .inr ⟨x,t,rfl,e⟩
theorem keyIs_int(i:Int)(t:Tok):keyIs (.inl i) (.int i t)=true:=by simp[keyIs,Value.isInt]
theorem keyIs_str(x:Str)(t:Tok):keyIs (.inr x) (.str x t)=true:=by simp[keyIs,Value.isStrOf]
theorem key_ll(a b:Int):decide ((Sum.inl a:Key)=Sum.inl b)=(a==b):=by
 by_cases e:a=b
 .subst e;simp
 .have h:¬(Sum.inl a:Key)=Sum.inl b:=λq=>e (Sum.inl.inj q);rw[decide_eq_false h];exact(beq_eq_false_iff_ne.mpr e).symm
theorem key_rr(a b:Str):decide ((Sum.inr a:Key)=Sum.inr b)=decide (a=b):=by
 by_cases e:a=b
 .subst e;simp
 .have h:¬(Sum.inr a:Key)=Sum.inr b:=λq=>e (Sum.inr.inj q);rw[decide_eq_false h,decide_eq_false e]
theorem key_lr(a:Int)(b:Str):decide ((Sum.inl a:Key)=Sum.inr b)=false:=decide_eq_false (λq=>nomatch q)
theorem key_rl(a:Str)(b:Int):decide ((Sum.inr a:Key)=Sum.inl b)=false:=decide_eq_false (λq=>nomatch q)
def mixKind(prog:Program)(w:World):PySem.KeyKind prog w Key where
 is:=keyIs
 hash:=keyH w
 inj:=λv a b ha hb=>by
  rcases keyIs_shape ha with⟨i,t,rfl,rfl⟩|⟨x,t,rfl,rfl⟩
  .rcases keyIs_shape hb with⟨j,u,rfl,e⟩|⟨y,u,rfl,e⟩
   .injection e with e1 _;rw[e1]
   .exact nomatch e
  .rcases keyIs_shape hb with⟨j,u,rfl,e⟩|⟨y,u,rfl,e⟩
   .exact nomatch e
   .injection e with e1 _;rw[e1]
 byValue:=λk v h=>by
  rcases keyIs_shape h with⟨i,t,rfl,rfl⟩|⟨x,t,rfl,rfl⟩<;>rfl
 pyHash:=λhv h=>by
  rcases keyIs_shape hv with⟨i,t,rfl,rfl⟩|⟨x,t,rfl,rfl⟩
  .exact wpAny_pyHash_int h
  .exact wpAny_pyHash_str h
 eqBool:=λhu hv h=>by
  rcases keyIs_shape hu with⟨i,t,rfl,rfl⟩|⟨x,t,rfl,rfl⟩
  .rcases keyIs_shape hv with⟨j,u,rfl,rfl⟩|⟨y,u,rfl,rfl⟩
   .rw[key_ll] at h;exact wpAny_eqBool_int h
   .rw[key_lr] at h;exact SeqAt.EqAt.int_str i t y u _ _ _ _ h
  .rcases keyIs_shape hv with⟨j,u,rfl,rfl⟩|⟨y,u,rfl,rfl⟩
   .rw[key_rl] at h;exact SeqAt.EqAt.str_int x t j u _ _ _ _ h
   .rw[key_rr] at h;exact wpAny_eqBool_str h
 «strs»:=λk x t v h=>by
  rcases keyIs_shape h with⟨i,u,rfl,e⟩|⟨y,u,rfl,e⟩
  .exact nomatch e
  .injection e with e1 _
   subst e1;cases v<;>rfl
theorem mixKind_int(prog:Program)(w:World)(i:Int)(t:Tok):(mixKind prog w).is (.inl i) (.int i t)=true:=keyIs_int i t
theorem mixKind_str(prog:Program)(w:World)(x:Str)(t:Tok):(mixKind prog w).is (.inr x) (.str x t)=true:=keyIs_str x t
inductive V where
 | non|bl (b:Bool)|int (i:Int)|str (x:Str)|byt (b:Array UInt8)|flt (b:UInt64)|ref (a:Addr)|ty (n:String)
 deriving DecidableEq
def RelV:V->Value->Prop
 | .non,u=>u=Value.none
 | .bl b,u=>u=Value.bool b
 | .int i,u=>∃t,u=Value.int i t
 | .str x,u=>∃t,u=Value.str x t
 | .byt b,u=>∃t,u=Value.bytes b t
 | .flt b,u=>∃t,u=Value.float b t
 | .ref a,u=>u=Value.ref a
 | .ty n,u=>u=Value.type n
abbrev Vals:List V->List Value->Prop:=Paired RelV
theorem Vals.length{xs:List V}{us:List Value}(r:Vals xs us):xs.length=us.length:=Paired.length r
theorem Vals.get:∀{xs:List V}{us:List Value}{i:Nat}{x:V},Vals xs us->xs[i]?=some x->∃u,us[i]?=some u/\RelV x u
 | _,_,_,_,.nil,e=>by simp at e
 | _,_,0,_,.cons r _,e=>by simp at e;subst e;exact⟨_,rfl,r⟩
 | _,_,i+1,x,.cons _ t,e=>by
  obtain⟨u,h1,h2⟩:=Vals.get (i:=i) (x:=x) t (by simpa using e);exact⟨u,by simpa using h1,h2⟩
theorem Vals.append:∀{xs ys:List V}{us ws:List Value},Vals xs us->Vals ys ws->Vals (xs++ys) (us++ws)
 | _,_,_,_,.nil,s=>s
 | _,_,_,_,.cons r t,s=>.cons r (Vals.append t s)
theorem Vals.take:∀{xs:List V}{us:List Value}(n:Nat),Vals xs us->Vals (xs.take n) (us.take n)
 | _,_,0,_=>.nil
 | _,_,_+1,.nil=>.nil
 | _,_,n+1,.cons r t=>.cons r (Vals.take n t)
theorem Vals.drop:∀{xs:List V}{us:List Value}(n:Nat),Vals xs us->Vals (xs.drop n) (us.drop n)
 | _,_,0,r=>r
 | _,_,_+1,.nil=>.nil
 | _,_,n+1,.cons _ t=>Vals.drop n t
def RelO:Option V->Option Value->Prop
 | some v,some u=>RelV v u
 | none,none=>True
 | _,_=>False
def KV{κ:Type}:List (κ×V)->List (κ×Value)->Prop:=Paired λ(p:κ×V)(q:κ×Value)=>p.1=q.1/\RelV p.2 q.2
def kV:Key->V
 | .inl i=>.int i
 | .inr x=>.str x
inductive HO where
 /-- a list -/
 | lst (xs:List V)
 /-- a tuple (never changes) -/
 | tup (xs:List V)
 /-- a dict whose keys are ints and texts;one whose keys are tuples of ints and texts (the empty one is both) -/
 | dK (kvs:List (Key×V))|dT (kvs:List (List Key×V))
 /-- a set of ints: its members,its size -/
 | set (S:Int->Bool) (n:Nat)
 /-- an instance of the class at C,its dict at dx,its attributes -/
 | ins (C dx:Addr) (fs:List (Str×V))
 /-- the dict of the instance at x -/
 | own (x:Addr)
 /-- the dict of an exception -/
 | xd (fs:List (Str×V))
 /-- a bound method,f of x -/
 | met (f x:Addr)
 /-- a range object lo,lo+1,.. below hi -/
 | rng (lo hi:Int)
 /-- a thing that is known to the object (the script;a dict while a loop walks it): read,never written while it is so -/
 | frz (o:Obj) (u:HO)
 /-- a code object's table -/
 | tbl (ps:Array Value)
 /-- any other thing,by what is true of its one object (a def of one's own: SetO a S n:=HO.ext λh=>..) -/
 | ext (φ:Heap->Prop)
abbrev Hp:=Addr->Option HO
def upd(H:Hp)(a:Addr)(o:HO):Hp:=λb=>if b=a then some o else H b
theorem upd_same{H:Hp}{a:Addr}{o:HO}:upd H a o a=some o:=by unfold upd;rw[if_pos rfl]
theorem upd_ne{H:Hp}{a b:Addr}{o:HO}(h:b≠a):upd H a o b=H b:=by unfold upd;rw[if_neg h]
theorem upd_upd{H:Hp}{a:Addr}{o u:HO}:upd (upd H a o) a u=upd H a u:=by
 funext b;unfold upd;split<;>rfl
theorem ne_of{H:Hp}{a b:Addr}{o u:HO}(h:H a=some o)(h':H b=some u)(d:o≠u):a≠b:=by
 intro e;subst e;rw[h] at h';exact d (Option.some.inj h')
theorem ne_of_none{H:Hp}{a b:Addr}{o:HO}(h:H a=some o)(h':H b=none):a≠b:=by
 intro e;subst e;rw[h] at h';cases h'
section
variable(P:Program)(w:World)
def ObjOk(H:Hp)(h:Heap)(a:Addr):HO->Prop
 | .lst xs=>xs.length<=sizeLine/\∃(its:List Value)(n:Nat),Vals xs its/\h.get? a=some {cls:=.type "list",data:=.seq its.toArray n}
 | .tup xs=>xs.length<=sizeLine/\∃its:List Value,Vals xs its/\IsTup h a its.toArray
 | .dK kvs=>kvs.length<=sizeLine/\(a==sysModules)=false/\∃vs,KV kvs vs/\h.DictOf (mixKind P w) a vs
 | .dT kvs=>kvs.length<=sizeLine/\(a==sysModules)=false/\∃xs:List (List Key×Addr×Value),
   Paired (λ(p:List Key×V)(q:List Key×Addr×Value)=>p.1=q.1/\H q.2.1=some (.tup (p.1.map kV))/\RelV p.2 q.2.2) kvs xs ∧
   ∃o es ep,h.get? a=some o/\o.ExactDict/\o.data=.dict es ep/\es.toList=xs.map (entryOfKey (tupleKind (mixKind P w)))/\(xs.map (·.1)).Nodup
 | .set S n=>h.SetOf (intKind P w) a S n
 | .ins C dx fs=>H dx=some (.own a)/\fs.length<=1000/\dx≠a/\h.get? a=some (PySem.W.instObj C dx) ∧
   ∃mA,h.Ns1 dx mA/\(∀f,RelO (fs.lookup f) (mA f))/\PySem.Within mA (fs.map (·.1))
 | .own _=>∃o,h.get? a=some o
 | .xd fs=>∃mA,h.Ns1 a mA/\∀f,RelO (fs.lookup f) (mA f)
 | .rng lo hi=>∃t u v,h.get? a=some {cls:=.type "range",data:=.fields #[.int lo t,.int hi u,.int 1 v]}
 | .frz o u=>h.get? a=some o/\ObjOk H h a u
 | .tbl ps=>h.get? a=some {cls:=.none,data:=.fields ps}
 | .met f x=>h.get? a=some (PySem.W.methodObj (.ref f) (.ref x))
 | .ext φ=>φ h/\(∃o,h.get? a=some o)/\∀h1 h2:Heap,φ h1->(∀o,h1.get? a=some o->h2.get? a=some o)->φ h2
def HOk(H:Hp)(h:Heap):Prop:=∀a o,H a=some o->ObjOk P w H h a o
end
section
variable{P:Program}{w:World}{H H':Hp}{h h':Heap}{a:Addr}{o:HO}
theorem ObjOk.lt(x:ObjOk P w H h a o):a<h.objs.size:=by
 cases o with
 | lst xs=>obtain⟨_,_,_,_,e⟩:=x;exact Heap.lt_size e
 | tup xs=>obtain⟨_,_,_,p⟩:=x;exact p.lt
 | dK kvs=>obtain⟨_,_,_,_,o,_,_,e,_⟩:=x;exact Heap.lt_size e
 | dT kvs=>obtain⟨_,_,_,_,o,_,_,e,_⟩:=x;exact Heap.lt_size e
 | set S n=>obtain⟨o,_,_,_,e,_⟩:=x;exact Heap.lt_size e
 | ins C dx fs=>obtain⟨_,_,_,e,_⟩:=x;exact Heap.lt_size e
 | own y=>obtain⟨_,e⟩:=x;exact Heap.lt_size e
 | xd fs=>obtain⟨_,⟨_,_,_,e,_⟩,_⟩:=x;exact Heap.lt_size e
 | rng lo hi=>obtain⟨_,_,_,e⟩:=x;exact Heap.lt_size e
 | frz ob u=>obtain⟨e,_⟩:=x;exact Heap.lt_size e
 | tbl ps=>exact Heap.lt_size (show h.get? a=some _ from x)
 | met f y=>exact Heap.lt_size (show h.get? a=some _ from x)
 | ext φ=>obtain⟨_,⟨_,e⟩,_⟩:=x;exact Heap.lt_size e
theorem Paired.mapP{α β:Type}{F G:α->β->Prop}:∀{l₁:List α}{l₂:List β},Paired F l₁ l₂->(∀a b,F a b->G a b)->Paired G l₁ l₂
 | _,_,.nil,_=>.nil
 | _,_,.cons r t,f=>.cons (f _ _ r) (Paired.mapP t f)
theorem ObjOk.stay(x:ObjOk P w H h a o)(k:∀b u,(b=a\/H b=some (.own a))->h.get? b=some u->h'.get? b=some u)
  (ho:∀b,H b=some (.own a)->H' b=some (.own a)) (ht:∀b xs,H b=some (.tup xs)->H' b=some (.tup xs)):ObjOk P w H' h' a o:=by
 induction o with
 | lst xs=>obtain⟨z,its,n,r,e⟩:=x;exact⟨z,its,n,r,k _ _ (.inl rfl) e⟩
 | tup xs=>obtain⟨z,its,r,ob,e,c⟩:=x;exact⟨z,its,r,ob,k _ _ (.inl rfl) e,c⟩
 | dK kvs=>obtain⟨z,y,vs,r,ob,es,ep,e,c⟩:=x;exact⟨z,y,vs,r,ob,es,ep,k _ _ (.inl rfl) e,c⟩
 | dT kvs=>
  obtain⟨z,y,xs,r,ob,es,ep,e,c⟩:=x;exact⟨z,y,xs,Paired.mapP r λp q z=>⟨z.1,ht _ _ z.2.1,z.2.2⟩,ob,es,ep,k _ _ (.inl rfl) e,c⟩
 | set S n=>obtain⟨ob,es,ep,t,e,c⟩:=x;exact⟨ob,es,ep,t,k _ _ (.inl rfl) e,c⟩
 | ins C dx fs=>
  obtain⟨d,z,ne,e,mA,⟨od,es,ep,e2,c⟩,r⟩:=x;exact⟨ho _ d,z,ne,k _ _ (.inl rfl) e,mA,⟨od,es,ep,k _ _ (.inr d) e2,c⟩,r⟩
 | own y=>obtain⟨ob,e⟩:=x;exact⟨ob,k _ _ (.inl rfl) e⟩
 | xd fs=>obtain⟨mA,⟨od,es,ep,e,c⟩,r⟩:=x;exact⟨mA,⟨od,es,ep,k _ _ (.inl rfl) e,c⟩,r⟩
 | rng lo hi=>obtain⟨t,u,v,e⟩:=x;exact⟨t,u,v,k _ _ (.inl rfl) e⟩
 | frz ob u ih=>obtain⟨e,q⟩:=x;exact⟨k _ _ (.inl rfl) e,ih q⟩
 | tbl ps=>
  have e:h.get? a=some {cls:=.none,data:=.fields ps}:=x;show h'.get? a=some {cls:=.none,data:=.fields ps};exact k a _ (.inl rfl) e
 | met f y=>
  have e:h.get? a=some (PySem.W.methodObj (.ref f) (.ref y)):=x;show h'.get? a=some (PySem.W.methodObj (.ref f) (.ref y));exact k a _ (.inl rfl) e
 | ext φ=>obtain⟨p,⟨o,e⟩,st⟩:=x;exact⟨st _ _ p λo q=>k _ _ (.inl rfl) q,⟨o,k _ _ (.inl rfl) e⟩,st⟩
theorem HOk.lt(x:HOk P w H h)(e:H a=some o):a<h.objs.size:=(x a o e).lt
theorem HOk.fresh(x:HOk P w H h)(e:h.objs.size<=a):H a=none:=by
 cases q:H a with
 | none=>rfl
 | some u=>exact absurd (Nat.lt_of_lt_of_le (x.lt q) e) (Nat.lt_irrefl _)
theorem HOk.kept(x:HOk P w H h)(k:∀b u,h.get? b=some u->h'.get? b=some u):HOk P w H h':=λa o e=>
 (x a o e).stay (λb u _ q=>k b u q) (λ_ q=>q) λ_ _ q=>q
theorem HOk.laid(x:HOk P w H h)(k:∀b u,h.get? b=some u->h'.get? b=some u)(hp:h.objs.size<=a)(new:ObjOk P w (upd H a o) h' a o):HOk P w (upd H a o) h':=λb u e=>by
 have hn:=x.fresh hp;by_cases hb:b=a
 .subst hb;rw[upd_same] at e;cases e;exact new
 .rw[upd_ne hb] at e;exact(x b u e).stay (λc v _ q=>k c v q) (λc q=>by rw[upd_ne (ne_of_none q hn)];exact q) λc xs q=>by rw[upd_ne (ne_of_none q hn)];exact q
end
def Rd(H:Hp)(a:Addr)(u:HO):Prop:=H a=some u\/∃o,H a=some (.frz o u)
theorem Rd.of{H:Hp}{a:Addr}{u:HO}(h:H a=some u):Rd H a u:=.inl h
theorem Rd.ok{P:Program}{w:World}{H:Hp}{h:Heap}{a:Addr}{u:HO}(r:Rd H a u)(x:HOk P w H h):ObjOk P w H h a u:=by
 rcases r with r|⟨o,r⟩
 .exact x a u r
 .obtain⟨_,q⟩:=x a _ r;exact q
def Mut:Option HO->Prop
 | some (.lst _)=>True
 | some (.dK _)=>True
 | some (.dT _)=>True
 | some (.set _ _)=>True
 | some (.ins _ _ _)=>True
 | some (.ext _)=>True
 | _=>False
section
variable{P:Program}{w:World}{H:Hp}{h h':Heap}{x e:Addr}{o':HO}
theorem HOk.write(ok:HOk P w H h)(mu:Mut (H x))(he:e=x\/H e=some (.own x))(k:∀b u,b≠e->h.get? b=some u->h'.get? b=some u)(heo:∃u,h'.get? e=some u)
  (new:ObjOk P w (upd H x o') h' x o'):HOk P w (upd H x o') h':=λb u q=>by
 have nown:∀c y,H c=some (.own y)->c≠x:=λc y r z=>by subst z;rw[r] at mu;exact mu
 have ntup:∀c xs,H c=some (.tup xs)->c≠x:=λc xs r z=>by subst z;rw[r] at mu;exact mu
 by_cases hb:b=x
 .subst hb;rw[upd_same] at q;cases q;exact new
 .rw [upd_ne hb] at q;by_cases hbe:b=e
  .have q':H b=some (.own x):=by
    rcases he with z|z
    .exact absurd (hbe.trans z) hb
    .rw[hbe];exact z
   rw[q] at q';cases q';obtain⟨v,hv⟩:=heo;exact⟨v,by rw[hbe];exact hv⟩
  .refine (ok b u q).stay (λc v hc r=>k c v ?_ r) (λc r=>by rw[upd_ne (nown c b r)];exact r) λc xs r=>by rw[upd_ne (ntup c xs r)];exact r
   rcases hc with rfl|hc
   .exact hbe
   .rintro rfl;rcases he with z|z
    .exact nown c b hc z
    .rw[hc] at z;cases z;exact hb rfl
end
structure Un(fs ex:List Addr)(H H':Hp)(h h':Heap):Prop where
 keep:∀b o,h.get? b=some o->H b=none->b∉fs->b∉ex->h'.get? b=some o
 slot:∀b o,h.get? b=some o->H b=none->b∈fs->b∉ex->∃sl,h'.get? b=some {o with slots:=sl}
 free:∀b o,h.get? b=some o->H b=none->b∉ex->H' b=none
 there:∀b o,h.get? b=some o->b∉ex->∃o',h'.get? b=some o'
 tups:∀b xs,H b=some (.tup xs)->H' b=some (.tup xs)
 frzs:∀b o u,H b=some (.frz o u)->H' b=some (.frz o u)
 tbls:∀b ps,H b=some (.tbl ps)->∃more,H' b=some (.tbl (ps++more))
section
variable{fs fs' ex ex':List Addr}{H H1 H2:Hp}{h h1 h2 h':Heap}{a x e:Addr}{o:HO}
theorem Un.any(u:Un fs ex H H1 h h1){b:Addr}{ob:Obj}(q:h.get? b=some ob)(n:H b=none)(hx:b∉ex):∃sl,h1.get? b=some {ob with slots:=sl}:=by
 by_cases hb:b∈fs
 .exact u.slot b ob q n hb hx
 .exact⟨ob.slots,u.keep b ob q n hb hx⟩
theorem Un.kept(k:∀b u,h.get? b=some u->h'.get? b=some u):Un fs ex H H h h':=
 ⟨λb ob q _ _ _=>k b ob q,λb ob q _ _ _=>⟨ob.slots,k b ob q⟩,λ_ _ _ n _=>n,λb ob q _=>⟨ob,k b ob q⟩,λ_ _ q=>q,λ_ _ _ q=>q,λ_ ps q=>⟨#[],by rw[q];simp⟩⟩
theorem Un.refl:Un fs ex H H h h:=Un.kept λ_ _ q=>q
theorem Un.laid(k:∀b u,h.get? b=some u->h'.get? b=some u)(hp:h.objs.size<=a)(hn:H a=none):Un fs ex H (upd H a o) h h' where
 keep:=λb u q _ _ _=>k b u q
 slot:=λb u q _ _ _=>⟨u.slots,k b u q⟩
 free:=λb u q n _=>by rw[upd_ne (Nat.ne_of_lt (Nat.lt_of_lt_of_le (Heap.lt_size q) hp))];exact n
 there:=λb u q _=>⟨u,k b u q⟩
 tups:=λb xs q=>by rw[upd_ne (ne_of_none q hn)];exact q
 frzs:=λb u xs q=>by rw[upd_ne (ne_of_none q hn)];exact q
 tbls:=λb ps q=>⟨#[],by rw[upd_ne (ne_of_none q hn),q];simp⟩
theorem Un.write(mu:Mut (H x))(he:e=x\/H e=some (.own x))(k:∀b u,b≠e->h.get? b=some u->h'.get? b=some u)(heo:∃u,h'.get? e=some u):Un fs ex H (upd H x o) h h':=by
 have hx:∀b,H b=none->b≠x:=λb n z=>by subst z;rw[n] at mu;exact mu
 have hb:∀b,H b=none->b≠e:=λb n z=>by
  subst z;rcases he with r|r
  .exact hx b n r
  .rw[n] at r;cases r
 have hm:∀b u,H b=some u->¬Mut (some u)->b≠x:=λb u q nm z=>by subst z;rw[q] at mu;exact nm mu
 refine⟨λb u q n _ _=>k b u (hb b n) q,λb u q n _ _=>⟨u.slots,k b u (hb b n) q⟩,λb u q n _=>by rw[upd_ne (hx b n)];exact n,λb u q _=>?_,
  λb xs q=>by rw[upd_ne (hm b _ q λz=>z)];exact q,λb u xs q=>by rw[upd_ne (hm b _ q λz=>z)];exact q,λb ps q=>⟨#[],by rw[upd_ne (hm b _ q λz=>z),q];simp⟩⟩
 by_cases hbe:b=e
 .subst hbe;exact heo
 .exact⟨u,k b u hbe q⟩
end
def trk(h:Heap)(H:Hp):List Addr:=(List.range h.objs.size).filter λa=>(H a).isSome
def hidT(h:Heap)(H:Hp):Heap:=PySem.W.hideAll h (trk h H)
theorem hidT_size(h:Heap)(H:Hp):(hidT h H).objs.size=h.objs.size:=PySem.W.hideAll_size _ _
theorem hidT_get{h:Heap}{H:Hp}{b:Addr}{o:Obj}(e:h.get? b=some o)(n:H b=none):(hidT h H).get? b=some o:=
 PySem.W.hideAll_get _ e λhm=>by
  have q:(H b).isSome=true:=(List.mem_filter.mp hm).2;rw[n] at q;simp at q
theorem of_hidT{h:Heap}{H:Hp}{b:Addr}{o:Obj}(e:(hidT h H).get? b=some o):h.get? b=some o/\H b=none:=by
 have e':h.get? b=some o:=PySem.W.of_hideAll (trk h H) e;refine⟨e',?_⟩;cases q:H b with
 | none=>rfl
 | some x=>
  have hm:b∈trk h H:=List.mem_filter.mpr ⟨List.mem_range.mpr (Heap.lt_size e'),by simp[q]⟩;have z:(hidT h H).get? b=none:=PySem.W.hideAll_none (trk h H) hm;rw[z] at e;cases e
def allNews(g h:Heap)(L:Addr):List (Addr×Obj):=(List.range h.objs.size).filterMap λa=>if a=L\/(g.get? a).isSome=true then none else (h.get? a).map λo=>(a,o)
def rest(g h:Heap)(L d:Addr):List (Addr×Obj):=(allNews g h L).filter λp=>decide (p.1≠d)
structure Mod(K:W.Frag)(mg:Str->Option Value)(base:Heap):Prop where
 kin:K.In base
 glob:base.Ns mainGlobals mg
 blt:∃mb,base.Ns builtinsNs mb/\∀x:Str,x≠"__name__"->mb x=bootBuiltins x
 nolimit:base.NoLimit
structure Cx where
 prog:Program
 w:World
 K:PySem.W.Frag
 mg:Str->Option Value
 base:Heap
 A:Around
 N:List Str
 s₀:Shared
 H₀:Hp
 env:Env
 outer:List Env
 stack:List Env
 ex:List Addr
 fn:Str->Bool
 calm:Bool
 pn:List (Addr×Obj)
 xe:Value->Shared->Prop
def frs(l:List Env):List Addr:=l.filterMap (·.frame)
abbrev Cx.fs(X:Cx):List Addr:=frs X.outer
def Vis(sc:Scope)(x:Str):Prop:=sc.names.lookup x=some .local\/sc.names.lookup x=some .cell\/sc.names.lookup x=some .free
def Loc(sc:Scope)(x:Str):Prop:=sc.names.lookup x=some .local\/sc.names.lookup x=some .cell
def Look(env:Env)(h:Heap)(m:Str->Option Value)(x:Str)(u:Value):Prop:=
 (env.kindOf x=some .local/\m x=some u)\/((env.kindOf x=some .cell\/env.kindOf x=some .free)/\∃c,env.cells.lookup x=some c/\h.IsCell c (some u))
structure Cx.Ok(X:Cx):Prop where
 mod:Mod X.K X.mg X.base
 kind:X.env.scope.kind=.function
 glob:X.env.globals=mainGlobals
 blt:X.env.builtins=builtinsNs
 above:X.s₀.heap.objs.size<=X.env.locals
 inj:∀x y c,X.env.cells.lookup x=some c->X.env.cells.lookup y=some c->x=y
 has:∀x,(X.env.kindOf x=some .cell\/X.env.kindOf x=some .free)->∃c,X.env.cells.lookup x=some c
 cab:∀x c,X.fn x=true->X.env.cells.lookup x=some c->X.s₀.heap.objs.size<=c
 hd:X.calm=true->X.A.handled=none
 frames:X.A.frames=some X.stack
 stk:X.stack=X.outer\/(X.stack=X.env::X.outer/\X.env.frame=some X.env.locals)
 exf:∀b∈X.ex,b≠X.env.locals/\∀x c,X.env.cells.lookup x=some c->c≠b
 bs:∀b o,X.base.get? b=some o->X.s₀.heap.get? b=some o/\X.H₀ b=none
 bsz:X.base.objs.size<=X.s₀.heap.objs.size
 noex:∀b o,X.base.get? b=some o->b∉X.ex
 exfs:∀b∈X.ex,b∉X.fs
 funs:X.s₀.heap.FunFrames X.base X.outer
 frf:∀b∈X.fs,X.H₀ b=none
structure Inv(X:Cx)(pins:List (Addr×Obj))(σ:List (Option V))(H:Hp)(s:Shared):Prop where
 ok:X.Ok
 os:s.os=X.s₀.os
 bare:AllBare s.gens
 base:Un X.fs X.ex X.H₀ H X.s₀.heap s.heap
 loc:∃m,s.heap.Ns X.env.locals m/\∀(i:Nat)(x:Str)(v:V),X.N[i]?=some x->σ[i]?=some (some v)->Vis X.env.scope x->∃u,RelV v u/\Look X.env s.heap m x u
 cell:∀x c,X.env.cells.lookup x=some c->∃v,s.heap.IsCell c v
 free:H X.env.locals=none
 freeC:∀x c,X.env.cells.lookup x=some c->H c=none
 pin:∀p∈X.pn++pins,s.heap.get? p.1=some p.2/\H p.1=none/\p.1≠X.env.locals/\p.1∉X.fs/\∀v,p.2.data≠.cell v
 hok:HOk X.prog X.w H s.heap
 len:σ.length=X.N.length
section
variable{X:Cx}{pins:List (Addr×Obj)}{σ:List (Option V)}{H H':Hp}{s:Shared}{h':Heap}
theorem Cx.Ok.nofr(ok:X.Ok){b:Addr}{o:Obj}(e:X.base.get? b=some o):b∉X.fs:=λhb=>by
 have:=(ok.funs.mem hb).1;rw[e] at this;cases this
theorem Inv.bs(I:Inv X pins σ H s):∀b o,X.base.get? b=some o->s.heap.get? b=some o/\H b=none:=λb o e=>
 ⟨I.base.keep b o (I.ok.bs b o e).1 (I.ok.bs b o e).2 (I.ok.nofr e) (I.ok.noex b o e),I.base.free b o (I.ok.bs b o e).1 (I.ok.bs b o e).2 (I.ok.noex b o e)⟩
theorem Inv.bk(I:Inv X pins σ H s):∀b o,X.base.get? b=some o->s.heap.get? b=some o:=λb o e=>(I.bs b o e).1
theorem Inv.mod(I:Inv X pins σ H s):Mod X.K X.mg X.base:=I.ok.mod
theorem Inv.kIn(I:Inv X pins σ H s):X.K.In s.heap:=I.ok.mod.kin.keeps I.bk
theorem Inv.lt(I:Inv X pins σ H s):X.env.locals<s.heap.objs.size:=let ⟨_,hn,_⟩:=I.loc;hn.lt
theorem Inv.sz(I:Inv X pins σ H s):X.s₀.heap.objs.size<=s.heap.objs.size:=Nat.le_trans I.ok.above (Nat.le_of_lt I.lt)
theorem Inv.nofs(I:Inv X pins σ H s){a:Addr}(h:s.heap.objs.size<=a):a∉X.fs:=λhb=>by
 obtain⟨_,o,ho,_⟩:=I.ok.funs.mem hb;exact absurd (Nat.lt_of_lt_of_le (Heap.lt_size ho) (Nat.le_trans I.sz h)) (Nat.lt_irrefl _)
theorem Inv.cne(I:Inv X pins σ H s):∀x c,X.env.cells.lookup x=some c->c≠X.env.locals:=λx c e z=>by
 obtain⟨v,o,ho,hd⟩:=I.cell x c e;obtain⟨m,⟨o',es,ep,ho',hd',_⟩,_⟩:=I.loc;rw[z,ho'] at ho;cases ho;rw[hd'] at hd;cases hd
theorem Inv.funs(I:Inv X pins σ H s):s.heap.FunFrames X.base X.outer:=by
 have all:∀(l:List Env),(∀b∈frs l,b∈X.fs)->X.s₀.heap.FunFrames X.base l->s.heap.FunFrames X.base l:=by
  intro l
  induction l with
  | nil=>intro _ _;trivial
  | cons env r ih=>
   intro hs hl;obtain⟨hk,⟨L,o,hf,hn,ho,hd⟩,hr⟩:=hl;have hL:L∈X.fs:=hs L (by unfold frs;rw[List.filterMap_cons,hf];exact List.mem_cons_self);obtain⟨sl,e⟩:=I.base.slot L o ho (I.ok.frf L hL) hL λz=>I.ok.exfs L z hL;exact⟨hk,⟨L,_,hf,hn,e,hd⟩,ih (λb hb=>hs b (by unfold frs;rw[List.filterMap_cons,hf];exact List.mem_cons_of_mem _ hb)) hr⟩
 exact all X.outer (λ_ hb=>hb) I.ok.funs
theorem Inv.stack(I:Inv X pins σ H s):s.heap.FunFrames X.base X.stack:=by
 rcases I.ok.stk with e|⟨e,hf⟩
 .rw[e];exact I.funs
 .rw[e];obtain⟨m,hn,_⟩:=I.loc;refine .cons (by rw[I.ok.kind];decide) hf hn ?_ I.funs;exact Heap.get?_none_of_le (Nat.le_trans I.ok.bsz I.ok.above)
theorem Inv.stkSub(I:Inv X pins σ H s):∀b∈frs X.stack,b∈X.env.locals::X.fs:=λb hb=>by
 rcases I.ok.stk with e|⟨e,hf⟩
 .rw[e] at hb;exact List.mem_cons_of_mem _ hb
 .rw[e] at hb;unfold frs at hb;rw[List.filterMap_cons,hf] at hb;exact hb
theorem Inv.stkFree(I:Inv X pins σ H s):∀b∈frs X.stack,H b=none:=λb hb=>by
 rcases List.mem_cons.mp (I.stkSub b hb) with e|hb
 .rw[e];exact I.free
 .obtain⟨_,o,ho,_⟩:=I.ok.funs.mem hb;exact I.base.free b o ho (I.ok.frf b hb) λz=>I.ok.exfs b z hb
theorem Inv.step{g':Array GenState}{t':Nat}{d':Drawn}{ch:List Addr}(I:Inv X pins σ H s)
  (hch:∀b∈ch,(b∈X.ex\/X.s₀.heap.objs.size<=b)/\b≠X.env.locals/\(∀x c,X.env.cells.lookup x=some c->c≠b)/\∀p∈X.pn++pins,p.1≠b)
  (keep:∀b o,b≠X.env.locals->b∉X.fs->b∉ch->s.heap.get? b=some o->H b=none->h'.get? b=some o)
  (slot:∀b o,b≠X.env.locals->b∈X.fs->b∉ch->s.heap.get? b=some o->H b=none->∃sl,h'.get? b=some {o with slots:=sl}) (free:∀b o,b∉ch->s.heap.get? b=some o->H b=none->H' b=none)
  (there:∀b o,b∉ch->s.heap.get? b=some o->∃o',h'.get? b=some o')
  (tups:∀b xs,H b=some (.tup xs)->H' b=some (.tup xs)) (frzs:∀b o u,H b=some (.frz o u)->H' b=some (.frz o u)) (tbls:∀b ps,H b=some (.tbl ps)->∃more,H' b=some (.tbl (ps++more)))
  (ns:∀m,s.heap.Ns X.env.locals m->h'.Ns X.env.locals m) (hok:HOk X.prog X.w H' h') (hg:AllBare g') :
  Inv X pins σ H' {s with heap:=h',gens:=g',drawn:=d',toks:=t'}:=by
 have neL:∀b o,X.s₀.heap.get? b=some o->b≠X.env.locals:=λb o e=>Nat.ne_of_lt (Nat.lt_of_lt_of_le (Heap.lt_size e) I.ok.above);have neC:∀b o,X.s₀.heap.get? b=some o->b∉X.ex->b∉ch:=λb o e hx hb=>by
  rcases(hch b hb).1 with z|z
  .exact hx z
  .exact absurd (Nat.lt_of_lt_of_le (Heap.lt_size e) z) (Nat.lt_irrefl _)
 have cellK:∀x c,X.env.cells.lookup x=some c->∀v,s.heap.IsCell c v->h'.IsCell c v:=λx c e v ⟨o,ho,hd⟩=>by
  have nch:c∉ch:=λz=>(hch c z).2.2.1 x c e rfl;by_cases hc:c∈X.fs
  .obtain⟨sl,q⟩:=slot c o (I.cne x c e) hc nch ho (I.freeC x c e);exact⟨_,q,hd⟩
  .exact⟨o,keep c o (I.cne x c e) hc nch ho (I.freeC x c e),hd⟩
 refine⟨I.ok,I.os,hg,⟨λb o e n hb hx=>?_,λb o e n hb hx=>?_,λb o e n hx=>?_,λb o e hx=>?_,λb xs e=>tups b xs (I.base.tups b xs e),λb o xs e=>frzs b o xs (I.base.frzs b o xs e),λb ps e=>?_⟩,?_,λx c e=>?_,?_,λx c e=>?_,λp hp=>?_,hok,I.len⟩
 .exact keep b o (neL b o e) hb (neC b o e hx) (I.base.keep b o e n hb hx) (I.base.free b o e n hx)
 .obtain⟨sl,e1⟩:=I.base.slot b o e n hb hx;obtain⟨sl',e2⟩:=slot b _ (neL b o e) hb (neC b o e hx) e1 (I.base.free b o e n hx);exact⟨sl',e2⟩
 .obtain⟨o',e1⟩:=I.base.there b o e hx;exact free b o' (neC b o e hx) e1 (I.base.free b o e n hx)
 .obtain⟨o',e1⟩:=I.base.there b o e hx;exact there b o' (neC b o e hx) e1
 .obtain⟨m1,e1⟩:=I.base.tbls b ps e;obtain⟨m2,e2⟩:=tbls b _ e1;exact⟨m1++m2,by rw[e2,Array.append_assoc]⟩
 .obtain⟨m,hn,hl⟩:=I.loc;refine⟨m,ns m hn,λi x v e1 e2 e3=>?_⟩;obtain⟨u,r,l⟩:=hl i x v e1 e2 e3;refine⟨u,r,?_⟩;rcases l with l|⟨k,c,e,z⟩
  .exact .inl l
  .exact .inr ⟨k,c,e,cellK x c e _ z⟩
 .obtain⟨v,z⟩:=I.cell x c e;exact⟨v,cellK x c e v z⟩
 .obtain⟨m,⟨o,_,_,ho,_⟩,_⟩:=I.loc;exact free _ o (λz=>(hch _ z).2.1 rfl) ho I.free
 .obtain⟨v,o,ho,hd⟩:=I.cell x c e;exact free c o (λz=>(hch c z).2.2.1 x c e rfl) ho (I.freeC x c e)
 .obtain⟨e,n,ne,nf,d⟩:=I.pin p hp;have nch:p.1∉ch:=λz=>(hch p.1 z).2.2.2 p hp rfl;exact⟨keep p.1 p.2 ne nf nch e n,free p.1 p.2 nch e n,ne,nf,d⟩
theorem Inv.un{t':Nat}(I:Inv X pins σ H s)(u:Un X.fs [] H H' s.heap h')(hok:HOk X.prog X.w H' h'):Inv X pins σ H' {s with heap:=h',toks:=t'}:=by
 obtain⟨m,⟨o,es,ep,ho,r⟩,_⟩:=id I.loc;obtain⟨sl,hL⟩:=u.any ho I.free (by simp);exact I.step (g':=s.gens) (d':=s.drawn) (ch:=[]) (λ_ z=>nomatch z) (λb o _ hb _ e n=>u.keep b o e n hb (by simp)) (λb o _ hb _ e n=>u.slot b o e n hb (by simp)) (λb o _ e n=>u.free b o e n (by simp)) (λb o _ e=>u.there b o e (by simp)) u.tups u.frzs u.tbls (λm' hm=>by
  obtain⟨o',es',ep',ho',r'⟩:=hm;rw[ho] at ho';cases ho';exact⟨_,es',ep',hL,r'⟩) hok I.bare
theorem Inv.call{g':Array GenState}{t':Nat}{d':Drawn}{ch:List Addr}(I:Inv X pins σ H s)(u:Un (frs X.stack) ch H H' s.heap h')(hok:HOk X.prog X.w H' h')(hg:AllBare g')
  (hch:∀b∈ch,(b∈X.ex\/X.s₀.heap.objs.size<=b)/\b≠X.env.locals/\(∀x c,X.env.cells.lookup x=some c->c≠b)/\∀p∈X.pn++pins,p.1≠b) :
  Inv X pins σ H' {s with heap:=h',gens:=g',drawn:=d',toks:=t'}:=by
 obtain⟨m,⟨o,es,ep,ho,r⟩,_⟩:=id I.loc;obtain⟨sl,hL⟩:=u.any ho I.free λz=>(hch _ z).2.1 rfl;exact I.step (ch:=ch) hch (λb o hL hb hc e n=>u.keep b o e n (λz=>(List.mem_cons.mp (I.stkSub b z)).elim hL hb) hc) (λb o _ _ hc e n=>u.any e n hc) (λb o hc e n=>u.free b o e n hc) (λb o hc e=>u.there b o e hc) u.tups u.frzs u.tbls (λm' hm=>by
  obtain⟨o',es',ep',ho',r'⟩:=hm;rw[ho] at ho';cases ho';exact⟨_,es',ep',hL,r'⟩) hok hg
theorem Inv.turned{t':Nat}{it:Addr}(I:Inv X pins σ H s)(k:∀b o,b≠it->s.heap.get? b=some o->h'.get? b=some o)(hn:H it=none)(hL:it≠X.env.locals)
  (h1:it∈X.ex\/X.s₀.heap.objs.size<=it) (h2:∀x c,X.env.cells.lookup x=some c->c≠it) (h3:∀p∈X.pn++pins,p.1≠it):Inv X pins σ H {s with heap:=h',toks:=t'}:=by
 have nit:∀b u,H b=some u->b≠it:=λb u e z=>by rw[z,hn] at e;cases e
 refine I.step (g':=s.gens) (d':=s.drawn) (ch:=[it]) (λb hb=>?_) (λb o _ _ hc e _=>k b o (λz=>hc (by simp[z])) e) (λb o _ _ hc e _=>⟨o.slots,k b o (λz=>hc (by simp[z])) e⟩) (λ_ _ _ _ n=>n)
  (λb o hc e=>⟨o,k b o (λz=>hc (by simp[z])) e⟩) (λ_ _ e=>e) (λ_ _ _ e=>e) (λb ps e=>⟨#[],by rw[e];simp⟩) (λm hm=>?_) (λb u e=>?_) I.bare
 .have e:b=it:=by simpa using hb
  subst e;exact⟨h1,hL,h2,h3⟩
 .obtain⟨o,es,ep,ho,r⟩:=hm;exact⟨o,es,ep,k _ o (Ne.symm hL) ho,r⟩
 .refine(I.hok b u e).stay (λc v hc q=>k c v ?_ q) (λ_ q=>q) λ_ _ q=>q;rcases hc with z|z
  .rw[z];exact nit b u e
  .exact nit c _ z
theorem Inv.tok(I:Inv X pins σ H s)(t:Nat):Inv X pins σ H {s with toks:=t}:=I.un (h':=s.heap) (t':=t) Un.refl I.hok
theorem Inv.kept{t':Nat}(I:Inv X pins σ H s)(k:∀b u,s.heap.get? b=some u->h'.get? b=some u):Inv X pins σ H {s with heap:=h',toks:=t'}:=I.un (Un.kept k) (I.hok.kept k)
theorem Inv.laid{a:Addr}{o:HO}{t':Nat}(I:Inv X pins σ H s)(k:∀b u,s.heap.get? b=some u->h'.get? b=some u)(hp:s.heap.objs.size<=a)(new:ObjOk X.prog X.w (upd H a o) h' a o) :
  Inv X pins σ (upd H a o) {s with heap:=h',toks:=t'}:=I.un (Un.laid k hp (I.hok.fresh hp)) (I.hok.laid k hp new)
theorem Inv.write{x e:Addr}{o:HO}{t':Nat}(I:Inv X pins σ H s)(mu:Mut (H x))(he:e=x\/H e=some (.own x))(k:∀b u,b≠e->s.heap.get? b=some u->h'.get? b=some u)(heo:∃u,h'.get? e=some u)
  (new:ObjOk X.prog X.w (upd H x o) h' x o):Inv X pins σ (upd H x o) {s with heap:=h',toks:=t'}:=I.un (Un.write mu he k heo) (I.hok.write mu he k heo new)
theorem Inv.pins_of{pins':List (Addr×Obj)}(I:Inv X pins σ H s)(h:∀p∈pins',s.heap.get? p.1=some p.2/\H p.1=none/\p.1≠X.env.locals/\p.1∉X.fs/\∀v,p.2.data≠.cell v):Inv X pins' σ H s:=
 ⟨I.ok,I.os,I.bare,I.base,I.loc,I.cell,I.free,I.freeC,λp hp=>(List.mem_append.mp hp).elim (λz=>I.pin p (List.mem_append_left _ z)) (h p),I.hok,I.len⟩
theorem nodup_ix{N:List Str}(hN:N.Nodup){i j:Nat}{x:Str}(a:N[i]?=some x)(b:N[j]?=some x):i=j:=by
 obtain⟨h1,e1⟩:=List.getElem?_eq_some_iff.mp a;obtain⟨h2,e2⟩:=List.getElem?_eq_some_iff.mp b;exact(List.getElem_inj hN).mp (e1.trans e2.symm)
theorem store_ok2{M:Model}{A:Around}{E:Value->Shared->Prop}{i:Nat}{x:Str}{v:V}{u:Value}{Q:Unit->Shared->Prop}(I:Inv X pins σ H s)(hN:X.N.Nodup)(hi:X.N[i]?=some x)(hx:Loc X.env.scope x)(r:RelV v u)
  (h:∀s',Inv X pins (σ.set i (some v)) H s'->(∃a,Heap.SameBut a s.heap s'.heap/\(a=X.env.locals\/X.env.cells.lookup x=some a))->Q () s') (hf:X.fn x=true\/X.env.scope.names.lookup x=some .local:=by first|exact .inl rfl|exact .inr rfl|assumption):wpAny M A (storeName X.env x u) Q E s:=by
 obtain⟨m,hn,hl⟩:=id I.loc;have hcls:(X.env.scope.kind==.class||(X.env.scope.kind==.module&&X.env.locals != X.env.globals))=false:=by rw[I.ok.kind];rfl
 have hiσ:i<σ.length:=by rw[I.len];exact(List.getElem?_eq_some_iff.mp hi).1
 have cne:=I.cne;have tracked:∀{a:Addr}{h':Heap},(∃o,s.heap.get? a=some o/\H a=none)->Heap.SameBut a s.heap h'->HOk X.prog X.w H h':=λ{a h'} ha hs b ob e=>by
  obtain⟨_,_,hfree⟩:=ha;refine(I.hok b ob e).stay (λc w' hc q=>(hs.2 c ?_).trans q) (λ_ q=>q) λ_ _ q=>q;rintro rfl;rcases hc with rfl|hc
  .rw[hfree] at e;cases e
  .rw[hfree] at hc;cases hc
 rcases hx with hk|hk
 .refine wpAny_storeName_local hk hn (λh' hn' hs=>?_) hcls;obtain⟨oL,_,_,hoL,_⟩:=id hn;refine h _ ⟨I.ok,I.os,I.bare,⟨λb o e n hb hx=>?_,λb o e n hb hx=>?_,I.base.free,λb o e hx=>?_,I.base.tups,I.base.frzs,I.base.tbls⟩,⟨_,hn',λj y v' e1 e2 e3=>?_⟩,λy c e=>?_,I.free,I.freeC,λp hp=>?_,tracked ⟨oL,hoL,I.free⟩ hs,by simpa using I.len⟩ ⟨_,hs,.inl rfl⟩
  .exact(hs.2 b (Nat.ne_of_lt (Nat.lt_of_lt_of_le (Heap.lt_size e) I.ok.above))).trans (I.base.keep b o e n hb hx)
  .obtain⟨sl,e1⟩:=I.base.slot b o e n hb hx;exact⟨sl,(hs.2 b (Nat.ne_of_lt (Nat.lt_of_lt_of_le (Heap.lt_size e) I.ok.above))).trans e1⟩
  .obtain⟨o',e1⟩:=I.base.there b o e hx;exact⟨o',(hs.2 b (Nat.ne_of_lt (Nat.lt_of_lt_of_le (Heap.lt_size e) I.ok.above))).trans e1⟩
  .by_cases hj:j=i
   .subst hj;rw[hi] at e1;cases e1;rw[List.getElem?_set_self hiσ] at e2;cases e2;exact⟨u,r,.inl ⟨hk,by simp⟩⟩
   .rw [List.getElem?_set_ne (Ne.symm hj)] at e2;obtain⟨u',r',q⟩:=hl j y v' e1 e2 e3;refine⟨u',r',?_⟩;rcases q with⟨k,e⟩|⟨k,c,e,z⟩
    .refine .inl ⟨k,?_⟩;have:y≠x:=λe=>hj (nodup_ix hN e1 (e ▸ hi));simp[this,e]
    .exact .inr ⟨k,c,e,z.sameBut hs (cne y c e)⟩
  .obtain⟨w',z⟩:=I.cell y c e;exact⟨w',z.sameBut hs (cne y c e)⟩
  .obtain⟨e,n,ne,nf,d⟩:=I.pin p hp;exact⟨(hs.2 p.1 ne).trans e,n,ne,nf,d⟩
 .have hfn:X.fn x=true:=by
   rcases hf with z|z
   .exact z
   .rw[z] at hk;cases hk
  obtain⟨c,hc⟩:=I.ok.has x (.inl hk);obtain⟨w',z⟩:=I.cell x c hc;refine wpAny_storeName_cell I.ok.kind hk hc z (λh' hc' hs=>?_);obtain⟨oc,hoc,hocd⟩:=id z;refine h {s with heap:=h'} ⟨I.ok,I.os,I.bare,⟨λb o e n hb hx=>?_,λb o e n hb hx=>?_,I.base.free,λb o e hx=>?_,I.base.tups,I.base.frzs,I.base.tbls⟩,⟨m,hn.sameBut hs (Ne.symm (cne x c hc)),λj y v' e1 e2 e3=>?_⟩,λy c' e=>?_,I.free,I.freeC,λp hp=>?_,tracked ⟨oc,hoc,I.freeC x c hc⟩ hs,by simpa using I.len⟩ ⟨c,hs,.inr hc⟩
  .exact(hs.2 b (Nat.ne_of_lt (Nat.lt_of_lt_of_le (Heap.lt_size e) (I.ok.cab x c hfn hc)))).trans (I.base.keep b o e n hb hx)
  .obtain⟨sl,e1⟩:=I.base.slot b o e n hb hx;exact⟨sl,(hs.2 b (Nat.ne_of_lt (Nat.lt_of_lt_of_le (Heap.lt_size e) (I.ok.cab x c hfn hc)))).trans e1⟩
  .obtain⟨o',e1⟩:=I.base.there b o e hx;exact⟨o',(hs.2 b (Nat.ne_of_lt (Nat.lt_of_lt_of_le (Heap.lt_size e) (I.ok.cab x c hfn hc)))).trans e1⟩
  .by_cases hj:j=i
   .subst hj;rw[hi] at e1;cases e1;rw[List.getElem?_set_self hiσ] at e2;cases e2;exact⟨u,r,.inr ⟨.inl hk,c,hc,hc'⟩⟩
   .rw [List.getElem?_set_ne (Ne.symm hj)] at e2;obtain⟨u',r',q⟩:=hl j y v' e1 e2 e3;refine⟨u',r',?_⟩;rcases q with q|⟨k,c',e,z'⟩
    .exact .inl q
    .refine .inr ⟨k,c',e,z'.sameBut hs ?_⟩;rintro rfl;exact hj (nodup_ix hN e1 (I.ok.inj _ _ _ e hc ▸ hi))
  .by_cases hcc:c'=c
   .subst hcc;exact⟨_,hc'⟩
   .obtain⟨w2,z2⟩:=I.cell y c' e;exact⟨w2,z2.sameBut hs hcc⟩
  .obtain⟨e,n,ne,nf,d⟩:=I.pin p hp;refine⟨(hs.2 p.1 ?_).trans e,n,ne,nf,d⟩;intro q;rw[q,hoc] at e;have q':oc=p.2:=Option.some.inj e;exact d w' (by rw[<-q'];exact hocd)
theorem store_ok{M:Model}{A:Around}{E:Value->Shared->Prop}{i:Nat}{x:Str}{v:V}{u:Value}{Q:Unit->Shared->Prop}(I:Inv X pins σ H s)(hN:X.N.Nodup)(hi:X.N[i]?=some x)(hx:Loc X.env.scope x)(r:RelV v u)
  (h:∀s',Inv X pins (σ.set i (some v)) H s'->Q () s') (hf:X.fn x=true\/X.env.scope.names.lookup x=some .local:=by first|exact .inl rfl|exact .inr rfl|assumption):wpAny M A (storeName X.env x u) Q E s:=
 store_ok2 I hN hi hx r (λs' I' _=>h s' I') hf
theorem Inv.call'{s':Shared}{ch:List Addr}(I:Inv X pins σ H s)(ho:s'.os=s.os)(u:Un (frs X.stack) ch H H' s.heap s'.heap)(hok:HOk X.prog X.w H' s'.heap)(hg:AllBare s'.gens)
  (hch:∀b∈ch,(b∈X.ex\/X.s₀.heap.objs.size<=b)/\b≠X.env.locals/\(∀x c,X.env.cells.lookup x=some c->c≠b)/\∀p∈X.pn++pins,p.1≠b):Inv X pins σ H' s':=by
 obtain⟨h',g',d',t',o'⟩:=s';have e:o'=s.os:=ho;subst e;exact I.call (g':=g') (t':=t') (d':=d') u hok hg hch
end
abbrev XK:=Value->Option Addr->Hp->Prop
abbrev St:=List (Option V)
abbrev VK:=V->Hp->Prop
abbrev TE:=St->Hp->VK->Prop
abbrev TT:=St->Hp->(Bool->Hp->Prop)->Prop
abbrev TA:=St->Hp->(List V->Hp->Prop)->Prop
structure Ends where
 nx:St->Hp->Prop
 rt:VK
 bk:St->Hp->Prop:=λ_ _=>False
 ct:St->Hp->Prop:=λ_ _=>False
abbrev TS:=Ends->St->Hp->Prop
def EP(X:Cx)(pins:List (Addr×Obj))(σ:St)(Q:VK)(u:Value)(s':Shared):Prop:=∃v H',Inv X pins σ H' s'/\RelV v u/\Q v H'
def TP(X:Cx)(pins:List (Addr×Obj))(σ:St)(Q:Bool->Hp->Prop)(b:Bool)(s':Shared):Prop:=∃H',Inv X pins σ H' s'/\Q b H'
def AP(X:Cx)(pins:List (Addr×Obj))(σ:St)(Q:List V->Hp->Prop)(us:List Value)(s':Shared):Prop:=∃vs H',Inv X pins σ H' s'/\Vals vs us/\Q vs H'
def SP(X:Cx)(pins:List (Addr×Obj))(D:Ends)(f:Flow)(s':Shared):Prop:=
 match f with
 | .next=>∃σ' H',Inv X pins σ' H' s'/\D.nx σ' H'
 | .brk=>∃σ' H',Inv X pins σ' H' s'/\D.bk σ' H'
 | .cont=>∃σ' H',Inv X pins σ' H' s'/\D.ct σ' H'
 | .ret u=>∃v σ' H',Inv X pins σ' H' s'/\RelV v u/\D.rt v H'
def PE(X:Cx)(e:Expr)(t:TE):Prop:=
 ∀(pins:List (Addr×Obj))(s:Shared)(σ:St)(H:Hp)(Q:VK),Inv X pins σ H s->t σ H Q->wpAny (model X.prog X.w) X.A (eval e X.env) (EP X pins σ Q) X.xe s
def PT(X:Cx)(e:Expr)(t:TT):Prop:=
 ∀(pins:List (Addr×Obj))(s:Shared)(σ:St)(H:Hp)(Q:Bool->Hp->Prop),Inv X pins σ H s->t σ H Q->wpAny (model X.prog X.w) X.A (isTrue e X.env (eval e X.env)) (TP X pins σ Q) X.xe s
def PW(X:Cx)(e:Expr)(t:TT):Prop:=
 ∀(whole:Sem Value)(pins:List (Addr×Obj))(s:Shared)(σ:St)(H:Hp)(Q:Bool->Hp->Prop),Inv X pins σ H s->t σ H Q->wpAny (model X.prog X.w) X.A (isTrue e X.env whole) (TP X pins σ Q) X.xe s
theorem PW.pt{X:Cx}{e:Expr}{t:TT}(h:PW X e t):PT X e t:=h _
def PA(X:Cx)(es:List Expr)(t:TA):Prop:=
 ∀(pos:Pos)(pins:List (Addr×Obj))(s:Shared)(σ:St)(H:Hp)(Q:List V->Hp->Prop),Inv X pins σ H s->t σ H Q->wpAny (model X.prog X.w) X.A (spliced (backTo pos (starEach es X.env))) (AP X pins σ Q) X.xe s
def PS(X:Cx)(st:Stmt)(t:TS):Prop:=
 ∀(pins:List (Addr×Obj))(s:Shared)(σ:St)(H:Hp)(D:Ends),Inv X pins σ H s->t D σ H->wpAny (model X.prog X.w) X.A (exec st X.env) (SP X pins D) X.xe s
def PSs(X:Cx)(st:List Stmt)(t:TS):Prop:=
 ∀(pins:List (Addr×Obj))(s:Shared)(σ:St)(H:Hp)(D:Ends),Inv X pins σ H s->t D σ H->wpAny (model X.prog X.w) X.A (execs st X.env) (SP X pins D) X.xe s
theorem thn{α:Type}{t:Sem α}{Q Q':α->Shared->Prop}{M:Model}{A:Around}{E:Value->Shared->Prop}{s:Shared}(h:wpAny M A t Q E s)(hQ:∀a s,Q a s->Q' a s):wpAny M A t Q' E s:=wpAny_mono h hQ λ_ _ x=>x
section
variable{X:Cx}
def tVar(i:Nat):TE:=λσ H Q=>∃v,σ[i]?=some (some v)/\Q v H
def tC(v:V):TE:=λ_ H Q=>Q v H
theorem pe_var{i:Nat}{x:Str}{pos:Pos}(hN:X.N[i]?=some x)(hv:Vis X.env.scope x)(hd:(x==("__debug__":Str))=false:=by decide)(hcd:(x==("__classdict__":Str))=false:=by decide):PE X (.Name x pos) (tVar i):=by
 intro pins s σ H Q I h;obtain⟨v,e,h⟩:=h;obtain⟨m,hn,hl⟩:=I.loc;obtain⟨u,r,l⟩:=hl i x v hN e hv;have fin:EP X pins σ Q u s:=⟨v,H,I,r,h⟩;rcases l with⟨hk,hm⟩|⟨hk,c,hc,hcell⟩
 .exact wpAny_Name (wpAny_loadName_local I.ok.kind hk hn hm fin) hd
 .rcases hk with hk|hk
  .exact wpAny_Name (wpAny_loadName_cell I.ok.kind hk hc hcell fin) hd
  .exact wpAny_Name (wpAny_loadName_free I.ok.kind hk hc hcell fin hcd) hd
theorem pe_int{i j pos}:PE X (.Constant (.int i) j pos) (tC (.int i)):=λ_ _ _ H _ I h=>wpAny_Constant_int ⟨.int i,H,I.tok _,⟨_,rfl⟩,h⟩
theorem pe_bl{b j pos}:PE X (.Constant (.bool b) j pos) (tC (.bl b)):=λ_ _ _ H _ I h=>Constant_bool ⟨.bl b,H,I,rfl,h⟩
theorem pe_non{j pos}:PE X (.Constant .none j pos) (tC .non):=λ_ _ _ H _ I h=>Constant_none ⟨.non,H,I,rfl,h⟩
theorem pe_str{x j pos}:PE X (.Constant (.str x) j pos) (tC (.str x)):=λ_ _ _ H _ I h=>Calls.Constant_str ⟨.str x,H,I.tok _,⟨_,rfl⟩,h⟩
def Gl(X:Cx)(x:Str):Prop:=X.env.kindOf x=some .globalImplicit
theorem ld_glob{E:Value->Shared->Prop}{pins:List (Addr×Obj)}{s:Shared}{σ:St}{H:Hp}{x:Str}{u:Value}{pos:Pos}{Q:Value->Shared->Prop}(I:Inv X pins σ H s)(hg:Gl X x)(hm:X.mg x=some u)(h:Q u s)
  (hd:(x==("__debug__":Str))=false:=by decide):wpAny (model X.prog X.w) X.A (eval (.Name x pos) X.env) Q E s:=
 Calls.Name_function_global I.ok.kind hg (Calls.loadGlobal_global (by rw[I.ok.glob];exact I.mod.glob.keeps I.bk) hm h) hd
theorem ld_blt{E:Value->Shared->Prop}{pins:List (Addr×Obj)}{s:Shared}{σ:St}{H:Hp}{x:Str}{u:Value}{pos:Pos}{Q:Value->Shared->Prop}(I:Inv X pins σ H s)(hg:Gl X x)(hm:X.mg x=none)(hv:bootBuiltins x=some u)(h:Q u s)
  (hn:x≠"__name__":=by decide) (hd:(x==("__debug__":Str))=false:=by decide):wpAny (model X.prog X.w) X.A (eval (.Name x pos) X.env) Q E s:=by
 obtain⟨mb,h1,h2⟩:=I.mod.blt;exact Calls.Name_function_global I.ok.kind hg (Calls.loadGlobal_builtin (by rw[I.ok.glob];exact I.mod.glob.keeps I.bk) hm (by rw[I.ok.blt];exact h1.keeps I.bk) ((h2 x hn).trans hv) h) hd
theorem pe_glob{x:Str}{v:V}{u:Value}{pos:Pos}(hg:Gl X x)(hm:X.mg x=some u)(r:RelV v u)(hd:(x==("__debug__":Str))=false:=by decide):PE X (.Name x pos) (tC v):=
 λ_ _ _ H _ I h=>ld_glob I hg hm ⟨v,H,I,r,h⟩ hd
def t2I(ta tb:TE)(k:Int->Int->Hp->Prop):St->Hp->Prop:=λσ H=>ta σ H λx H1=>tb σ H1 λy H2=>∃i j,x=.int i/\y=.int j/\k i j H2
def tAdd(ta tb:TE):TE:=λσ H Q=>t2I ta tb (λi j H2=>Q (.int (i+j)) H2) σ H
def tSub(ta tb:TE):TE:=λσ H Q=>t2I ta tb (λi j H2=>Q (.int (i-j)) H2) σ H
def tMul(ta tb:TE):TE:=λσ H Q=>t2I ta tb (λi j H2=>(-(2 ^ 64)<i/\i<2 ^ 64)/\Q (.int (i*j)) H2) σ H
variable{a b:Expr}{ta tb:TE}{pos:Pos}
def PC(X:Cx)(op:CmpOp)(a b:Expr)(t:TE):Prop:=
 ∀(pins:List (Addr×Obj))(s:Shared)(σ:St)(H:Hp)(Q:VK),Inv X pins σ H s->t σ H Q →
  wpAny (model X.prog X.w) X.A (eval a X.env) (λv s₁=>wpAny (model X.prog X.w) X.A (eval b X.env) (λu s₂=>wpAny (model X.prog X.w) X.A (compareOp op v u) (EP X pins σ Q) X.xe s₂) X.xe s₁) X.xe s
theorem nobehind(b:Expr){op:CmpOp}(h:op≠.In)(h2:op≠.NotIn):behindInMarks op b=false:=by
 have e1:(op==CmpOp.In)=false:=by cases op<;>first|rfl|exact absurd rfl h
 have e2:(op==CmpOp.NotIn)=false:=by cases op<;>first|rfl|exact absurd rfl h2
 cases b<;>simp[behindInMarks,e1,e2]
def tCmp(p:Int->Int->Bool)(ta tb:TE):TE:=λσ H Q=>t2I ta tb (λi j H2=>Q (.bl (p i j)) H2) σ H
abbrev tLt:TE->TE->TE:=tCmp λi j=>decide (i<j)
abbrev tLe:TE->TE->TE:=tCmp λi j=>decide (i<=j)
abbrev tGt:TE->TE->TE:=tCmp λi j=>decide (j<i)
abbrev tGe:TE->TE->TE:=tCmp λi j=>decide (j<=i)
abbrev tEqI:TE->TE->TE:=tCmp λi j=>decide (i=j)
abbrev tNeI:TE->TE->TE:=tCmp λi j=>!decide (i=j)
def tIsN(ta:TE):TE:=λσ H Q=>ta σ H λx H1=>Q (.bl (decide (x=.non))) H1
def tNotN(ta:TE):TE:=λσ H Q=>ta σ H λx H1=>Q (.bl (!decide (x=.non))) H1
theorem RelV.none_iff{x:V}{v:Value}(r:RelV x v):(v==Value.none)=decide (x=.non):=by
 cases x with
 | non=>cases r;rfl
 | bl _=>cases r;rfl
 | int _=>obtain⟨t,rfl⟩:=r;rfl
 | str _=>obtain⟨t,rfl⟩:=r;rfl
 | byt _=>obtain⟨t,rfl⟩:=r;rfl
 | flt _=>obtain⟨t,rfl⟩:=r;rfl
 | ref _=>cases r;rfl
 | ty _=>cases r;rfl
theorem pc_isN{j pos'}(ha:PE X a ta):PC X .Is a (.Constant .none j pos') (tIsN ta):=by
 intro pins s σ H Q I h;refine thn (ha pins s σ H _ I h) λv s1 ⟨x,H1,I1,r1,q1⟩=>?_;exact Constant_none (is_none_gen ⟨.bl _,H1,I1,by rw[r1.none_iff];rfl,q1⟩)
theorem pc_notN{j pos'}(ha:PE X a ta):PC X .IsNot a (.Constant .none j pos') (tNotN ta):=by
 intro pins s σ H Q I h;refine thn (ha pins s σ H _ I h) λv s1 ⟨x,H1,I1,r1,q1⟩=>?_;exact Constant_none (isnot_none_gen ⟨.bl _,H1,I1,by rw[r1.none_iff];rfl,q1⟩)
def tB(t:TE):TT:=λσ H Q=>t σ H λx H1=>∃c,x=.bl c/\Q c H1
theorem pe_cmp{op:CmpOp}{t:TE}(h:PC X op a b t)(h1:behindInMarks op b=false:=by first|exact nobehind _ (by decide) (by decide)|rfl):PE X (.Compare a [op] [b] pos) t:=λpins s σ H Q I hw=>wpAny_Compare1 (h pins s σ H Q I hw) h1
theorem pt_cmp{op:CmpOp}{t:TE}(h:PC X op a b t)(h1:behindInMarks op b=false:=by first|exact nobehind _ (by decide) (by decide)|rfl):PT X (.Compare a [op] [b] pos) (tB t):=by
 intro pins s σ H Q I hw;refine wpAny_isTrue_Compare1 (thn (h pins s σ H _ I hw) λv s1 h1=>thn h1 λu s2 h2=>thn h2 λc s3 ⟨x,H1,I1,r1,q1⟩=>?_) h1;obtain⟨d,rfl,q⟩:=q1;cases r1;exact wpAny_truthy_bool ⟨H1,I1,q⟩
theorem pt_val{e:Expr}{t:TE}(h:PE X e t)(he:∀whole,isTrue e X.env whole=(do let v <-whole;standAt e.pos;holding [v] (truthy v)):=by intro _;rfl):PT X e (tB t):=by
 intro pins s σ H Q I hw;refine isTrue_plain (thn (h pins s σ H _ I hw) λv s1 ⟨x,H1,I1,r1,q1⟩=>?_) (he _);obtain⟨d,rfl,q⟩:=q1;cases r1;exact wpAny_truthy_bool ⟨H1,I1,q⟩
variable{tA tB':TT}{rest:List Expr}
def tAnd(t u:TT):TT:=λσ H Q=>t σ H λc H1=>if c=true then u σ H1 Q else Q false H1
def tOr(t u:TT):TT:=λσ H Q=>t σ H λc H1=>if c=true then Q true H1 else u σ H1 Q
def tNot(t:TT):TT:=λσ H Q=>t σ H λc H1=>Q (!c) H1
theorem pw_and1(ha:PT X a tA):PW X (.BoolOp .And [a] pos) tA:=by
 intro wh pins s σ H Q I h;refine isTrue_and (thn (ha pins s σ H Q I h) λc s1 e=>?_);cases c with
 | true=>exact isTrue_and_nil e
 | false=>exact e
theorem pw_or1(ha:PT X a tA):PW X (.BoolOp .Or [a] pos) tA:=by
 intro wh pins s σ H Q I h;refine isTrue_or (thn (ha pins s σ H Q I h) λc s1 e=>?_);cases c with
 | false=>exact isTrue_or_nil e
 | true=>exact e
theorem pw_and(ha:PT X a tA)(hb:PW X (.BoolOp .And (b::rest) pos) tB'):PW X (.BoolOp .And (a::b::rest) pos) (tAnd tA tB'):=by
 intro wh pins s σ H Q I h;refine isTrue_and (thn (ha pins s σ H _ I h) λc s1 ⟨H1,I1,q1⟩=>?_);cases c with
 | true=>exact hb wh pins s1 σ H1 Q I1 q1
 | false=>exact⟨H1,I1,q1⟩
theorem pw_or(ha:PT X a tA)(hb:PW X (.BoolOp .Or (b::rest) pos) tB'):PW X (.BoolOp .Or (a::b::rest) pos) (tOr tA tB'):=by
 intro wh pins s σ H Q I h;refine isTrue_or (thn (ha pins s σ H _ I h) λc s1 ⟨H1,I1,q1⟩=>?_);cases c with
 | true=>exact⟨H1,I1,q1⟩
 | false=>exact hb wh pins s1 σ H1 Q I1 q1
theorem pt_not(ha:PT X a tA):PT X (.UnaryOp .Not a pos) (tNot tA):=by
 intro pins s σ H Q I h;exact isTrue_not (ha pins s σ H (λc H1=>Q (!c) H1) I h)
def tAndV(ta tb:TE):TE:=λσ H Q=>ta σ H λx H1=>∃c,x=.bl c/\if c=true then tb σ H1 Q else Q (.bl false) H1
def tOrV(ta tb:TE):TE:=λσ H Q=>ta σ H λx H1=>∃c,x=.bl c/\if c=true then Q (.bl true) H1 else tb σ H1 Q
def tNotV(ta:TE):TE:=λσ H Q=>ta σ H λx H1=>∃c,x=.bl c/\Q (.bl (!c)) H1
theorem pe_one{op}{t:TE}(h:PE X a t):PE X (.BoolOp op [a] pos) t:=λpins s σ H Q I hw=>BoolOp_one (h pins s σ H Q I hw)
theorem pe_and(ha:PE X a ta)(hb:PE X (.BoolOp .And (b::rest) pos) tb):PE X (.BoolOp .And (a::b::rest) pos) (tAndV ta tb):=by
 intro pins s σ H Q I h;refine BoolOp_and (thn (ha pins s σ H _ I h) λv s1 ⟨x,H1,I1,r1,q1⟩=>?_);obtain⟨c,rfl,q1⟩:=q1;cases r1;refine wpAny_truthy_bool ?_;cases c with
 | true=>exact hb pins s1 σ H1 Q I1 q1
 | false=>exact⟨.bl false,H1,I1,rfl,q1⟩
theorem pe_or(ha:PE X a ta)(hb:PE X (.BoolOp .Or (b::rest) pos) tb):PE X (.BoolOp .Or (a::b::rest) pos) (tOrV ta tb):=by
 intro pins s σ H Q I h;refine BoolOp_or (thn (ha pins s σ H _ I h) λv s1 ⟨x,H1,I1,r1,q1⟩=>?_);obtain⟨c,rfl,q1⟩:=q1;cases r1;refine wpAny_truthy_bool ?_;cases c with
 | false=>exact hb pins s1 σ H1 Q I1 q1
 | true=>exact⟨.bl true,H1,I1,rfl,q1⟩
def tIf(t:TT)(ta tb:TE):TE:=λσ H Q=>t σ H λc H1=>if c=true then ta σ H1 Q else tb σ H1 Q
theorem pe_ifExp{c:Expr}(hc:PT X c tA)(ha:PE X a ta)(hb:PE X b tb):PE X (.IfExp c a b pos) (tIf tA ta tb):=by
 intro pins s σ H Q I h;refine wpAny_IfExp (thn (hc pins s σ H _ I h) λd s1 ⟨H1,I1,q1⟩=>?_);cases d with
 | true=>exact ha pins s1 σ H1 Q I1 q1
 | false=>exact hb pins s1 σ H1 Q I1 q1
end
def SqL(K:W.Frag)(H:Hp)(a:Addr)(xs:List V):Prop:=
 Rd H a (.lst xs) ∨
  ∃(o:Obj)(its:Array Value)(n:Nat),K.lookup a=some o/\o.cls=.type "list"/\o.dict=none/\o.data=.seq its n/\its.size<=sizeLine/\Vals xs its.toList
def SqT(K:W.Frag)(H:Hp)(a:Addr)(xs:List V):Prop:=
 Rd H a (.tup xs) ∨
  ∃(o:Obj)(its:Array Value)(n:Nat),K.lookup a=some o/\o.cls=.type "tuple"/\o.data=.seq its n/\its.size<=sizeLine/\Vals xs its.toList
def absV:Value->Option V
 | .none=>some .non
 | .bool b=>some (.bl b)
 | .int i _=>some (.int i)
 | .str x _=>some (.str x)
 | .bytes b _=>some (.byt b)
 | .float b _=>some (.flt b)
 | .ref a=>some (.ref a)
 | .type n=>some (.ty n)
 | _=>none
theorem RelV.abs{x:V}{u:Value}(r:RelV x u):absV u=some x:=by
 cases x with
 | non=>cases r;rfl
 | bl _=>cases r;rfl
 | int _=>obtain⟨t,rfl⟩:=r;rfl
 | str _=>obtain⟨t,rfl⟩:=r;rfl
 | byt _=>obtain⟨t,rfl⟩:=r;rfl
 | flt _=>obtain⟨t,rfl⟩:=r;rfl
 | ref _=>cases r;rfl
 | ty _=>cases r;rfl
theorem RelV.inj{x y:V}{u:Value}(r:RelV x u)(q:RelV y u):x=y:=Option.some.inj (r.abs.symm.trans q.abs)
theorem Vals.abs{xs:List V}{us:List Value}(h:Vals xs us):us.map absV=xs.map some:=by
 induction h with
 | nil=>rfl
 | cons r _ ih=>rw[List.map_cons,List.map_cons,r.abs,ih]
theorem Vals.inj{xs ys:List V}{us:List Value}(h:Vals xs us)(g:Vals ys us):xs=ys:=
 (List.map_inj_right λ_ _ e=>Option.some.inj e).mp (h.abs.symm.trans g.abs)
section
variable{X:Cx}{pins:List (Addr×Obj)}{σ:St}{H:Hp}{s:Shared}{a:Addr}{xs ys:List V}
theorem SqL.of{K:W.Frag}(h:H a=some (.lst xs)):SqL K H a xs:=.inl (.inl h)
theorem SqT.of{K:W.Frag}(h:H a=some (.tup xs)):SqT K H a xs:=.inl (.inl h)
theorem Inv.list(I:Inv X pins σ H s)(h:SqL X.K H a xs):∃its:List Value,Vals xs its/\PlainL s.heap a its.toArray/\xs.length<=sizeLine:=by
 rcases h with h|⟨o,its,n,hk,hc,hd,hs,hz,r⟩
 .obtain⟨z,its,n,r,e⟩:=h.ok I.hok;exact⟨its,r,⟨_,n,e,rfl,rfl,rfl⟩,z⟩
 .refine⟨its.toList,r,⟨o,n,I.kIn a o hk,hc,hd,by simpa using hs⟩,?_⟩;have e:=r.length;simp only[Array.length_toList] at e;omega
theorem Inv.tuple(I:Inv X pins σ H s)(h:SqT X.K H a xs):∃its:List Value,Vals xs its/\IsTup s.heap a its.toArray/\xs.length<=sizeLine:=by
 rcases h with h|⟨o,its,n,hk,hc,hs,hz,r⟩
 .obtain⟨z,its,r,p⟩:=h.ok I.hok;exact⟨its,r,p,z⟩
 .refine⟨its.toList,r,⟨o,I.kIn a o hk,hc,n,by simpa using hs⟩,?_⟩;have e:=r.length;simp only[Array.length_toList] at e;omega
theorem Inv.list_inj(I:Inv X pins σ H s)(h:SqL X.K H a xs)(h':SqL X.K H a ys):xs=ys:=by
 obtain⟨its,r,⟨o,n,e,_,_,d⟩,_⟩:=I.list h;obtain⟨its',r',⟨o',n',e',_,_,d'⟩,_⟩:=I.list h';rw[e] at e';cases e';rw[d] at d';injection d' with d1 _
 have:its=its':=by simpa using congrArg Array.toList d1
 subst this;exact r.inj r'
theorem Inv.tuple_inj(I:Inv X pins σ H s)(h:SqT X.K H a xs)(h':SqT X.K H a ys):xs=ys:=by
 obtain⟨its,r,⟨o,e,_,n,d⟩,_⟩:=I.tuple h;obtain⟨its',r',⟨o',e',_,n',d'⟩,_⟩:=I.tuple h';rw[e] at e';cases e';rw[d] at d';injection d' with d1 _
 have:its=its':=by simpa using congrArg Array.toList d1
 subst this;exact r.inj r'
end
abbrev Cx.wish(X:Cx)(E:Value->Shared->Prop):Cx:={X with xe:=E}
abbrev Cx.nox(X:Cx):Cx:=X.wish λ_ _=>False
theorem Cx.Ok.wish{X:Cx}(ok:X.Ok)(E:Value->Shared->Prop):(X.wish E).Ok:=
 ⟨ok.mod,ok.kind,ok.glob,ok.blt,ok.above,ok.inj,ok.has,ok.cab,ok.hd,ok.frames,ok.stk,ok.exf,ok.bs,ok.bsz,ok.noex,ok.exfs,ok.funs,ok.frf⟩
theorem Cx.Ok.unwish{X:Cx}{E:Value->Shared->Prop}(ok:(X.wish E).Ok):X.Ok:=
 ⟨ok.mod,ok.kind,ok.glob,ok.blt,ok.above,ok.inj,ok.has,ok.cab,ok.hd,ok.frames,ok.stk,ok.exf,ok.bs,ok.bsz,ok.noex,ok.exfs,ok.funs,ok.frf⟩
section
variable{X:Cx}{pins:List (Addr×Obj)}{σ:St}{H:Hp}{s:Shared}{E:Value->Shared->Prop}
theorem Inv.wish(I:Inv X pins σ H s)(E:Value->Shared->Prop):Inv (X.wish E) pins σ H s:=⟨I.ok.wish E,I.os,I.bare,I.base,I.loc,I.cell,I.free,I.freeC,I.pin,I.hok,I.len⟩
theorem Inv.unwish(I:Inv (X.wish E) pins σ H s):Inv X pins σ H s:=⟨I.ok.unwish,I.os,I.bare,I.base,I.loc,I.cell,I.free,I.freeC,I.pin,I.hok,I.len⟩
theorem SP.unwish{D:Ends}{f:Flow}{s':Shared}(h:SP (X.wish E) pins D f s'):SP X pins D f s':=by
 cases f with
 | next=>obtain⟨σ',H',I,q⟩:=h;exact⟨σ',H',I.unwish,q⟩
 | brk=>obtain⟨σ',H',I,q⟩:=h;exact⟨σ',H',I.unwish,q⟩
 | cont=>obtain⟨σ',H',I,q⟩:=h;exact⟨σ',H',I.unwish,q⟩
 | ret u=>obtain⟨v,σ',H',I,r,q⟩:=h;exact⟨v,σ',H',I.unwish,r,q⟩
theorem PSs.nox{st:List Stmt}{t:TS}(h:PSs X.nox st t):PSs X st t:=λpins s σ H D I hw=>
 wpAny_mono (h pins s σ H D (I.wish _) hw) (λ_ _ q=>q.unwish) λ_ _ z=>False.elim z
end
section
variable{X:Cx}{st:Stmt}{rest:List Stmt}{t u:TS}{e:Expr}{te:TE}{pos:Pos}
def tNext:TS:=λD σ H=>D.nx σ H
def tSeq(t u:TS):TS:=λD σ H=>t {D with nx:=u D} σ H
theorem pss_nil:PSs X [] tNext:=λ_ _ σ H _ I h=>wpAny_execs_nil ⟨σ,H,I,h⟩
theorem pss_cons(h1:PS X st t)(h2:PSs X rest u):PSs X (st::rest) (tSeq t u):=by
 intro pins s σ H D I h;refine wpAny_execs_cons (thn (h1 pins s σ H {D with nx:=u D} I h) λf s1 q=>?_);cases f with
 | next=>
  obtain⟨σ',H',I',q⟩:=q;exact h2 pins s1 σ' H' D I' q
 | ret v=>exact q
 | brk=>exact q
 | cont=>exact q
theorem pss_one(h1:PS X st t):PSs X [st] t:=by
 intro pins s σ H D I h;refine wpAny_execs_cons (thn (h1 pins s σ H D I h) λf s1 q=>?_);cases f with
 | next=>exact wpAny_execs_nil q
 | ret v=>exact q
 | brk=>exact q
 | cont=>exact q
def tBreak:TS:=λD σ H=>D.bk σ H
def tCont:TS:=λD σ H=>D.ct σ H
theorem Inv.quiet{pins:List (Addr×Obj)}{σ:St}{H:Hp}{s:Shared}(I:Inv X pins σ H s):interactive X.env=false:=by simp[interactive,I.ok.kind]
def tDrop(te:TE):TS:=λD σ H=>te σ H λ_ H1=>D.nx σ H1
theorem ps_expr(he:PE X e te)(hs:swapsWith e none pos.line X.env=pure false:=by rfl):PS X (.Expr e pos) (tDrop te):=by
 intro pins s σ H D I h;exact wpAny_Expr_any (thn (he pins s σ H _ I h) λv s1 ⟨x,H1,I1,r1,q1⟩=>⟨σ,H1,I1,q1⟩) I.quiet hs
def tRet(te:TE):TS:=λD σ H=>te σ H D.rt
theorem ps_ret(he:PE X e te):PS X (.Return (some e) pos) (tRet te):=by
 intro pins s σ H D I h;exact wpAny_Return_some (thn (he pins s σ H _ I h) λv s1 ⟨x,H1,I1,r1,q1⟩=>⟨x,σ,H1,I1,r1,q1⟩)
def tRetN:TS:=λD _ H=>D.rt .non H
theorem ps_retN:PS X (.Return none pos) tRetN:=λ_ _ σ H _ I h=>wpAny_Return_none ⟨.non,σ,H,I,rfl,h⟩
def tIfS(c:TT)(t u:TS):TS:=λD σ H=>c σ H λb H1=>if b=true then t D σ H1 else u D σ H1
theorem ps_if{c:Expr}{a b:List Stmt}{tc:TT}(hc:PT X c tc)(ha:PSs X a t)(hb:PSs X b u):PS X (.If c a b pos) (tIfS tc t u):=by
 intro pins s σ H D I h;refine wpAny_If (thn (hc pins s σ H _ I h) λd s1 ⟨H1,I1,q1⟩=>?_);cases d with
 | true=>exact ha pins s1 σ H1 D I1 q1
 | false=>exact hb pins s1 σ H1 D I1 q1
def tNever:TS:=λ_ _ _=>False
end
abbrev TG:=V->St->Hp->(St->Hp->Prop)->Prop
abbrev TGs:=List V->St->Hp->(St->Hp->Prop)->Prop
def PG(X:Cx)(target:Expr)(t:TG):Prop:=
 ∀(pins:List (Addr×Obj))(s:Shared)(σ:St)(H:Hp)(v:V)(u:Value)(Q:St->Hp->Prop),Inv X pins σ H s->RelV v u->t v σ H Q →
  wpAny (model X.prog X.w) X.A (assign target X.env u) (λ_ s'=>∃σ' H',Inv X pins σ' H' s'/\Q σ' H') X.xe s
def PGs(X:Cx)(ts:List Expr)(t:TGs):Prop:=
 ∀(pins:List (Addr×Obj))(s:Shared)(σ:St)(H:Hp)(vs:List V)(us:List Value)(Q:St->Hp->Prop),Inv X pins σ H s->Vals vs us->t vs σ H Q →
  wpAny (model X.prog X.w) X.A (assignInOrder ((assignEach ts X.env).map (·.2)) us) (λ_ s'=>∃σ' H',Inv X pins σ' H' s'/\Q σ' H') X.xe s
abbrev TSet:=V->V->V->Hp->(Hp->Prop)->Prop
def PSet(X:Cx)(t:TSet):Prop:=
 ∀(pins:List (Addr×Obj))(s:Shared)(σ:St)(H:Hp)(o i v:V)(ov iv u:Value)(Q:Hp->Prop),Inv X pins σ H s->RelV o ov->RelV i iv->RelV v u->t o i v H Q →
  wpAny (model X.prog X.w) X.A (setItem ov iv u) (λ_ s'=>∃H',Inv X pins σ H' s'/\Q H') X.xe s
abbrev TIp:=V->V->Hp->VK->Prop
def PIp(X:Cx)(op:Operator)(t:TIp):Prop:=
 ∀(pins:List (Addr×Obj))(s:Shared)(σ:St)(H:Hp)(x y:V)(v u:Value)(Q:VK),Inv X pins σ H s->RelV x v->RelV y u->t x y H Q →
  wpAny (model X.prog X.w) X.A (inplaceOp op v u) (EP X pins σ Q) X.xe s
section
variable{X:Cx}{pos:Pos}
def gName(i:Nat):TG:=λv σ H Q=>Q (σ.set i (some v)) H
theorem pg_name{i:Nat}{x:Str}(hN:X.N.Nodup)(hi:X.N[i]?=some x)(hx:Loc X.env.scope x)(hf:X.fn x=true\/X.env.scope.names.lookup x=some .local:=by first|exact .inl rfl|exact .inr rfl|assumption):PG X (.Name x pos) (gName i):=by
 intro pins s σ H v u Q I r h;exact wpAny_assign_Name (store_ok I hN hi hx r (λs' I'=>⟨_,H,I',h⟩) hf)
def gNil:TGs:=λvs σ H Q=>vs=[]/\Q σ H
def gCons(t:TG)(u:TGs):TGs:=λvs σ H Q=>∃v r,vs=v::r/\t v σ H λσ' H'=>u r σ' H' Q
theorem pgs_nil:PGs X [] gNil:=by
 intro pins s σ H vs us Q I r h;obtain⟨e,h⟩:=h;subst e;cases r;exact assignInOrder_nil ⟨σ,H,I,h⟩
theorem pgs_cons{e:Expr}{es:List Expr}{t:TG}{u:TGs}(h1:PG X e t)(h2:PGs X es u)
  (hs:(assignEach (e::es) X.env).map (·.2)=assign e X.env::(assignEach es X.env).map (·.2):=by rfl):PGs X (e::es) (gCons t u):=by
 intro pins s σ H vs us Q I r h;obtain⟨v,vr,e1,h⟩:=h;subst e1;cases r with
 | cons r rr=>
  rw[hs];refine assignInOrder_cons (thn (h1 pins s σ H _ _ _ I r h) λ_ s1 ⟨σ1,H1,I1,q1⟩=>?_);exact h2 pins s1 σ1 H1 _ _ Q I1 rr q1
def gTup(K:W.Frag)(n:Nat)(t:TGs):TG:=λv σ H Q=>∃a xs,v=.ref a/\SqT K H a xs/\xs.length=n/\t xs σ H Q
theorem pg_tup{es:List Expr}{k:Nat}{t:TGs}{n:Nat}(hc:X.calm=true)(h:PGs X es t)
  (hn:(assignEach es X.env).length=n:=by rfl) (hst:(assignEach es X.env).findIdx? (·.1)=none:=by rfl):PG X (.Tuple es k pos) (gTup X.K n t):=by
 intro pins s σ H v u Q I r hw;obtain⟨a,xs,e1,hq,hl,hw⟩:=hw;subst e1;cases r;obtain⟨its,rv,ht,hz⟩:=I.tuple hq;refine assign_Tuple_tuple (I.ok.hd hc) ht (by simp[hn,<-hl,rv.length]) hst λh' hx=>?_;have I1:Inv X pins σ H {s with heap:=h'}:=I.kept (t':=s.toks) λb o e=>hx b o (Nat.ne_of_lt (Heap.lt_size e)) e;exact h pins _ σ H xs _ Q I1 (by simpa using rv) hw
def gSub(to ti:TE)(t:TSet):TG:=λv σ H Q=>to σ H λo H1=>ti σ H1 λi H2=>t o i v H2 λH3=>Q σ H3
def tAsg(te:TE)(g:TG):TS:=λD σ H=>te σ H λx H1=>g x σ H1 D.nx
theorem ps_asg{tg e:Expr}{te:TE}{g:TG}(he:PE X e te)(hg:PG X tg g)(hs:swapsWithSole [tg] e pos.line X.env=pure false:=by rfl)(hw:swappedStores [tg] e X.env=pure none:=by rfl)
  (h1:(assignEach [tg] X.env).map (·.2)=[assign tg X.env]:=by rfl):PS X (.Assign [tg] e pos) (tAsg te g):=by
 intro pins s σ H D I h;refine wpAny_Assign_stores (thn (he pins s σ H _ I h) λv s1 ⟨x,H1,I1,r1,q1⟩=>?_) hs hw;rw[h1];exact thn (hg pins s1 σ H1 x v _ I1 r1 q1) λ_ s2 q=>q
theorem ps_set{i:Nat}{x:Str}{e:Expr}{te:TE}{pos':Pos}(hN:X.N.Nodup)(hi:X.N[i]?=some x)(hx:Loc X.env.scope x)(he:PE X e te)(hs:swapsWith e (some (.Name x pos')) pos.line X.env=pure false:=by rfl)(hf:X.fn x=true\/X.env.scope.names.lookup x=some .local:=by first|exact .inl rfl|exact .inr rfl|assumption) :
  PS X (.Assign [.Name x pos'] e pos) (tAsg te (gName i)):=by
 intro pins s σ H D I h;refine wpAny_Assign_Name (thn (he pins s σ H _ I h) λv s1 ⟨y,H1,I1,r1,q1⟩=>?_) hs;exact store_ok I1 hN hi hx r1 (λs2 I2=>⟨_,H1,I2,q1⟩) hf
def tPar(i j:Nat)(ta:TA):TS:=λD σ H=>ta σ H λvs H1=>∃v w,vs=[v,w]/\D.nx ((σ.set i (some v)).set j (some w)) H1
def tAug(i:Nat)(te:TE)(ti:TIp):TS:=λD σ H=>∃x,σ[i]?=some (some x)/\te σ H λy H1=>ti x y H1 λz H2=>D.nx (σ.set i (some z)) H2
def tAugS(to ti te:TE)(tget:V->V->Hp->VK->Prop)(tip:TIp)(tset:TSet):TS:=λD σ H=>to σ H λo H1=>ti σ H1 λi H2=>tget o i H2 λx H3=>te σ H3 λy H4=>tip x y H4 λz H5=>tset o i z H5 λH6=>D.nx σ H6
def PGet(X:Cx)(t:V->V->Hp->VK->Prop):Prop:=
 ∀(pins:List (Addr×Obj))(s:Shared)(σ:St)(H:Hp)(o i:V)(ov iv:Value)(Q:VK),Inv X pins σ H s->RelV o ov->RelV i iv->t o i H Q →
  wpAny (model X.prog X.w) X.A (getItem ov iv) (EP X pins σ Q) X.xe s
def ipI(f:Int->Int->Int):TIp:=λx y H Q=>∃i j,x=.int i/\y=.int j/\Q (.int (f i j)) H
def tWhile(c:TT)(tb:TS):TS:=λD σ H=>∃W:Nat->St->Hp->Prop,(∃m,W m σ H)/\∀m σ H,W m σ H →
 c σ H λb H1=>if b=true then ∃N:St->Hp->Prop,(∀σ' H',N σ' H'->∃m',m'<m/\W m' σ' H')/\tb {D with nx:=N,ct:=N,bk:=D.nx} σ H1 else D.nx σ H1
theorem ps_while{c:Expr}{body:List Stmt}{tc:TT}{tb:TS}(hp:PassesOwn (model X.prog X.w) X.A X.env X.xe)(hc:PT X c tc)(hb:PSs X body tb):PS X (.While c body [] pos) (tWhile tc tb):=by
 intro pins s σ H D I h;obtain⟨W,⟨m0,w0⟩,turn⟩:=h;refine wpAny_While (codeAny_whileLoop (λn s'=>∃σ' H',Inv X pins σ' H' s'/\W n σ' H') ?_ m0 ⟨σ,H,I,w0⟩);rintro n s1 ⟨σ1,H1,I1,w1⟩;refine wpAny_passesOwn hp (thn (hc pins s1 σ1 H1 _ I1 (turn n σ1 H1 w1)) λb s2 ⟨H2,I2,q2⟩=>?_);cases b with
 | true=>
  obtain⟨N,hN,q2⟩:=q2;rw[if_pos rfl];refine wpAny_passesOwn hp (thn (hb pins s2 σ1 H2 _ I2 q2) λf s3 q3=>?_);cases f with
  | next=>
   obtain⟨σ3,H3,I3,n3⟩:=q3;obtain⟨m',hm,w3⟩:=hN σ3 H3 n3;exact⟨m',hm,σ3,H3,I3,w3⟩
  | cont=>
   obtain⟨σ3,H3,I3,n3⟩:=q3;obtain⟨m',hm,w3⟩:=hN σ3 H3 n3;exact⟨m',hm,σ3,H3,I3,w3⟩
  | brk=>exact q3
  | ret v=>exact q3
 | false=>
  rw[if_neg Bool.false_ne_true];exact wpAny_execs_nil ⟨σ1,H2,I2,q2⟩
end
structure It where
 go:Nat->Hp->Prop
 yld:Nat->Hp->V->Hp->Prop
 stop:Nat->Hp->Prop
def FpOk(X:Cx)(pins:List (Addr×Obj))(H:Hp)(b:Addr):Prop:=
 H b=none/\b≠X.env.locals/\b∉X.fs/\(b∈X.ex\/X.s₀.heap.objs.size<=b)/\(∀x c,X.env.cells.lookup x=some c->c≠b)/\∀p∈X.pn++pins,p.1≠b
theorem Inv.fpOk{X:Cx}{pins:List (Addr×Obj)}{σ:St}{H H':Hp}{s:Shared}{b:Addr}(I:Inv X pins σ H s)(hb:s.heap.objs.size<=b)(hn:H' b=none):FpOk X pins H' b:=by
 refine⟨hn,Nat.ne_of_gt (Nat.lt_of_lt_of_le I.lt hb),I.nofs hb,.inr (Nat.le_trans I.sz hb),λx c e z=>?_,λp hp z=>?_⟩
 .obtain⟨v,q⟩:=I.cell x c e;exact absurd (Nat.lt_of_lt_of_le q.lt (by rw[z];exact hb)) (Nat.lt_irrefl _)
 .exact absurd (Nat.lt_of_lt_of_le (Heap.lt_size (I.pin p hp).1) (by rw[z];exact hb)) (Nat.lt_irrefl _)
structure Turn(P:Program)(w:World)(K:W.Frag)(tg:Expr)(J:It)(fp:List Addr)(it:Addr)(tn:Nat->Heap->Prop):Prop where
 mem:it∈fp
 obj:∀i h,tn i h->∀b∈fp,∃o,h.get? b=some o/\∀v,o.data≠.cell v
 keep:∀i h h',tn i h->(∀b∈fp,∀o,h.get? b=some o->h'.get? b=some o)->tn i h'
 item:∀(X:Cx),X.prog=P->X.w=w->X.K=K->X.calm=true->∀(i:Nat)(pins:List (Addr×Obj))(s:Shared)(σ:St)(H:Hp)(E:Value->Shared->Prop),Inv X pins σ H s->(∀b∈fp,FpOk X pins H b)->tn i s.heap->J.go i H →
  wpAny (model P w) X.A (pyNext (.ref it)) (λr s1=>∃u,r=some u ∧
   wpAny (model P w) X.A (letOwnedTupleGo tg (.ref it) u) (λ_ s2=>∃x H',Inv X pins σ H' s2/\RelV x u/\J.yld i H x H'/\tn (i+1) s2.heap/\∀b∈fp,H' b=none) E s1) E s
 done:∀(X:Cx),X.prog=P->X.w=w->X.K=K->X.calm=true->∀(i:Nat)(pins:List (Addr×Obj))(s:Shared)(σ:St)(H:Hp)(E:Value->Shared->Prop),Inv X pins σ H s->(∀b∈fp,FpOk X pins H b)->tn i s.heap->J.stop i H →
  wpAny (model P w) X.A (pyNext (.ref it)) (λr s1=>r=none/\Inv X pins σ H s1) E s
 self:∀(A:Around)(i:Nat)(s:Shared)(Q:Value->Shared->Prop)(E:Value->Shared->Prop),tn i s.heap->Q (.ref it) s->wpAny (model P w) A (pyIter (.ref it)) Q E s
abbrev TI:=St->Hp->(It->Hp->Prop)->Prop
def PIE(X:Cx)(pins:List (Addr×Obj))(σ:St)(tg:Expr)(R:It->Hp->Prop)(itv:Value)(s2:Shared):Prop:=
 ∃(it:Addr)(fp:List Addr)(tn:Nat->Heap->Prop)(J:It)(H':Hp),itv=.ref it/\Inv X pins σ H' s2/\Turn X.prog X.w X.K tg J fp it tn/\tn 0 s2.heap/\(∀b∈fp,FpOk X pins H' b)/\R J H'
def PI(X:Cx)(tg iter:Expr)(wi:TI):Prop:=
 ∀(pins:List (Addr×Obj))(s:Shared)(σ:St)(H:Hp)(R:It->Hp->Prop),Inv X pins σ H s->wi σ H R →
  wpAny (model X.prog X.w) X.A (eval iter X.env) (λv s1=>wpAny (model X.prog X.w) X.A (pyIter v) (PIE X pins σ tg R) X.xe s1) X.xe s
theorem go_of{M:Model}{A:Around}{E:Value->Shared->Prop}{s:Shared}{tg:Expr}{it:Addr}{u:Value}{o:Obj}{n:String}{vs:Array Value}{Q:Unit->Shared->Prop}(ho:s.heap.get? it=some o)(hc:o.cls=.type n)(hd:o.data=.fields vs)
    (hn:["enumerate","zip","dict_itemiterator","dict_reverseitemiterator","odict_iterator","itertools.zip_longest","itertools.pairwise"].contains n=false) (hQ:Q () s):wpAny M A (letOwnedTupleGo tg (.ref it) u) Q E s:=by
  unfold letOwnedTupleGo;cases tg <;> first
    | exact wpAny_pure hQ
    | (cases u<;>first
        | exact wpAny_pure hQ
        | (refine wpAny_bind (wpAny_load ho ?_)
           rw[hc,hd];show wpAny M A (if (["enumerate","zip","dict_itemiterator","dict_reverseitemiterator","odict_iterator","itertools.zip_longest","itertools.pairwise"].contains n&&vs[0]?==some (rawInt _))=true then _ else _) Q E s;rw[if_neg (by intro h;rw[hn,Bool.false_and] at h;cases h)];exact wpAny_pure hQ))
def Itl(K:W.Frag)(a:Addr):It:=
 ⟨λi H=>∃xs x,SqL K H a xs/\xs[i]?=some x,λi H x H'=>H'=H/\∀xs,SqL K H a xs->xs[i]?=some x,λi H=>∃xs,SqL K H a xs/\xs.length<=i⟩
def Itt(K:W.Frag)(a:Addr):It:=
 ⟨λi H=>∃xs x,SqT K H a xs/\xs[i]?=some x,λi H x H'=>H'=H/\∀xs,SqT K H a xs->xs[i]?=some x,λi H=>∃xs,SqT K H a xs/\xs.length<=i⟩
def Itr(lo:Int)(n:Nat):It:=⟨λi _=>i<n,λi H x H'=>H'=H/\x=.int (lo+i),λi _=>n<=i⟩
theorem turn_list{P:Program}{w:World}{K:W.Frag}{tg:Expr}(a it:Addr):Turn P w K tg (Itl K a) [it] it (λi h=>h.IsListIter it a i) where
 mem:=by simp
 obj:=λi h st b hb=>by
  have e:b=it:=by simpa using hb
  subst e;obtain⟨o,e,c,d⟩:=st;exact⟨o,e,λv z=>by rw[d] at z;cases z⟩
 keep:=λi h h' st k=>st.at λo e=>k it (by simp) o e
 item:=by
  intro X hP hw hK hc i pins s σ H E I hf st hg;subst hP hw hK;obtain⟨xs,x,hq,hx⟩:=hg;obtain⟨its,rv,p,hz⟩:=I.list hq;obtain⟨u,hu,ru⟩:=rv.get hx;obtain⟨f0,f1,f2,f3,f4,f5⟩:=hf it (by simp);refine wpAny_pyNext_list_item st p.isList (x:=u) (by simpa using hu) λh' st' sb=>?_;have I1:Inv X pins σ H {s with heap:=h'}:=I.turned (t':=s.toks) (λb o hb e=>(sb.2 b hb).trans e) f0 f1 f3 f4 f5;obtain⟨o,e,c,d⟩:=id st';exact⟨u,rfl,go_of (s:={s with heap:=h'}) e c d (by decide) ⟨x,H,I1,ru,⟨rfl,λys hy=>by rw[I.list_inj hy hq];exact hx⟩,st',λb hb=>(hf b hb).1⟩⟩
 done:=by
  intro X hP hw hK hc i pins s σ H E I hf st hg;subst hP hw hK;obtain⟨xs,hq,hx⟩:=hg;obtain⟨its,rv,p,hz⟩:=I.list hq;obtain⟨f0,f1,f2,f3,f4,f5⟩:=hf it (by simp);have hl:=rv.length;exact wpAny_pyNext_list_end (I.ok.hd hc) st p.isList (by simp;omega) λh' eb=>⟨rfl,I.turned (t':=s.toks) (λb o hb e=>eb b o hb e) f0 f1 f3 f4 f5⟩
 self:=λ_ _ _ _ _ st h=>wpAny_pyIter_listiter st h
theorem turn_tuple{P:Program}{w:World}{K:W.Frag}{tg:Expr}(a it:Addr):Turn P w K tg (Itt K a) [it] it (λi h=>h.IsTupleIter it a i) where
 mem:=by simp
 obj:=λi h st b hb=>by
  have e:b=it:=by simpa using hb
  subst e;obtain⟨o,e,c,d⟩:=st;exact⟨o,e,λv z=>by rw[d] at z;cases z⟩
 keep:=λi h h' st k=>st.at λo e=>k it (by simp) o e
 item:=by
  intro X hP hw hK hc i pins s σ H E I hf st hg;subst hP hw hK;obtain⟨xs,x,hq,hx⟩:=hg;obtain⟨its,rv,p,hz⟩:=I.tuple hq;obtain⟨u,hu,ru⟩:=rv.get hx;obtain⟨f0,f1,f2,f3,f4,f5⟩:=hf it (by simp);refine wpAny_pyNext_tuple_item st (show s.heap.IsTuple a its.toArray from p) (x:=u) (by simpa using hu) λh' st' sb=>?_;have I1:Inv X pins σ H {s with heap:=h'}:=I.turned (t':=s.toks) (λb o hb e=>(sb.2 b hb).trans e) f0 f1 f3 f4 f5;obtain⟨o,e,c,d⟩:=id st';exact⟨u,rfl,go_of (s:={s with heap:=h'}) e c d (by decide) ⟨x,H,I1,ru,⟨rfl,λys hy=>by rw[I.tuple_inj hy hq];exact hx⟩,st',λb hb=>(hf b hb).1⟩⟩
 done:=by
  intro X hP hw hK hc i pins s σ H E I hf st hg;subst hP hw hK;obtain⟨xs,hq,hx⟩:=hg;obtain⟨its,rv,p,hz⟩:=I.tuple hq;obtain⟨f0,f1,f2,f3,f4,f5⟩:=hf it (by simp);have hl:=rv.length;exact wpAny_pyNext_tuple_end (I.ok.hd hc) st (show s.heap.IsTuple a its.toArray from p) (by simp;omega) λh' eb=>⟨rfl,I.turned (t':=s.toks) (λb o hb e=>eb b o hb e) f0 f1 f3 f4 f5⟩
 self:=λ_ _ _ _ _ st h=>wpAny_pyIter_tupleiter st h
theorem turn_range{P:Program}{w:World}{K:W.Frag}{tg:Expr}(it:Addr)(lo:Int)(n:Nat):Turn P w K tg (Itr lo n) [it] it (λi h=>IsRangeIter h it (lo+(i:Nat)*1) ((n:Int)-(i:Nat)) 1) where
 mem:=by simp
 obj:=λi h st b hb=>by
  have e:b=it:=by simpa using hb
  subst e;exact⟨_,st,λv z=>by
   have z':Data.fields _=Data.cell v:=z;cases z'⟩
 keep:=λi h h' st k=>k it (by simp) _ st
 item:=by
  intro X hP hw hK hc i pins s σ H E I hf st hg;subst hP hw hK;obtain⟨f0,f1,f2,f3,f4,f5⟩:=hf it (by simp);have W:=Walks.range (prog:=X.prog) (w:=X.w) (I.ok.hd hc) it lo 1 n;refine W.item i s _ _ hg st λv h' tk hv st' kk=>?_;obtain⟨t,rfl⟩:=hv;have I1:Inv X pins σ H {s with heap:=h',toks:=tk}:=I.turned (λb o hb e=>kk b o (by simpa using hb) e) f0 f1 f3 f4 f5;refine⟨_,rfl,go_of (s:={s with heap:=h',toks:=tk}) (n:="range_iterator") st' rfl rfl (by decide) ⟨.int (lo+i),H,I1,⟨t,?_⟩,⟨rfl,rfl⟩,st',λb hb=>(hf b hb).1⟩⟩;rw[Int.mul_one]
 done:=by
  intro X hP hw hK hc i pins s σ H E I hf st hg;subst hP hw hK;obtain⟨f0,f1,f2,f3,f4,f5⟩:=hf it (by simp);exact wpAny_pyNext_range_end (I.ok.hd hc) st (by have:n<=i:=hg;omega) λh' eb=>⟨rfl,I.turned (t':=s.toks) (λb o hb e=>eb b o hb e) f0 f1 f3 f4 f5⟩
 self:=λ_ _ _ _ _ st h=>wpAny_pyIter_rangeiter st h
section
variable{X:Cx}{tg:Expr}
def iList(K:W.Frag)(tl:TE):TI:=λσ H R=>tl σ H λx H1=>∃a,x=.ref a/\(∃xs,SqL K H1 a xs)/\R (Itl K a) H1
def iTup(K:W.Frag)(tl:TE):TI:=λσ H R=>tl σ H λx H1=>∃a,x=.ref a/\(∃xs,SqT K H1 a xs)/\R (Itt K a) H1
theorem pi_list{l:Expr}{tl:TE}(hl:PE X l tl):PI X tg l (iList X.K tl):=by
 intro pins s σ H R I h;refine thn (hl pins s σ H _ I h) λv s1 ⟨x,H1,I1,r1,q1⟩=>?_;obtain⟨a,e,⟨xs,hq⟩,q⟩:=q1;subst e;cases r1;obtain⟨its,rv,p,hz⟩:=I1.list hq;refine wpAny_pyIter_list p.isList ?_;refine⟨s1.heap.objs.size,[s1.heap.objs.size],_,_,H1,rfl,I1.kept (t':=s1.toks) λb o e=>Heap.get?_push_of_some _ e,turn_list a _,⟨_,Heap.get?_push_size _ rfl,rfl,rfl⟩,λb hb=>?_,q⟩;have e:b=s1.heap.objs.size:=by simpa using hb
 subst e;exact I1.fpOk (Nat.le_refl _) (I1.hok.fresh (Nat.le_refl _))
theorem pi_tup{l:Expr}{tl:TE}(hl:PE X l tl):PI X tg l (iTup X.K tl):=by
 intro pins s σ H R I h;refine thn (hl pins s σ H _ I h) λv s1 ⟨x,H1,I1,r1,q1⟩=>?_;obtain⟨a,e,⟨xs,hq⟩,q⟩:=q1;subst e;cases r1;obtain⟨its,rv,p,hz⟩:=I1.tuple hq;refine wpAny_pyIter_tuple (show s1.heap.IsTuple a its.toArray from p) ?_;refine⟨s1.heap.objs.size,[s1.heap.objs.size],_,_,H1,rfl,I1.kept (t':=s1.toks) λb o e=>Heap.get?_push_of_some _ e,turn_tuple a _,⟨_,Heap.get?_push_size _ rfl,rfl,rfl⟩,λb hb=>?_,q⟩;have e:b=s1.heap.objs.size:=by simpa using hb
 subst e;exact I1.fpOk (Nat.le_refl _) (I1.hok.fresh (Nat.le_refl _))
theorem range_it{pins:List (Addr×Obj)}{σ:St}{H:Hp}{s:Shared}{R:It->Hp->Prop}{E:Value->Shared->Prop}{lo hi:Int}{t u v:Tok}{tk:Nat}(I:Inv X pins σ H s)(h1:-(2 ^ 62)<=lo)(h2:lo<2 ^ 62)(h3:-(2 ^ 62)<=hi)(h4:hi<2 ^ 62)
  (q:R (Itr lo (hi-lo).toNat) H):wpAny (model X.prog X.w) X.A (pyIter (.ref s.heap.objs.size)) (PIE X pins σ tg R) E {s with heap:=s.heap.push {cls:=.type "range",data:=.fields #[.int lo t,.int hi u,.int 1 v]},toks:=tk}:=by
 refine wpAny_pyIter_range (IsRange.new ..) (small_one h1 h2 h3 h4) ?_;have I1:Inv X pins σ H {s with heap:=s.heap.push {cls:=.type "range",data:=.fields #[.int lo t,.int hi u,.int 1 v]},toks:=tk}:=I.kept λb o e=>Heap.get?_push_of_some _ e;refine⟨(s.heap.push {cls:=.type "range",data:=.fields #[.int lo t,.int hi u,.int 1 v]}).objs.size,[(s.heap.push {cls:=.type "range",data:=.fields #[.int lo t,.int hi u,.int 1 v]}).objs.size],_,_,H,rfl,
  I1.kept (t':=tk) λb o e=>Heap.get?_push_of_some _ e,turn_range _ lo (hi-lo).toNat,?_,λb hb=>?_,q⟩
 .have e1:lo+((0:Nat):Int)*1=lo:=by simp
  have e2:(((hi-lo).toNat:Nat):Int)-((0:Nat):Int)=Builtin.Range.rangeSize lo hi 1:=by rw[rangeSize_one];split<;>omega
  show IsRangeIter _ _ (lo+((0:Nat):Int)*1) ((((hi-lo).toNat:Nat):Int)-((0:Nat):Int)) 1;rw[e1,e2];exact Heap.get?_push_size _ rfl
 .have e:b=(s.heap.push {cls:=.type "range",data:=.fields #[.int lo t,.int hi u,.int 1 v]}).objs.size:=by simpa using hb
  subst e;exact I1.fpOk (Nat.le_refl _) (I1.hok.fresh (Nat.le_refl _))
def iRng1(ta:TA):TI:=λσ H R=>ta σ H λvs H1=>∃j:Int,vs=[.int j]/\-(2 ^ 62)<=j/\j<2 ^ 62/\R (Itr 0 j.toNat) H1
def iRng2(ta:TA):TI:=λσ H R=>ta σ H λvs H1=>∃i j:Int,vs=[.int i,.int j]/\(-(2 ^ 62)<=i/\i<2 ^ 62/\-(2 ^ 62)<=j/\j<2 ^ 62)/\R (Itr i (j-i).toNat) H1
theorem pi_range1{a:Expr}{ta:TA}{p pos:Pos}(hg:Gl X "range")(hm:X.mg "range"=none)(ha:PA X [a] ta)(hs:starEach [a] X.env=[(false,eval a X.env)]:=by rfl):PI X tg (.Call (.Name "range" p) [a] [] pos) (iRng1 ta):=by
 intro pins s σ H R I h;refine Call_ (ld_blt I hg hm boot_range (PyProof.Rows.callWith_type1 (thn (ha pos pins s σ H _ I h) λus s1 ⟨vs,H1,I1,r1,q1⟩=>?_) hs rfl));obtain⟨j,e,q1,q2,q⟩:=q1;subst e;cases r1 with
 | cons r rr=>
  cases rr;obtain⟨t,rfl⟩:=r;exact call_range_1 (range_it I1 (by omega) (by omega) q1 q2 (by simpa using q))
def tFor(wi:TI)(g:TG)(tb:TS):TS:=λD σ H=>wi σ H λJ H1=>∃W:Nat->Nat->St->Hp->Prop,(∃m,W 0 m σ H1)/\∀i m σ H,W i m σ H →
 (J.stop i H/\D.nx σ H)\/(J.go i H/\∃N:St->Hp->Prop,(∀σ' H',N σ' H'->∃m',m'<m/\W (i+1) m' σ' H')/\∀x H',J.yld i H x H'->g x σ H' λσ2 H2=>tb {D with nx:=N,ct:=N,bk:=D.nx} σ2 H2)
def pinsAt(fp:List Addr)(h:Heap):List (Addr×Obj):=fp.filterMap λb=>(h.get? b).map λo=>(b,o)
theorem mem_pinsAt{fp:List Addr}{h:Heap}{b:Addr}{o:Obj}(hb:b∈fp)(e:h.get? b=some o):(b,o)∈pinsAt fp h:=List.mem_filterMap.mpr ⟨b,hb,by rw[e];rfl⟩
theorem of_pinsAt{fp:List Addr}{h:Heap}{p:Addr×Obj}(hp:p∈pinsAt fp h):p.1∈fp/\h.get? p.1=some p.2:=by
 obtain⟨b,hb,e⟩:=List.mem_filterMap.mp hp;cases q:h.get? b with
 | none=>rw[q] at e;cases e
 | some o=>
  rw[q] at e;have e':(b,o)=p:=Option.some.inj e;subst e';exact⟨hb,q⟩
theorem Inv.pinned{pins:List (Addr×Obj)}{σ:St}{H:Hp}{s:Shared}{fp:List Addr}(I:Inv X pins σ H s)(hf:∀b∈fp,FpOk X pins H b)(ho:∀b∈fp,∃o,s.heap.get? b=some o/\∀v,o.data≠.cell v):Inv X (pins++pinsAt fp s.heap) σ H s:=
 I.pins_of λp hp=>(List.mem_append.mp hp).elim (λz=>I.pin p (List.mem_append_right _ z)) λz=>by
  obtain⟨hb,e⟩:=of_pinsAt z;obtain⟨f0,f1,f2,_⟩:=hf p.1 hb;obtain⟨o,e',d⟩:=ho p.1 hb;rw[e] at e';cases e';exact⟨e,f0,f1,f2,d⟩
theorem Inv.unpinned{pins pl:List (Addr×Obj)}{σ:St}{H:Hp}{s:Shared}(I:Inv X (pins++pl) σ H s):Inv X pins σ H s:=I.pins_of λp hp=>I.pin p (List.mem_append_right _ (List.mem_append_left _ hp))
theorem ps_for{iter:Expr}{body:List Stmt}{wi:TI}{g:TG}{tb:TS}{pos:Pos}(hp:PassesOwn (model X.prog X.w) X.A X.env X.xe)(hc:X.calm=true)(hi:PI X tg iter wi)(hg:PG X tg g)(hb:PSs X body tb)
  (hs:∀x,foldedSetIterable iter X.env x=pure x:=by intro _;rfl):PS X (.For tg iter body [] pos) (tFor wi g tb):=by
 intro pins s σ H D I h;refine wpAny_For (thn (hi pins s σ H _ I h) λv s1 h1=>thn h1 λitv s2 h2=>?_) hs;obtain⟨it,fp,tn,J,H2,e,I2,T,st2,f2,W,⟨m0,w0⟩,turn⟩:=h2;subst e;have stat:∀{H':Hp},(∀b∈fp,H' b=none)->∀b∈fp,FpOk X pins H' b:=λhn b hb=>⟨hn b hb,(f2 b hb).2⟩;refine codeAny_forLoop_any (λn s'=>∃i σ' H',Inv X pins σ' H' s'/\tn i s'.heap/\(∀b∈fp,H' b=none)/\W i n σ' H') ?_ m0 ⟨0,σ,H2,I2,st2,λb hb=>(f2 b hb).1,w0⟩;rintro n s3 ⟨i,σ3,H3,I3,st3,fr3,w3⟩;rcases turn i n σ3 H3 w3 with⟨stop,qn⟩|⟨go,N,hN,step⟩
 .refine wpAny_passesOwn hp (thn (T.done X rfl rfl rfl hc i pins s3 σ3 H3 X.xe I3 (stat fr3) st3 stop) λr s4 ⟨hr,I4⟩=>?_);subst hr;exact wpAny_execs_nil ⟨σ3,H3,I4,qn⟩
 .refine wpAny_passesOwn hp (thn (T.item X rfl rfl rfl hc i pins s3 σ3 H3 X.xe I3 (stat fr3) st3 go) λr s4 ⟨u,hr,h4⟩=>?_);subst hr;refine wpAny_passesOwn hp (thn h4 λ_ s5 ⟨x,H5,I5,r5,y5,st5,fr5⟩=>?_);have I5':=I5.pinned (stat fr5) (T.obj _ _ st5);refine wpAny_passesOwn hp (thn (hg _ s5 σ3 H5 x u _ I5' r5 (step x H5 y5)) λ_ s6 ⟨σ6,H6,I6,q6⟩=>?_);refine wpAny_passesOwn hp (thn (hb _ s6 σ6 H6 _ I6 q6) λf s7 q7=>?_);have again:∀{σ7:St}{H7:Hp},Inv X (pins++pinsAt fp s5.heap) σ7 H7 s7->N σ7 H7->∃m,m<n/\∃i σ' H',Inv X pins σ' H' s7/\tn i s7.heap/\(∀b∈fp,H' b=none)/\W i m σ' H':=λ{σ7 H7} I7 n7=>by
   obtain⟨m',hm,w7⟩:=hN σ7 H7 n7;refine⟨m',hm,i+1,σ7,H7,I7.unpinned,T.keep _ _ _ st5 λb hb o e=>(I7.pin (b,o) (List.mem_append_right _ (List.mem_append_right _ (mem_pinsAt hb e)))).1,λb hb=>?_,w7⟩;obtain⟨o,e,d⟩:=T.obj _ _ st5 b hb;exact(I7.pin (b,o) (List.mem_append_right _ (List.mem_append_right _ (mem_pinsAt hb e)))).2.1
  cases f with
  | next=>obtain⟨σ7,H7,I7,n7⟩:=q7;exact again I7 n7
  | cont=>obtain⟨σ7,H7,I7,n7⟩:=q7;exact again I7 n7
  | brk=>obtain⟨σ7,H7,I7,q7⟩:=q7;exact⟨σ7,H7,I7.unpinned,q7⟩
  | ret v=>obtain⟨x7,σ7,H7,I7,r7,q7⟩:=q7;exact⟨x7,σ7,H7,I7.unpinned,r7,q7⟩
end
theorem for_list{K:W.Frag}{a:Addr}{xs:List V}{g:TG}{tb:TS}{D:Ends}{σ:St}{H:Hp}(Pv:Nat->St->Hp->Prop)(h0:Pv 0 σ H)(hl:∀i σ H,i<=xs.length->Pv i σ H->SqL K H a xs)
  (hs:∀i x σ H,xs[i]?=some x->Pv i σ H->g x σ H λσ2 H2=>tb {D with nx:=Pv (i+1),ct:=Pv (i+1),bk:=D.nx} σ2 H2) (hd:∀σ H,Pv xs.length σ H->D.nx σ H) :
  ∃W:Nat->Nat->St->Hp->Prop,(∃m,W 0 m σ H)/\∀i m σ H,W i m σ H →
   ((Itl K a).stop i H/\D.nx σ H)\/((Itl K a).go i H/\∃N:St->Hp->Prop,(∀σ' H',N σ' H'->∃m',m'<m/\W (i+1) m' σ' H')/\∀x H',(Itl K a).yld i H x H'->g x σ H' λσ2 H2=>tb {D with nx:=N,ct:=N,bk:=D.nx} σ2 H2):=by
 refine⟨λi m σ H=>m=xs.length-i/\i<=xs.length/\Pv i σ H,⟨xs.length,by simp,Nat.zero_le _,h0⟩,?_⟩;rintro i m σ H ⟨rfl,hi,p⟩;have q:=hl i σ H hi p;by_cases hlt:i<xs.length
 .refine .inr ⟨⟨xs,xs[i],q,by simp[hlt]⟩,Pv (i+1),λσ' H' p'=>⟨xs.length-(i+1),by omega,rfl,hlt,p'⟩,λx H' y=>?_⟩;obtain⟨e,y⟩:=y;subst e;exact hs i x σ _ (y xs q) p
 .have e:i=xs.length:=by omega
  subst e;exact .inl ⟨⟨xs,q,Nat.le_refl _⟩,hd σ H p⟩
theorem for_tup{K:W.Frag}{a:Addr}{xs:List V}{g:TG}{tb:TS}{D:Ends}{σ:St}{H:Hp}(Pv:Nat->St->Hp->Prop)(h0:Pv 0 σ H)(hl:∀i σ H,i<=xs.length->Pv i σ H->SqT K H a xs)
  (hs:∀i x σ H,xs[i]?=some x->Pv i σ H->g x σ H λσ2 H2=>tb {D with nx:=Pv (i+1),ct:=Pv (i+1),bk:=D.nx} σ2 H2) (hd:∀σ H,Pv xs.length σ H->D.nx σ H) :
  ∃W:Nat->Nat->St->Hp->Prop,(∃m,W 0 m σ H)/\∀i m σ H,W i m σ H →
   ((Itt K a).stop i H/\D.nx σ H)\/((Itt K a).go i H/\∃N:St->Hp->Prop,(∀σ' H',N σ' H'->∃m',m'<m/\W (i+1) m' σ' H')/\∀x H',(Itt K a).yld i H x H'->g x σ H' λσ2 H2=>tb {D with nx:=N,ct:=N,bk:=D.nx} σ2 H2):=by
 refine⟨λi m σ H=>m=xs.length-i/\i<=xs.length/\Pv i σ H,⟨xs.length,by simp,Nat.zero_le _,h0⟩,?_⟩;rintro i m σ H ⟨rfl,hi,p⟩;have q:=hl i σ H hi p;by_cases hlt:i<xs.length
 .refine .inr ⟨⟨xs,xs[i],q,by simp[hlt]⟩,Pv (i+1),λσ' H' p'=>⟨xs.length-(i+1),by omega,rfl,hlt,p'⟩,λx H' y=>?_⟩;obtain⟨e,y⟩:=y;subst e;exact hs i x σ _ (y xs q) p
 .have e:i=xs.length:=by omega
  subst e;exact .inl ⟨⟨xs,q,Nat.le_refl _⟩,hd σ H p⟩
theorem for_range{lo:Int}{n:Nat}{g:TG}{tb:TS}{D:Ends}{σ:St}{H:Hp}(Pv:Nat->St->Hp->Prop)(h0:Pv 0 σ H)
  (hs:∀i σ H,i<n->Pv i σ H->g (.int (lo+i)) σ H λσ2 H2=>tb {D with nx:=Pv (i+1),ct:=Pv (i+1),bk:=D.nx} σ2 H2) (hd:∀σ H,Pv n σ H->D.nx σ H) :
  ∃W:Nat->Nat->St->Hp->Prop,(∃m,W 0 m σ H)/\∀i m σ H,W i m σ H →
   ((Itr lo n).stop i H/\D.nx σ H)\/((Itr lo n).go i H/\∃N:St->Hp->Prop,(∀σ' H',N σ' H'->∃m',m'<m/\W (i+1) m' σ' H')/\∀x H',(Itr lo n).yld i H x H'->g x σ H' λσ2 H2=>tb {D with nx:=N,ct:=N,bk:=D.nx} σ2 H2):=by
 refine⟨λi m σ H=>m=n-i/\i<=n/\Pv i σ H,⟨n,by simp,Nat.zero_le _,h0⟩,?_⟩;rintro i m σ H ⟨rfl,hi,p⟩;by_cases hlt:i<n
 .refine .inr ⟨hlt,Pv (i+1),λσ' H' p'=>⟨n-(i+1),by omega,rfl,hlt,p'⟩,λx H' y=>?_⟩;obtain⟨e,y⟩:=y;subst e y;exact hs i σ _ hlt p
 .have e:i=n:=by omega
  subst e;exact .inl ⟨Nat.le_refl _,hd σ H p⟩
abbrev R2:=V->V->Hp->VK->Prop
def OpR(X:Cx)(f:Value->Value->Sem Value)(r:R2):Prop:=
 ∀(pins:List (Addr×Obj))(s:Shared)(σ:St)(H:Hp)(x y:V)(v u:Value)(Q:VK),Inv X pins σ H s->RelV x v->RelV y u->r x y H Q →
  wpAny (model X.prog X.w) X.A (f v u) (EP X pins σ Q) X.xe s
def UnR(X:Cx)(f:Value->Sem Value)(r:V->Hp->VK->Prop):Prop:=
 ∀(pins:List (Addr×Obj))(s:Shared)(σ:St)(H:Hp)(x:V)(v:Value)(Q:VK),Inv X pins σ H s->RelV x v->r x H Q →
  wpAny (model X.prog X.w) X.A (f v) (EP X pins σ Q) X.xe s
def CallR(X:Cx)(f:Value)(r:List V->Hp->VK->Prop):Prop:=
 ∀(pins:List (Addr×Obj))(s:Shared)(σ:St)(H:Hp)(xs:List V)(us:List Value)(Q:VK),Inv X pins σ H s->Vals xs us->r xs H Q →
  wpAny (model X.prog X.w) X.A (call f us) (EP X pins σ Q) X.xe s
def TruR(X:Cx)(r:V->Hp->(Bool->Hp->Prop)->Prop):Prop:=
 ∀(pins:List (Addr×Obj))(s:Shared)(σ:St)(H:Hp)(x:V)(v:Value)(Q:Bool->Hp->Prop),Inv X pins σ H s->RelV x v->r x H Q →
  wpAny (model X.prog X.w) X.A (truthy v) (TP X pins σ Q) X.xe s
def tOp(r:R2)(ta tb:TE):TE:=λσ H Q=>ta σ H λx H1=>tb σ H1 λy H2=>r x y H2 Q
def tUn(r:V->Hp->VK->Prop)(ta:TE):TE:=λσ H Q=>ta σ H λx H1=>r x H1 Q
def rI(C:Int->Int->Prop)(g:Int->Int->V):R2:=λx y H Q=>∃i j,x=.int i/\y=.int j/\C i j/\Q (g i j) H
def rI0(g:Int->Int->V):R2:=λx y H Q=>∃i j,x=.int i/\y=.int j/\Q (g i j) H
def rU(g:Int->V):V->Hp->VK->Prop:=λx H Q=>∃i,x=.int i/\Q (g i) H
section
variable{X:Cx}{a b c:Expr}{ta tb tc:TE}{pos:Pos}
theorem binT(ha:PE X a ta)(hb:PE X b tb){pins:List (Addr×Obj)}{s:Shared}{σ:St}{H:Hp}{R:V->V->Hp->Prop}(I:Inv X pins σ H s)
  (h:ta σ H λx H1=>tb σ H1 λy H2=>R x y H2) {Q:Value->Shared->Prop}{f:Value->Value->Sem Value}
  (hf:∀v u s2 x y H2,Inv X pins σ H2 s2->RelV x v->RelV y u->R x y H2->wpAny (model X.prog X.w) X.A (f v u) Q X.xe s2) :
  wpAny (model X.prog X.w) X.A (eval a X.env) (λv s₁=>wpAny (model X.prog X.w) X.A (eval b X.env) (λu s₂=>wpAny (model X.prog X.w) X.A (f v u) Q X.xe s₂) X.xe s₁) X.xe s:=by
 refine thn (ha pins s σ H _ I h) λv s1 ⟨x,H1,I1,r1,q1⟩=>?_;refine thn (hb pins s1 σ H1 _ I1 q1) λu s2 ⟨y,H2,I2,r2,q2⟩=>?_;exact hf v u s2 x y H2 I2 r1 r2 q2
theorem pe_op{op:Operator}{r:R2}(ho:OpR X (binaryOp op) r)(ha:PE X a ta)(hb:PE X b tb):PE X (.BinOp a op b pos) (tOp r ta tb):=by
 intro pins s σ H Q I h;exact wpAny_BinOp (binT ha hb I h λv u s2 x y H2 I2 rx ry q=>ho pins s2 σ H2 x y v u Q I2 rx ry q)
theorem pe_un{op:UnaryOp}{r:V->Hp->VK->Prop}(ho:UnR X (unaryOp op) r)(ha:PE X a ta):PE X (.UnaryOp op a pos) (tUn r ta):=by
 intro pins s σ H Q I h;exact UnaryOp_ (thn (ha pins s σ H _ I h) λv s1 ⟨x,H1,I1,r1,q1⟩=>ho pins s1 σ H1 x v Q I1 r1 q1)
theorem opI{f:Value->Value->Sem Value}{C:Int->Int->Prop}{g:Int->Int->Int}
  (rule:∀(i j:Int)(t u:Tok)(s:Shared)(Q:Value->Shared->Prop)(E:Value->Shared->Prop),C i j->Q (.int (g i j) s.toks) {s with toks:=s.toks+1}->wpAny (model X.prog X.w) X.A (f (.int i t) (.int j u)) Q E s) :
  OpR X f (rI C λi j=>.int (g i j)):=by
 intro pins s σ H x y v u Q I rx ry h;obtain⟨i,j,rfl,rfl,hc,q⟩:=h;obtain⟨t,rfl⟩:=rx;obtain⟨t',rfl⟩:=ry;exact rule i j t t' s _ _ hc ⟨.int (g i j),H,I.tok _,⟨_,rfl⟩,q⟩
theorem opI0{f:Value->Value->Sem Value}{g:Int->Int->Int}
  (rule:∀(i j:Int)(t u:Tok)(s:Shared)(Q:Value->Shared->Prop)(E:Value->Shared->Prop),Q (.int (g i j) s.toks) {s with toks:=s.toks+1}->wpAny (model X.prog X.w) X.A (f (.int i t) (.int j u)) Q E s) :
  OpR X f (rI0 λi j=>.int (g i j)):=by
 intro pins s σ H x y v u Q I rx ry h;obtain⟨i,j,rfl,rfl,q⟩:=h;obtain⟨t,rfl⟩:=rx;obtain⟨t',rfl⟩:=ry;exact rule i j t t' s _ _ ⟨.int (g i j),H,I.tok _,⟨_,rfl⟩,q⟩
theorem opB0{f:Value->Value->Sem Value}{g:Int->Int->Bool}
  (rule:∀(i j:Int)(t u:Tok)(s:Shared)(Q:Value->Shared->Prop)(E:Value->Shared->Prop),Q (.bool (g i j)) s->wpAny (model X.prog X.w) X.A (f (.int i t) (.int j u)) Q E s) :
  OpR X f (rI0 λi j=>.bl (g i j)):=by
 intro pins s σ H x y v u Q I rx ry h;obtain⟨i,j,rfl,rfl,q⟩:=h;obtain⟨t,rfl⟩:=rx;obtain⟨t',rfl⟩:=ry;exact rule i j t t' s _ _ ⟨.bl (g i j),H,I,rfl,q⟩
def CDiv(i j:Int):Prop:=0<j/\j<1073741824
def CDivN(i j:Int):Prop:=j≠0/\j.natAbs<1073741824
def CPow(i j:Int):Prop:=0<=j/\j<=1000000/\i.natAbs<2 ^ 64
def CMul(i j:Int):Prop:=(-(2 ^ 64)<i/\i<2 ^ 64)\/(-(2 ^ 64)<j/\j<2 ^ 64)
theorem CMul.ok{i j:Int}(h:CMul i j):IntMulOk i j:=by
 rcases h with⟨h1,h2⟩|⟨h1,h2⟩
 .exact .of_left (intBits_le_64 h1 h2)
 .exact .of_right (intBits_le_64 h1 h2)
theorem op_add:OpR X (binaryOp .Add) (rI0 λi j=>.int (i+j)):=opI0 λ_ _ _ _ _ _ _ q=>add_int q
theorem op_sub:OpR X (binaryOp .Sub) (rI0 λi j=>.int (i-j)):=opI0 λ_ _ _ _ _ _ _ q=>sub_int q
theorem op_mul:OpR X (binaryOp .Mult) (rI CMul λi j=>.int (i*j)):=opI λ_ _ _ _ _ _ _ hc q=>mul_int q hc.ok
theorem op_fdiv:OpR X (binaryOp .FloorDiv) (rI CDiv λi j=>.int (i / j)):=opI λi j _ _ _ _ _ hc q=>by
 have h1:(0:Int)<j:=hc.1;have h2:j<1073741824:=hc.2;exact floordiv_int (by omega) (by rw[Int.fdiv_eq_ediv_of_nonneg i (by omega)];exact q) (.inl (PyProof.noPylong_small (by omega)))
theorem op_mod:OpR X (binaryOp .Mod) (rI (λ_ j=>0<j) λi j=>.int (i % j)):=opI λi j _ _ _ _ _ hc q=>by
 have h1:(0:Int)<j:=hc;exact mod_int' (by omega) (by rw[Int.fmod_eq_emod_of_nonneg i (by omega)];exact q)
theorem op_pow:OpR X (binaryOp .Pow) (rI CPow λi j=>.int (i ^ j.toNat)):=opI λ_ _ _ _ _ _ _ hc q=>pow_int_small hc.1 hc.2.1 hc.2.2 q
theorem unI{f:Value->Sem Value}{g:Int->Int}
  (rule:∀(i:Int)(t:Tok)(s:Shared)(Q:Value->Shared->Prop)(E:Value->Shared->Prop),Q (.int (g i) s.toks) {s with toks:=s.toks+1}->wpAny (model X.prog X.w) X.A (f (.int i t)) Q E s) :
  UnR X f (rU λi=>.int (g i)):=by
 intro pins s σ H x v Q I rx h;obtain⟨i,rfl,q⟩:=h;obtain⟨t,rfl⟩:=rx;exact rule i t s _ _ ⟨.int (g i),H,I.tok _,⟨_,rfl⟩,q⟩
theorem un_neg:UnR X (unaryOp .USub) (rU λi=>.int (-i)):=unI λ_ _ _ _ _ q=>neg_int q
end
def scal:V->V->Bool
 | .non,.non=>true|.non,.int _=>true|.int _,.non=>true|.non,.bl _=>true|.bl _,.non=>true|.non,.str _=>true|.str _,.non=>true
 | .int _,.int _=>true|.bl _,.bl _=>true|.str _,.str _=>true|.byt _,.byt _=>true
 | .int _,.str _=>true|.str _,.int _=>true|.bl _,.str _=>true|.str _,.bl _=>true
 | _,_=>false
def rEq:R2:=λx y H Q=>scal x y=true/\Q (.bl (decide (x=y))) H
def rNe:R2:=λx y H Q=>scal x y=true/\Q (.bl (!decide (x=y))) H
theorem dec_int{i j:Int}:decide (V.int i=V.int j)=(i==j):=by
 rw[Bool.eq_iff_iff];simp
theorem dec_bl{i j:Bool}:decide (V.bl i=V.bl j)=(i==j):=by
 rw[Bool.eq_iff_iff];simp
theorem dec_str{i j:Str}:decide (V.str i=V.str j)=(i==j):=by
 rw[Bool.eq_iff_iff];simp
theorem dec_byt{i j:Array UInt8}:decide (V.byt i=V.byt j)=(i.toList==j.toList):=by
 rw[Bool.eq_iff_iff];cases i;cases j;simp
section
variable{X:Cx}{a b c:Expr}{ta tb tc:TE}{pos:Pos}
theorem fin_bl{pins:List (Addr×Obj)}{σ:St}{H:Hp}{s:Shared}{Q:VK}{k k':Bool}(I:Inv X pins σ H s)(q:Q (.bl k) H)(e:k=k'):EP X pins σ Q (.bool k') s:=by
 subst e;exact⟨.bl k,H,I,rfl,q⟩
theorem op_eq:OpR X (compareOp .Eq) rEq:=by
 intro pins s σ H x y v u Q I rx ry h;obtain⟨hs,q⟩:=h;cases x with
 | non=>
  cases rx;cases y with
  | non=>cases ry;exact PySem.EqNone.eq_none_none (fin_bl I q (by simp))
  | bl j=>cases ry;exact PySem.EqNone.eq_none_bool (fin_bl I q (by simp))
  | int j=>obtain⟨t',rfl⟩:=ry;exact PySem.EqNone.eq_none_int (fin_bl I q (by simp))
  | str j=>obtain⟨t',rfl⟩:=ry;exact PySem.EqNone.eq_none_str (fin_bl I q (by simp))
  | _=>exact absurd (show false=true from hs) Bool.false_ne_true
 | bl i=>
  cases rx;cases y with
  | non=>cases ry;exact PySem.EqNone.eq_bool_none (fin_bl I q (by simp))
  | bl j=>cases ry;exact eq_bool (fin_bl I q dec_bl)
  | str j=>obtain⟨t',rfl⟩:=ry;exact PySem.EqMixed.eq_bool_str (fin_bl I q (by simp))
  | _=>exact absurd (show false=true from hs) Bool.false_ne_true
 | int i=>
  obtain⟨t,rfl⟩:=rx;cases y with
  | non=>cases ry;exact PySem.EqNone.eq_int_none (fin_bl I q (by simp))
  | int j=>obtain⟨t',rfl⟩:=ry;exact eq_int (fin_bl I q dec_int)
  | str j=>obtain⟨t',rfl⟩:=ry;exact PySem.EqMixed.eq_int_str (fin_bl I q (by simp))
  | _=>exact absurd (show false=true from hs) Bool.false_ne_true
 | str i=>
  obtain⟨t,rfl⟩:=rx;cases y with
  | non=>cases ry;exact PySem.EqNone.eq_str_none (fin_bl I q (by simp))
  | bl j=>cases ry;exact PySem.EqMixed.eq_str_bool (fin_bl I q (by simp))
  | int j=>obtain⟨t',rfl⟩:=ry;exact PySem.EqMixed.eq_str_int (fin_bl I q (by simp))
  | str j=>obtain⟨t',rfl⟩:=ry;exact eq_str (fin_bl I q dec_str)
  | _=>exact absurd (show false=true from hs) Bool.false_ne_true
 | byt i=>
  obtain⟨t,rfl⟩:=rx;cases y with
  | byt j=>obtain⟨t',rfl⟩:=ry;exact PySem.W.eq_bytes (fin_bl I q dec_byt)
  | _=>exact absurd (show false=true from hs) Bool.false_ne_true
 | _=>cases y<;>exact absurd (show false=true from hs) Bool.false_ne_true
theorem op_ne:OpR X (compareOp .NotEq) rNe:=by
 intro pins s σ H x y v u Q I rx ry h;obtain⟨hs,q⟩:=h;cases x with
 | non=>
  cases rx;cases y with
  | non=>cases ry;exact PySem.EqNone.ne_none_none (fin_bl I q (by simp))
  | bl j=>cases ry;exact PySem.EqNone.ne_none_bool (fin_bl I q (by simp))
  | int j=>obtain⟨t',rfl⟩:=ry;exact PySem.EqNone.ne_none_int (fin_bl I q (by simp))
  | str j=>obtain⟨t',rfl⟩:=ry;exact PySem.EqNone.ne_none_str (fin_bl I q (by simp))
  | _=>exact absurd (show false=true from hs) Bool.false_ne_true
 | bl i=>
  cases rx;cases y with
  | non=>cases ry;exact PySem.EqNone.ne_bool_none (fin_bl I q (by simp))
  | bl j=>cases ry;exact ne_bool (fin_bl I q (congrArg not dec_bl))
  | str j=>obtain⟨t',rfl⟩:=ry;exact PySem.EqMixed.ne_bool_str (fin_bl I q (by simp))
  | _=>exact absurd (show false=true from hs) Bool.false_ne_true
 | int i=>
  obtain⟨t,rfl⟩:=rx;cases y with
  | non=>cases ry;exact PySem.EqNone.ne_int_none (fin_bl I q (by simp))
  | int j=>obtain⟨t',rfl⟩:=ry;exact ne_int (fin_bl I q (congrArg not dec_int))
  | str j=>obtain⟨t',rfl⟩:=ry;exact PySem.EqMixed.ne_int_str (fin_bl I q (by simp))
  | _=>exact absurd (show false=true from hs) Bool.false_ne_true
 | str i=>
  obtain⟨t,rfl⟩:=rx;cases y with
  | non=>cases ry;exact PySem.EqNone.ne_str_none (fin_bl I q (by simp))
  | bl j=>cases ry;exact PySem.EqMixed.ne_str_bool (fin_bl I q (by simp))
  | int j=>obtain⟨t',rfl⟩:=ry;exact PySem.EqMixed.ne_str_int (fin_bl I q (by simp))
  | str j=>obtain⟨t',rfl⟩:=ry;exact ne_str (fin_bl I q (congrArg not dec_str))
  | _=>exact absurd (show false=true from hs) Bool.false_ne_true
 | byt i=>
  obtain⟨t,rfl⟩:=rx;cases y with
  | byt j=>obtain⟨t',rfl⟩:=ry;exact PySem.W.ne_bytes (fin_bl I q (congrArg not dec_byt))
  | _=>exact absurd (show false=true from hs) Bool.false_ne_true
 | _=>cases y<;>exact absurd (show false=true from hs) Bool.false_ne_true
theorem op_lt:OpR X (compareOp .Lt) (rI0 λi j=>.bl (decide (i<j))):=opB0 λ_ _ _ _ _ _ _ q=>lt_int q
theorem op_gt:OpR X (compareOp .Gt) (rI0 λi j=>.bl (decide (j<i))):=opB0 λ_ _ _ _ _ _ _ q=>gt_int q
theorem op_ge:OpR X (compareOp .GtE) (rI0 λi j=>.bl (decide (j<=i))):=opB0 λ_ _ _ _ _ _ _ q=>ge_int q
def isObj:HO->Bool
 | .lst _=>true
 | .ins _ _ _=>true
 | _=>false
theorem OpR.or{f:Value->Value->Sem Value}{r r':R2}(h:OpR X f r)(h':OpR X f r'):OpR X f (λx y H Q=>r x y H Q\/r' x y H Q):=by
 intro pins s σ H x y v u Q I rx ry q;rcases q with q|q
 .exact h pins s σ H x y v u Q I rx ry q
 .exact h' pins s σ H x y v u Q I rx ry q
theorem nomark(b:Expr){op:CmpOp}(h:op≠.In:=by decide)(h2:op≠.NotIn:=by decide):behindInMarks op b=false:=by
 have e1:(op==CmpOp.In)=false:=by cases op<;>first|rfl|exact absurd rfl h
 have e2:(op==CmpOp.NotIn)=false:=by cases op<;>first|rfl|exact absurd rfl h2
 cases b<;>simp[behindInMarks,e1,e2]
theorem pe_cmpR{op:CmpOp}{r:R2}(ho:OpR X (compareOp op) r)(ha:PE X a ta)(hb:PE X b tb)(hm:behindInMarks op b=false):PE X (.Compare a [op] [b] pos) (tOp r ta tb):=by
 intro pins s σ H Q I h;exact wpAny_Compare1 (binT ha hb I h λv u s2 x y H2 I2 rx ry q=>ho pins s2 σ H2 x y v u Q I2 rx ry q) hm
def tTest(t:TE):TT:=λσ H Q=>t σ H λx H'=>∃k,x=.bl k/\Q k H'
theorem pt_cmpR{op:CmpOp}{r:R2}(ho:OpR X (compareOp op) r)(ha:PE X a ta)(hb:PE X b tb)(hm:behindInMarks op b=false):PT X (.Compare a [op] [b] pos) (tTest (tOp r ta tb)):=by
 intro pins s σ H Q I h;refine wpAny_isTrue_Compare1 (thn (ha pins s σ H _ I h) λv s1 ⟨x,H1,I1,r1,q1⟩=>thn (hb pins s1 σ H1 _ I1 q1) λu s2 ⟨y,H2,I2,r2,q2⟩=>
  thn (ho pins s2 σ H2 x y v u _ I2 r1 r2 q2) λc s3 ⟨z,H3,I3,r3,k,e,q3⟩=>?_) hm
 subst e;cases r3;exact wpAny_truthy_bool ⟨H3,I3,q3⟩
def tChain(r r':R2)(ta tb tc:TE):TE:=λσ H Q=>ta σ H λx H1=>tb σ H1 λy H2=>r x y H2 λz H3=>∃k,z=.bl k ∧
 (if k=true then tc σ H3 λw' H4=>r' y w' H4 Q else Q (.bl false) H3)
def TruV(K:W.Frag)(x:V)(H:Hp)(k:Bool):Prop:=
 match x with
 | .non=>k=false
 | .bl b=>k=b
 | .int i=>k=(i != 0)
 | .str y=>y.length<=sizeLine/\k=((y.length:Int) != 0)
 | .byt y=>y.size<=sizeLine/\k=((y.size:Int) != 0)
 | .ref p=>(∃xs,SqL K H p xs/\k=!xs.isEmpty)\/(∃xs,SqT K H p xs/\k=!xs.isEmpty)\/∃kvs,H p=some (.dK kvs)/\k=!kvs.isEmpty
 | _=>False
theorem isEmpty_kv{κ:Type}{kvs:List (κ×V)}{vs:List (κ×Value)}(r:KV kvs vs):(!vs.isEmpty)=!kvs.isEmpty:=by
 cases r<;>rfl
theorem isEmpty_of{xs:List V}{its:List Value}(r:Vals xs its):(!its.toArray.isEmpty)=!xs.isEmpty:=by
 cases r<;>simp
theorem line63:(sizeLine:Nat)<2 ^ 63:=by rw[sizeLine_eq];decide
theorem tru_ok:TruR X (λx H Q=>∃k,TruV X.K x H k/\Q k H):=by
 intro pins s σ H x v Q I rx h;obtain⟨k,e,q⟩:=h;have hl:=line63;have hs:sizeLine=16777216:=sizeLine_eq;cases x with
 | non=>
  cases rx;have e':k=false:=e;subst e';exact truthy_none ⟨H,I,q⟩
 | bl b=>
  cases rx;have e':k=b:=e;subst e';exact wpAny_truthy_bool ⟨H,I,q⟩
 | int i=>
  obtain⟨t,rfl⟩:=rx;have e':k=(i != 0):=e;subst e';exact PySem.P.truthy_int ⟨H,I,q⟩
 | str y=>
  obtain⟨t,rfl⟩:=rx;obtain⟨hy,e'⟩:y.length<=sizeLine/\k=((y.length:Int) != 0):=e;subst e';exact PySem.P.truthy_str (by omega) ⟨H,I.tok _,q⟩
 | byt y=>
  obtain⟨t,rfl⟩:=rx;obtain⟨hy,e'⟩:y.size<=sizeLine/\k=((y.size:Int) != 0):=e;subst e';exact PySem.W.truthy_bytes (by omega) ⟨H,I.tok _,q⟩
 | ref p=>
  cases rx;have e':(∃xs,SqL X.K H p xs/\k=!xs.isEmpty)\/(∃xs,SqT X.K H p xs/\k=!xs.isEmpty)\/∃kvs,H p=some (.dK kvs)/\k=!kvs.isEmpty:=e;rcases e' with⟨xs,hx,e'⟩|⟨xs,hx,e'⟩|⟨kvs,hx,e'⟩
  .subst e';obtain⟨its,r,pl,hz⟩:=I.list hx;have hlen:=r.length;exact wpAny_truthy_list pl.isList (by simp only[List.size_toArray];omega) ⟨H,I.tok _,by rw[isEmpty_of r];exact q⟩
  .subst e';obtain⟨its,r,pl,hz⟩:=I.tuple hx;have hlen:=r.length;exact truthy_tuple pl (by simp only[List.size_toArray];omega) ⟨H,I.tok _,by rw[isEmpty_of r];exact q⟩
  .subst e';obtain⟨hz,hS,vs,r,m⟩:kvs.length<=sizeLine/\(p==sysModules)=false/\∃vs,KV kvs vs/\s.heap.DictOf (mixKind X.prog X.w) p vs:=I.hok p _ hx;have hlen:kvs.length=vs.length:=Paired.length r;exact wpAny_truthy_dict hS m (by omega) ⟨H,I.tok _,by rw[isEmpty_kv r];exact q⟩
 | _=>exact(show False from e).elim
theorem pt_truth(ha:PE X a ta)(he:∀whole,isTrue a X.env whole=(do let v <-whole;standAt a.pos;holding [v] (truthy v))) :
  PT X a (λσ H Q=>ta σ H λx H'=>∃k,TruV X.K x H' k/\Q k H'):=by
 intro pins s σ H Q I h;exact isTrue_plain (thn (ha pins s σ H _ I h) λv s1 ⟨x,H1,I1,r1,q1⟩=>tru_ok pins s1 σ H1 x v Q I1 r1 q1) (he _)
def PlainIxT(b:Expr):Prop:=∀o i,subscripted b false o i=operate [o,i] (getItem o i)
theorem vals1{x:V}{us:List Value}(r:Vals [x] us):∃u,us=[u]/\RelV x u:=by
 cases r with
 | cons r1 r2=>cases r2;exact⟨_,rfl,r1⟩
theorem vals2{x y:V}{us:List Value}(r:Vals [x,y] us):∃u w',us=[u,w']/\RelV x u/\RelV y w':=by
 cases r with
 | cons r1 r2=>
  cases r2 with
  | cons r3 r4=>cases r4;exact⟨_,_,rfl,r1,r3⟩
theorem call_max2(hc:X.calm=true):CallR X (.builtin "max") (λxs H Q=>∃i j,xs=[.int i,.int j]/\Q (.int (if j>i then j else i)) H):=by
 intro pins s σ H xs us Q I r h;obtain⟨i,j,rfl,q⟩:=h;obtain⟨u,w',rfl,⟨t,rfl⟩,⟨t',rfl⟩⟩:=vals2 r;refine max_two_ints (I.ok.hd hc) λh' tk k=>⟨_,H,I.kept k,?_,q⟩;by_cases hj:j>i
 .rw[if_pos hj,if_pos hj];exact⟨_,rfl⟩
 .rw[if_neg hj,if_neg hj];exact⟨_,rfl⟩
theorem call_min2(hc:X.calm=true):CallR X (.builtin "min") (λxs H Q=>∃i j,xs=[.int i,.int j]/\Q (.int (if j<i then j else i)) H):=by
 intro pins s σ H xs us Q I r h;obtain⟨i,j,rfl,q⟩:=h;obtain⟨u,w',rfl,⟨t,rfl⟩,⟨t',rfl⟩⟩:=vals2 r;refine min_two_ints (I.ok.hd hc) λh' tk k=>⟨_,H,I.kept k,?_,q⟩;by_cases hj:j<i
 .rw[if_pos hj,if_pos hj];exact⟨_,rfl⟩
 .rw[if_neg hj,if_neg hj];exact⟨_,rfl⟩
def LenV(K:W.Frag)(x:V)(H:Hp)(n:Nat):Prop:=
 match x with
 | .str y=>y.length<=sizeLine/\n=y.length
 | .byt y=>y.size<=sizeLine/\n=y.size
 | .ref p=>(∃xs,SqL K H p xs/\n=xs.length)\/∃xs,SqT K H p xs/\n=xs.length
 | _=>False
end
structure ObjM(h:Heap)(x dx C:Addr)(mA:Str->Option Value):Prop where
 obj:h.get? x=some (PySem.W.instObj C dx)
 ns:h.Ns1 dx mA
 ne:dx≠x
theorem lookIn_ns{h:Heap}{dx:Addr}{mA:Str->Option Value}(n:h.Ns1 dx mA):∃od,h.get? dx=some od/\∀name,PySem.W.lookIn name od=some (mA name):=by
 obtain⟨o,es,ep,ho,hd,hk,_,hm⟩:=n;refine⟨o,ho,λname=>?_⟩;have e:=hm name;unfold nsFind findBy at e;rw[<-Array.find?_toList] at e;unfold PySem.W.lookIn;rw[hd];dsimp only
 split
 .rename_i y q
  rw[q] at e;exact congrArg some e
 .rename_i q
  rw[q] at e;have a:es.toList.any (·.refKey)=false:=by
   rw[List.any_eq_false];intro y hy;obtain⟨z,t,hkey⟩:=hk y (Array.mem_toList_iff.mp hy);simp[DictEntry.refKey,hkey]
  have a':¬es.toList.any (·.refKey)=true:=by rw[a];exact Bool.false_ne_true
  rw[if_neg a'];exact congrArg some e
theorem ObjM.look{h:Heap}{x dx C:Addr}{mA:Str->Option Value}(I:ObjM h x dx C mA):∃od,PySem.W.InstAt h x (PySem.W.instObj C dx) C (some od)/\∀name,PySem.W.lookIn name od=some (mA name):=
 let ⟨od,ho,hl⟩:=lookIn_ns I.ns
 ⟨od,⟨I.obj,rfl,rfl,ho⟩,hl⟩
section
variable{prog:Program}{w:World}{A:Around}{E:Value->Shared->Prop}{s:Shared}{K:W.Frag}{x dx C f:Addr}{mA:Str->Option Value}{name:Str}{v:Value}
theorem get_map{expr:Bool}{Q:Value->Shared->Prop}(X:K.In s.heap)(I:ObjM s.heap x dx C mA)(hg:PySem.W.plainGet K C name=true)(hh:PySem.W.hasDictIn K C=true)
  (ha:PySem.W.findIn K (.ref C) name=some none) (hv:mA name=some v) (hv':PySem.W.handedIn v=true) (h:Q v {s with toks:=s.toks+1}) :
  wpAny (model prog w) A (getAttr (.ref x) name expr) Q E s:=by
 obtain⟨od,J,hl⟩:=I.look;exact PySem.W.get_value X J (PySem.W.plainGet_of hg).1 (PySem.W.findObj_own hh ha rfl (by rw[hl,hv])) hv' h
theorem get_meth{pl:Sem Bool}{Q:Value×List Value->Shared->Prop}(X:K.In s.heap)(I:ObjM s.heap x dx C mA)(hg:PySem.W.plainGet K C name=true)
  (hf:PySem.W.findIn K (.ref C) name=some (some (.ref f))) (ht:PySem.W.isFn K (.ref f)=true) (hv:mA name=none) (h:Q (.ref f,[.ref x]) s) :
  wpAny (model prog w) A (getMethod (.ref x) name pl) Q E s:=by
 obtain⟨od,J,hl⟩:=I.look;exact PySem.W.method_fn X J (PySem.W.plainGet_of hg).1 (PySem.W.plainGet_of hg).2 hf (beq_iff_eq.mp ht) (by show(PySem.W.lookIn name od).map (·.isSome)=some false;rw[hl,hv];rfl) h
theorem set_map{ns:List Str}{Q:Unit->Shared->Prop}(X:K.In s.heap)(I:ObjM s.heap x dx C mA)
  (hs:PySem.W.findIn K (.ref C) "__setattr__"=some (some (.builtin "object.__setattr__"))) (hp:PySem.W.plainOver K C=true) (ht:PySem.W.takerIn K C name=some none) (hh:PySem.W.hasDictIn K C=true)
  (hw:PySem.Within mA ns) (hsz:ns.length<=sizeLine)
  (h:∀h',ObjM h' x dx C (λy=>if y=name then some v else mA y)->Heap.SameBut dx s.heap h'->Q () {s with heap:=h',toks:=s.toks+2}) :
  wpAny (model prog w) A (setAttr (.ref x) name v) Q E s:=by
 obtain⟨od,J,hl⟩:=I.look;refine PySem.W.set_plain X J hs (PySem.W.osa_open (s:={s with toks:=s.toks+1}) (r:=none) X J hp ht λb=>?_);obtain⟨cd,hc,hd'⟩:=PySem.W.any_some hh;have hx:s.heap.get? x=some ⟨.ref C,some dx,.plain,#[]⟩:=I.obj;refine wpAny_bind (wpAny_pure (wpAny_bind (wpAny_bind (wpAny_loadPart hx (wpAny_bind (PySem.W.Looks.here (s:={s with toks:=s.toks+1}) (PySem.W.looks_clsIn X hc) ?_))))));rw[hd'];refine wpAny_pure (a:=some dx) (wpAny_bind (wpAny_pure (wpAny_bind ?_)));refine wpAny_nsSet1 (s:={s with toks:=s.toks+1}) I.ns λh' hn2 hs2=>?_;obtain⟨oD,esD,epD,hoD,hdD,hcD⟩:=hn2.count (PySem.Within.cons name v hw);refine wpAny_bind (wpAny_lookBehind hoD (by rw[hdD];exact pastItsLine_dict (Nat.le_trans hcD (by rw[List.length_cons];omega))) ?_);exact wpAny_pure (h _ ⟨(hs2.2 _ (Ne.symm I.ne)).trans I.obj,hn2,I.ne⟩ hs2)
theorem make_map{R:Result->Shared->Prop}{vs:List Value}{kw:List (Str×Value)}(X:K.In s.heap)(hm:PySem.W.makesIn K C=true)
  (hi:PySem.W.findIn K (.ref C) "__init__"=some (some (.ref f))) (hf:PySem.W.typeIn K (.ref f)=some (.type "function"))
  (h:codeAny (model prog w) (A.under (.builtin "type.__call__" ⟨.ref C::vs,kw⟩)) (.call (.ref f) ⟨.ref (s.heap.objs.size+1)::vs,kw⟩) (PySem.W.InitBack (s.heap.objs.size+1) R)
   {s with heap:=(s.heap.push PySem.W.emptyDict).push (PySem.W.instObj C s.heap.objs.size)}) :
  codeAny (model prog w) A (.call (.ref C) ⟨vs,kw⟩) R s:=by
 obtain⟨hh,g,d,t,os⟩:=s;exact PySem.W.make_core (PySem.W.makes_of X hm) (PySem.W.looks_findIn X hi) (λself=>PySem.W.bind_fn X self hf) (.inl rfl) h
end
def putF(f:Str)(v:V):List (Str×V)->List (Str×V)
 | []=>[(f,v)]
 | (g,x)::r=>if g=f then (g,v)::r else (g,x)::putF f v r
theorem lookup_putF(f g:Str)(v:V):∀fs:List (Str×V),(putF f v fs).lookup g=if g=f then some v else fs.lookup g
 | []=>by
  show List.lookup g [(f,v)]=_;by_cases h:g=f
  .have hb:(g==f)=true:=beq_iff_eq.mpr h;simp only[List.lookup,hb,if_pos h]
  .have hb:(g==f)=false:=beq_eq_false_iff_ne.mpr h;simp only[List.lookup,hb,if_neg h]
 | (k,x)::r=>by
  have ih:=lookup_putF f g v r;rw[show putF f v ((k,x)::r)=(if k=f then (k,v)::r else (k,x)::putF f v r) from rfl];by_cases hk:k=f
  .rw [if_pos hk];by_cases h:g=k
   .have hb:(g==k)=true:=beq_iff_eq.mpr h;simp only[List.lookup,hb,if_pos (h.trans hk)]
   .have hb:(g==k)=false:=beq_eq_false_iff_ne.mpr h;simp only[List.lookup,hb,if_neg (λe:g=f=>h (e.trans hk.symm))]
  .rw [if_neg hk];by_cases h:g=k
   .have hb:(g==k)=true:=beq_iff_eq.mpr h;simp only[List.lookup,hb,if_neg (λe:g=f=>hk (h.symm.trans e))]
   .have hb:(g==k)=false:=beq_eq_false_iff_ne.mpr h;simp only[List.lookup,hb];exact ih
theorem keys_putF(f:Str)(v:V):∀fs:List (Str×V),f∈(putF f v fs).map (·.1)/\∀g,g∈fs.map (·.1)->g∈(putF f v fs).map (·.1)
 | []=>⟨by simp[putF],λg h=>by simp at h⟩
 | (k,x)::r=>by
  obtain⟨i1,i2⟩:=keys_putF f v r;rw[show putF f v ((k,x)::r)=(if k=f then (k,v)::r else (k,x)::putF f v r) from rfl];by_cases hk:k=f
  .rw[if_pos hk];subst hk;exact⟨by simp,λg h=>by simpa using h⟩
  .rw [if_neg hk];refine⟨?_,λg h=>?_⟩
   .rw[List.map_cons];exact List.mem_cons_of_mem _ i1
   .rw[List.map_cons] at h ⊢;rcases List.mem_cons.mp h with e|e
    .exact List.mem_cons.mpr (.inl e)
    .exact List.mem_cons_of_mem _ (i2 g e)
theorem length_putF(f:Str)(v:V):∀fs:List (Str×V),(putF f v fs).length<=fs.length+1
 | []=>by simp[putF]
 | (k,x)::r=>by
  have ih:=length_putF f v r;rw[show putF f v ((k,x)::r)=(if k=f then (k,v)::r else (k,x)::putF f v r) from rfl];by_cases hk:k=f
  .rw[if_pos hk,List.length_cons,List.length_cons];omega
  .rw[if_neg hk,List.length_cons,List.length_cons];omega
theorem RelO.some_of{v:V}{o:Option Value}(r:RelO (some v) o):∃u,o=some u/\RelV v u:=by
 cases o with
 | none=>exact(show False from r).elim
 | some u=>exact⟨u,rfl,r⟩
theorem RelO.none_of{o:Option Value}(r:RelO none o):o=none:=by
 cases o with
 | none=>rfl
 | some u=>exact(show False from r).elim
theorem handed_of{v:V}{u:Value}(r:RelV v u):PySem.W.handedIn u=true:=by
 cases v with
 | non=>cases(show u=Value.none from r);rfl
 | bl b=>cases(show u=Value.bool b from r);rfl
 | int i=>obtain⟨t,e⟩:=(show ∃t,u=Value.int i t from r);cases e;rfl
 | str x=>obtain⟨t,e⟩:=(show ∃t,u=Value.str x t from r);cases e;rfl
 | byt b=>obtain⟨t,e⟩:=(show ∃t,u=Value.bytes b t from r);cases e;rfl
 | flt b=>obtain⟨t,e⟩:=(show ∃t,u=Value.float b t from r);cases e;rfl
 | ref a=>cases(show u=Value.ref a from r);rfl
 | ty n=>cases(show u=Value.type n from r);rfl
section
variable{P:Program}{w:World}{H H':Hp}{h h':Heap}{a C dx:Addr}{fs fs':List (Str×V)}
theorem ins_get(hok:HOk P w H h)(e:H a=some (.ins C dx fs)):∃mA,ObjM h a dx C mA/\(∀f,RelO (fs.lookup f) (mA f))/\PySem.Within mA (fs.map (·.1))/\fs.length<=1000/\H dx=some (.own a):=by
 obtain⟨d,z,ne,ob,mA,n,r,q⟩:=(show ObjOk P w H h a (.ins C dx fs) from hok a _ e);exact⟨mA,⟨ob,n,ne⟩,r,q,z,d⟩
end
structure Cls(K:W.Frag)(C:Addr):Prop where
 pg:PySem.W.plainGet K C Str.empty=true
 hd:PySem.W.hasDictIn K C=true
 po:PySem.W.plainOver K C=true
 sa:PySem.W.findIn K (.ref C) "__setattr__"=some (some (.builtin "object.__setattr__"))
theorem Cls.get{K:W.Frag}{C:Addr}(c:Cls K C)(f:Str):PySem.W.plainGet K C f=true:=c.pg
def NoAttr(K:W.Frag)(C:Addr)(f:Str):Prop:=PySem.W.findIn K (.ref C) f=some none
theorem NoAttr.taker{K:W.Frag}{C:Addr}{f:Str}(n:NoAttr K C f):PySem.W.takerIn K C f=some none:=by
 unfold PySem.W.takerIn;rw[show PySem.W.findIn K (.ref C) f=some none from n];rfl
structure Con(K:W.Frag)(C:Addr)(f:Str)(v:V)(u:Value):Prop where
 at_:PySem.W.findIn K (.ref C) f=some (some u)
 rel:RelV v u
 get:PySem.W.specialIn K u "__get__"=some none
 cp:PySem.W.copiedNames.contains f=false
structure Meth(K:W.Frag)(C:Addr)(m:Str)(f:Addr):Prop where
 at_:PySem.W.findIn K (.ref C) m=some (some (.ref f))
 fn:PySem.W.isFn K (.ref f)=true
 kp:PySem.W.keepIn K (.ref f)=true
section
variable{X:Cx}{pins:List (Addr×Obj)}{σ:St}{H:Hp}{s:Shared}{a C dx:Addr}{fs:List (Str×V)}{f:Str}{v:V}{A:Around}{E:Value->Shared->Prop}
theorem getattr_ok{b:Bool}{Q:Value->Shared->Prop}(I:Inv X pins σ H s)(e:H a=some (.ins C dx fs))(c:Cls X.K C)(n:NoAttr X.K C f)(l:fs.lookup f=some v)
  (h:∀u s',Inv X pins σ H s'->RelV v u->Q u s'):wpAny (model X.prog X.w) A (getAttr (.ref a) f b) Q E s:=by
 obtain⟨mA,O,r,_,_,_⟩:=ins_get I.hok e;obtain⟨u,hu,ru⟩:=RelO.some_of (v:=v) (o:=mA f) (by rw[<-l];exact r f);exact get_map I.kIn O (c.get f) c.hd n hu (handed_of ru) (h u _ (I.tok _) ru)
theorem getmeth_ok{m:Str}{g:Addr}{pl:Sem Bool}{Q:Value×List Value->Shared->Prop}(I:Inv X pins σ H s)(e:H a=some (.ins C dx fs))(c:Cls X.K C)(k:Meth X.K C m g)(l:fs.lookup m=none)
  (h:Q (.ref g,[.ref a]) s):wpAny (model X.prog X.w) A (getMethod (.ref a) m pl) Q E s:=by
 obtain⟨mA,O,r,_,_,_⟩:=ins_get I.hok e;have hn:mA m=none:=RelO.none_of (by rw[<-l];exact r m);exact get_meth I.kIn O (c.get m) k.at_ k.fn hn h
theorem setattr_ok{y:V}{u:Value}{Q:Unit->Shared->Prop}(I:Inv X pins σ H s)(e:H a=some (.ins C dx fs))(c:Cls X.K C)(n:NoAttr X.K C f)(hl:fs.length<1000)(ry:RelV y u)
  (h:∀s',Inv X pins σ (upd H a (.ins C dx (putF f y fs))) s'->Q () s'):wpAny (model X.prog X.w) A (setAttr (.ref a) f u) Q E s:=by
 obtain⟨mA,O,r,wi,_,ho⟩:=ins_get I.hok e;have hz:(fs.map (·.1)).length<=sizeLine:=by rw[List.length_map,sizeLine_eq];omega
 refine set_map I.kIn O c.sa c.po n.taker c.hd wi hz λh' O' sb=>h _ ?_;have hd:∃o,h'.get? dx=some o:=let ⟨o,_,_,e',_⟩:=O'.ns;⟨o,e'⟩;refine I.write (x:=a) (e:=dx) (by rw[e];exact True.intro) (.inr ho) (λb q hb z=>(sb.2 b hb).trans z) hd ?_;refine⟨by rw[upd_ne O.ne];exact ho,?_,O.ne,O'.obj,_,O'.ns,λg=>?_,λg hg=>?_⟩
 .have:=length_putF f y fs;omega
 .show RelO ((putF f y fs).lookup g) (if g=f then some u else mA g);rw[lookup_putF];by_cases q:g=f
  .rw[if_pos q,if_pos q];exact ry
  .rw[if_neg q,if_neg q];exact r g
 .by_cases q:g=f
  .rw[q];exact(keys_putF f y fs).1
  .refine(keys_putF f y fs).2 g (wi g λz=>hg ?_);show(if g=f then some u else mA g)=none;rw[if_neg q];exact z
theorem Inv.made(I:Inv X pins σ H s):Inv X pins σ (upd (upd H s.heap.objs.size (.own (s.heap.objs.size+1))) (s.heap.objs.size+1) (.ins C s.heap.objs.size []))
  {s with heap:=(s.heap.push PySem.W.emptyDict).push (PySem.W.instObj C s.heap.objs.size)}:=by
 have e1:(s.heap.push PySem.W.emptyDict).get? s.heap.objs.size=some PySem.W.emptyDict:=Heap.get?_push_size s.heap rfl;have e2:((s.heap.push PySem.W.emptyDict).push (PySem.W.instObj C s.heap.objs.size)).get? (s.heap.objs.size+1)=some (PySem.W.instObj C s.heap.objs.size):=by
  have:=Heap.get?_push_size (s.heap.push PySem.W.emptyDict) (o:=PySem.W.instObj C s.heap.objs.size) rfl
  rwa [Heap.size_push] at this
 have e3:(s.heap.push PySem.W.emptyDict).Ns s.heap.objs.size (λ_=>none):=⟨PySem.W.emptyDict,#[],_,e1,rfl,(λe he=>absurd he (by simp)),λ_=>rfl⟩;have I1:=I.laid (a:=s.heap.objs.size) (o:=.own (s.heap.objs.size+1)) (h':=s.heap.push PySem.W.emptyDict) (t':=s.toks) (λb u q=>Heap.get?_push_of_some _ q) (Nat.le_refl _) ⟨_,e1⟩;refine I1.laid (a:=s.heap.objs.size+1) (o:=.ins C s.heap.objs.size []) (t':=s.toks) (λb u q=>Heap.get?_push_of_some _ q) (Nat.le_of_eq (Heap.size_push _ _)) ?_;have ne:s.heap.objs.size≠s.heap.objs.size+1:=Nat.ne_of_lt (Nat.lt_succ_self _);refine⟨by rw[upd_ne ne,upd_same],Nat.zero_le _,ne,e2,λ_=>none,(Heap.Ns1.of_empty e3).at λo q=>Heap.get?_push_of_some _ q,λ_=>True.intro,λy hy=>absurd rfl hy⟩
theorem attr_of{prog:Program}{w:World}{env:Env}{e:Expr}{f:Str}{pos:Pos}{s:Shared}{Q:Value->Shared->Prop}(hb:attributeBase e f env (eval e env)=eval e env)
  (h:wpAny (model prog w) A (eval e env) (λo s₁=>wpAny (model prog w) A (getAttr o f true) Q E s₁) E s):wpAny (model prog w) A (eval (.Attribute e f pos) env) Q E s:=
 Attribute_any_ h (by rw[arm_eval_Attribute,hb])
end
def tFld(K:W.Frag)(ta:TE)(f:Str):TE:=λσ H Q=>ta σ H λx H1=>∃a C dx fs v,x=.ref a/\H1 a=some (.ins C dx fs)/\Cls K C/\NoAttr K C f/\fs.lookup f=some v/\Q v H1
def tCon(K:W.Frag)(ta:TE)(f:Str):TE:=λσ H Q=>ta σ H λx H1=>∃a C dx fs v u,x=.ref a/\H1 a=some (.ins C dx fs)/\Cls K C/\Con K C f v u/\fs.lookup f=none/\Q v H1
def sFld(K:W.Frag)(ta tv:TE)(f:Str):TS:=λD σ H=>tv σ H λy H1=>ta σ H1 λx H2=>∃a C dx fs,x=.ref a/\H2 a=some (.ins C dx fs)/\Cls K C/\NoAttr K C f/\fs.length<1000 ∧
 D.nx σ (upd H2 a (.ins C dx (putF f y fs)))
def InOp(X:Cx)(op:Operator)(rd:V->V->Hp->VK->Prop):Prop:=
 ∀(pins:List (Addr×Obj))(s:Shared)(σ:St)(H:Hp)(x y:V)(u v:Value)(Q:VK),Inv X pins σ H s->RelV x u->RelV y v->rd x y H Q->wpAny (model X.prog X.w) X.A (inplaceOp op u v) (EP X pins σ Q) X.xe s
def sFldAug(K:W.Frag)(ta tv:TE)(rd:V->V->Hp->VK->Prop)(f:Str):TS:=λD σ H=>ta σ H λx H1=>∃a C dx fs v,x=.ref a/\H1 a=some (.ins C dx fs)/\Cls K C/\NoAttr K C f/\fs.lookup f=some v ∧
 tv σ H1 λy H2=>rd v y H2 λz H3=>∃dx' fs',H3 a=some (.ins C dx' fs')/\fs'.length<1000/\D.nx σ (upd H3 a (.ins C dx' (putF f z fs')))
section
variable{X:Cx}{o e value:Expr}{f:Str}{pos pos' tpos:Pos}{ta tv:TE}
theorem pe_fld(he:PE X e ta)(hb:attributeBase e f X.env (eval e X.env)=eval e X.env):PE X (.Attribute e f pos) (tFld X.K ta f):=by
 intro pins s σ H Q I h;refine attr_of hb (thn (he pins s σ H _ I h) λu s1 ⟨x,H1,I1,rx,a,C,dx,fs,v,ex,ea,c,n,l,q⟩=>?_);subst ex;obtain rfl:u=Value.ref a:=rx;exact getattr_ok I1 ea c n l λu' s2 I2 ru=>⟨v,H1,I2,ru,q⟩
theorem ps_fld(ha:PE X o ta)(hv:PE X value tv)(hs:swapsWith value (some (.Attribute o f pos')) pos.line X.env=pure false):PS X (.Assign [.Attribute o f pos'] value pos) (sFld X.K ta tv f):=by
 intro pins s σ H D I h;refine plainObj_wpAny_Assign_Attribute (thn (hv pins s σ H _ I h) λu s1 ⟨y,H1,I1,ry,q⟩=>thn (ha pins s1 σ H1 _ I1 q) λov s2 ⟨x,H2,I2,rx,a,C,dx,fs,ex,ea,c,n,l,q2⟩=>?_) hs;subst ex;obtain rfl:ov=Value.ref a:=rx;exact setattr_ok I2 ea c n l ry λs3 I3=>⟨σ,_,I3,q2⟩
def rAdd:V->V->Hp->VK->Prop:=λx y H Q=>∃i j,x=.int i/\y=.int j/\Q (.int (i+j)) H
def rSub:V->V->Hp->VK->Prop:=λx y H Q=>∃i j,x=.int i/\y=.int j/\Q (.int (i-j)) H
end
section
variable{X:Cx}{pins:List (Addr×Obj)}{σ:St}{H:Hp}{s:Shared}{A:Around}{E:Value->Shared->Prop}{Q:Value->Shared->Prop}{c:Value}{b:Bool}
inductive TyOf (K:W.Frag) (H:Hp):V->Value->Prop where
 | non:TyOf K H .non (.type "NoneType")
 | bl (x:Bool):TyOf K H (.bl x) (.type "bool")
 | int (i:Int):TyOf K H (.int i) (.type "int")
 | str (x:Str):TyOf K H (.str x) (.type "str")
 | flt (x:UInt64):TyOf K H (.flt x) (.type "float")
 | lst {a:Addr}{xs:List V} (e:H a=some (.lst xs)):TyOf K H (.ref a) (.type "list")
 | frz {a:Addr}{o:Obj}{xs:List V} (e:H a=some (.frz o (.lst xs))):TyOf K H (.ref a) (.type "list")
 | tup {a:Addr}{xs:List V} (e:H a=some (.tup xs)):TyOf K H (.ref a) (.type "tuple")
 | dK {a:Addr}{kvs:List (Key×V)} (e:H a=some (.dK kvs)):TyOf K H (.ref a) (.type "dict")
 | dT {a:Addr}{kvs:List (List Key×V)} (e:H a=some (.dT kvs)):TyOf K H (.ref a) (.type "dict")
 | ins {a C dx:Addr}{fs:List (Str×V)} (e:H a=some (.ins C dx fs)) (cl:Cls K C) (ha:PySem.W.findIn K (.ref C) "__class__"=some (some (.builtin "object.__class__")))
   (hn:PySem.W.specialIn K (.builtin "object.__class__") "__get__"=some (some (.builtin "getset_descriptor.__get__"))) (htk:PySem.W.takesIn K (.builtin "object.__class__")=some true)
   (hm:PySem.W.mroIn K C (.type "object")=some true):TyOf K H (.ref a) (.ref C)
end
structure Room(k:Nat)(A:Around):Prop where
 hd:A.handled=none
 dp:A.depth+3*k+5<recursionLimit
 un:A.units+16*k+200<cLine
theorem Room.mono{j k:Nat}{A:Around}(r:Room k A)(h:j<=k):Room j A:=⟨r.hd,by have:=r.dp;omega,by have:=r.un;omega⟩
theorem Room.deeper{k:Nat}{A:Around}(r:Room (k+1) A)(env:Env):Room k (A.deeper env):=
 ⟨r.hd,by have:=r.dp;show A.depth+1+3*k+5<_;omega,by have:=r.un;show A.units+3+16*k+200<_;omega⟩
theorem make_depth{A:Around}{C:Addr}{us:List Value}{kw:List (Str×Value)}:(A.under (.builtin "type.__call__" ⟨.ref C::us,kw⟩)).depth=A.depth+1:=by
 first|rfl|simp[Around.under,Code.weight,Code.isCreation,Code.isGuard,Code.isCaller,Code.frames,Code.isFrame,guardIds]
theorem make_units{A:Around}{C:Addr}{us:List Value}{kw:List (Str×Value)}:(A.under (.builtin "type.__call__" ⟨.ref C::us,kw⟩)).units=A.units+1:=by
 first|rfl|simp[Around.under,Code.cUnits,Code.frames,Code.isFrame]
theorem Room.make{k:Nat}{A:Around}(r:Room (k+1) A)(C:Addr)(us:List Value)(kw:List (Str×Value)):Room k (A.under (.builtin "type.__call__" ⟨.ref C::us,kw⟩)):=
 ⟨r.hd,by have:=r.dp;rw[make_depth];omega,by have:=r.un;rw[make_units];omega⟩
theorem Room.depth{k:Nat}{A:Around}(r:Room k A):A.depth<recursionLimit:=by have:=r.dp;omega
theorem Room.units{k:Nat}{A:Around}(r:Room k A):A.units+64<cLine:=by have:=r.un;omega
def tNil:TA:=λ_ H Q=>Q [] H
def tCons(ta:TE)(tr:TA):TA:=λσ H Q=>ta σ H λx H1=>tr σ H1 λxs H2=>Q (x::xs) H2
section
variable{X:Cx}{e:Expr}{es:List Expr}{te:TE}{t:TA}{pos:Pos}
theorem pa_nil:PA X [] tNil:=λ_ _ _ _ H Q I h=>Calls.spliced_nil ⟨[],H,I,.nil,h⟩
theorem pa_cons(ha:PE X e te)(hr:PA X es t)(hs:starEach (e::es) X.env=(false,eval e X.env)::starEach es X.env:=by rfl):PA X (e::es) (tCons te t):=by
 intro pos pins s σ H Q I h;rw[hs];show wpAny _ _ (spliced ((false,eval e X.env)::backTo pos (starEach es X.env))) _ _ s;refine Calls.spliced_cons (thn (ha pins s σ H _ I h) λu s1 ⟨x,H1,I1,r1,q1⟩=>?_);exact thn (hr pos pins s1 σ H1 _ I1 q1) λus s2 ⟨xs,H2,I2,r2,q2⟩=>⟨x::xs,H2,I2,.cons r1 r2,q2⟩
def tTup(t:TA):TE:=λσ H Q=>t σ H λxs H1=>xs.length<=sizeLine/\∀p,H1 p=none->Q (.ref p) (upd H1 p (.tup xs))
def tLst(t:TA):TE:=λσ H Q=>t σ H λxs H1=>xs.length<=sizeLine/\∀p,H1 p=none->Q (.ref p) (upd H1 p (.lst xs))
theorem pe_tup{x1}(h:PA X es t):PE X (.Tuple es x1 pos) (tTup t):=by
 intro pins s σ H Q I hq;refine wpAny_Tuple_spliced (thn (h pos pins s σ H _ I hq) λus s1 ⟨xs,H1,I1,r,z,q⟩=>⟨by rw[<-r.length];exact z,?_⟩);have hf:H1 s1.heap.objs.size=none:=I1.hok.fresh (Nat.le_refl _);refine⟨.ref s1.heap.objs.size,upd H1 s1.heap.objs.size (.tup xs),I1.laid (t':=s1.toks) (λb u e=>Heap.get?_push_of_some _ e) (Nat.le_refl _) ?_,rfl,q _ hf⟩;exact⟨z,us,r,⟨_,Heap.get?_push_size _ rfl,rfl,_,rfl⟩⟩
theorem pe_lst(h:PA X es t):PE X (.List es pos) (tLst t):=by
 intro pins s σ H Q I hq;refine wpAny_List_spliced (thn (h pos pins s σ H _ I hq) λus s1 ⟨xs,H1,I1,r,z,q⟩=>⟨by rw[<-r.length];exact z,?_⟩);have hf:H1 s1.heap.objs.size=none:=I1.hok.fresh (Nat.le_refl _);refine⟨.ref s1.heap.objs.size,upd H1 s1.heap.objs.size (.lst xs),I1.laid (t':=s1.toks) (λb u e=>Heap.get?_push_of_some _ e) (Nat.le_refl _) ?_,rfl,q _ hf⟩;exact⟨z,us,0,r,Heap.get?_push_size _ rfl⟩
end
abbrev Sp:=List V->Hp->VK->XK->Prop
abbrev CXT:=List Env->Hp->Shared->XK->Value->Shared->Prop
structure Env0(P:Program)(w:World)(K:W.Frag)(mg:Str->Option Value)(base:Heap)(A:Around)(outer:List Env)(s:Shared)(H:Hp):Prop where
 frames:A.frames=some outer
 mod:Mod K mg base
 bs:∀b o,base.get? b=some o->s.heap.get? b=some o/\H b=none
 bsz:base.objs.size<=s.heap.objs.size
 funs:s.heap.FunFrames base outer
 frf:∀b∈frs outer,H b=none
 hok:HOk P w H s.heap
 bare:AllBare s.gens
def CE(outer:List Env)(P:Program)(w:World)(H:Hp)(s:Shared)(Q:VK)(u:Value)(s':Shared):Prop:=
 ∃v H',s'.os=s.os/\AllBare s'.gens/\Un (frs outer) [] H H' s.heap s'.heap/\HOk P w H' s'.heap/\RelV v u/\Q v H'
def CR(CX:CXT)(outer:List Env)(P:Program)(w:World)(H:Hp)(s:Shared)(Q:VK)(E:XK)(r:Result)(s':Shared):Prop:=
 match r with
 | .ok (.ret u)=>CE outer P w H s Q u s'
 | .ok _=>False
 | .error e=>CX outer H s E e s'
structure FnOk(P:Program)(w:World)(K:W.Frag)(mg:Str->Option Value)(base:Heap)(CX:CXT)(k:Nat)(f:Addr)(fd:FuncData)(ps:List Str)(sp:Sp):Prop where
 len:∀vs H Q E,sp vs H Q E->vs.length=ps.length
 run:∀(A:Around)(outer:List Env)(s:Shared)(H:Hp)(args:Args)(us:List Value)(vs:List V)(Q:VK)(E:XK),Room k A->Env0 P w K mg base A outer s H->BindsTo s fd args (ps.zip us)->Vals vs us->sp vs H Q E →
  codeAny (model P w) A (.call (.ref f) args) (CR CX outer P w H s Q E) s
theorem Env0.make{P:Program}{w:World}{K:W.Frag}{mg:Str->Option Value}{base:Heap}{A:Around}{outer:List Env}{s:Shared}{H:Hp}(e:Env0 P w K mg base A outer s H)(C:Addr)(us:List Value)(kw:List (Str×Value)) :
  Env0 P w K mg base (A.under (.builtin "type.__call__" ⟨.ref C::us,kw⟩)) outer s H:=⟨by first|exact e.frames|(simpa[Around.under,Code.envs,Code.isFrame,pushEnvs] using e.frames),e.mod,e.bs,e.bsz,e.funs,e.frf,e.hok,e.bare⟩
section
variable{X:Cx}{pins:List (Addr×Obj)}{σ:St}{H:Hp}{s s':Shared}
theorem Inv.env0(I:Inv X pins σ H s):Env0 X.prog X.w X.K X.mg X.base X.A X.stack s H:=
 ⟨I.ok.frames,I.ok.mod,I.bs,Nat.le_trans I.ok.bsz I.sz,I.stack,I.stkFree,I.hok,I.bare⟩
theorem Inv.after{Q:VK}{u:Value}(I:Inv X pins σ H s)(h:CE X.stack X.prog X.w H s Q u s'):EP X pins σ Q u s':=by
 obtain⟨v,H',os,bare,un,hok,r,q⟩:=h;obtain⟨hh,g,d,t,os'⟩:=s';obtain rfl:os'=s.os:=os;exact⟨v,H',I.call (h':=hh) (g':=g) (d':=d) (t':=t) (ch:=[]) un hok bare (λb z=>absurd z (by simp)),r,q⟩
end
def tCall(sp:Sp)(dvs:List V)(E:XK)(t:TA):TE:=λσ H Q=>t σ H λvs H1=>sp (vs++dvs) H1 Q E
def tMeth(C:Addr)(m:Str)(sp:Sp)(dvs:List V)(E:XK)(ta:TE)(t:TA):TE:=λσ H Q=>ta σ H λx H1=>∃a dx fs,x=.ref a/\H1 a=some (.ins C dx fs)/\fs.lookup m=none ∧
 t σ H1 λvs H2=>sp (x::(vs++dvs)) H2 Q E
def tMake(C:Addr)(sp:Sp)(dvs:List V)(E:XK)(t:TA):TE:=λσ H Q=>t σ H λvs H1=>∀x dx,H1 x=none->H1 dx=none->dx≠x →
 sp (.ref x::(vs++dvs)) (upd (upd H1 dx (.own x)) x (.ins C dx [])) (λv H2=>v=.non/\Q (.ref x) H2) E
def Binds(K:W.Frag)(fd:FuncData)(ps:List Str)(ds:List Value):Prop:=
 ∀(s:Shared)(us:List Value),K.In s.heap->(us++ds).length=ps.length->BindsTo s fd ⟨us,[]⟩ (ps.zip (us++ds))
theorem Binds.all{K:W.Frag}{fd:FuncData}{ps:List Str}(h:∀us:List Value,us.length=ps.length->bindArgs fd ⟨us,[]⟩=pure (ps.zip us)):Binds K fd ps []:=λs us _ hl=>by
 rw[List.append_nil] at hl ⊢;exact .of_eq (h us hl)
def Passes(CX:CXT)(X:Cx)(E:XK):Prop:=∀(pins:List (Addr×Obj))(σ:St)(H:Hp)(s:Shared)(e:Value)(s':Shared),Inv X pins σ H s->CX X.stack H s E e s'->X.xe e s'
section
variable{X:Cx}{CX:CXT}{k:Nat}{f C:Addr}{fd:FuncData}{ps:List Str}{sp:Sp}{dvs:List V}{ds:List Value}{E:XK}{x m:Str}{p pos apos:Pos}{e o:Expr}{es:List Expr}{ta:TE}{t:TA}
theorem run_fn{pins:List (Addr×Obj)}{σ:St}{H:Hp}{s:Shared}{Q:VK}{us:List Value}{vs:List V}(F:FnOk X.prog X.w X.K X.mg X.base CX k f fd ps sp)(hr:Room k X.A)(hb:Binds X.K fd ps ds)(hd:Vals dvs ds)(hx:Passes CX X E)
  (I:Inv X pins σ H s) (r:Vals vs us) (h:sp (vs++dvs) H Q E):wpAny (model X.prog X.w) X.A (call (.ref f) us) (EP X pins σ Q) X.xe s:=by
 have r2:Vals (vs++dvs) (us++ds):=r.append hd;have hl:(us++ds).length=ps.length:=by rw[<-r2.length];exact F.len _ _ _ _ h
 refine wpAny_call (codeAny_mono (F.run X.A X.stack s H ⟨us,[]⟩ (us++ds) (vs++dvs) Q E hr I.env0 (hb s us I.kIn hl) r2 h) λr s' hq=>?_);cases r with
 | error e=>exact hx pins σ H s e s' I hq
 | ok fl=>
  cases fl with
  | ret u=>exact I.after hq
  | next=>exact False.elim hq
  | brk=>exact False.elim hq
  | cont=>exact False.elim hq
theorem pe_call(F:FnOk X.prog X.w X.K X.mg X.base CX k f fd ps sp)(hr:Room k X.A)(hg:Gl X x)(hm:X.mg x=some (.ref f))(hk:PySem.W.keepIn X.K (.ref f)=true)(hb:Binds X.K fd ps ds)(hd:Vals dvs ds)(hx:Passes CX X E)
  (ha:PA X (e::es) t) (hdb:(x==("__debug__":Str))=false:=by decide) (he:starEach (e::es) X.env=(false,eval e X.env)::starEach es X.env:=by rfl) (hpl:(backTo pos (starEach es X.env)).any (·.1)=false:=by rfl) :
  PE X (.Call (.Name x p) (e::es) [] pos) (tCall sp dvs E t):=by
 intro pins s σ H Q I h;refine wpAny_Call_Name_kw (ld_glob I hg hm ?_ hdb);refine PySem.W.callWith_K (h₀:=X.base) I.ok.mod.kin hk (thn (ha pos pins s σ H _ I h) λus s1 ⟨vs,H1,I1,r,q⟩=>⟨I1.kIn,?_⟩) he hpl;exact run_fn F hr hb hd hx I1 r q
theorem pe_meth{pl:Sem Bool}(he:PE X o ta)(c:Cls X.K C)(hm:Meth X.K C m f)(F:FnOk X.prog X.w X.K X.mg X.base CX k f fd ps sp)(hr:Room k X.A)(hb:Binds X.K fd ps ds)(hd:Vals dvs ds)(hx:Passes CX X E)(ha:PA X (e::es) t)
  (hst:starEach (e::es) X.env=(false,eval e X.env)::starEach es X.env:=by rfl) (hpl:(backTo pos (starEach es X.env)).any (·.1)=false:=by rfl)
  (ht:eval (.Call (.Attribute o m apos) (e::es) [] pos) X.env=(do
   let ov <-eval o X.env
   standAt apos.atName
   let (f,first) <-holding [ov] (getMethod ov m pl)
   callWith pos f first (backTo pos (starEach (e::es) X.env)) (backToKw pos (keywordEach [] X.env))):=by rfl) :
  PE X (.Call (.Attribute o m apos) (e::es) [] pos) (tMeth C m sp dvs E ta t):=by
 intro pins s σ H Q I h;refine PySem.W.methodCall_KW (pl:=pl) (thn (he pins s σ H _ I h) λu s1 ⟨x,H1,I1,rx,a,dx,fs,ex,ea,l,q⟩=>?_) ht;subst ex;obtain rfl:u=Value.ref a:=rx;refine getmeth_ok I1 ea c hm l ?_;refine PySem.W.callWith_K (first:=[.ref a]) (h₀:=X.base) I.ok.mod.kin hm.kp (thn (ha pos pins s1 σ H1 _ I1 q) λus s2 ⟨vs,H2,I2,r,q2⟩=>⟨I2.kIn,?_⟩) hst hpl;exact run_fn (us:=.ref a::us) (vs:=.ref a::vs) F hr hb hd hx I2 (.cons rfl r) q2
structure Mk(K:W.Frag)(C f:Addr):Prop where
 makes:PySem.W.makesIn K C=true
 init:PySem.W.findIn K (.ref C) "__init__"=some (some (.ref f))
 fn:PySem.W.isFn K (.ref f)=true
 kp:PySem.W.keepIn K (.ref C)=true
theorem run_make{pins:List (Addr×Obj)}{σ:St}{H:Hp}{s:Shared}{Q:VK}{us:List Value}{vs:List V}(M:Mk X.K C f)(F:FnOk X.prog X.w X.K X.mg X.base CX k f fd ps sp)(hr:Room (k+1) X.A)(hb:Binds X.K fd ps ds)(hd:Vals dvs ds)
  (hx:Passes CX X E) (I:Inv X pins σ H s) (r:Vals vs us)
  (h:∀x dx,H x=none->H dx=none->dx≠x->sp (.ref x::(vs++dvs)) (upd (upd H dx (.own x)) x (.ins C dx [])) (λv H2=>v=.non/\Q (.ref x) H2) E) :
  wpAny (model X.prog X.w) X.A (call (.ref C) us) (EP X pins σ Q) X.xe s:=by
 have hq:=h (s.heap.objs.size+1) s.heap.objs.size (I.hok.fresh (Nat.le_succ _)) (I.hok.fresh (Nat.le_refl _)) (Nat.ne_of_lt (Nat.lt_succ_self _));have I2:=Inv.made (C:=C) I;have r2:Vals (V.ref (s.heap.objs.size+1)::(vs++dvs)) (Value.ref (s.heap.objs.size+1)::(us++ds)):=.cons rfl (r.append hd);have hl:(Value.ref (s.heap.objs.size+1)::us++ds).length=ps.length:=by
  have e:=r2.length;rw[F.len _ _ _ _ hq] at e;exact e.symm
 refine wpAny_call (make_map (f:=f) I.kIn M.makes M.init (beq_iff_eq.mp M.fn) (codeAny_mono (F.run _ X.stack _ _ ⟨Value.ref (s.heap.objs.size+1)::us,[]⟩ (Value.ref (s.heap.objs.size+1)::(us++ds)) _ _ E (hr.make C us [])
  (I2.env0.make C us []) (hb _ (Value.ref (s.heap.objs.size+1)::us) I2.kIn hl) r2 hq) λr s' hq'=>?_))
 cases r with
 | error e=>exact hx pins σ _ _ e s' I2 hq'
 | ok fl=>
  cases fl with
  | ret u=>
   obtain⟨v,H',I3,rv,ev,q3⟩:=I2.after hq';subst ev;exact⟨rv,⟨V.ref (s.heap.objs.size+1),H',I3,rfl,q3⟩⟩
  | next=>exact False.elim hq'
  | brk=>exact False.elim hq'
  | cont=>exact False.elim hq'
theorem pe_make(M:Mk X.K C f)(F:FnOk X.prog X.w X.K X.mg X.base CX k f fd ps sp)(hr:Room (k+1) X.A)(hg:Gl X x)(hm:X.mg x=some (.ref C))(hb:Binds X.K fd ps ds)(hd:Vals dvs ds)(hx:Passes CX X E)
  (ha:PA X (e::es) t) (hdb:(x==("__debug__":Str))=false:=by decide) (he:starEach (e::es) X.env=(false,eval e X.env)::starEach es X.env:=by rfl) (hpl:(backTo pos (starEach es X.env)).any (·.1)=false:=by rfl) :
  PE X (.Call (.Name x p) (e::es) [] pos) (tMake C sp dvs E t):=by
 intro pins s σ H Q I h;refine wpAny_Call_Name_kw (ld_glob I hg hm ?_ hdb);refine PySem.W.callWith_K (h₀:=X.base) I.ok.mod.kin M.kp (thn (ha pos pins s σ H _ I h) λus s1 ⟨vs,H1,I1,r,q⟩=>⟨I1.kIn,?_⟩) he hpl;exact run_make M F hr hb hd hx I1 r q
end
def PK(X:Cx)(kws:List Keyword)(t:TA):Prop:=
 ∀(pos:Pos)(pins:List (Addr×Obj))(s:Shared)(σ:St)(H:Hp)(Q:List V->Hp->Prop),Inv X pins σ H s->t σ H Q->wpAny (model X.prog X.w) X.A (evalAll ((backToKw pos (keywordEach kws X.env)).map (·.2))) (AP X pins σ Q) X.xe s
section
variable{X:Cx}{CX:CXT}{k:Nat}{f C:Addr}{fd:FuncData}{ps ks:List Str}{sp:Sp}{E:XK}{x m:Str}{p pos apos kpos:Pos}{e o:Expr}{es:List Expr}{kws:List Keyword}{te ta:TE}{t tk:TA}{nm:Option Str}
structure KBinds(K:W.Frag)(fd:FuncData)(ps ks:List Str)(g:List Value->List Value->List Value)(gV:List V->List V->List V):Prop where
 to:∀(s:Shared)(us ws:List Value),K.In s.heap->(g us ws).length=ps.length->BindsTo s fd ⟨us,ks.zip ws⟩ (ps.zip (g us ws))
 rel:∀{vs:List V}{us:List Value}{zs:List V}{ws:List Value},Vals vs us->Vals zs ws->Vals (gV vs zs) (g us ws)
def tCallK(sp:Sp)(gV:List V->List V->List V)(E:XK)(t tk:TA):TE:=λσ H Q=>t σ H λvs H1=>tk σ H1 λzs H2=>sp (gV vs zs) H2 Q E
variable{g:List Value->List Value->List Value}{gV:List V->List V->List V}
end
structure FnScope(N P:List Str)(sc:Scope):Prop where
 kind:sc.kind=.function
 co:sc.isCoroutine=false
 gen:sc.isGenerator=false
 nd:N.Nodup
 pre:N.take P.length=P
 par:∀x∈P,sc.names.lookup x=some .local\/sc.names.lookup x=some .cell
 nofree:∀y∈sc.names,y.2≠.free
theorem bindL_out{kindOf:Str->Option NameKind}{x:Str}:∀{binds:List (Str×Value)}{m:Str->Option Value},(∀v,(x,v)∉binds)->bindL kindOf binds m x=m x
 | [],_,_=>rfl
 | (n,v)::r,m,h=>by
  unfold bindL;rw[bindL_out λw hw=>h w (List.mem_cons_of_mem _ hw)]
  split
  .have:x≠n:=by rintro rfl;exact h v List.mem_cons_self
   simp[this]
  .rfl
theorem bindC_out{kindOf:Str->Option NameKind}{x:Str}:∀{binds:List (Str×Value)}{m:Str->Option Value},(∀v,(x,v)∉binds)->bindC kindOf binds m x=m x
 | [],_,_=>rfl
 | (n,v)::r,m,h=>by
  unfold bindC;rw[bindC_out λw hw=>h w (List.mem_cons_of_mem _ hw)]
  split
  .rfl
  .have:x≠n:=by rintro rfl;exact h v List.mem_cons_self
   simp[this]
theorem bindL_get{kindOf:Str->Option NameKind}{x:Str}{v:Value}:∀{P:List Str}{vs:List Value}{i:Nat}{m:Str->Option Value},P.Nodup->P[i]?=some x->vs[i]?=some v->kindOf x=some .local →
  bindL kindOf (P.zip vs) m x=some v
 | [],_,_,_,_,h,_,_=>by simp at h
 | _::_,[],_,_,_,_,h,_=>by simp at h
 | p::P,w::vs,0,m,nd,h1,h2,hk=>by
  simp at h1 h2;subst h1;subst h2;show bindL kindOf ((p,w)::P.zip vs) m p=_;unfold bindL;rw[bindL_out λv hv=>(List.nodup_cons.mp nd).1 (List.of_mem_zip hv).1,if_pos hk];simp
 | p::P,w::vs,i+1,m,nd,h1,h2,hk=>by
  show bindL kindOf ((p,w)::P.zip vs) m x=_;unfold bindL;exact bindL_get (i:=i) (List.nodup_cons.mp nd).2 (by simpa using h1) (by simpa using h2) hk
theorem bindC_get{kindOf:Str->Option NameKind}{x:Str}{v:Value}:∀{P:List Str}{vs:List Value}{i:Nat}{m:Str->Option Value},P.Nodup->P[i]?=some x->vs[i]?=some v->kindOf x≠some .local →
  bindC kindOf (P.zip vs) m x=some v
 | [],_,_,_,_,h,_,_=>by simp at h
 | _::_,[],_,_,_,_,h,_=>by simp at h
 | p::P,w::vs,0,m,nd,h1,h2,hk=>by
  simp at h1 h2;subst h1;subst h2;show bindC kindOf ((p,w)::P.zip vs) m p=_;unfold bindC;rw[bindC_out λv hv=>(List.nodup_cons.mp nd).1 (List.of_mem_zip hv).1,if_neg hk];simp
 | p::P,w::vs,i+1,m,nd,h1,h2,hk=>by
  show bindC kindOf ((p,w)::P.zip vs) m x=_;unfold bindC;exact bindC_get (i:=i) (List.nodup_cons.mp nd).2 (by simpa using h1) (by simpa using h2) hk
def start(N:List Str)(vs:List V):St:=vs.map some++List.replicate (N.length-vs.length) none
def cxOf(CX:CXT)(P:Program)(w:World)(K:W.Frag)(mg:Str->Option Value)(base:Heap)(N:List Str)(qual:Str)(scope:Scope)(f:Addr)(cd:Value)(A:Around)(outer:List Env)(s:Shared)(H:Hp)(E:XK):Cx where
 prog:=P
 w:=w
 K:=K
 mg:=mg
 base:=base
 A:=A.deeper (envOfC qual scope s.heap.objs.size f cd)
 N:=N
 s₀:=s
 H₀:=H
 env:=envOfC qual scope s.heap.objs.size f cd
 outer:=outer
 stack:=envOfC qual scope s.heap.objs.size f cd::outer
 ex:=[]
 calm:=true
 fn:=λ_=>true
 pn:=[]
 xe:=λe s'=>wpAny (model P w) (A.deeper (envOfC qual scope s.heap.objs.size f cd)) (leaving (envOfC qual scope s.heap.objs.size f cd) e) (λ_ s''=>CX outer H s E e s'') (λe' s''=>CX outer H s E e' s'') s'
theorem cell_has{sc:Scope}{n:Nat}{x:Str}(h:sc.names.lookup x=some .cell):∃c,(cellsFrom n sc.names []).lookup x=some c:=by
 have q:=PySem.W.cellsFrom_some sc.names n [] (.inl h);exact Option.isSome_iff_exists.mp q
theorem inv_start{CX:CXT}{P:Program}{w:World}{K:W.Frag}{mg:Str->Option Value}{base:Heap}{N ps:List Str}{qual:Str}{scope:Scope}{f:Addr}{cd:Value}{A:Around}{outer:List Env}{s s1:Shared}{H:Hp}{E:XK}{us:List Value}{vs:List V}
  (S:FnScope N ps scope) (hd:A.handled=none) (e0:Env0 P w K mg base A outer s H) (hl:vs.length=ps.length) (r:Vals vs us)
  (x:InCallC s s.heap.objs.size (bindL (envOfC qual scope s.heap.objs.size f cd).kindOf (ps.zip us) λ_=>none) (cellsFrom (s.heap.objs.size+1) scope.names []) (bindC (envOfC qual scope s.heap.objs.size f cd).kindOf (ps.zip us) λ_=>none) s1) :
  Inv (cxOf CX P w K mg base N qual scope f cd A outer s H E) [] (start N vs) H s1:=by
 have hpl:ps.length<=N.length:=by have:=congrArg List.length S.pre;rw[List.length_take] at this;omega
 obtain⟨h1,tk,rfl,hk⟩:=x.done;have noA:∀b:Addr,b∉(cxOf CX P w K mg base N qual scope f cd A outer s H E).ex:=λb z=>absurd (show b∈([]:List Addr) from z) (by simp);refine⟨⟨e0.mod,S.kind,rfl,rfl,Nat.le_refl _,λy z c h1 h2=>?_,λy hy=>?_,λy c _ h=>?_,λ_=>hd,Around.frames_deeper e0.frames,.inr ⟨rfl,rfl⟩,λb z=>absurd z (noA b),e0.bs,e0.bsz,λb _ _=>noA b,λb z=>absurd z (noA b),e0.funs,e0.frf⟩,
  rfl,e0.bare,Un.kept hk,⟨_,x.toInCall.ns,λi y v h1 h2 h3=>?_⟩,λy c h=>⟨_,x.cell y c h⟩,e0.hok.fresh (Nat.le_refl _),λy c h=>?_,λp hp=>absurd (show p∈([]:List (Addr×Obj)) from hp) (by simp),e0.hok.kept hk,?_⟩
 .exact name_of_addr x.apart (PySem.mem_of_lookup h1) (PySem.mem_of_lookup h2)
 .have hy:scope.names.lookup y=some .cell\/scope.names.lookup y=some .free:=hy;rcases hy with hy|hy
  .exact cell_has hy
  .exact absurd rfl (S.nofree _ (PySem.mem_of_lookup hy))
 .exact Nat.le_of_lt (x.above y c (PySem.mem_of_lookup h))
 .have hi:i<vs.length:=by
   unfold start at h2;by_cases hi:i<vs.length
   .exact hi
   .rw[List.getElem?_append_right (by simpa using hi)] at h2;rw[List.getElem?_replicate] at h2
    split at h2<;>cases h2
  have ha:vs[i]?=some v:=by
   unfold start at h2;rw[List.getElem?_append_left (by simpa using hi),List.getElem?_map] at h2;cases e:vs[i]? with
   | none=>rw[e] at h2;cases h2
   | some a=>rw[e] at h2;cases h2;rfl
  obtain⟨u,hu,rv⟩:=r.get ha;have hp:ps[i]?=some y:=by
   rw[<-S.pre,List.getElem?_take_of_lt (by omega)];exact h1
  have ndP:ps.Nodup:=by rw[<-S.pre];exact S.nd.sublist (List.take_sublist _ _)
  refine⟨u,rv,?_⟩;rcases S.par y (List.mem_of_getElem? hp) with k|k
  .exact .inl ⟨k,bindL_get ndP hp hu k⟩
  .obtain⟨c,e⟩:=cell_has (n:=s.heap.objs.size+1) k;refine .inr ⟨.inl k,c,e,?_⟩;have q:=x.cell y c e;rw[bindC_get ndP hp hu (by show scope.names.lookup y≠_;rw[k];decide)] at q;exact q
 .exact e0.hok.fresh (Nat.le_of_lt (x.above y c (PySem.mem_of_lookup h)))
 .unfold start;show _=N.length;rw[List.length_append,List.length_map,List.length_replicate];omega
theorem fn_of{CX:CXT}{P:Program}{w:World}{K:W.Frag}{mg:Str->Option Value}{base:Heap}{k:Nat}{f:Addr}{name qual:Str}{params:Arguments}{body:List Stmt}{scope:Scope}{dV kV doc pm cdv ct oc:Value}{an od:Option Addr}
  {osl:Array (Option Value)}{N ps:List Str}{sp:Sp} (lk:K.lookup f=some ⟨oc,od,.func (PySem.W.fnOf name qual params body scope dV kV doc pm an cdv ct),osl⟩) (hcd:PySem.W.codeIn K cdv qual=true) (S:FnScope N ps scope)
  (len:∀vs H Q E,sp vs H Q E->vs.length=ps.length)
  (hbody:∀(A:Around)(outer:List Env)(s:Shared)(H:Hp)(vs:List V)(Q:VK)(E:XK),Room k (A.deeper (envOfC qual scope s.heap.objs.size f cdv))->sp vs H Q E →
   ∃t,PSs (cxOf CX P w K mg base N qual scope f cdv A outer s H E) body t/\t {nx:=λ_ H'=>Q .non H',rt:=Q} (start N vs) H) :
  FnOk P w K mg base CX (k+1) f (PySem.W.fnOf name qual params body scope dV kV doc pm an cdv ct) ps sp:=by
 refine⟨len,λA outer s H args us vs Q E hr e0 hb r hsp=>?_⟩;have hl:=len _ _ _ _ hsp;have KX:K.In s.heap:=e0.mod.kin.keeps λb o e=>(e0.bs b o e).1;have lim:s.heap.NoLimit:=e0.mod.nolimit.keeps λb o e=>(e0.bs b o e).1;have hkind:∀y∈ps.zip us,scope.names.lookup y.1=some .local\/(scope.names.lookup y.1=some .cell/\((cellsFrom (s.heap.objs.size+1) scope.names []).lookup y.1).isSome=true):=λ⟨n,v⟩ hy=>by
  rcases S.par n (List.of_mem_zip hy).1 with q|q
  .exact .inl q
  .exact .inr ⟨q,PySem.W.cellsFrom_some _ _ _ (.inl q)⟩
 refine codeAny_call_function hr.depth (KX _ _ lk) rfl S.co S.gen rfl (PySem.W.codeRec_of KX hcd) (hb _ _ _ _ ?_);refine wpAny_newFunctionEnv_cells S.kind hkind λenv he s1 x=>?_;subst he;refine⟨lim.keeps x.toInCall.keep,codeAny_func ?_⟩;obtain⟨t,ht,hq⟩:=hbody A outer s H vs Q E (hr.deeper _) hsp;have I:Inv (cxOf CX P w K mg base N qual scope f cdv A outer s H E) [] (start N vs) H s1:=inv_start S hr.hd e0 hl r x;refine wpAny_mono (ht [] s1 (start N vs) H _ I hq) (λfl s' hs=>?_) λe s' hs=>hs;have fin:∀{σ':St}{H':Hp}{v:V}{u:Value},Inv (cxOf CX P w K mg base N qual scope f cdv A outer s H E) [] σ' H' s'->RelV v u->Q v H'->CE outer P w H s Q u s':=
  λ{σ' H' v u} J rv q=>⟨v,H',J.os,J.bare,J.base,J.hok,rv,q⟩
 cases fl with
 | ret u=>
  obtain⟨v,σ',H',J,rv,q⟩:=hs;exact fin J rv q
 | next=>
  obtain⟨σ',H',J,q⟩:=hs;exact fin (v:=V.non) (u:=Value.none) J rfl q
 | brk=>
  obtain⟨_,_,_,q⟩:=hs;exact False.elim q
 | cont=>
  obtain⟨_,_,_,q⟩:=hs;exact False.elim q
section
variable{X:Cx}{x:Str}{p pos:Pos}{e:Expr}{es:List Expr}{t:TA}{id T:String}{r:List V->Hp->VK->Prop}
def tCB(r:List V->Hp->VK->Prop)(t:TA):TE:=λσ H Q=>t σ H λvs H1=>r vs H1 Q
theorem pe_callB(hc:CallR X (.builtin id) r)(hg:Gl X x)(hm:X.mg x=none)(hv:bootBuiltins x=some (.builtin id))(ha:PA X (e::es) t)(hn:x≠"__name__":=by decide)(hdb:(x==("__debug__":Str))=false:=by decide)
  (he:starEach (e::es) X.env=(false,eval e X.env)::starEach es X.env:=by rfl) (hpl:(backTo pos (starEach es X.env)).any (·.1)=false:=by rfl):PE X (.Call (.Name x p) (e::es) [] pos) (tCB r t):=by
 intro pins s σ H Q I h;refine wpAny_Call_Name_kw (ld_blt I hg hm hv ?_ hn hdb);exact PyProof.Rows.callWith_builtin1 (thn (ha pos pins s σ H _ I h) λus s1 ⟨vs,H1,I1,r1,q1⟩=>hc pins s1 σ H1 vs us Q I1 r1 q1) he hpl
theorem pe_callTy(hc:CallR X (.type T) r)(hg:Gl X x)(hm:X.mg x=none)(hv:bootBuiltins x=some (.type T))(ha:PA X (e::es) t)(hn:x≠"__name__":=by decide)(hdb:(x==("__debug__":Str))=false:=by decide)
  (he:starEach (e::es) X.env=(false,eval e X.env)::starEach es X.env:=by rfl) (hpl:(backTo pos (starEach es X.env)).any (·.1)=false:=by rfl):PE X (.Call (.Name x p) (e::es) [] pos) (tCB r t):=by
 intro pins s σ H Q I h;refine wpAny_Call_Name_kw (ld_blt I hg hm hv ?_ hn hdb);exact PyProof.Rows.callWith_type1 (thn (ha pos pins s σ H _ I h) λus s1 ⟨vs,H1,I1,r1,q1⟩=>hc pins s1 σ H1 vs us Q I1 r1 q1) he hpl
end
end L2
namespace HT
open PySem PyProof.Rows
def lexLt:List Int->List Int->Bool
 | [],[]=>false
 | [],_::_=>true
 | _::_,[]=>false
 | x::xs,y::ys=>if x=y then lexLt xs ys else decide (x<y)
theorem lexLt_cons(x y:Int)(xs ys:List Int):lexLt (x::xs) (y::ys)=if x=y then lexLt xs ys else decide (x<y):=rfl
theorem lexLt_nil_nil:lexLt [] []=false:=rfl
theorem lexLt_nil_cons(y:Int)(ys:List Int):lexLt [] (y::ys)=true:=rfl
theorem lexLt_cons_nil(x:Int)(xs:List Int):lexLt (x::xs) []=false:=rfl
section
open PySem.SeqAt
open PySem.AutoSeq1 (wpAny_loadPart')
open PySem.MeetsSeq PySem.MeetsSeq2 PySem.MeetsSeq3
end
section
variable{prog:Program}{w:World}{A:Around}{E:Value->Shared->Prop}{s:Shared}
def sIx(n d:Nat):Option Int->Nat
 | none=>d
 | some v=>if v<0 then (v+(n:Int)).toNat else min v.toNat n
theorem sIx_nat(n d k:Nat):sIx n d (some (k:Int))=min k n:=by
 show(if (k:Int)<0 then ((k:Int)+(n:Int)).toNat else min (k:Int).toNat n)=min k n;rw[if_neg (by omega),Int.toNat_natCast]
end
end HT
namespace L2
open PySem PySem.Spec PyProof.Rows
abbrev TO:=St->Hp->(Option Int->Hp->Prop)->Prop
def PO(X:Cx)(e:Option Expr)(t:TO):Prop:=
 ∀(pins:List (Addr×Obj))(s:Shared)(σ:St)(H:Hp)(Q:Option Int->Hp->Prop),Inv X pins σ H s->t σ H Q →
  wpAny (model X.prog X.w) X.A (evalPart e X.env) (λu s'=>∃o H',Inv X pins σ H' s'/\IsPart u o/\Q o H') X.xe s
def tNoPart:TO:=λ_ H Q=>Q none H
def tPart(t:TE):TO:=λσ H Q=>t σ H λx H1=>∃i,x=.int i/\Q (some i) H1
theorem intsAre_of{ns:List Int}:∀{us:List Value},Vals (ns.map V.int) us->IntsAre us ns:=by
 induction ns with
 | nil=>intro us r;rw[List.map_nil] at r;cases r;exact .nil
 | cons n ns ih=>
  intro us r;rw[List.map_cons] at r;cases r with
  | cons r1 r2=>
   obtain⟨t,e⟩:=r1;subst e;exact .cons n t (ih r2)
section
variable{X:Cx}{e:Expr}{te:TE}{lo hi:Option Expr}{tl th:TO}{pos p2:Pos}
theorem po_none:PO X none tNoPart:=by
 intro pins s σ H Q I h;rw[evalPart_none];exact wpAny_pure ⟨none,H,I,.none,h⟩
theorem po_some(h:PE X e te):PO X (some e) (tPart te):=by
 intro pins s σ H Q I hw;rw[evalPart_some];refine thn (h pins s σ H _ I hw) λu s1 ⟨x,H1,I1,r1,q1⟩=>?_;obtain⟨i,rfl,q⟩:=q1;obtain⟨t,rfl⟩:=r1;exact⟨some i,H1,I1,.int i t,q⟩
def SlR(X:Cx)(r:V->Option Int->Option Int->Hp->VK->Prop):Prop:=
 ∀(pins:List (Addr×Obj))(s:Shared)(σ:St)(H:Hp)(x:V)(v vl vu:Value)(lo hi:Option Int)(sl:Addr)(Q:VK),Inv X pins σ H s->RelV x v->s.heap.IsSliceOf sl vl vu .none->IsPart vl lo->IsPart vu hi->r x lo hi H Q →
  ∃T id,typeLookup (.type T) "__getitem__"=pure (some (.builtin id))/\s.TypeIs v T/\wpAny (model X.prog X.w) X.A (getItem v (.ref sl)) (EP X pins σ Q) X.xe s
def tSl(r:V->Option Int->Option Int->Hp->VK->Prop)(te:TE)(tl th:TO):TE:=λσ H Q=>te σ H λx H1=>tl σ H1 λl H2=>th σ H2 λu H3=>r x l u H3 Q
theorem pe_slice{r:V->Option Int->Option Int->Hp->VK->Prop}(hr:SlR X r)(he:PE X e te)(hl:PO X lo tl)(hu:PO X hi th):PE X (.Subscript e (.Slice lo hi none p2) pos) (tSl r te tl th):=by
 intro pins s σ H Q I h;refine Subscript_ (thn (he pins s σ H _ I h) λv s1 ⟨x,H1,I1,r1,q1⟩=>?_);refine wpAny_Slice (thn (hl pins s1 σ H1 _ I1 q1) λvl s2 ⟨l,H2,I2,pl,q2⟩=>thn (hu pins s2 σ H2 _ I2 q2) λvu s3 ⟨u,H3,I3,pu,q3⟩=>?_);rw[evalPart_none];refine wpAny_pure ?_;have I4:Inv X pins σ H3 {s3 with heap:=s3.heap.push {cls:=.type "slice",data:=.fields #[vl,vu,.none]}}:=I3.kept (t':=s3.toks) λb ob q=>Heap.get?_push_of_some _ q;obtain⟨T,id,hT,ht,hg⟩:=hr pins {s3 with heap:=s3.heap.push {cls:=.type "slice",data:=.fields #[vl,vu,.none]}} σ H3 x v vl vu l u s3.heap.objs.size Q I4 r1 (Heap.IsSliceOf.new ..) pl pu q3;show wpAny (model X.prog X.w) X.A (subscriptTail e (.Slice lo hi none p2) v (.ref s3.heap.objs.size)) (EP X pins σ Q) X.xe {s3 with heap:=s3.heap.push {cls:=.type "slice",data:=.fields #[vl,vu,.none]}};exact tail_any (ops:=[.ref s3.heap.objs.size,v]) ht hT hg (by with_unfolding_all rfl)
def cutV(xs:List V)(lo hi:Option Int):List V:=(xs.drop (HT.sIx xs.length 0 lo)).take (HT.sIx xs.length xs.length hi-HT.sIx xs.length 0 lo)
theorem cutV_length(xs:List V)(lo hi:Option Int):(cutV xs lo hi).length<=xs.length:=by
 unfold cutV;rw[List.length_take,List.length_drop];omega
def rSlT(K:W.Frag):V->Option Int->Option Int->Hp->VK->Prop:=λx lo hi H Q=>∃a xs,x=.ref a/\SqT K H a xs ∧
 ¬(HT.sIx xs.length 0 lo=0/\HT.sIx xs.length xs.length hi=xs.length)/\∀p,H p=none->Q (.ref p) (upd H p (.tup (cutV xs lo hi)))
def rLtT(K:W.Frag):R2:=λx y H Q=>∃a b ns ms,x=.ref a/\y=.ref b/\SqT K H a (ns.map V.int)/\SqT K H b (ms.map V.int)/\Q (.bl (HT.lexLt ns ms)) H
def rCatT(K:W.Frag):R2:=λx y H Q=>∃a b xs ys,x=.ref a/\y=.ref b/\SqT K H a xs/\SqT K H b ys/\xs≠[]/\xs.length+ys.length<=sizeLine ∧
 (ys=[]->Q (.ref a) H)/\(ys≠[]->∀p,H p=none->Q (.ref p) (upd H p (.tup (xs++ys))))
end
def ixN(n:Nat)(i:Int):Option Nat:=if 0<=i then (if i<n then some i.toNat else none) else if -(n:Int)<=i then some (i+n).toNat else none
def atI{α:Type}(xs:List α)(i:Int):Option α:=(ixN xs.length i).bind λj=>xs[j]?
theorem ixN_seq{n:Nat}{i:Int}{j:Nat}(h:ixN n i=some j):seqIndex? i n=some j/\j<n/\-(n:Int)<=i/\i<n:=by
 unfold ixN at h;by_cases h0:0<=i
 .rw [if_pos h0] at h;by_cases h1:i<n
  .rw[if_pos h1] at h;have e:i.toNat=j:=Option.some.inj h;exact⟨by rw[seqIndex_of h0 h1,e],by omega,by omega,h1⟩
  .rw[if_neg h1] at h;cases h
 .rw [if_neg h0] at h;by_cases h1:-(n:Int)<=i
  .rw[if_pos h1] at h;have e:(i+n).toNat=j:=Option.some.inj h;exact⟨by rw[seqIndex_neg (by omega) h1,e],by omega,h1,by omega⟩
  .rw[if_neg h1] at h;cases h
theorem atI_get{α:Type}{xs:List α}{i:Int}{v:α}(h:atI xs i=some v):∃j,seqIndex? i xs.length=some j/\xs[j]?=some v/\j<xs.length/\-(xs.length:Int)<=i/\i<xs.length:=by
 unfold atI at h;cases e:ixN xs.length i with
 | none=>rw[e] at h;cases h
 | some j=>
  rw[e] at h;obtain⟨h1,h2,h3,h4⟩:=ixN_seq e;exact⟨j,h1,h,h2,h3,h4⟩
theorem atI_nat{α:Type}{xs:List α}{j:Nat}{v:α}(h:xs[j]?=some v):atI xs (j:Int)=some v:=by
 have hj:j<xs.length:=(List.getElem?_eq_some_iff.mp h).1;have e:ixN xs.length (j:Int)=some j:=by
  unfold ixN;rw[if_pos (by omega),if_pos (by omega)];simp
 unfold atI;rw[e];exact h
def PlainIx(b:Expr):Prop:=∀o i,subscripted b false o i=operate [o,i] (getItem o i)
def IxR(X:Cx)(r:R2):Prop:=
 ∀(value slice:Expr)(pins:List (Addr×Obj))(s:Shared)(σ:St)(H:Hp)(x y:V)(v u:Value)(Q:VK),Inv X pins σ H s->RelV x v->RelV y u->r x y H Q →
  subscripted slice false v u=operate [v,u] (getItem v u)->wpAny (model X.prog X.w) X.A (subscriptTail value slice v u) (EP X pins σ Q) X.xe s
def MtR(X:Cx)(id:String)(r:V->List V->Hp->VK->Prop):Prop:=
 ∀(pins:List (Addr×Obj))(s:Shared)(σ:St)(H:Hp)(x:V)(xs:List V)(v:Value)(us:List Value)(Q:VK),Inv X pins σ H s->RelV x v->Vals xs us->r x xs H Q →
  wpAny (model X.prog X.w) X.A (call (.builtin id) (v::us)) (EP X pins σ Q) X.xe s
section
variable{X:Cx}{a b:Expr}{ta tb:TE}{pos:Pos}
theorem pe_ix{r:R2}(hr:IxR X r)(ha:PE X a ta)(hb:PE X b tb)(hs:PlainIx b):PE X (.Subscript a b pos) (tOp r ta tb):=by
 intro pins s σ H Q I h;exact Subscript_ (binT ha hb I h λv u s2 x y H2 I2 rx ry q=>hr a b pins s2 σ H2 x y v u Q I2 rx ry q (hs _ _))
def rIxL(K:W.Frag):R2:=λx y H Q=>∃p xs i v,x=.ref p/\y=.int i/\SqL K H p xs/\atI xs i=some v/\Q v H
def rIxT(K:W.Frag):R2:=λx y H Q=>∃p xs i v,x=.ref p/\y=.int i/\SqT K H p xs/\atI xs i=some v/\Q v H
def rIxS:R2:=λx y H Q=>∃z i c,x=.str z/\y=.int i/\z.length<=sizeLine/\atI z.cps.toList i=some c/\Q (.str ⟨#[c]⟩) H
theorem ix_list:IxR X (rIxL X.K):=by
 intro value slice pins s σ H x y v u Q I rx ry h hs;obtain⟨p,xs,i,z,rfl,rfl,hq,he,q⟩:=h;cases rx;obtain⟨t,rfl⟩:=ry;obtain⟨its,r,pl,hz⟩:=I.list hq;obtain⟨j,h1,h2,h3,h4,h5⟩:=atI_get he;obtain⟨w,ew,rw'⟩:=r.get h2;have hl:=r.length;have hn:=line63;have fin:EP X pins σ Q w s:=⟨z,H,I,rw',q⟩;by_cases h0:0<=i
 .have hj:i.toNat=j:=by
   rw[seqIndex_of h0 h5] at h1;exact Option.some.inj h1
  exact item_listR pl.isList h0 (by omega) (by rw[hj];simpa using ew) fin hs
 .have hj:(i+(its.toArray.size:Int)).toNat=j:=by
   rw[seqIndex_neg (by omega) h4] at h1;rw[List.size_toArray,<-hl];exact Option.some.inj h1
  exact subscriptTail_builtinR (x:=w) pl.isList.typeIs slot_list_getitem.lookup
   (wpAny_getItem_list_neg (Q:=λr s'=>r=w/\EP X pins σ Q r s') pl.isList (by omega) (by rw[List.size_toArray]<;>omega) (by omega) (by rw[hj];simpa using ew) ⟨rfl,fin⟩) hs
theorem ix_tup:IxR X (rIxT X.K):=by
 intro value slice pins s σ H x y v u Q I rx ry h hs;obtain⟨p,xs,i,z,rfl,rfl,hq,he,q⟩:=h;cases rx;obtain⟨t,rfl⟩:=ry;obtain⟨its,r,pl,hz⟩:=I.tuple hq;obtain⟨j,h1,h2,h3,h4,h5⟩:=atI_get he;obtain⟨w,ew,rw'⟩:=r.get h2;have hl:=r.length;have hn:=line63;have fin:EP X pins σ Q w s:=⟨z,H,I,rw',q⟩;exact subscriptTail_builtinR (x:=w) pl.typeIs slot_tuple_getitem.lookup
  (getItem_tuple (j:=j) (Q:=λr s'=>r=w/\EP X pins σ Q r s') pl (by omega) (by omega) (by rw[List.size_toArray,<-hl];exact h1) (by simpa using ew) ⟨rfl,fin⟩) hs
def rIx(K:W.Frag):R2:=λx y H Q=>rIxL K x y H Q\/rIxT K x y H Q\/rIxS x y H Q
def rSetL:V->V->V->Hp->(Hp->Prop)->Prop:=λo i v H Q=>∃p xs k j,o=.ref p/\i=.int k/\H p=some (.lst xs)/\ixN xs.length k=some j/\Q (upd H p (.lst (xs.set j v)))
theorem slice_bounds(lo hi:Option Int)(n:Nat):(sliceBounds lo hi none n).1=((HT.sIx n 0 lo:Nat):Int)/\(sliceBounds lo hi none n).2.1=((HT.sIx n n hi:Nat):Int)/\(sliceBounds lo hi none n).2.2=1:=by
 refine⟨?_,?_,rfl⟩
 .cases lo with
  | none=>simp[sliceBounds,HT.sIx]
  | some i=>
   simp only[sliceBounds,HT.sIx,Option.getD_none,show(1:Int)>0 by decide,if_true];by_cases h:i<0
   .simp only[h,if_true]<;>omega
   .simp only[h,if_false]<;>omega
 .cases hi with
  | none=>simp[sliceBounds,HT.sIx]
  | some i=>
   simp only[sliceBounds,HT.sIx,Option.getD_none,show(1:Int)>0 by decide,if_true];by_cases h:i<0
   .simp only[h,if_true]<;>omega
   .simp only[h,if_false]<;>omega
theorem slicePick_cut(its:List Value)(lo hi:Option Int):slicePick its.toArray lo hi none=((its.drop (HT.sIx its.length 0 lo)).take (HT.sIx its.length its.length hi-HT.sIx its.length 0 lo)).toArray:=by
 obtain⟨h1,h2,h3⟩:=slice_bounds lo hi its.toArray.size;unfold slicePick;rw[h1,h2,h3];simp only[sliceRange_one,pick_run,List.size_toArray]<;>rfl
def rSlL(K:W.Frag):V->Option Int->Option Int->Hp->VK->Prop:=λx lo hi H Q=>∃a xs,x=.ref a/\SqL K H a xs/\∀p,H p=none->Q (.ref p) (upd H p (.lst (cutV xs lo hi)))
theorem sl_list:SlR X (rSlL X.K):=by
 intro pins s σ H x v vl vu lo hi sl Q I rx hs pl pu h;obtain⟨a,xs,rfl,hx,q⟩:=h;cases rx;obtain⟨its,r,ht,hz⟩:=I.list hx;have hlen:=r.length;refine⟨"list",_,slot_list_getitem.lookup,ht.isList.typeIs,?_⟩;refine wpAny_getItem_list_slice ht.isList hs pl pu .none (by simp) ?_ (by rw[List.size_toArray]<;>omega);rw[slicePick_cut,<-hlen];refine⟨.ref s.heap.objs.size,_,I.laid (t':=s.toks) (o:=.lst (cutV xs lo hi)) (λb ob q=>Heap.get?_push_of_some _ q) (Nat.le_refl _) ?_,rfl,q _ (I.hok.fresh (Nat.le_refl _))⟩;exact⟨Nat.le_trans (cutV_length xs lo hi) hz,_,0,(r.drop (HT.sIx xs.length 0 lo)).take (HT.sIx xs.length xs.length hi-HT.sIx xs.length 0 lo),Heap.get?_push_size _ rfl⟩
def flatV:V->Bool
 | .non=>true
 | .bl _=>true
 | .int _=>true
 | .str _=>true
 | _=>false
def eqV:V->V->Bool
 | .non,.non=>true
 | .bl a,.bl b=>a==b
 | .bl a,.int b=>(if a then 1 else 0)==b
 | .int a,.bl b=>a==(if b then 1 else 0)
 | .int a,.int b=>a==b
 | .str a,.str b=>a==b
 | _,_=>false
theorem eqAt_V{A:Around}{s:Shared}{y x:V}{u v:Value}(ry:RelV y u)(rx:RelV x v)(fy:flatV y=true)(fx:flatV x=true):SeqAt.EqAt A s u v (eqV y x):=by
 cases y with
 | non=>
  cases ry;cases x with
  | non=>cases rx;exact SeqAt.EqAt.same _
  | bl b=>cases rx;exact SeqAt.EqAt.none_bool b
  | int b=>obtain⟨t,rfl⟩:=rx;exact SeqAt.EqAt.none_int b t
  | str b=>obtain⟨t,rfl⟩:=rx;exact SeqAt.EqAt.none_str b t
  | _=>exact absurd (show false=true from fx) Bool.false_ne_true
 | bl a=>
  cases ry;cases x with
  | non=>cases rx;exact SeqAt.EqAt.bool_none a
  | bl b=>cases rx;exact SeqAt.EqAt.bool_bool a b
  | int b=>obtain⟨t,rfl⟩:=rx;exact SeqAt.EqAt.bool_int a b t
  | str b=>obtain⟨t,rfl⟩:=rx;exact SeqAt.EqAt.bool_str a b t
  | _=>exact absurd (show false=true from fx) Bool.false_ne_true
 | int a=>
  obtain⟨t',rfl⟩:=ry;cases x with
  | non=>cases rx;exact SeqAt.EqAt.int_none a t'
  | bl b=>cases rx;exact SeqAt.EqAt.int_bool a t' b
  | int b=>obtain⟨t,rfl⟩:=rx;exact SeqAt.EqAt.int_int a t' b t
  | str b=>obtain⟨t,rfl⟩:=rx;exact SeqAt.EqAt.int_str a t' b t
  | _=>exact absurd (show false=true from fx) Bool.false_ne_true
 | str a=>
  obtain⟨t',rfl⟩:=ry;cases x with
  | non=>cases rx;exact SeqAt.EqAt.str_none a t'
  | bl b=>cases rx;exact SeqAt.EqAt.str_bool a t' b
  | int b=>obtain⟨t,rfl⟩:=rx;exact SeqAt.EqAt.str_int a t' b t
  | str b=>obtain⟨t,rfl⟩:=rx;exact SeqAt.EqAt.str_str a t' b t
  | _=>exact absurd (show false=true from fx) Bool.false_ne_true
 | _=>exact absurd (show false=true from fy) Bool.false_ne_true
def eqU(x:V)(u:Value):Bool:=match u with
 | .none=>eqV .non x
 | .bool b=>eqV (.bl b) x
 | .int i _=>eqV (.int i) x
 | .str z _=>eqV (.str z) x
 | _=>false
theorem eqU_of{x y:V}{u:Value}(r:RelV y u)(f:flatV y=true):eqU x u=eqV y x:=by
 cases y with
 | non=>cases r;rfl
 | bl b=>cases r;rfl
 | int i=>obtain⟨t,rfl⟩:=r;rfl
 | str z=>obtain⟨t,rfl⟩:=r;rfl
 | _=>exact absurd (show false=true from f) Bool.false_ne_true
theorem any_eqU{x:V}:∀{xs:List V}{us:List Value},Vals xs us->xs.all flatV=true->us.any (eqU x)=xs.any λy=>eqV y x
 | _,_,.nil,_=>rfl
 | y::xs,u::us,.cons r t,f=>by
  rw[List.all_cons,Bool.and_eq_true] at f;rw[List.any_cons,List.any_cons,eqU_of r f.1,any_eqU t f.2]
theorem mem_eqAt{A:Around}{s:Shared}{x:V}{v:Value}(rx:RelV x v)(fx:flatV x=true):∀{xs:List V}{us:List Value},Vals xs us->xs.all flatV=true->∀u∈us,SeqAt.EqAt A s u v (eqU x u)
 | _,_,.nil,_=>λu hu=>by cases hu
 | y::xs,u::us,.cons r t,f=>λu' hu=>by
  rw[List.all_cons,Bool.and_eq_true] at f;rcases List.mem_cons.mp hu with rfl|hu
  .rw[eqU_of r f.1];exact eqAt_V r rx f.1 fx
  .exact mem_eqAt rx fx t f.2 u' hu
def inV(x:V)(xs:List V):Bool:=xs.any λy=>eqV y x
def rIn(K:W.Frag)(neg:Bool):R2:=λx y H Q=>∃p xs,y=.ref p/\(SqL K H p xs\/SqT K H p xs)/\flatV x=true/\xs.all flatV=true/\Q (.bl (if neg then !inV x xs else inV x xs)) H
theorem op_in_seq:OpR X (compareOp .In) (rIn X.K false):=by
 intro pins s σ H x y v u Q I rx ry h;obtain⟨p,xs,rfl,hq,fx,fs,q⟩:=h;cases ry;rcases hq with hq|hq
 .obtain⟨its,r,pl,hz⟩:=I.list hq;refine SeqAt.in_listAt (eqU x) pl.isList (λw hw=>mem_eqAt rx fx r fs w (by simpa using hw)) ⟨.bl _,H,I,rfl,?_⟩;rw[show its.toArray.any (eqU x)=its.any (eqU x) by simp,any_eqU r fs];exact q
 .obtain⟨its,r,pl,hz⟩:=I.tuple hq;refine SeqAt.in_tupleAt (eqU x) pl (λw hw=>mem_eqAt rx fx r fs w (by simpa using hw)) ⟨.bl _,H,I,rfl,?_⟩;rw[show its.toArray.any (eqU x)=its.any (eqU x) by simp,any_eqU r fs];exact q
theorem op_notIn_seq:OpR X (compareOp .NotIn) (rIn X.K true):=by
 intro pins s σ H x y v u Q I rx ry h;obtain⟨p,xs,rfl,hq,fx,fs,q⟩:=h;cases ry;rcases hq with hq|hq
 .obtain⟨its,r,pl,hz⟩:=I.list hq;refine SeqAt.notIn_listAt (eqU x) pl.isList (λw hw=>mem_eqAt rx fx r fs w (by simpa using hw)) ⟨.bl _,H,I,rfl,?_⟩;rw[show its.toArray.any (eqU x)=its.any (eqU x) by simp,any_eqU r fs];exact q
 .obtain⟨its,r,pl,hz⟩:=I.tuple hq;refine SeqAt.notIn_tupleAt (eqU x) pl (λw hw=>mem_eqAt rx fx r fs w (by simpa using hw)) ⟨.bl _,H,I,rfl,?_⟩;rw[show its.toArray.any (eqU x)=its.any (eqU x) by simp,any_eqU r fs];exact q
theorem call_len_seq:CallR X (.builtin "len") (λxs H Q=>∃p ys,xs=[.ref p]/\(SqL X.K H p ys\/SqT X.K H p ys)/\Q (.int ys.length) H):=by
 intro pins s σ H xs us Q I r h;obtain⟨p,ys,rfl,hq,q⟩:=h;obtain⟨u,rfl,rx⟩:=vals1 r;cases rx;have hn:=line63;rcases hq with hq|hq
 .obtain⟨its,r',pl,hz⟩:=I.list hq;have hlen:=r'.length;exact Calls.call_len_list pl.isList (by simp only[List.size_toArray]<;>omega) ⟨.int ys.length,H,I.tok _,⟨s.toks+1,by rw[List.size_toArray,hlen]⟩,q⟩
 .obtain⟨its,r',pl,hz⟩:=I.tuple hq;have hlen:=r'.length;exact len_tuple pl (by simp only[List.size_toArray]<;>omega) ⟨.int ys.length,H,I.tok _,⟨s.toks+1,by rw[List.size_toArray,hlen]⟩,q⟩
theorem call_list_of:CallR X (.type "list") (λxs H Q=>∃p ys,xs=[.ref p]/\(SqL X.K H p ys\/SqT X.K H p ys)/\∀l,H l=none->Q (.ref l) (upd H l (.lst ys))):=by
 intro pins s σ H xs us Q I r h;obtain⟨p,ys,rfl,hq,q⟩:=h;obtain⟨u,rfl,rx⟩:=vals1 r;cases rx;have fin:∀(its:List Value),Vals ys its->ys.length<=sizeLine->∀(h':Heap)(c':Nat),(∀b o',s.heap.get? b=some o'->h'.get? b=some o') →
   h'.get? s.heap.objs.size=some {cls:=.type "list",dict:=none,data:=.seq its.toArray c',slots:=#[]}->EP X pins σ Q (.ref s.heap.objs.size) {s with heap:=h'}:=λits r' hz h' c' kp e=>
  ⟨.ref s.heap.objs.size,_,I.laid (t':=s.toks) kp (Nat.le_refl _) (show ObjOk X.prog X.w _ h' _ (.lst ys) from⟨hz,its,c',r',e⟩),rfl,q _ (I.hok.fresh (Nat.le_refl _))⟩
 rcases hq with hq|hq
 .obtain⟨its,r',pl,hz⟩:=I.list hq;have hlen:=r'.length;obtain⟨o,ho,hc,n,hd⟩:=pl.isList;exact call_list_seq p (.inl rfl) ho hc hd (λh' c' kp e=>fin its r' hz h' c' kp e) (by simp only[List.size_toArray]<;>omega)
 .obtain⟨its,r',pl,hz⟩:=I.tuple hq;have hlen:=r'.length;obtain⟨o,ho,hc,n,hd⟩:=pl;exact call_list_seq p (.inr rfl) ho hc hd (λh' c' kp e=>fin its r' hz h' c' kp e) (by simp only[List.size_toArray]<;>omega)
def tyV(K:W.Frag)(T:String)(x:V)(H:Hp):Prop:=match x with
 | .str _=>T="str"
 | .int _=>T="int"
 | .ref p=>(T="list"/\∃xs,SqL K H p xs)\/(T="tuple"/\∃o,K.lookup p=some o/\o.cls=.type "tuple"/\o.dict=none) ∨
   (T="dict"/\((∃kvs,H p=some (.dK kvs))\/∃kvs,H p=some (.dT kvs)))\/(T="set"/\∃S n,H p=some (.set S n))
 | _=>False
theorem tyV_is{pins:List (Addr×Obj)}{σ:St}{H:Hp}{s:Shared}{T:String}{x:V}{v:Value}(I:Inv X pins σ H s)(r:RelV x v)(ty:tyV X.K T x H) :
  s.TypeIs v T/\∀a,v=.ref a->∃ob,s.heap.get? a=some ob/\ob.dict=none:=by
 cases x with
 | str z=>
  obtain⟨t,rfl⟩:=r;cases(show T="str" from ty);exact⟨typeIs_str s z t,λ_ e=>nomatch e⟩
 | int i=>
  obtain⟨t,rfl⟩:=r;cases(show T="int" from ty);exact⟨typeIs_int s i t,λ_ e=>nomatch e⟩
 | ref p=>
  cases r;rcases ty with⟨rfl,xs,hq⟩|⟨rfl,o,hk,hc,hd⟩|⟨rfl,hk⟩|⟨rfl,S,n,hk⟩
  .obtain⟨its,_,pl,_⟩:=I.list hq;refine⟨pl.isList.typeIs,λa e=>?_⟩;cases e;obtain⟨o,n,e,c,hd,_⟩:=pl;exact⟨o,e,hd⟩
  .refine⟨⟨o,I.kIn p o hk,hc⟩,λa e=>?_⟩;cases e;exact⟨o,I.kIn _ o hk,hd⟩
  .have z:∃o,s.heap.get? p=some o/\o.ExactDict:=by
    rcases hk with⟨kvs,hk⟩|⟨kvs,hk⟩
    .obtain⟨_,_,_,_,o,_,_,e,ex,_⟩:=I.hok p _ hk;exact⟨o,e,ex⟩
    .obtain⟨_,_,_,_,o,_,_,e,ex,_⟩:=I.hok p _ hk;exact⟨o,e,ex⟩
   obtain⟨o,e,ex⟩:=z;refine⟨⟨o,e,ex.1⟩,λa e2=>?_⟩;cases e2;exact⟨o,e,ex.2.1⟩
  .obtain⟨o,_,_,_,e,ex,_⟩:=I.hok p _ hk;refine⟨⟨o,e,ex.1⟩,λa e2=>?_⟩;cases e2;exact⟨o,e,ex.2.1⟩
 | _=>exact False.elim ty
def tBM0(K:W.Frag)(T:String)(r:V->List V->Hp->VK->Prop)(to:TE):TE:=λσ H Q=>to σ H λx H1=>tyV K T x H1/\r x [] H1 Q
def tBM(K:W.Frag)(T:String)(r:V->List V->Hp->VK->Prop)(to:TE)(t:TA):TE:=λσ H Q=>to σ H λx H1=>tyV K T x H1/\t σ H1 λxs H2=>r x xs H2 Q
variable{o e:Expr}{es:List Expr}{to:TE}{t:TA}{name:Str}{apos cpos:Pos}{T id:String}{r:V->List V->Hp->VK->Prop}
theorem pe_bm(pa:PlainAttrs T)(slot:Slot T name id)(hty:typeOf (.builtin id)=pure (.type "method_descriptor"))(hm:MtR X id r)(ho:PE X o to)(ha:PA X (e::es) t)
  (hbase:attributeBase o name X.env (eval o X.env)=eval o X.env:=by rfl)
  (hfew:((backTo cpos (starEach (e::es) X.env)).all (λx=>!x.1)&&(backToKw cpos (keywordEach [] X.env)).all (λx=>x.1.isSome)
  &&decide ((e::es).length+([]:List Keyword).length+(if ([]:List Keyword).isEmpty then 0 else 1)<30))=true:=by rfl)
  (hline:(apos.endLine==cpos.line)=true:=by rfl) (hs:starEach (e::es) X.env=(false,eval e X.env)::starEach es X.env:=by rfl) (hplain:(backTo cpos (starEach es X.env)).any (·.1)=false:=by rfl) :
  PE X (.Call (.Attribute o name apos) (e::es) [] cpos) (tBM X.K T r to t):=by
 intro pins s σ H Q I h;refine wpAny_Call_method_late hbase hfew hline rfl (thn (ho pins s σ H _ I h) λv s1 ⟨x,H1,I1,r1,ty,q1⟩=>?_);obtain⟨h1,h2⟩:=tyV_is I1 r1 ty;refine⟨T,id,pa,slot,hty,h1,h2,?_⟩;have hA:=ha cpos pins s1 σ H1 _ I1 q1;rw[hs] at hA ⊢;refine Calls.callWith_builtin (by show(false||(backTo cpos (starEach es X.env)).any (·.1))=false;rw[hplain]<;>rfl) (Calls.evalArgs_plain ?_);exact thn hA λus s2 ⟨vs,H2,I2,r2,q2⟩=>hm pins s2 σ H2 x vs v us Q I2 r1 r2 q2
/- xs.append(e),list.index on a module's tuple .. are MtR facts of 06m -/
end
def MtM(X:Cx)(id:String)(r:V->List V->Hp->VK->Prop):Prop:=
 ∀(pins:List (Addr×Obj))(s:Shared)(σ:St)(H:Hp)(x:V)(xs:List V)(v:Value)(us:List Value)(Q:VK),Inv X pins σ H s->RelV x v->Vals xs us->r x xs H Q →
  wpAny (model X.prog X.w) X.A (call (.builtin id) (v::us)) (EP X pins σ Q) X.xe s
theorem Vals.nilE{us:List Value}(h:Vals [] us):us=[]:=by
 cases us with
 | nil=>rfl
 | cons u us=>exact absurd h.length (by simp)
theorem Vals.hd{x:V}{xs:List V}{us:List Value}(h:Vals (x::xs) us):∃u vs,us=u::vs/\RelV x u/\Vals xs vs:=by
 have k:∀ys us,Vals ys us->ys=x::xs->∃u vs,us=u::vs/\RelV x u/\Vals xs vs:=λys us h=>by
  induction h with
  | nil=>exact λe=>nomatch e
  | cons r t _=>exact λe=>by injection e with e1 e2;subst e1 e2;exact⟨_,_,rfl,r,t⟩
 exact k _ _ h rfl
theorem Vals.one{x:V}{us:List Value}(h:Vals [x] us):∃u,us=[u]/\RelV x u:=by
 obtain⟨u,vs,e,r,t⟩:=Vals.hd h;exact⟨u,by rw[e,Vals.nilE t],r⟩
theorem Vals.two{x y:V}{us:List Value}(h:Vals [x,y] us):∃u v,us=[u,v]/\RelV x u/\RelV y v:=by
 obtain⟨u,vs,e,r,t⟩:=Vals.hd h;obtain⟨v,e',q⟩:=Vals.one t;exact⟨u,v,by rw[e,e'],r,q⟩
section
variable{X:Cx}{pins:List (Addr×Obj)}{σ:St}{H:Hp}{s:Shared}{l b:Addr}{xs ys zs:List V}
theorem Inv.lset{its its':List Value}{n:Nat}{f:Array Value->Array Value}{t':Nat}(I:Inv X pins σ H s)(hH:H l=some (.lst xs))
  (e:s.heap.get? l=some {cls:=.type "list",data:=.seq its.toArray n}) (hf:f its.toArray=its'.toArray) (hv:Vals ys its') (hz:ys.length<=sizeLine) :
  Inv X pins σ (upd H l (.lst ys)) {s with heap:=s.heap.update l (Obj.mapSeq f),toks:=t'}:=by
 have q:=PySem.IsL.update e f;rw[hf] at q;refine I.write (x:=l) (e:=l) (by rw[hH];exact trivial) (.inl rfl) (λb' u hb hu=>(Heap.get?_update_other s.heap (Obj.mapSeq f) (Ne.symm hb)).trans hu) ⟨_,q⟩ ?_;exact⟨hz,its',_,hv,q⟩
theorem Inv.lnew{its:List Value}{t':Nat}(I:Inv X pins σ H s)(hv:Vals ys its)(hz:ys.length<=sizeLine) :
  Inv X pins σ (upd H s.heap.objs.size (.lst ys)) {s with heap:=s.heap.push {cls:=.type "list",data:=.seq its.toArray},toks:=t'}:=
 I.laid (λ_ _ q=>Heap.get?_push_of_some _ q) (Nat.le_refl _) ⟨hz,its,0,hv,Heap.get?_push_size _ rfl⟩
theorem Inv.fresh(I:Inv X pins σ H s):H s.heap.objs.size=none:=I.hok.fresh (Nat.le_refl _)
theorem Inv.lstM(I:Inv X pins σ H s)(hH:H l=some (.lst xs)):xs.length<=sizeLine/\∃(its:List Value)(n:Nat),Vals xs its/\xs.length=its.length/\s.heap.get? l=some {cls:=.type "list",data:=.seq its.toArray n}:=by
 obtain⟨z,its,n,r,e⟩:=I.hok l _ hH;exact⟨z,its,n,r,r.length,e⟩
end
section
variable{X:Cx}
def rAppend:V->List V->Hp->VK->Prop:=λx vs H Q=>∃l xs y,x=.ref l/\vs=[y]/\H l=some (.lst xs)/\xs.length<sizeLine/\Q .non (upd H l (.lst (xs++[y])))
theorem mt_append:MtM X "list.append" rAppend:=by
 intro pins s σ H x vs v us Q I rx rv h;obtain⟨l,xs,y,rfl,rfl,hH,hz,q⟩:=h;cases rx;obtain⟨u,rfl,ru⟩:=rv.one;obtain⟨z,its,n,r,hl,e⟩:=I.lstM hH;refine call_meets F.slot_list_append ⟨_,e,rfl⟩ F.entry_list_append (F.args_list_append_2 _ _) (PySem.list_append l its.toArray n u (by rw[List.size_toArray];omega)) ⟨e,?_⟩;refine⟨.non,_,I.lset (its':=its++[u]) hH e (by simp) (r.append (.cons ru .nil)) ?_,rfl,q⟩;rw[List.length_append,List.length_singleton];omega
def rExtend:V->List V->Hp->VK->Prop:=λx vs H Q=>∃l b xs zs,x=.ref l/\vs=[.ref b]/\H l=some (.lst xs)/\H b=some (.lst zs)/\xs.length+zs.length<=sizeLine/\Q .non (upd H l (.lst (xs++zs)))
def rPop:V->List V->Hp->VK->Prop:=λx vs H Q=>∃l xs y,x=.ref l/\vs=[]/\H l=some (.lst xs)/\xs[xs.length-1]?=some y/\Q y (upd H l (.lst xs.dropLast))
def rPopAt:V->List V->Hp->VK->Prop:=λx vs H Q=>∃l xs i k y,x=.ref l/\vs=[.int i]/\H l=some (.lst xs)/\-(2 ^ 63)<=i/\i<2 ^ 63/\seqIndex? i xs.length=some k/\xs[k]?=some y/\Q y (upd H l (.lst (xs.eraseIdx k)))
def rReverse:V->List V->Hp->VK->Prop:=λx vs H Q=>∃l xs,x=.ref l/\vs=[]/\H l=some (.lst xs)/\Q .non (upd H l (.lst xs.reverse))
def rClear:V->List V->Hp->VK->Prop:=λx vs H Q=>∃l xs,x=.ref l/\vs=[]/\H l=some (.lst xs)/\Q .non (upd H l (.lst []))
def rCat:R2:=λx y H Q=>∃l b xs zs,x=.ref l/\y=.ref b/\H l=some (.lst xs)/\H b=some (.lst zs)/\xs.length+zs.length<=sizeLine/\∀p,H p=none->Q (.ref p) (upd H p (.lst (xs++zs)))
theorem op_cat:OpR X (binaryOp .Add) rCat:=by
 intro pins s σ H x y v u Q I rx ry h;obtain⟨l,b,xs,zs,rfl,rfl,hH,hB,hz,q⟩:=h;cases rx;cases ry;obtain⟨z,its,n,r,hl,e⟩:=I.lstM hH;obtain⟨z2,its2,n2,r2,hl2,e2⟩:=I.lstM hB;refine PySem.P.add_list e e2 ?_ (by rw[List.size_toArray,List.size_toArray];omega);have ea:its.toArray++its2.toArray=(its++its2).toArray:=by simp
 rw[ea];exact⟨.ref _,_,I.lnew (t':=s.toks) (r.append r2) (by rw[List.length_append];omega),rfl,q _ I.fresh⟩
def rRep:R2:=λx y H Q=>∃l k xs,x=.ref l/\y=.int k/\H l=some (.lst xs)/\-(2 ^ 63)<=k/\k<2 ^ 63/\xs.length*k.toNat<=sizeLine ∧
 ∀p,H p=none->Q (.ref p) (upd H p (.lst (List.replicate k.toNat xs).flatten))
end
section
variable{prog:Program}{w:World}{A:Around}{E:Value->Shared->Prop}{s:Shared}
end
section
variable{X:Cx}
end
section
variable{κ:Type}[DecidableEq κ]
def valV(kvs:List (κ×V))(k:κ):Option V:=(kvs.find? λkv=>decide (kv.1=k)).map (·.2)
def putK(kvs:List (κ×V))(k:κ)(v:V):List (κ×V):=
 if (kvs.any λkv=>decide (kv.1=k))=true then kvs.map (λkv=>if kv.1=k then (kv.1,v) else kv) else kvs++[(k,v)]
def dropK(kvs:List (κ×V))(k:κ):List (κ×V):=kvs.filter λkv=>decide (kv.1≠k)
theorem valV_nil{k:κ}:valV ([]:List (κ×V)) k=none:=rfl
theorem valV_pos{p:κ×V}{r:List (κ×V)}{k:κ}(e:p.1=k):valV (p::r) k=some p.2:=by simp[valV,List.find?_cons,e]
theorem valV_neg{p:κ×V}{r:List (κ×V)}{k:κ}(e:¬p.1=k):valV (p::r) k=valV r k:=by simp[valV,List.find?_cons,e]
theorem valV_any(k:κ):∀kvs:List (κ×V),(kvs.any λkv=>decide (kv.1=k))=(valV kvs k).isSome
 | []=>rfl
 | p::r=>by
  rw[List.any_cons];by_cases e:p.1=k
  .simp only[valV_pos e,decide_eq_true e,Bool.true_or,Option.isSome_some]
  .rw[valV_neg e,decide_eq_false e,Bool.false_or];exact valV_any k r
theorem valV_map(k j:κ)(y:V):∀kvs:List (κ×V),valV (kvs.map λkv=>if kv.1=k then (kv.1,y) else kv) j=(valV kvs j).map λx=>if j=k then y else x
 | []=>rfl
 | p::r=>by
  have ih:=valV_map k j y r;rw[List.map_cons];by_cases h:p.1=k
  .rw[if_pos h];by_cases e:p.1=j
   .rw[valV_pos (p:=(p.1,y)) e,valV_pos e,Option.map_some,if_pos (e.symm.trans h)]
   .rw[valV_neg (p:=(p.1,y)) e,valV_neg e,ih]
  .rw[if_neg h];by_cases e:p.1=j
   .rw[valV_pos (p:=p) e,valV_pos e,Option.map_some,if_neg (λz=>h (e.trans z))]
   .rw[valV_neg (p:=p) e,valV_neg e,ih]
theorem valV_snoc(k j:κ)(y:V):∀kvs:List (κ×V),valV kvs k=none->valV (kvs++[(k,y)]) j=if j=k then some y else valV kvs j
 | [],_=>by
  by_cases e:k=j
  .rw[if_pos e.symm];exact valV_pos (p:=(k,y)) e
  .rw[if_neg (λz=>e z.symm)];exact valV_neg (p:=(k,y)) e
 | p::r,hn=>by
  rw[List.cons_append];have hk:¬p.1=k:=λz=>by rw[valV_pos z] at hn;cases hn
  rw[valV_neg hk] at hn;have ih:=valV_snoc k j y r hn;by_cases e:p.1=j
  .rw[valV_pos e,valV_pos e,if_neg (λz=>hk (e.trans z))]
  .rw[valV_neg e,valV_neg e,ih]
theorem valV_put(kvs:List (κ×V))(k j:κ)(y:V):valV (putK kvs k y) j=if j=k then some y else valV kvs j:=by
 unfold putK;by_cases a:(kvs.any λkv=>decide (kv.1=k))=true
 .rw [if_pos a,valV_map];rw[valV_any] at a;by_cases e:j=k
  .obtain⟨x,hx⟩:=Option.isSome_iff_exists.mp a;rw[if_pos e,e,hx,Option.map_some,if_pos rfl]
  .rw[if_neg e];cases valV kvs j with
   | none=>rfl
   | some x=>rw[Option.map_some,if_neg e]
 .rw[if_neg a];refine valV_snoc k j y kvs ?_;rw[valV_any] at a;cases q:valV kvs k with
  | none=>rfl
  | some x=>rw[q] at a;exact(a rfl).elim
theorem length_putK(kvs:List (κ×V))(k:κ)(v:V):(putK kvs k v).length<=kvs.length+1:=by
 unfold putK
 split
 .rw[List.length_map];omega
 .rw[List.length_append,List.length_cons,List.length_nil];omega
theorem putK_new{kvs:List (κ×V)}{k:κ}(v:V)(h:valV kvs k=none):putK kvs k v=kvs++[(k,v)]:=by
 unfold putK;rw[valV_any,h];exact if_neg (by decide)
theorem RelO.isSome_eq{o:Option V}{u:Option Value}(r:RelO o u):o.isSome=u.isSome:=by
 cases o with
 | none=>cases u with
  | none=>rfl
  | some _=>exact(show False from r).elim
 | some _=>cases u with
  | none=>exact(show False from r).elim
  | some _=>rfl
theorem RelO.getD{o:Option V}{u:Option Value}{d:V}{d':Value}(r:RelO o u)(rd:RelV d d'):RelV (o.getD d) (u.getD d'):=by
 cases o with
 | none=>cases u with
  | none=>exact rd
  | some _=>exact(show False from r).elim
 | some _=>cases u with
  | none=>exact(show False from r).elim
  | some _=>exact r
theorem KV.val{kvs:List (κ×V)}{vs:List (κ×Value)}(r:KV kvs vs)(k:κ):RelO (valV kvs k) (valueAt vs k):=by
 unfold KV at r
 induction r with
 | nil=>exact True.intro
 | @cons p q ps qs h t ih=>
  obtain⟨h1,h2⟩:=h;by_cases e:p.1=k
  .have e':q.1=k:=h1.symm.trans e;have b:valueAt (q::qs) k=some q.2:=by simp[valueAt,List.find?_cons,e']
   rw[valV_pos e,b];exact h2
  .have e':¬q.1=k:=λz=>e (h1.trans z);have b:valueAt (q::qs) k=valueAt qs k:=by simp[valueAt,List.find?_cons,e']
   rw[valV_neg e,b];exact ih
theorem KV.any{kvs:List (κ×V)}{vs:List (κ×Value)}(r:KV kvs vs)(k:κ):(kvs.any λkv=>decide (kv.1=k))=vs.any λkv=>decide (kv.1=k):=by
 unfold KV at r
 induction r with
 | nil=>rfl
 | cons h t ih=>rw[List.any_cons,List.any_cons,ih,h.1]
theorem KV.repl{kvs:List (κ×V)}{vs:List (κ×Value)}(r:KV kvs vs)(k:κ){y:V}{u:Value}(ry:RelV y u) :
  KV (kvs.map λkv=>if kv.1=k then (kv.1,y) else kv) (vs.map λkv=>if kv.1=k then (kv.1,u) else kv):=by
 unfold KV at r ⊢
 induction r with
 | nil=>exact .nil
 | @cons p q ps qs h t ih=>
  rw[List.map_cons,List.map_cons];refine .cons ?_ ih;obtain⟨h1,h2⟩:=h;by_cases e:p.1=k
  .rw[if_pos e,if_pos (h1.symm.trans e)];exact⟨h1,ry⟩
  .rw[if_neg e,if_neg (λz=>e (h1.trans z))];exact⟨h1,h2⟩
theorem KV.put{kvs:List (κ×V)}{vs:List (κ×Value)}(r:KV kvs vs)(k:κ){y:V}{u:Value}(ry:RelV y u):KV (putK kvs k y) (stored vs k u):=by
 unfold putK stored;rw[r.any k];by_cases e:(vs.any λkv=>decide (kv.1=k))=true
 .rw[if_pos e,if_pos e];exact r.repl k ry
 .rw[if_neg e,if_neg e];exact Paired.snoc r ⟨rfl,ry⟩
theorem KV.length{kvs:List (κ×V)}{vs:List (κ×Value)}(r:KV kvs vs):kvs.length=vs.length:=Paired.length r
end
theorem kV_is{P:Program}{w:World}{k:Key}{u:Value}(r:RelV (kV k) u):(mixKind P w).is k u=true:=by
 cases k with
 | inl i=>obtain⟨t,e⟩:=(show ∃t,u=Value.int i t from r);subst e;exact mixKind_int P w i t
 | inr x=>obtain⟨t,e⟩:=(show ∃t,u=Value.str x t from r);subst e;exact mixKind_str P w x t
theorem kV_inj{a b:Key}(e:kV a=kV b):a=b:=by
 cases a with
 | inl i=>cases b with
  | inl j=>have e':V.int i=V.int j:=e;injection e' with e';rw[e']
  | inr y=>exact nomatch (show V.int i=V.str y from e)
 | inr x=>cases b with
  | inl j=>exact nomatch (show V.str x=V.int j from e)
  | inr y=>have e':V.str x=V.str y:=e;injection e' with e';rw[e']
theorem items_are{P:Program}{w:World}:∀{ks:List Key}{us:List Value},Vals (ks.map kV) us->ItemsAre (mixKind P w) ks us
 | [],_,r=>by rw[List.map_nil] at r;cases r;exact .nil
 | k::ks,_,r=>by
  rw[List.map_cons] at r;cases r with
  | cons h t=>exact .cons (kV_is h) (items_are t)
abbrev KT(H:Hp):List (List Key×V)->List (List Key×Addr×Value)->Prop:=Paired λp q=>p.1=q.1/\H q.2.1=some (.tup (p.1.map kV))/\RelV p.2 q.2.2
theorem KT.val{H:Hp}{kvs:List (List Key×V)}{xs:List (List Key×Addr×Value)}(r:KT H kvs xs)(k:List Key):RelO (valV kvs k) ((atKey xs k).map (·.2)):=by
 induction r with
 | nil=>exact True.intro
 | @cons p q ps qs h t ih=>
  obtain⟨h1,_,h2⟩:=h;by_cases e:p.1=k
  .have e':q.1=k:=h1.symm.trans e;have b:atKey (q::qs) k=some q.2:=by simp[atKey,List.find?_cons,e']
   rw[valV_pos e,b];exact h2
  .have e':¬q.1=k:=λz=>e (h1.trans z);have b:atKey (q::qs) k=atKey qs k:=by simp[atKey,List.find?_cons,e']
   rw[valV_neg e,b];exact ih
theorem KT.repl{H:Hp}{kvs:List (List Key×V)}{xs:List (List Key×Addr×Value)}(r:KT H kvs xs)(k:List Key){y:V}{u:Value}(ry:RelV y u) :
  KT H (kvs.map λkv=>if kv.1=k then (kv.1,y) else kv) (xs.map (putAt k u)):=by
 induction r with
 | nil=>exact .nil
 | @cons p q ps qs h t ih=>
  rw[List.map_cons,List.map_cons];refine .cons ?_ ih;obtain⟨h1,h2,h3⟩:=h;unfold putAt;by_cases e:p.1=k
  .rw[if_pos e,if_pos (h1.symm.trans e)];exact⟨h1,h2,ry⟩
  .rw[if_neg e,if_neg (λz=>e (h1.trans z))];exact⟨h1,h2,h3⟩
theorem KT.put{H:Hp}{kvs:List (List Key×V)}{xs:List (List Key×Addr×Value)}(r:KT H kvs xs)(k:List Key){b:Addr}{y:V}{u:Value}(hb:H b=some (.tup (k.map kV)))(ry:RelV y u) :
  KT H (putK kvs k y) (storedH xs k b u):=by
 have e:(kvs.any λkv=>decide (kv.1=k))=(atKey xs k).isSome:=by
  rw[valV_any,(r.val k).isSome_eq,Option.isSome_map]
 unfold putK storedH;rw[e];by_cases q:(atKey xs k).isSome=true
 .rw[if_pos q,if_pos q];exact r.repl k ry
 .rw[if_neg q,if_neg q];exact Paired.snoc r ⟨rfl,hb,ry⟩
theorem KT.keeps{H H':Hp}{kvs:List (List Key×V)}{xs:List (List Key×Addr×Value)}(r:KT H kvs xs)(ht:∀b ys,H b=some (.tup ys)->H' b=some (.tup ys)):KT H' kvs xs:=
 Paired.mapP r λ_ _ z=>⟨z.1,ht _ _ z.2.1,z.2.2⟩
section
variable{P:Program}{w:World}{H:Hp}{h:Heap}{a:Addr}
theorem rd_of{u:HO}(ok:HOk P w H h)(e:Rd H a u):ObjOk P w H h a u:=e.ok ok
theorem dk_rd{kvs:List (Key×V)}(ok:HOk P w H h)(e:Rd H a (.dK kvs)):kvs.length<=sizeLine/\(a==sysModules)=false/\∃vs,KV kvs vs/\h.DictOf (mixKind P w) a vs:=
 show ObjOk P w H h a (.dK kvs) from rd_of ok e
theorem dk_of{kvs:List (Key×V)}(ok:HOk P w H h)(e:H a=some (.dK kvs)):kvs.length<=sizeLine/\(a==sysModules)=false/\∃vs,KV kvs vs/\h.DictOf (mixKind P w) a vs:=dk_rd ok (.inl e)
theorem key_of{ks:List Key}(ok:HOk P w H h)(e:H a=some (.tup (ks.map kV))):(tupleKind (mixKind P w)).is h ks a:=by
 obtain⟨_,its,r,o,h1,h2,n,h3⟩:=(show ObjOk P w H h a (.tup (ks.map kV)) from ok a _ e);exact⟨o,its.toArray,n,h1,h2,h3,by simpa using items_are r⟩
theorem dt_rd{kvs:List (List Key×V)}(ok:HOk P w H h)(e:Rd H a (.dT kvs)):kvs.length<=sizeLine/\(a==sysModules)=false ∧
  ∃xs,KT H kvs xs/\h.DictOfH (tupleKind (mixKind P w)) a xs:=by
 obtain⟨z,y,xs,r,o,es,ep,h1,h2,h3,h4,h5⟩:=(show ObjOk P w H h a (.dT kvs) from rd_of ok e);refine⟨z,y,xs,r,o,es,ep,h1,h2,h3,h4,λx hx=>?_,h5⟩;have all:∀{l:List (List Key×V)}{m:List (List Key×Addr×Value)},KT H l m->∀x∈m,(tupleKind (mixKind P w)).is h x.1 x.2.1:=by
  intro l m q
  induction q with
  | nil=>intro x hx;exact nomatch hx
  | @cons p q ps qs hq t ih=>
   intro x hx;rcases List.mem_cons.mp hx with e|hx
   .subst e;exact key_of ok (by rw[<-hq.1];exact hq.2.1)
   .exact ih x hx
 exact all r x hx
theorem dt_of{kvs:List (List Key×V)}(ok:HOk P w H h)(e:H a=some (.dT kvs)):kvs.length<=sizeLine/\(a==sysModules)=false ∧
  ∃xs,KT H kvs xs/\h.DictOfH (tupleKind (mixKind P w)) a xs:=dt_rd ok (.inl e)
end
def DGet(H:Hp)(a:Addr)(y:V)(r:Option V):Prop:=
 (∃kvs k,Rd H a (.dK kvs)/\y=kV k/\r=valV kvs k)\/∃kvs k b,Rd H a (.dT kvs)/\y=.ref b/\H b=some (.tup (k.map kV))/\r=valV kvs k
def DPut(H:Hp)(a:Addr)(y v:V)(H':Hp):Prop:=
 (∃kvs k,H a=some (.dK kvs)/\y=kV k/\kvs.length<sizeLine/\H'=upd H a (.dK (putK kvs k v))) ∨
 ∃kvs k b,H a=some (.dT kvs)/\y=.ref b/\H b=some (.tup (k.map kV))/\kvs.length<sizeLine/\H'=upd H a (.dT (putK kvs k v))
theorem DGet.k{H:Hp}{a:Addr}{kvs:List (Key×V)}{k:Key}(e:H a=some (.dK kvs)):DGet H a (kV k) (valV kvs k):=.inl ⟨kvs,k,.inl e,rfl,rfl⟩
theorem DGet.t{H:Hp}{a b:Addr}{kvs:List (List Key×V)}{k:List Key}(e:H a=some (.dT kvs))(eb:H b=some (.tup (k.map kV))):DGet H a (.ref b) (valV kvs k):=.inr ⟨kvs,k,b,.inl e,rfl,eb,rfl⟩
theorem DPut.k{H:Hp}{a:Addr}{kvs:List (Key×V)}{k:Key}{v:V}(e:H a=some (.dK kvs))(hl:kvs.length<sizeLine):DPut H a (kV k) v (upd H a (.dK (putK kvs k v))):=.inl ⟨kvs,k,e,rfl,hl,rfl⟩
theorem DPut.t{H:Hp}{a b:Addr}{kvs:List (List Key×V)}{k:List Key}{v:V}(e:H a=some (.dT kvs))(eb:H b=some (.tup (k.map kV)))(hl:kvs.length<sizeLine) :
  DPut H a (.ref b) v (upd H a (.dT (putK kvs k v))):=.inr ⟨kvs,k,b,e,rfl,eb,hl,rfl⟩
section
variable{X:Cx}{pins:List (Addr×Obj)}{σ:St}{H:Hp}{s:Shared}{a:Addr}{y v:V}{u r:Value}{o:Option V}{A:Around}{E:Value->Shared->Prop}
theorem Inv.big(I:Inv X pins σ H s):sysModules<s.heap.objs.size:=by
 have h:mainGlobals<s.heap.objs.size:=(I.mod.glob.keeps I.bk).lt;exact Nat.lt_trans (by decide) h
theorem d_getItem{Q:Value->Shared->Prop}(hu:A.units+1<cLine)(I:Inv X pins σ H s)(g:DGet H a y (some v))(ry:RelV y u)(h:∀w' s',Inv X pins σ H s'->RelV v w'->Q w' s') :
  wpAny (model X.prog X.w) A (getItem (.ref a) u) Q E s:=by
 rcases g with⟨kvs,k,e,ey,l⟩|⟨kvs,k,b,e,ey,eb,l⟩
 .subst ey;obtain⟨z,hd,vs,rel,dd⟩:=dk_rd I.hok e;obtain⟨w',hw,rw'⟩:=RelO.some_of (v:=v) (o:=valueAt vs k) (by rw[l];exact rel.val k);exact wpAny_getItem_of (kV_is ry) dd.mapOf hw (h w' _ (I.tok _) rw')
 .subst ey;cases(show u=Value.ref b from ry);obtain⟨z,hd,xs,rel,dd⟩:=dt_rd I.hok e;obtain⟨w',hw,rw'⟩:=RelO.some_of (v:=v) (o:=(atKey xs k).map (·.2)) (by rw[l];exact rel.val k);obtain⟨p,hp,hp2⟩:=Option.map_eq_some_iff.mp hw;refine wpAny_getItem_heap (tupleKind_room_in1 hu) (key_of I.hok eb) dd hp ?_;rw[hp2];exact h w' _ (I.tok _) rw'
theorem d_in{Q:Value->Shared->Prop}(hu:A.units+1<cLine)(I:Inv X pins σ H s)(g:DGet H a y o)(ry:RelV y u)(h:∀s',Inv X pins σ H s'->Q (.bool o.isSome) s') :
  wpAny (model X.prog X.w) A (compareOp .In u (.ref a)) Q E s:=by
 rcases g with⟨kvs,k,e,ey,l⟩|⟨kvs,k,b,e,ey,eb,l⟩
 .subst ey;obtain⟨z,hd,vs,rel,dd⟩:=dk_rd I.hok e;refine wpAny_in_of (kV_is ry) hd dd.mapOf ?_;rw[<-(rel.val k).isSome_eq,<-l];exact h _ (I.tok _)
 .subst ey;cases(show u=Value.ref b from ry);obtain⟨z,hd,xs,rel,dd⟩:=dt_rd I.hok e;refine wpAny_in_heap (tupleKind_room_in1 hu) (key_of I.hok eb) hd dd ?_;have q:=(rel.val k).isSome_eq;rw[Option.isSome_map] at q;rw[<-q,<-l];exact h _ (I.tok _)
theorem d_notIn{Q:Value->Shared->Prop}(hu:A.units+1<cLine)(I:Inv X pins σ H s)(g:DGet H a y o)(ry:RelV y u)(h:∀s',Inv X pins σ H s'->Q (.bool (!o.isSome)) s') :
  wpAny (model X.prog X.w) A (compareOp .NotIn u (.ref a)) Q E s:=by
 rcases g with⟨kvs,k,e,ey,l⟩|⟨kvs,k,b,e,ey,eb,l⟩
 .subst ey;obtain⟨z,hd,vs,rel,dd⟩:=dk_rd I.hok e;refine wpAny_notIn_of (kV_is ry) hd dd.mapOf ?_;rw[<-(rel.val k).isSome_eq,<-l];exact h _ (I.tok _)
 .subst ey;cases(show u=Value.ref b from ry);obtain⟨z,hd,xs,rel,dd⟩:=dt_rd I.hok e;refine wpAny_notIn_heap (tupleKind_room_in1 hu) (key_of I.hok eb) hd dd ?_;have q:=(rel.val k).isSome_eq;rw[Option.isSome_map] at q;rw[<-q,<-l];exact h _ (I.tok _)
theorem d_write{h':Heap}{t':Nat}{ob:HO}(I:Inv X pins σ H s)(mu:Mut (H a))(hs:Heap.SameBut a s.heap h')(he:∃q,h'.get? a=some q)(new:ObjOk X.prog X.w (upd H a ob) h' a ob) :
  Inv X pins σ (upd H a ob) {s with heap:=h',toks:=t'}:=
 I.write (x:=a) (e:=a) mu (.inl rfl) (λb q hb z=>(hs.2 b hb).trans z) he new
theorem dk_new{P:Program}{w:World}{H':Hp}{h':Heap}{kvs:List (Key×V)}{vs:List (Key×Value)}(z:kvs.length<=sizeLine)(hd:(a==sysModules)=false)(rel:KV kvs vs)(dd:h'.DictOf (mixKind P w) a vs) :
  ObjOk P w H' h' a (.dK kvs):=⟨z,hd,vs,rel,dd⟩
theorem d_setItem{H':Hp}{Q:Unit->Shared->Prop}(hu:A.units+1<cLine)(I:Inv X pins σ H s)(g:DPut H a y v H')(ry:RelV y u)(rv:RelV v r)(h:∀s',Inv X pins σ H' s'->Q () s') :
  wpAny (model X.prog X.w) A (setItem (.ref a) u r) Q E s:=by
 rcases g with⟨kvs,k,e,ey,l,eH⟩|⟨kvs,k,b,e,ey,eb,l,eH⟩
 .subst ey eH;obtain⟨z,hd,vs,rel,dd⟩:=dk_of I.hok e;have hz:vs.length<=sizeLine:=by rw[<-rel.length];exact z
  have hl:(putK kvs k v).length<=sizeLine:=by have:=length_putK kvs k v;omega
  refine wpAny_setItem_pairs (hsz:=hz) (kV_is ry) dd λh' dd' hs=>h _ ?_;have he:∃q,h'.get? a=some q:=let ⟨q,_,_,hq,_⟩:=dd';⟨q,hq⟩;exact d_write I (by rw[e];exact True.intro) hs he (dk_new hl hd (rel.put k rv) dd')
 .subst ey eH;cases(show u=Value.ref b from ry);obtain⟨z,hd,xs,rel,dd⟩:=dt_of I.hok e;have hz:xs.length<=sizeLine:=by rw[<-Paired.length rel];exact z
  have hl:(putK kvs k v).length<=sizeLine:=by have:=length_putK kvs k v;omega
  refine wpAny_setItem_heap (hsz:=hz) (tupleKind_room_in1 hu) (key_of I.hok eb) dd λh' dd' hs=>h _ ?_;obtain⟨q,es,ep,hq,h2,h3,h4,_,h5⟩:=dd';refine d_write I (by rw[e];exact True.intro) hs ⟨q,hq⟩ ⟨hl,hd,_,(rel.put k eb rv).keeps λc ys ec=>?_,q,es,ep,hq,h2,h3,h4,h5⟩;rw[upd_ne (ne_of ec e (λz=>nomatch z))];exact ec
end
section
variable{X:Cx}{pins:List (Addr×Obj)}{σ:St}{H:Hp}{s:Shared}{a:Addr}{kvs:List (Key×V)}{k:Key}{u:Value}{A:Around}{E:Value->Shared->Prop}
end
def NoSl(i:Expr):Prop:=∀ov iv,subscripted i false ov iv=operate [ov,iv] (getItem ov iv)
theorem subD_of{prog:Program}{w:World}{A:Around}{E:Value->Shared->Prop}{s:Shared}{env:Env}{value slice:Expr}{pos:Pos}{T id:String}{Q:Value->Shared->Prop}
  (hl:typeLookup (.type T) "__getitem__"=pure (some (.builtin id))) (hs:NoSl slice)
  (h:wpAny (model prog w) A (eval value env) (λo s₁=>wpAny (model prog w) A (eval slice env) (λi s₂=>s₂.TypeIs o T/\wpAny (model prog w) A (getItem o i) Q E s₂) E s₁) E s) :
  wpAny (model prog w) A (eval (.Subscript value slice pos) env) Q E s:=by
 refine Subscript_ (wpAny_mono h (λo s₁ h₁=>wpAny_mono h₁ (λi s₂ h₂=>?_) λ_ _ x=>x) λ_ _ x=>x);obtain⟨hT,h₂⟩:=h₂;unfold subscriptTail;refine wpAny_bind ?_;rw[getitemInPython_of_ne hT.not_modules];refine wpAny_bind (wpAny_specialOf hT hl ?_);have fin:wpAny (model prog w) A (subscripted slice false o i) (λr s₃=>wpAny (model prog w) A (letTemporaryGo value o r >>= λ_=>pure r) Q E s₃) E s₂:=by
  rw[hs o i];exact wpAny_operating (wpAny_mono h₂ (λr s₃ h₃=>wpAny_bind (wpAny_letTemporaryGo (wpAny_pure h₃))) λ_ _ x=>x)
 first
  | exact wpAny_pure (wpAny_bind fin)
  | exact wpAny_bind (wpAny_pure (wpAny_bind fin))
  | exact wpAny_bind fin
theorem dict_typeIs{X:Cx}{pins:List (Addr×Obj)}{σ:St}{H:Hp}{s:Shared}{a:Addr}{y:V}{o:Option V}(I:Inv X pins σ H s)(g:DGet H a y o):s.TypeIs (.ref a) "dict":=by
 rcases g with⟨kvs,k,e,_,_⟩|⟨kvs,k,b,e,_,_,_⟩
 .obtain⟨_,_,vs,_,dd⟩:=dk_rd I.hok e;exact dd.typeIs
 .obtain⟨_,_,xs,_,dd⟩:=dt_rd I.hok e;exact dd.typeIs
def tDGet(td ty:TE):TE:=λσ H Q=>td σ H λx H1=>ty σ H1 λy H2=>∃a v,x=.ref a/\DGet H2 a y (some v)/\Q v H2
def tDIn(ty td:TE):TE:=λσ H Q=>ty σ H λy H1=>td σ H1 λx H2=>∃a o,x=.ref a/\DGet H2 a y o/\Q (.bl o.isSome) H2
def tDNotIn(ty td:TE):TE:=λσ H Q=>ty σ H λy H1=>td σ H1 λx H2=>∃a o,x=.ref a/\DGet H2 a y o/\Q (.bl (!o.isSome)) H2
def sDPut(td ty tv:TE):TS:=λD σ H=>tv σ H λv H1=>td σ H1 λx H2=>ty σ H2 λy H3=>∃a H4,x=.ref a/\DPut H3 a y v H4/\D.nx σ H4
def sDAug(td ty tv:TE)(rd:V->V->Hp->VK->Prop):TS:=λD σ H=>td σ H λx H1=>ty σ H1 λy H2=>∃a v,x=.ref a/\DGet H2 a y (some v) ∧
 tv σ H2 λy2 H3=>rd v y2 H3 λz H4=>∃H5,DPut H4 a y z H5/\D.nx σ H5
def sDDel(td ty:TE):TS:=λD σ H=>td σ H λx H1=>ty σ H1 λy H2=>∃a kvs k,x=.ref a/\H2 a=some (.dK kvs)/\y=kV k/\(valV kvs k).isSome=true/\D.nx σ (upd H2 a (.dK (dropK kvs k)))
section
variable{X:Cx}{o i e value:Expr}{pos pos' tpos:Pos}{td ty tv:TE}
theorem pe_dget(hu:X.A.units+1<cLine)(ho:PE X o td)(hi:PE X i ty)(hs:NoSl i):PE X (.Subscript o i pos) (tDGet td ty):=by
 intro pins s σ H Q I h;refine subD_of PySem.F.slot_dict_getitem.lookup hs (thn (ho pins s σ H _ I h) λu s1 ⟨x,H1,I1,rx,q1⟩=>thn (hi pins s1 σ H1 _ I1 q1) λiv s2 ⟨y,H2,I2,ry,a,v,ex,g,q2⟩=>?_);subst ex;obtain rfl:u=Value.ref a:=rx;exact⟨dict_typeIs I2 g,d_getItem hu I2 g ry λw' s3 I3 rw'=>⟨v,H2,I3,rw',q2⟩⟩
theorem pc_din(hu:X.A.units+1<cLine)(hi:PE X i ty)(ho:PE X o td):PC X .In i o (tDIn ty td):=by
 intro pins s σ H Q I h;refine thn (hi pins s σ H _ I h) λiv s1 ⟨y,H1,I1,ry,q1⟩=>thn (ho pins s1 σ H1 _ I1 q1) λu s2 ⟨x,H2,I2,rx,a,ov,ex,g,q2⟩=>?_;subst ex;obtain rfl:u=Value.ref a:=rx;exact d_in hu I2 g ry λs3 I3=>⟨.bl ov.isSome,H2,I3,rfl,q2⟩
theorem pc_dnotin(hu:X.A.units+1<cLine)(hi:PE X i ty)(ho:PE X o td):PC X .NotIn i o (tDNotIn ty td):=by
 intro pins s σ H Q I h;refine thn (hi pins s σ H _ I h) λiv s1 ⟨y,H1,I1,ry,q1⟩=>thn (ho pins s1 σ H1 _ I1 q1) λu s2 ⟨x,H2,I2,rx,a,ov,ex,g,q2⟩=>?_;subst ex;obtain rfl:u=Value.ref a:=rx;exact d_notIn hu I2 g ry λs3 I3=>⟨.bl (!ov.isSome),H2,I3,rfl,q2⟩
theorem ps_dput(hu:X.A.units+1<cLine)(ho:PE X o td)(hi:PE X i ty)(hv:PE X value tv)(hs:swapsWith value (some (.Subscript o i pos')) pos.line X.env=pure false) :
  PS X (.Assign [.Subscript o i pos'] value pos) (sDPut td ty tv):=by
 intro pins s σ H D I h;refine wpAny_Assign_Subscript (thn (hv pins s σ H _ I h) λr s1 ⟨v,H1,I1,rv,q1⟩=>thn (ho pins s1 σ H1 _ I1 q1) λu s2 ⟨x,H2,I2,rx,q2⟩=>thn (hi pins s2 σ H2 _ I2 q2) λiv s3 ⟨y,H3,I3,ry,a,H4,ex,g,q3⟩=>?_) hs;subst ex;obtain rfl:u=Value.ref a:=rx;exact d_setItem hu I3 g ry rv λs4 I4=>⟨σ,H4,I4,q3⟩
end
theorem dk_empty{P:Program}{w:World}{H:Hp}(h:Heap)(hb:sysModules<h.objs.size):ObjOk P w H (h.push {cls:=.type "dict",data:=.dict #[]}) h.objs.size (.dK []):=
 ⟨Nat.zero_le _,beq_eq_false_iff_ne.mpr (Ne.symm (Nat.ne_of_lt hb)),[],.nil,Heap.DictOf.new h⟩
theorem dt_empty{P:Program}{w:World}{H:Hp}(h:Heap)(hb:sysModules<h.objs.size):ObjOk P w H (h.push {cls:=.type "dict",data:=.dict #[]}) h.objs.size (.dT []):=
 ⟨Nat.zero_le _,beq_eq_false_iff_ne.mpr (Ne.symm (Nat.ne_of_lt hb)),[],.nil,_,#[],0,Heap.get?_push_size _ rfl,⟨rfl,rfl,rfl⟩,rfl,rfl,List.nodup_nil⟩
def tDNewK:TE:=λ_ H Q=>∀p,H p=none->Q (.ref p) (upd H p (.dK []))
def tDNewT:TE:=λ_ H Q=>∀p,H p=none->Q (.ref p) (upd H p (.dT []))
section
variable{X:Cx}{pos:Pos}
theorem pe_dnewK:PE X (.Dict [] [] pos) tDNewK:=λpins s σ H Q I h=>
 wpAny_Dict_empty ⟨.ref s.heap.objs.size,_,I.laid (a:=s.heap.objs.size) (o:=.dK []) (t':=s.toks) (λ_ _ q=>Heap.get?_push_of_some _ q) (Nat.le_refl _) (dk_empty s.heap I.big),rfl,h _ (I.hok.fresh (Nat.le_refl _))⟩
theorem pe_dnewT:PE X (.Dict [] [] pos) tDNewT:=λpins s σ H Q I h=>
 wpAny_Dict_empty ⟨.ref s.heap.objs.size,_,I.laid (a:=s.heap.objs.size) (o:=.dT []) (t':=s.toks) (λ_ _ q=>Heap.get?_push_of_some _ q) (Nat.le_refl _) (dt_empty s.heap I.big),rfl,h _ (I.hok.fresh (Nat.le_refl _))⟩
end
def tPairs:List (TE×TE)->St->Hp->(List (V×V)->Hp->Prop)->Prop
 | [],_,H,Q=>Q [] H
 | (tk,tv)::r,σ,H,Q=>tk σ H λx H1=>tv σ H1 λy H2=>tPairs r σ H2 λps H3=>Q ((x,y)::ps) H3
abbrev VV:List (V×V)->List (Value×Value)->Prop:=Paired λp q=>RelV p.1 q.1/\RelV p.2 q.2
def PPs(X:Cx)(pos:Pos)(keys:List (Option Expr))(values:List Expr)(trs:List (TE×TE)):Prop:=
 ∀(pins:List (Addr×Obj))(s:Shared)(σ:St)(H:Hp)(Q:List (V×V)->Hp->Prop),Inv X pins σ H s->tPairs trs σ H Q →
  wpAny (model X.prog X.w) X.A (evalPairs (pairTrees keys values X.env pos)) (λvs s'=>∃ps H',Inv X pins σ H' s'/\VV ps vs/\Q ps H') X.xe s
def mergeK(kvs more:List (Key×V)):List (Key×V):=more.foldl (λacc kv=>putK acc kv.1 kv.2) kvs
def tDisp(trs:List (TE×TE)):TE:=λσ H Q=>∀p,H p=none->tPairs trs σ (upd H p (.dK [])) λps H2=>H2 p=some (.dK [])/\∃kvs:List (Key×V),ps=kvs.map (λkv=>(kV kv.1,kv.2))/\kvs.length<=15/\Q (.ref p) (upd H2 p (.dK (mergeK [] kvs)))
structure M1(X:Cx)(o:Expr)(m:Str)(apos:Pos)(e:Expr)(cpos:Pos):Prop where
 base:attributeBase o m X.env (eval o X.env)=eval o X.env
 few:((backTo cpos (starEach [e] X.env)).all (λx=>!x.1)&&(backToKw cpos (keywordEach [] X.env)).all (λx=>x.1.isSome)
 &&decide (([e]:List Expr).length+([]:List Keyword).length+(if ([]:List Keyword).isEmpty then 0 else 1)<30))=true
 line:(apos.endLine==cpos.line)=true
 trees:backTo cpos (starEach [e] X.env)=[(false,eval e X.env)]
structure M2(X:Cx)(o:Expr)(m:Str)(apos:Pos)(e f:Expr)(cpos:Pos):Prop where
 base:attributeBase o m X.env (eval o X.env)=eval o X.env
 few:((backTo cpos (starEach [e,f] X.env)).all (λx=>!x.1)&&(backToKw cpos (keywordEach [] X.env)).all (λx=>x.1.isSome)
 &&decide (([e,f]:List Expr).length+([]:List Keyword).length+(if ([]:List Keyword).isEmpty then 0 else 1)<30))=true
 line:(apos.endLine==cpos.line)=true
 trees:backTo cpos (starEach [e,f] X.env)=[(false,eval e X.env),(false,eval f X.env)]
def IsD(H:Hp)(a:Addr):Prop:=(∃kvs,Rd H a (.dK kvs))\/∃kvs,Rd H a (.dT kvs)
theorem isD_at{X:Cx}{pins:List (Addr×Obj)}{σ:St}{H:Hp}{s:Shared}{a:Addr}(I:Inv X pins σ H s)(d:IsD H a) :
  s.TypeIs (.ref a) "dict"/\(∀b,Value.ref a=.ref b->∃ob,s.heap.get? b=some ob/\ob.dict=none)/\(a==sysModules)=false:=by
 rcases d with⟨kvs,e⟩|⟨kvs,e⟩
 .obtain⟨_,hd,vs,_,dd⟩:=dk_rd I.hok e;refine⟨dd.typeIs,λb q=>?_,hd⟩;cases q;obtain⟨ob,_,_,h1,h2,_⟩:=dd;exact⟨ob,h1,h2.2.1⟩
 .obtain⟨_,hd,xs,_,dd⟩:=dt_rd I.hok e;refine⟨dd.typeIs,λb q=>?_,hd⟩;cases q;obtain⟨ob,_,_,h1,h2,_⟩:=dd;exact⟨ob,h1,h2.2.1⟩
section
variable{X:Cx}{pins:List (Addr×Obj)}{σ:St}{H:Hp}{s:Shared}{a:Addr}{y d:V}{u r:Value}{o:Option V}{A:Around}{E:Value->Shared->Prop}
theorem d_get1{Q:Value->Shared->Prop}(hu:A.units+1<cLine)(I:Inv X pins σ H s)(g:DGet H a y o)(ry:RelV y u)(h:∀w' s',Inv X pins σ H s'->RelV (o.getD .non) w'->Q w' s') :
  wpAny (model X.prog X.w) A (call (.builtin "dict.get") [.ref a,u]) Q E s:=by
 rcases g with⟨kvs,k,e,ey,l⟩|⟨kvs,k,b,e,ey,eb,l⟩
 .subst ey;obtain⟨z,hd,vs,rel,dd⟩:=dk_rd I.hok e;refine call_meetsIn PySem.F.slot_dict_get dd.typeIs PySem.F.entry_dict_get (PySem.F.args_dict_get_2 _ _) (meets_dict_get (mixKind X.prog X.w) a (kV_is ry) hd) ⟨_,dd.mapOf,h _ _ (I.tok _) ?_⟩;rw[l];exact(rel.val k).getD rfl
 .subst ey;cases(show u=Value.ref b from ry);obtain⟨z,hd,xs,rel,dd⟩:=dt_rd I.hok e;refine call_meetsIn PySem.F.slot_dict_get dd.typeIs PySem.F.entry_dict_get (PySem.F.args_dict_get_2 _ _) (meetsH_dict_get (tupleKind (mixKind X.prog X.w)) a b hd) ⟨tupleKind_room_in1 hu,k,xs,key_of I.hok eb,dd,h _ _ (I.tok _) ?_⟩;rw[l];exact(rel.val k).getD rfl
end
def tDGet1(td ty:TE):TE:=λσ H Q=>td σ H λx H1=>∃a,x=.ref a/\IsD H1 a/\ty σ H1 λy H2=>∃o,DGet H2 a y o/\Q (o.getD .non) H2
def tDGet2(td ty tx:TE):TE:=λσ H Q=>td σ H λx H1=>∃a,x=.ref a/\IsD H1 a/\ty σ H1 λy H2=>tx σ H2 λz H3=>∃o,DGet H3 a y o/\Q (o.getD z) H3
def tDPop1(td ty:TE):TE:=λσ H Q=>td σ H λx H1=>∃a,x=.ref a/\IsD H1 a/\ty σ H1 λy H2=>∃kvs k v,H2 a=some (.dK kvs)/\y=kV k/\valV kvs k=some v/\Q v (upd H2 a (.dK (dropK kvs k)))
def tDPop2(td ty tx:TE):TE:=λσ H Q=>td σ H λx H1=>∃a,x=.ref a/\IsD H1 a/\ty σ H1 λy H2=>tx σ H2 λz H3=>∃kvs k,H3 a=some (.dK kvs)/\y=kV k ∧
 (∀v,valV kvs k=some v->Q v (upd H3 a (.dK (dropK kvs k))))/\(valV kvs k=none->Q z H3)
section
variable{X:Cx}{o e f:Expr}{apos cpos:Pos}{td ty tx:TE}
theorem pe_dget1(hu:X.A.units+1<cLine)(ho:PE X o td)(he:PE X e ty)(m:M1 X o "get" apos e cpos):PE X (.Call (.Attribute o "get" apos) [e] [] cpos) (tDGet1 td ty):=by
 intro pins s σ H Q I h;refine wpAny_Call_method m.base m.few m.line PySem.F.plainAttrs_dict PySem.F.slot_dict_get PySem.F.type_dict_get (thn (ho pins s σ H _ I h) λu s1 ⟨x,H1,I1,rx,a,ex,d,q1⟩=>?_);subst ex;obtain rfl:u=Value.ref a:=rx;obtain⟨t1,t2,_⟩:=isD_at I1 d;refine⟨t1,t2,?_⟩;rw[m.trees];refine Calls.callWith_builtin rfl (Calls.evalArgs_plain (Calls.spliced_cons (thn (he pins s1 σ H1 _ I1 q1) λiv s2 ⟨y,H2,I2,ry,ov,g,q2⟩=>Calls.spliced_nil ?_)));exact d_get1 hu I2 g ry λw' s3 I3 rw'=>⟨_,H2,I3,rw',q2⟩
end
section
variable{X:Cx}{pins:List (Addr×Obj)}{σ:St}{H:Hp}{s:Shared}{a:Addr}{kvs:List (Key×V)}{A:Around}{E:Value->Shared->Prop}
end
section
variable{X:Cx}{pins:List (Addr×Obj)}{σ:St}{H:Hp}{s:Shared}{a:Addr}{y:V}{u:Value}{A:Around}{E:Value->Shared->Prop}
end
end L2
namespace Att
open PySem PySem.W PySem.Calls PyProof.Rows
theorem ints_of_wellAll{P:Params}{h:Heap}:∀(ns:List Int)(vs:List Value),WellAll P h vs (ns.map WData.int)->IntsAre vs ns:=by
 intro ns
 induction ns with
 | nil=>
  intro vs w;rw[List.map_nil] at w;cases w;exact .nil
 | cons n ns ih=>
  intro vs w;rw[List.map_cons] at w;cases w with
  | cons a b=>
   cases a;exact .cons _ _ (ih _ b)
theorem script_of{l:OpenLaw}{n:Nat}(hn:l.most=some n){P:Params}{h:Heap}{args:List WData}{vals:List Value}
  (hpre:l.row.toRowW.claim.pre args=true) (hwl:WellAll P h vals args) :
  ∃a vs ns,vals=[Value.ref a]/\args=[WData.list (ns.map WData.int)]/\h.get? a=some {cls:=.type "list",data:=.seq vs.toArray}/\IntsAre vs ns/\ns.length<=n:=by
 have hsh:WShape.hasAll [] args [.list .int]=true:=(pre_splitW hpre).1;have hc:l.pre.holds [] {args:=args}=true:=(pre_splitW hpre).2;obtain⟨d,r,rfl,h1,h2⟩:=hasAllW_cons hsh;obtain rfl:=hasAllW_nil h2;obtain⟨xs,rfl,h3⟩:=hasW_list h1;obtain⟨ns,rfl⟩:=items_int h3;have hlen:ns.length<=n:=by
  unfold OpenLaw.pre at hc;have h4:(WTm.not (.lt (.lit (.int (n:Int))) (.len (.arg 0)))).holds [] {args:=[.list (ns.map .int)]}=true:=by
   have h4:=(holds_andW hc).1;rw[hn] at h4;exact h4
  have h5:=condW_of h4 (w_not (w_lt w_lit (w_len_list (w_arg rfl))));rw[List.length_map] at h5;refine Nat.le_of_not_lt λq=>?_;have q':(n:Int)<((ns.length:Nat):Int):=by omega
  first
   | (rw[decide_eq_true q'] at h5;exact absurd h5 (by decide))
   | (simp at h5;omega)
 cases hwl with
 | cons w1 w2=>
  cases w2;cases w1 with
  | list ho hall=>exact⟨_,_,ns,rfl,rfl,ho,ints_of_wellAll ns _ hall,hlen⟩
theorem post_true(l:OpenLaw)(args:List WData):l.row.toRowW.claim.post args (.bool true) args=true:=
 postW_of (r:=l.row.toRowW) (X:=(true==true))
  (show WShape.has [] (.bool true) .bool=true by first|rfl|decide|simp[WShape.has,WShape.arms,WShape.armsAll])
  (show(WTm.eq .res (.lit (.bool true))).value [] {args:=args,res:=some (.bool true),after:=args}=some (.bool (true==true)) from w_eq_bool (w_res rfl) w_lit) rfl
theorem attach_call{l:OpenLaw}{n:Nat}{q:Program}{loose:List Str}{XP:(Str->Option Value)->Heap->Prop}{YP:World->Heap->Prop}{d:DefRec}
  (hn:l.most=some n) (hdf:d.params.defaults=[])
  (call:∀(w:World)(s₀ s₁:Shared)(mg mb:Str->Option Value)(fa:Addr)(o:Obj)(pm cd doc:Value)(a:Addr)(vs:List Value)(ns:List Int),
   Ground q loose [] XP w s₀ mg mb s₁.heap->YP w s₁.heap →
   s₁.heap.get? fa=some o->o.data=.func (docDef d.name d.params d.body d.scope pm cd doc)->s₁.heap.CodeRec cd d.name->mg d.name=some (.ref fa) →
   s₁.heap.get? a=some {cls:=.type "list",data:=.seq vs.toArray}->IntsAre vs ns->ns.length<=n->s₁.gens=#[] →
   codeAny (model l.prog w) callerA (.call (.ref fa) ⟨[.ref a],[]⟩) (λr s'=>r=.ok (.ret (.bool true))/\OldK s₁.heap s'.heap/\s'.os=s₁.os/\AllBare s'.gens) s₁) :
  WalkO q loose XP YP l.row.toRowW d [] (λf vs=>PySem.call f vs):=by
 intro w s₀ s₁ mg mb G Y fa o pm cd doc dV kV ho hd hcd hD hmg hg args vals as hpre hlay hrd hwl hlo;obtain rfl:dV=.none:=Dflts.none hD hdf;obtain rfl:kV=.none:=Dflts.noKw hD;obtain⟨a,vs,ns,rfl,rfl,hobj,hints,hlen⟩:=script_of hn hpre hwl;refine enter_call (codeAny_mono (call w s₀ s₁ mg mb fa o pm cd doc a vs ns G Y ho (fd_plain hd) hcd hmg hobj hints hlen hg) λr s' hq=>?_);obtain⟨rfl,h2,h3,h4⟩:=hq;exact⟨.inl ⟨.bool true,.bool true,[],rfl,λ_=>rfl,.bool true,post_true l _,λ_=>⟨List.Pairwise.nil,λ_ hm=>(nomatch hm)⟩⟩,h2,h3,h4⟩
section
variable{prog:Program}{w:World}{A:Around}{E:Value->Shared->Prop}{s:Shared}{K:Frag}
def noObjs(h:Heap):Heap:={h with objs:=#[]}
def ledger(h:Heap)(L d:Addr):List (Addr×Obj):=(List.range h.objs.size).filterMap λa=>if a=L\/a=d then none else (h.get? a).map λo=>(a,o)
end
end Att
namespace L2
open PySem PySem.Spec PyProof.Rows
theorem vals_ints:∀{vs:List Value}{ns:List Int},IntsAre vs ns->Vals (ns.map V.int) vs
 | _,_,.nil=>.nil
 | _,_,.cons n t h=>.cons ⟨t,rfl⟩ (vals_ints h)
def Only(H:Hp):Prop:=∀b,H b=none\/∃o xs,H b=some (.frz o (.lst xs))
theorem law_call{P:Program}{w:World}{K:W.Frag}{mg mb:Str->Option Value}{CX:CXT}{k:Nat}{fa a:Addr}{fd:FuncData}{x:Str}{sp:Sp}{s₁:Shared}{vs:List Value}{ns:List Int}
  (KX:K.In s₁.heap) (hns:s₁.heap.Ns mainGlobals mg) (hb:s₁.heap.Ns builtinsNs mb) (hbb:∀x:Str,x≠"__name__"->mb x=bootBuiltins x) (hlim:s₁.heap.NoLimit) (hg:s₁.gens=#[])
  (ha:s₁.heap.get? a=some {cls:=.type "list",data:=.seq vs.toArray}) (hi:IntsAre vs ns) (hl:ns.length<=sizeLine) (hr:Room k callerA)
  (F:∀base:Heap,K.In base->base.Ns mainGlobals mg->FnOk P w K mg base CX k fa fd [x] sp) (hbind:∀(s:Shared)(u:Value),BindsTo s fd ⟨[u],[]⟩ [(x,u)])
  (hsp:∀H:Hp,Only H->SqL K H a (ns.map V.int)->sp [.ref a] H (λv _=>v=.bl true) λ_ _ _=>False)
  (hCX:∀H e s',CX [] H s₁ (λ_ _ _=>False) e s'->False) :
  codeAny (model P w) callerA (.call (.ref fa) ⟨[.ref a],[]⟩) (λr s'=>r=.ok (.ret (.bool true))/\OldK s₁.heap s'.heap/\s'.os=s₁.os/\AllBare s'.gens) s₁:=by
 have rv:=vals_ints hi;have lenV:=hi.length;have core:∀H:Hp,Only H->SqL K H a (ns.map V.int)->HOk P w H s₁.heap->(∀b,H b≠none->b=a)->(H a≠none->K.lookup a=none) →
   codeAny (model P w) callerA (.call (.ref fa) ⟨[.ref a],[]⟩) (λr s'=>r=.ok (.ret (.bool true))/\OldK s₁.heap s'.heap/\s'.os=s₁.os/\AllBare s'.gens) s₁:=by
  intro H hO hS hok hA hK;have base_of:∀{b:Addr}{o:Obj},s₁.heap.get? b=some o->H b=none->(hidT s₁.heap H).get? b=some o:=λe n=>hidT_get e n;have noA:∀{b:Addr}{o:Obj}{es:Array DictEntry}{ep:Nat},s₁.heap.get? b=some o->o.data=.dict es ep->H b=none:=λ{b o es ep} e d=>by
   cases q:H b with
   | none=>rfl
   | some u=>
    have e':b=a:=hA b (by rw[q];simp);subst e';rw[ha] at e;cases e;have d':Data.seq vs.toArray _=Data.dict es ep:=d;cases d'
  have nsK:∀{b:Addr}{m:Str->Option Value},s₁.heap.Ns b m->(hidT s₁.heap H).Ns b m:=λ{b m} ⟨o,es,ep,e,d,r⟩=>⟨o,es,ep,base_of e (noA e d),d,r⟩;have hKb:K.In (hidT s₁.heap H):=λb o e=>base_of (KX b o e) (by
   cases q:H b with
   | none=>rfl
   | some u=>
    have e':b=a:=hA b (by rw[q];simp);subst e';rw[hK (by rw[q];simp)] at e;cases e)
  have hM:Mod K mg (hidT s₁.heap H):=⟨hKb,nsK hns,⟨mb,nsK hb,hbb⟩,let ⟨mc,h1,h2⟩:=hlim;⟨mc,nsK h1,h2⟩⟩;have e0:Env0 P w K mg (hidT s₁.heap H) callerA [] s₁ H:=⟨rfl,hM,λb o e=>of_hidT e,Nat.le_of_eq (hidT_size _ _),trivial,λb hb=>absurd (show b∈([]:List Addr) from hb) (by simp),hok,.of_eq hg⟩;refine codeAny_mono ((F _ hKb (nsK hns)).run callerA [] s₁ H ⟨[.ref a],[]⟩ [.ref a] [.ref a] _ _ hr e0 (hbind s₁ (.ref a)) (.cons rfl .nil) (hsp H hO hS)) λr s' h=>?_;cases r with
  | error e=>exact(hCX H e s' h).elim
  | ok fl=>
   cases fl with
   | next=>exact False.elim h
   | brk=>exact False.elim h
   | cont=>exact False.elim h
   | ret u=>
    obtain⟨v,H',os,bare,un,hok',r',q⟩:=h;have q':v=.bl true:=q;subst q';obtain rfl:u=Value.bool true:=r';refine⟨rfl,OldK.of_keep λb o e=>?_,os,bare⟩;cases q:H b with
    | none=>exact un.keep b o e q (by intro z;exact absurd (show b∈([]:List Addr) from z) (by simp)) (by simp)
    | some u=>
     rcases hO b with z|⟨ob,xs,z⟩
     .rw[q] at z;cases z
     .have z2:=un.frzs b ob _ z;obtain⟨e1,_⟩:=hok b _ z;obtain⟨e2,_⟩:=hok' b _ z2;rw[e] at e1;cases e1;exact e2
 cases hk:K.lookup a with
 | some o=>
  have e:=KX a o hk;rw[ha] at e;cases e;refine core (λ_=>none) (λ_=>.inl rfl) (.inr ⟨_,vs.toArray,_,hk,rfl,rfl,rfl,by rw[List.size_toArray,lenV];exact hl,by simpa using rv⟩) (λb u z=>by have z':(none:Option HO)=some u:=z;cases z') (λb z=>absurd rfl z) λz=>absurd rfl z
 | none=>
  refine core (λb=>if b=a then some (.frz {cls:=.type "list",data:=.seq vs.toArray} (.lst (ns.map V.int))) else none) (λb=>?_) (.inl (.inr ⟨{cls:=.type "list",data:=.seq vs.toArray},if_pos rfl⟩)) (λb u z=>?_) (λb z=>?_) λ_=>hk
  .by_cases hb:b=a
   .exact .inr ⟨_,_,if_pos hb⟩
   .exact .inl (if_neg hb)
  .by_cases hb:b=a
   .have z':=(if_pos hb).symm.trans z;cases z';subst hb;exact⟨ha,by rw[List.length_map];exact hl,vs,_,rv,ha⟩
   .have z':=(if_neg hb).symm.trans z;cases z'
  .by_cases hb:b=a
   .exact hb
   .exact absurd (if_neg hb) z
abbrev KOf{K:W.Frag}{h:Heap}(_:K.In h):PySem.W.Frag:=K
theorem walk_of{l:PySem.W.OpenLaw}{n k:Nat}{q:Program}{loose:List Str}{XP:(Str->Option Value)->Heap->Prop}{YP:World->Heap->Prop}{d:DefRec}{K:Params->PySem.W.Frag}{CX:World->CXT}{sp:World->Sp}{x:Str}
  (hn:l.most=some n) (hn2:n<=sizeLine) (hdf:d.params.defaults=[]) (hr:Room k callerA)
  (hY:∀(w:World)(h:Heap),YP w h->(K w.params).In h)
  (F:∀(w:World)(mg:Str->Option Value)(fa:Addr)(h:Heap),(K w.params).In h->h.Ns mainGlobals mg->mg d.name=some (.ref fa) →
   ∃fd:FuncData,(∀(s:Shared)(u:Value),BindsTo s fd ⟨[u],[]⟩ [(x,u)]) ∧
    ∀base:Heap,(K w.params).In base->base.Ns mainGlobals mg->FnOk l.prog w (K w.params) mg base (CX w) k fa fd [x] (sp w))
  (hsp:∀(w:World)(H:Hp)(a:Addr)(ns:List Int),ns.length<=n->Only H->SqL (K w.params) H a (ns.map V.int)->sp w [.ref a] H (λv _=>v=.bl true) λ_ _ _=>False)
  (hCX:∀(w:World)(H:Hp)(s:Shared)(e:Value)(s':Shared),CX w [] H s (λ_ _ _=>False) e s'->False) :
  PySem.W.WalkO q loose XP YP l.row.toRowW d [] (λf vs=>PySem.call f vs):=by
 refine Att.attach_call hn hdf λw s₀ s₁ mg mb fa o pm cd doc a vs ns G Y ho hd hcd hmg hobj hints hlen hg=>?_;have KX:=hY w _ Y;obtain⟨fd,hb,hF⟩:=F w mg fa _ KX G.T.g hmg;exact law_call KX G.T.g G.T.b G.T.builtins G.T.nolimit hg hobj hints (Nat.le_trans hlen hn2) hr hF hb (λH hO hS=>hsp w H a ns hlen hO hS) λH e s'=>hCX w H s₁ e s'
end L2
/- THE LAST THEOREM (shape;LID,My.* are yours):
   My.Adr: a structure of the addresses that your layer names (classes,functions);My.Txt K t: a structure (Prop) of the equations over K;
   My.txt_mk:{K}{implicit addresses ..} (e1:nsIn K mainGlobals "law"=some (some (.ref f))) (e2:K.lookup f=some ⟨oc,od,.func (fnOf "law" "law" params body scope dV kV doc pm an cdv ct),sl⟩) (e3:codeIn K cdv "law"=true) ..:∃t,My.Txt K t
set_option maxRecDepth 100000 in
set_option maxHeartbeats 0 in
theorem PySem.Challenge.cw_LID_holds:PySem.Challenge.rw_LID.Holds:=by
 w_on;o_law;k_head;(case hw=>w_witness2)
 k_fill
 refine L2.walk_of (l:=PySem.Challenge.rw_LID) (n:=63) (k:=40) (x:="script") (CX:=λw=>..) (sp:=λ_=>My.sp_law) rfl (by decide) rfl ⟨rfl,by decide,by decide⟩ (λw h Y=>PySem.W.kIn_of Y) ?F ?S ?C
 case F=>
  intro w mg fa h KX G hmg;have T:∃t,My.Txt (L2.KOf KX) t:=by
   dsimp only[L2.KOf]                          -- K must stand as «<heap const> w.params» for k_is;refine' My.txt_mk ?e1 ?e2 ?e3 ..
   (case e1=>PySem.W.k_is)                    -- in the order: a name->its address->its object->its parts
   (case e2=>PySem.W.k_is)
   ..
  obtain⟨t,T⟩:=T;have e0:=hmg.symm.trans (PySem.W.mg_of KX G T.law);cases e0                                       -- fa is the law's own address;exact⟨_,λs u=>.of_eq rfl,λbase kb nb=>My.law_fn T kb nb⟩     -- if «.of_eq rfl» comes too early: refine'⟨_,?b,λbase kb nb=>My.law_fn T kb nb⟩;exact λs u=>.of_eq rfl
 case S=>exact λw H a ns hl hO hS=>..
 case C=>exact ..
(the tactic k_is has no namespace: write k_is) -/
namespace L2
open PySem PySem.Spec PyProof.Rows
def inClass(s:Stmt)(j:Nat):Stmt:=match s with
 | .ClassDef _ _ _ body _ _ _ _ _ _ _=>body.getD j (.Pass ⟨0,0,0,0⟩)
 | _=>.Pass ⟨0,0,0,0⟩
def defArgs(s:Stmt):Arguments:=match s with
 | .FunctionDef _ a _ _ _ _ _ _ _ _=>a
 | _=>{posonlyargs:=[],args:=[],vararg:=none,kwonlyargs:=[],kw_defaults:=[],kwarg:=none,defaults:=[]}
def defBody(s:Stmt):List Stmt:=match s with
 | .FunctionDef _ _ b _ _ _ _ _ _ _=>b
 | _=>[]
def defScope(s:Stmt):Scope:=match s with
 | .FunctionDef _ _ _ _ _ _ sc _ _ _=>sc
 | _=>{kind:=.function,names:=[],isGenerator:=false,isCoroutine:=false}
abbrev CX0:CXT:=λ_ _ _ _ _ _=>False
abbrev E0:XK:=λ_ _ _=>False
theorem pass0{X:Cx}:Passes CX0 X E0:=λ_ _ _ _ _ _ _ h=>h.elim
structure Fun(K:W.Frag)(x qual:Str)(st:Stmt)(f:Addr)(fd:FuncData):Prop where
 ex:∃(oc:Value)(od:Option Addr)(kV doc pm:Value)(an:Option Addr)(cdv ct:Value)(osl:Array (Option Value)),
  fd=PySem.W.fnOf x qual (defArgs st) (defBody st) (defScope st) .none kV doc pm an cdv ct/\K.lookup f=some ⟨oc,od,.func fd,osl⟩/\PySem.W.codeIn K cdv qual=true
 kp:PySem.W.keepIn K (.ref f)=true
section
variable{P:Program}{w:World}{K:W.Frag}{mg:Str->Option Value}{base:Heap}
theorem Fun.ok{x qual:Str}{st:Stmt}{f:Addr}{fd:FuncData}{N ps:List Str}{k:Nat}{sp:Sp}(F:Fun K x qual st f fd)(S:FnScope N ps (defScope st))(len:∀vs H Q E,sp vs H Q E->vs.length=ps.length)
  (hbody:∀(cdv:Value)(A:Around)(outer:List Env)(s:Shared)(H:Hp)(vs:List V)(Q:VK)(E:XK),Room k (A.deeper (envOfC qual (defScope st) s.heap.objs.size f cdv))->sp vs H Q E →
   ∃t,PSs (cxOf CX0 P w K mg base N qual (defScope st) f cdv A outer s H E).nox (defBody st) t/\t {nx:=λ_ H'=>Q .non H',rt:=Q} (start N vs) H):FnOk P w K mg base CX0 (k+1) f fd ps sp:=by
 obtain⟨oc,od,kV,doc,pm,an,cdv,ct,osl,rfl,lk,hcd⟩:=F.ex;refine fn_of lk hcd S len λA outer s H vs Q E hr hsp=>?_;obtain⟨t,h,q⟩:=hbody cdv A outer s H vs Q E hr hsp;exact⟨t,h.nox,q⟩
theorem Fun.binds{x qual:Str}{st:Stmt}{f:Addr}{fd:FuncData}{ps:List Str}(F:Fun K x qual st f fd)
  (h:∀(kV doc pm:Value)(an:Option Addr)(cdv ct:Value)(us:List Value),us.length=ps.length->bindArgs (PySem.W.fnOf x qual (defArgs st) (defBody st) (defScope st) .none kV doc pm an cdv ct) ⟨us,[]⟩=pure (ps.zip us)):Binds K fd ps []:=by
 obtain⟨oc,od,kV,doc,pm,an,cdv,ct,osl,rfl,lk,hcd⟩:=F.ex;exact .all (h kV doc pm an cdv ct)
theorem fun_mk{x qual:Str}{st:Stmt}{f:Addr}{oc:Value}{od an:Option Addr}{osl:Array (Option Value)}{kV doc pm cdv ct:Value}(l:K.lookup f=some ⟨oc,od,.func (PySem.W.fnOf x qual (defArgs st) (defBody st) (defScope st) .none kV doc pm an cdv ct),osl⟩)
  (c:PySem.W.codeIn K cdv qual=true) (k:PySem.W.keepIn K (.ref f)=true):Fun K x qual st f (PySem.W.fnOf x qual (defArgs st) (defBody st) (defScope st) .none kV doc pm an cdv ct):=⟨⟨oc,od,kV,doc,pm,an,cdv,ct,osl,rfl,l,c⟩,k⟩
end
theorem hu_of{A:Around}{k:Nat}(hr:Room k A):A.units+1<cLine:=Nat.lt_of_le_of_lt (Nat.add_le_add_left (by decide:1<=64) _) hr.units
theorem small1000{n:Nat}(h:n<=1000):n<sizeLine:=Nat.lt_of_le_of_lt h (by decide)
section
variable{X:Cx}
theorem pv(i:Nat){x:Str}{pos:Pos}(hN:X.N[i]?=some x:=by rfl)(hv:Vis X.env.scope x:=by first|exact Or.inl rfl|exact Or.inr (Or.inl rfl)|exact Or.inr (Or.inr rfl))(hd:(x==("__debug__":Str))=false:=by decide)
  (hcd:(x==("__classdict__":Str))=false:=by decide):PE X (.Name x pos) (tVar i):=pe_var hN hv hd hcd
end
theorem iteF{A B:Prop}(h:B):if false=true then A else B:=by
 rw[if_neg Bool.false_ne_true];exact h
theorem iteT{A B:Prop}(h:A):if true=true then A else B:=by
 rw[if_pos rfl];exact h
theorem ite2{c A B:Prop}[Decidable c](h1:c->A)(h2:¬c->B):if c then A else B:=by
 by_cases h:c
 .rw[if_pos h];exact h1 h
 .rw[if_neg h];exact h2 h
theorem iteNS{c A B:Prop}[Decidable c](hc:c)(h:B):if (!decide c)=true then A else B:=by
 rw[decide_eq_true hc];exact iteF h
def Same(H H':Hp):Prop:=∀b o,H b=some o->H' b=some o
theorem Same.refl(H:Hp):Same H H:=λ_ _ h=>h
theorem Same.trans{H H1 H2:Hp}(a:Same H H1)(b:Same H1 H2):Same H H2:=λc o h=>b c o (a c o h)
theorem Same.free{H H':Hp}(e:Same H H'){l:Addr}(h:H' l=Option.none):H l=Option.none:=by
 cases q:H l with
 | none=>rfl
 | some o=>
  rw[e l o q] at h;cases h
theorem Same.seq{K:W.Frag}{H H':Hp}{a:Addr}{xs:List V}(e:Same H H')(h:SqL K H a xs):SqL K H' a xs:=by
 rcases h with(h|⟨o,h⟩)|h
 .exact .inl (.inl (e _ _ h))
 .exact .inl (.inr ⟨o,e _ _ h⟩)
 .exact .inr h
section
variable{κ:Type}[DecidableEq κ]
theorem valV_not{kvs:List (κ×V)}{k:κ}(h:valV kvs k=none):¬k∈kvs.map (·.1):=by
 intro m;obtain⟨p,hp,e⟩:=List.mem_map.mp m;have q:(kvs.any λkv=>decide (kv.1=k))=true:=List.any_eq_true.mpr ⟨p,hp,decide_eq_true e⟩;rw[valV_any,h] at q;exact absurd q (by simp)
theorem valV_in{kvs:List (κ×V)}{k:κ}{v:V}(h:valV kvs k=some v):k∈kvs.map (·.1):=by
 have q:(kvs.any λkv=>decide (kv.1=k))=true:=by
  rw[valV_any,h]
  all_goals rfl
 obtain⟨p,hp,e⟩:=List.any_eq_true.mp q;exact List.mem_map.mpr ⟨p,hp,of_decide_eq_true e⟩
theorem nd_snoc:∀{l:List κ}{k:κ},l.Nodup->¬k∈l->(l++[k]).Nodup
 | [],k,_,_=>by simp
 | a::r,k,h,hk=>by
  obtain⟨h1,h2⟩:=List.nodup_cons.mp h;show(a::(r++[k])).Nodup;refine List.nodup_cons.mpr ⟨λm=>?_,nd_snoc h2 λm=>hk (List.mem_cons.mpr (Or.inr m))⟩;rcases List.mem_append.mp m with q|q
  .exact h1 q
  .exact hk (List.mem_cons.mpr (Or.inl (List.mem_singleton.mp q).symm))
theorem nd_putK{kvs:List (κ×V)}{k:κ}(v:V)(hn:(kvs.map (·.1)).Nodup)(h:valV kvs k=none):((putK kvs k v).map (·.1)).Nodup:=by
 rw[putK_new v h,List.map_append];exact nd_snoc hn (valV_not h)
theorem dropK_pos{p:κ×V}{r:List (κ×V)}{k:κ}(e:p.1=k):dropK (p::r) k=dropK r k:=by
 unfold dropK;rw[List.filter_cons,if_neg (by simp[e])]
theorem dropK_neg{p:κ×V}{r:List (κ×V)}{k:κ}(e:¬p.1=k):dropK (p::r) k=p::dropK r k:=by
 unfold dropK;rw[List.filter_cons,if_pos (by simp[e])]
theorem dropK_no:∀{kvs:List (κ×V)}{k:κ},¬k∈kvs.map (·.1)->dropK kvs k=kvs
 | [],_,_=>rfl
 | p::r,k,h=>by
  have h':¬k∈r.map (·.1):=λm=>by
   obtain⟨q,hq,e⟩:=List.mem_map.mp m;exact h (List.mem_map.mpr ⟨q,List.mem_cons.mpr (Or.inr hq),e⟩)
  rw[dropK_neg λe=>h (List.mem_map.mpr ⟨p,List.mem_cons.mpr (Or.inl rfl),e⟩),dropK_no h']
theorem dropK_mem{kvs:List (κ×V)}{k:κ}{p:κ×V}(h:p∈dropK kvs k):p∈kvs:=(List.mem_filter.mp h).1
end
end L2
set_option maxHeartbeats 4000000
namespace L2
open PySem PySem.Spec PyProof.Rows
def CXx(P:Program)(w:World):CXT:=λouter H s E e s'=>∃(ea:Addr)(cls a0:Value)(B:Heap)(H':Hp),
 e=.ref ea/\s'.os=s.os/\AllBare s'.gens/\Un (frs outer) [] H H' s.heap s'.heap/\HOk P w H' s'.heap/\Heap.FlyingW B outer ea cls a0 s'.heap ∧
 (∀b u,H' b=some u->∃o,B.get? b=some o)/\(∀b o,s.heap.get? b=some o->b∉frs outer->∃o',B.get? b=some o')/\E cls none H'
section
variable{X:Cx}{pins:List (Addr×Obj)}{σ:St}{H:Hp}{s s':Shared}{E:XK}{e:Value}
structure Own(X:Cx):Prop where
 st:X.stack=X.env::X.outer
 fr:X.env.frame=some X.env.locals
 ex:X.ex=[]
end
structure ExcC(K:W.Frag)(mg:Str->Option Value)(x:Str)(C:Addr)(bm:List Value)(newId:String):Prop where
 at_:mg x=some (.ref C)
 ex:PySem.W.excIn K C bm newId=true
section
variable{P:Program}{w:World}{K:W.Frag}{mg:Str->Option Value}{base:Heap}{N:List Str}{qual:Str}{scope:Scope}{f:Addr}{cd:Value}{A:Around}{outer:List Env}{s₀:Shared}{H₀:Hp}{E:XK}
def tRaise(E:XK)(C:Addr):TS:=λ_ _ H=>E (.ref C) none H
end
def trX(X:Cx)(R:Value->St->Hp->Prop)(e:Value)(s':Shared):Prop:=
 ∃(pins':List (Addr×Obj))(σ:St)(H:Hp)(s:Shared),Inv X pins' σ H s/\CXx X.prog X.w X.stack H s (λcls _ H'=>R cls σ H') e s'
abbrev Cx.pin(X:Cx)(pins:List (Addr×Obj)):Cx:={X with pn:=X.pn++pins}
abbrev Cx.tr(X:Cx)(pins:List (Addr×Obj))(R:Value->St->Hp->Prop):Cx:={X with pn:=X.pn++pins,xe:=trX (X.pin pins) R}
abbrev Cx.held(X:Cx)(ea:Addr):Cx:={X with A:=X.A.mark (some (.ref ea)),calm:=false,xe:=λ_ _=>False}
section
variable{X:Cx}{pins pins':List (Addr×Obj)}{σ:St}{H:Hp}{s:Shared}{R:Value->St->Hp->Prop}
end
structure Cau(X:Cx)(pins:List (Addr×Obj))(σ:St)(H:Hp)(ea:Addr)(cls:Value)(s:Shared):Prop where
 ex:∃(H1:Hp)(s0:Shared)(B:Heap)(a0:Value),Inv X pins σ H1 s0/\s.os=s0.os/\AllBare s.gens/\Un (frs X.stack) [] H1 H s0.heap s.heap/\HOk X.prog X.w H s.heap/\Heap.FlyingW B X.stack ea cls a0 s.heap ∧
  (∀b u,H b=some u->∃o,B.get? b=some o)/\∀b o,s0.heap.get? b=some o->b∉frs X.stack->∃o',B.get? b=some o'
section
variable{X:Cx}{pins:List (Addr×Obj)}{σ:St}{H:Hp}{s:Shared}{ea:Addr}{cls:Value}
end
def PH(X:Cx)(hs:List ExceptHandler)(th:Value->TS):Prop:=
 ∀(pins:List (Addr×Obj))(s:Shared)(σ:St)(H:Hp)(D:Ends)(ea:Addr)(cls:Value),Cau X pins σ H ea cls s->th cls D σ H->wpAny (model X.prog X.w) X.A (handleBy (.ref ea) X.env hs) (SP X pins D) X.xe s
def tTry(tb:(Value->St->Hp->Prop)->TS)(th:Value->TS):TS:=λD σ H=>tb (λcls σ' H'=>th cls D σ' H') D σ H
def tHit(K:W.Frag)(C:Addr)(ts:TS)(tr:Value->TS):Value->TS:=λcls D σ H=>∃b,PySem.W.exmOne K cls (.ref C)=some b/\if b=true then ts D σ H else tr cls D σ H
def excO(a C:Addr):HO:=.ext λh=>∃o vs,h.get? a=some o/\o.cls=.ref C/\o.data=.fields vs
section
variable{X:Cx}{pins:List (Addr×Obj)}{σ:St}{H:Hp}{s:Shared}{ea C:Addr}
end
def tHitAs(K:W.Frag)(C:Addr)(i:Nat)(ts:TS)(tr:Value->TS):Value->TS:=λcls D σ H=>∃b,PySem.W.exmOne K cls (.ref C)=some b/\if b=true then
  ∃Cx,cls=.ref Cx/\∀ea,H ea=none->ts {nx:=λσ' H'=>D.nx (σ'.set i none) H',rt:=D.rt,bk:=λσ' H'=>D.bk (σ'.set i none) H',ct:=λσ' H'=>D.ct (σ'.set i none) H'} (σ.set i (some (.ref ea))) (upd H ea (excO ea Cx))
 else tr cls D σ H
def PassS(CX:CXT)(X:Cx)(E:St->XK):Prop:=∀(pins:List (Addr×Obj))(σ:St)(H:Hp)(s:Shared)(e:Value)(s':Shared),Inv X pins σ H s->CX X.stack H s (E σ) e s'->X.xe e s'
def tMakeS(C:Addr)(sp:Sp)(E:St->XK)(t:TA):TE:=λσ H Q=>t σ H λvs H1=>∀x dx,H1 x=none->H1 dx=none->dx≠x →
 sp (.ref x::vs) (upd (upd H1 dx (.own x)) x (.ins C dx [])) (λv H2=>v=.non/\Q (.ref x) H2) (E σ)
section
variable{X:Cx}{CX:CXT}{k:Nat}{f C:Addr}{fd:FuncData}{ps:List Str}{sp:Sp}{E:St->XK}{x:Str}{p pos:Pos}{e:Expr}{es:List Expr}{t:TA}
end
end L2
namespace L2
open PySem PySem.Spec PyProof.Rows PySem.W Builtin Builtin.ObjectAttr Builtin.Getset_descriptor
structure ExcA(K:Frag)(C:Addr):Prop where
 ga:findIn K (.ref C) "__getattribute__"=some (some (.builtin "BaseException.__getattribute__"))
 gx:findIn K (.ref C) "__getattr__"=some none
 ca:findIn K (.ref C) "__class__"=some (some (.builtin "object.__class__"))
 cn:specialIn K (.builtin "object.__class__") "__get__"=some (some (.builtin "getset_descriptor.__get__"))
 ct:takesIn K (.builtin "object.__class__")=some true
 mo:mroIn K C (.type "object")=some true
 mb:mroIn K C (.type "BaseException")=some true
 cl:(clsIn K C).isSome=true
section
variable{K:Frag}{C x:Addr}{h:Heap}{M:Model}
variable{prog:Program}{w:World}{A:Around}{E:Value->Shared->Prop}{s:Shared}
end
def rIsi(K:Frag):List V->Hp->VK->Prop:=λvs H Q=>∃a C b,H a=some (excO a C)/\ExcA K C/\Q (.bl b) H ∧
  ((∃D,vs=[.ref a,.ref D]/\kitOne K (.ref C) (.ref D)=some b)\/(∃T,vs=[.ref a,.ty T]/\kitOne K (.ref C) (.type T)=some b) ∨
   ∃(t:Addr)(ds:List Addr),vs=[.ref a,.ref t]/\H t=some (.tup (ds.map V.ref))/\kitAny K (.ref C) (ds.map Value.ref)=some b)
end L2
namespace Sx
open PySem.W PyProof.Rows
def Wp{α:Type}(N:Nat)(lt:Nat->Nat->Bool):KasT α->(α->Prop)->Prop
 | .ret a,Q=>Q a
 | .ask i j k,Q=>i<N/\j<N/\Wp N lt (k (lt i j)) Q
theorem Wp.bind{α β:Type}{N:Nat}{lt:Nat->Nat->Bool}{f:α->KasT β}{Q:β->Prop}:∀(t:KasT α),Wp N lt t (λa=>Wp N lt (f a) Q)->Wp N lt (t.bind f) Q
 | .ret _,h=>h
 | .ask _ _ k,⟨h1,h2,h⟩=>⟨h1,h2,Wp.bind (k _) h⟩
section
variable{O:KeyOrd}(key:Nat->O.α)
def KP(p:Array Nat)(i:Nat):O.α:=key (p[i]?.getD 0)
def Up(p:Array Nat)(k:Nat):Prop:=∀i j,i<=j->j<k->O.kle (KP key p i) (KP key p j)
def Down(p:Array Nat)(k:Nat):Prop:=∀i j,i<=j->j<k->O.kle (KP key p j) (KP key p i)
def ltK(i j:Nat):Bool:=O.blt (key i) (key j)
def PB(N:Nat)(p:Array Nat):Prop:=p.Perm (List.range N).toArray
end
theorem PB.size{N:Nat}{p:Array Nat}(h:PB N p):p.size=N:=by
 have:=Array.Perm.size_eq h;simpa using this
theorem PB.below{N:Nat}{p:Array Nat}(h:PB N p){i:Nat}(hi:i<N):p.getD i 0<N:=by
 have hs:=h.size;have hi':i<p.size:=by omega
 have e:p.getD i 0=p[i]:=by simp[Array.getD,hi']
 have hm:p[i]∈(List.range N).toArray:=(Array.Perm.mem_iff h).mp (Array.getElem_mem hi');rw[e];simpa using hm
theorem getD_eq(p:Array Nat)(i:Nat):p.getD i 0=p[i]?.getD 0:=by simp
theorem PB.rev{N:Nat}{p:Array Nat}(h:PB N p)(i j:Nat):PB N (kas_rev p i j):=(mirror_perm _ _ _ _).trans h
theorem PB.bub{N:Nat}{p:Array Nat}(h:PB N p)(i j:Nat):PB N (bubble p i j):=(bubble_perm _ _ _).trans h
section
variable{O:KeyOrd}{key:Nat->O.α}{N:Nat}{p:Array Nat}
theorem KP_rev{i j:Nat}(hj:j<=p.size)(k:Nat):KP key (kas_rev p i j) k=if i<=k/\k<j then KP key p (i+j-1-k) else KP key p k:=by
 have e:=getElem?_mirror_all (xs:=p) (i:=i) hj k;unfold KP kas_rev;rw[e];by_cases h:i<=k/\k<j
 .rw[if_pos h,if_pos h]
 .rw[if_neg h,if_neg h]
theorem KP_bub{src d:Nat}(hs:src<p.size)(hd:d<=src)(k:Nat) :
  KP key (bubble p src d) k=if k=src-d then KP key p src else if src-d<k/\k<=src then KP key p (k-1) else KP key p k:=by
 have e:=getElem?_bubble hs d hd k;unfold KP;rw[e];by_cases h:k=src-d
 .rw[if_pos h,if_pos h]
 .rw[if_neg h,if_neg h];by_cases h2:src-d<k/\k<=src
  .rw[if_pos h2,if_pos h2]
  .rw[if_neg h2,if_neg h2]
theorem KP_rev_alike{i j:Nat}(hj:j<=p.size)(he:∀k,i<=k->k<j->KP key p k=KP key p (j-1))(k:Nat):KP key (kas_rev p i j) k=KP key p k:=by
 rw[KP_rev hj];by_cases h:i<=k/\k<j
 .rw[if_pos h,he _ (by omega) (by omega),he k h.1 h.2]
 .rw[if_neg h]
theorem lt_true{i j:Nat}(h:ltK key (p.getD i 0) (p.getD j 0)=true):O.klt (KP key p i) (KP key p j):=by
 rw[getD_eq,getD_eq] at h;exact h
theorem lt_false{i j:Nat}(h:ltK key (p.getD i 0) (p.getD j 0)=false):O.kle (KP key p j) (KP key p i):=by
 rw[getD_eq,getD_eq] at h;exact h
theorem Up.grow{n:Nat}(h:Up key p n)(h1:1<=n)(hn:O.kle (KP key p (n-1)) (KP key p n)):Up key p (n+1):=λi j hij hj=>by
 by_cases e:j<n
 .exact h i j hij e
 .obtain rfl:j=n:=by omega
  by_cases e2:i=j
  .subst e2;exact KeyOrd.kle_refl _
  .exact KeyOrd.kle_trans (h i (j-1) (by omega) (by omega)) hn
theorem Down.grow{n:Nat}(h:Down key p n)(h1:1<=n)(hn:O.kle (KP key p n) (KP key p (n-1))):Down key p (n+1):=λi j hij hj=>by
 by_cases e:j<n
 .exact h i j hij e
 .obtain rfl:j=n:=by omega
  by_cases e2:i=j
  .subst e2;exact KeyOrd.kle_refl _
  .exact KeyOrd.kle_trans hn (h i (j-1) (by omega) (by omega))
theorem Up.one:Up key p 1:=λi j hij hj=>by
 obtain rfl:i=j:=by omega
 exact KeyOrd.kle_refl _
theorem asc_wp{Q:Nat->Prop}:∀(f n:Nat),PB N p->1<=n->n+f<=N->Up key p n →
  (∀m,n<=m->m<=n+f->Up key p m->(m=n+f\/O.klt (KP key p m) (KP key p (m-1)))->Q m)->Wp N (ltK key) (kas_asc p f n) Q
 | 0,n,_,_,_,hu,h=>h n (Nat.le_refl _) (Nat.le_refl _) hu (.inl rfl)
 | f+1,n,hp,h1,hn,hu,h=>by
  refine⟨hp.below (by omega),hp.below (by omega),?_⟩;cases c:ltK key (p.getD n 0) (p.getD (n-1) 0) with
  | true=>exact h n (Nat.le_refl _) (by omega) hu (.inr (lt_true c))
  | false=>
   exact asc_wp f (n+1) hp (by omega) (by omega) (hu.grow h1 (lt_false c)) λm a b u d=>h m (by omega) (by omega) u (d.imp (λe=>by omega) id)
theorem desc_wp{Q:Array Nat×Nat×Nat->Prop}:∀(f n q:Nat)(p:Array Nat),PB N p->1<=n->n+f<=N->Down key p n->q+1<=n->(∀i,n-(q+1)<=i->i<n->KP key p i=KP key p (n-1)) →
  (∀p' m q',PB N p'->n<=m->m<=n+f->Down key p' m->q'+1<=m->(∀i,m-(q'+1)<=i->i<m->KP key p' i=KP key p' (m-1))->Q (p',m,q'))->Wp N (ltK key) (kas_desc f p n q) Q
 | 0,n,q,p,hp,_,_,hd,hq,he,h=>h p n q hp (Nat.le_refl _) (Nat.le_refl _) hd hq he
 | f + 1,n,q,p,hp,h1,hn,hd,hq,he,h=>by
  refine⟨hp.below (by omega),hp.below (by omega),?_⟩;have hz:n<=p.size:=by rw[hp.size];omega
  have alone:∀(r:Array Nat) i,n+1-(0+1)<=i->i<n+1->KP key r i=KP key r (n+1-1):=λr i a b=>by
   obtain rfl:i=n+1-1:=by omega
   rfl
  cases c:ltK key (p.getD n 0) (p.getD (n-1) 0) with
  | true=>
   have g:=hd.grow h1 (KeyOrd.kle_of_klt (lt_true c));show Wp N (ltK key) (if q>0 then _ else _) Q;by_cases e:q>0
   .rw [if_pos e];have same:=KP_rev_alike (key:=key) (p:=p) (i:=n-(q+1)) hz he;exact desc_wp f (n+1) 0 _ (hp.rev _ _) (by omega) (by omega) (λi j a b=>by rw[same,same];exact g i j a b) (by omega) (alone _)
     λp' m q' a b d u v w=>h p' m q' a (by omega) (by omega) u v w
   .rw[if_neg e];exact desc_wp f (n+1) 0 _ hp (by omega) (by omega) g (by omega) (alone _) λp' m q' a b d u v w=>h p' m q' a (by omega) (by omega) u v w
  | false=>
   show Wp N (ltK key) (KasT.ask _ _ _) Q;refine⟨hp.below (by omega),hp.below (by omega),?_⟩;cases d:ltK key (p.getD (n-1) 0) (p.getD n 0) with
   | true=>exact h p n q hp (Nat.le_refl _) (by omega) hd hq he
   | false=>
    have eq:KP key p n=KP key p (n-1):=KeyOrd.kle_antisymm (lt_false d) (lt_false c);refine desc_wp f (n+1) (q+1) p hp (by omega) (by omega) (hd.grow h1 (lt_false d)) (by omega) (λi a b=>?_) λp' m q' a b d u v w=>h p' m q' a (by omega) (by omega) u v w;show KP key p i=KP key p n;by_cases e:i=n
    .rw[e]
    .rw[he i (by omega) (by omega),eq]
theorem tail3_wp{n nrem:Nat}{Q:Nat×Array Nat->Prop}(hp:PB N p)(h1:1<=n)(hn:n<=nrem)(hN:nrem<=N)(hd:Down key p n)
  (h:∀m p',PB N p'->1<=m->m<=nrem->Up key p' m->Q (m,p')):Wp N (ltK key) (kas_tail3 n nrem p) Q:=by
 have hz:n<=p.size:=by rw[hp.size];omega
 refine Wp.bind _ (asc_wp (nrem-n) n (hp.rev 0 n) h1 (by omega) (λi j hij hj=>?_) λm a b u _=>h m _ (hp.rev 0 n) (by omega) (by omega) u);rw[KP_rev hz,KP_rev hz,if_pos ⟨Nat.zero_le _,by omega⟩,if_pos ⟨Nat.zero_le _,hj⟩];exact hd _ _ (by omega) (by omega)
theorem descPart_wp{n nrem:Nat}{Q:Nat×Array Nat->Prop}(hp:PB N p)(hn:n+1<=nrem)(hN:nrem<=N)(hd:Down key p (n+1))
  (h:∀m p',PB N p'->1<=m->m<=nrem->Up key p' m->Q (m,p')):Wp N (ltK key) (kas_descPart n nrem p) Q:=by
 refine Wp.bind _ (desc_wp (nrem-(n+1)) (n+1) 0 p hp (by omega) (by omega) hd (by omega) (λi a b=>by congr 1;omega) λp' m q' hp' a b hd' hq he=>?_);have hz:m<=p'.size:=by rw[hp'.size];omega
 show Wp N (ltK key) (if q'>0 then kas_tail3 m nrem (kas_rev p' (m-(q'+1)) m) else kas_tail3 m nrem p') Q;by_cases e:q'>0
 .rw[if_pos e];have same:=KP_rev_alike (key:=key) (p:=p') (i:=m-(q'+1)) hz he;exact tail3_wp (hp'.rev _ _) (by omega) (by omega) hN (λi j a b=>by rw[same,same];exact hd' i j a b) h
 .rw[if_neg e];exact tail3_wp hp' (by omega) (by omega) hN hd' h
theorem count_wp{nrem:Nat}{Q:Nat×Array Nat->Prop}(hp:PB N p)(h1:1<=nrem)(hN:nrem<=N)
  (h:∀m p',PB N p'->1<=m->m<=nrem->Up key p' m->Q (m,p')):Wp N (ltK key) (kas_count nrem p) Q:=by
 refine Wp.bind _ (asc_wp (nrem-1) 1 hp (Nat.le_refl _) (by omega) Up.one λn a b u d=>?_);have hz:n<=p.size:=by rw[hp.size];omega
 show Wp N (ltK key) (if (n==nrem)=true then _ else _) Q;by_cases e:n=nrem
 .rw[if_pos (by simpa using e)];exact h n p hp (by omega) (by omega) u
 .rw [if_neg (by simpa using e)];have lt:O.klt (KP key p n) (KP key p (n-1)):=d.resolve_left (by omega);by_cases e2:n>1
  .rw [if_pos e2];refine⟨hp.below (by omega),hp.below (by omega),?_⟩;cases c:ltK key (p.getD 0 0) (p.getD (n-1) 0) with
   | true=>exact h n p hp (by omega) (by omega) u
   | false=>
    have all:∀k,0<=k->k<n->KP key p k=KP key p (n-1):=λk _ hk=>
     KeyOrd.kle_antisymm (u k (n-1) (by omega) (by omega)) (KeyOrd.kle_trans (lt_false c) (u 0 k (by omega) hk))
    have same:=KP_rev_alike (key:=key) (p:=p) (i:=0) hz all;refine descPart_wp (hp.rev _ _) (by omega) hN (λi j hij hj=>?_) h;rw[same,same];by_cases z:j<n
    .rw[all i (by omega) (by omega),all j (by omega) z];exact KeyOrd.kle_refl _
    .obtain rfl:j=n:=by omega
     by_cases z2:i=j
     .subst z2;exact KeyOrd.kle_refl _
     .rw[all i (by omega) (by omega)];exact KeyOrd.kle_of_klt lt
  .rw [if_neg e2];obtain rfl:n=1:=by omega
   refine descPart_wp hp (by omega) hN (λi j hij hj=>?_) h;by_cases z:i=j
   .subst z;exact KeyOrd.kle_refl _
   .obtain rfl:i=0:=by omega
    obtain rfl:j=1:=by omega
    exact KeyOrd.kle_of_klt lt
theorem place_wp{k:Nat}{Q:Nat->Prop}(hp:PB N p)(hk:k<N)(hu:Up key p k):∀(f l r:Nat),l<=r->r<=k->r-l<=f->(∀i,i<l->O.kle (KP key p i) (KP key p k))->(∀i,r<=i->i<k->O.klt (KP key p k) (KP key p i)) →
  (∀l,l<=k->(∀i,i<l->O.kle (KP key p i) (KP key p k))->(∀i,l<=i->i<k->O.klt (KP key p k) (KP key p i))->Q l)->Wp N (ltK key) (kas_place p k f l r) Q
 | 0,l,r,a,b,c,lo,hi,h=>h l (by omega) lo (λi x y=>hi i (by omega) y)
 | f+1,l,r,a,b,c,lo,hi,h=>by
  unfold kas_place;by_cases e:l>=r
  .rw[if_pos e];exact h l (by omega) lo (λi x y=>hi i (by omega) y)
  .rw[if_neg e];refine⟨hp.below hk,hp.below (by omega),?_⟩;cases d:ltK key (p.getD k 0) (p.getD ((l+r) / 2) 0) with
   | true=>exact place_wp hp hk hu f l ((l+r) / 2) (by omega) (by omega) (by omega) lo (λi x y=>KeyOrd.klt_of_klt_of_kle (lt_true d) (hu _ _ x y)) h
   | false=>exact place_wp hp hk hu f ((l+r) / 2+1) r (by omega) b (by omega) (λi x=>KeyOrd.kle_trans (hu i ((l+r) / 2) (by omega) (by omega)) (lt_false d)) hi h
theorem bin_wp{Q:Array Nat->Prop}:∀(f k:Nat)(p:Array Nat),PB N p->k+f=N->Up key p k->(∀p',PB N p'->Up key p' N->Q p')->Wp N (ltK key) (kas_bin f p k) Q
 | 0,k,p,hp,hk,hu,h=>h p hp (by rw[<-hk];exact hu)
 | f+1,k,p,hp,hk,hu,h=>by
  refine Wp.bind _ (place_wp hp (by omega) hu k 0 k (Nat.zero_le _) (Nat.le_refl _) (by omega) (λi x=>by omega) (λi x y=>by omega) λl hl lo hi=>?_);refine bin_wp f (k+1) _ (hp.bub _ _) (by omega) (λi j hij hj=>?_) h;have hz:k<p.size:=by rw[hp.size];omega
  rw[KP_bub hz (by omega),KP_bub hz (by omega),show k-(k-l)=l by omega]
  repeat' split
  all_goals first
   | (exfalso;omega)
   | exact KeyOrd.kle_refl _
   | exact lo _ (by omega)
   | exact KeyOrd.kle_of_klt (hi _ (by omega) (by omega))
   | exact hu _ _ (by omega) (by omega)
theorem sort_wp{n:Nat}(h1:1<=n){Q:Array Nat->Prop}(h:∀p,PB n p->Up key p n->Q p):Wp n (ltK key) (kas_sort n) Q:=by
 refine Wp.bind _ (count_wp (Array.Perm.refl _) h1 (Nat.le_refl _) λm p' hp a b u=>?_);show Wp n (ltK key) (if m<n then _ else _) Q;by_cases e:m<n
 .rw[if_pos e,show max m 1=m by omega];exact bin_wp (n-m) m p' hp (by omega) u h
 .rw[if_neg e];obtain rfl:m=n:=by omega
  exact h p' hp u
end
end Sx
namespace Sx
open PySem PySem.W PyProof.Rows
theorem lex_irr:∀a:List Int,HT.lexLt a a=false
 | []=>rfl
 | x::xs=>by rw[HT.lexLt_cons,if_pos rfl];exact lex_irr xs
theorem lex_trans:∀a b c:List Int,HT.lexLt a b=true->HT.lexLt b c=true->HT.lexLt a c=true
 | [],_,[],h1,h2=>by
  rename_i b
  cases b with
  | nil=>exact h1
  | cons y ys=>rw[HT.lexLt_cons_nil] at h2;cases h2
 | [],_,_::_,_,_=>rfl
 | x::xs,[],_,h1,_=>by rw[HT.lexLt_cons_nil] at h1;cases h1
 | x::xs,y::ys,[],_,h2=>by rw[HT.lexLt_cons_nil] at h2;cases h2
 | x::xs,y::ys,z::zs,h1,h2=>by
  rw[HT.lexLt_cons] at h1 h2 ⊢;by_cases e1:x=y
  .subst e1;rw[if_pos rfl] at h1;by_cases e2:x=z
   .rw[if_pos e2] at h2 ⊢;exact lex_trans xs ys zs h1 h2
   .rw[if_neg e2] at h2 ⊢;exact h2
  .rw [if_neg e1] at h1;have l1:x<y:=of_decide_eq_true h1;by_cases e2:y=z
   .subst e2;rw[if_neg e1];exact h1
   .rw[if_neg e2] at h2;have l2:y<z:=of_decide_eq_true h2;rw[if_neg (by omega)];exact decide_eq_true (by omega)
theorem lex_tot:∀a b:List Int,HT.lexLt a b=false->HT.lexLt b a=false->a=b
 | [],[],_,_=>rfl
 | [],_::_,h,_=>by rw[HT.lexLt_nil_cons] at h;cases h
 | _::_,[],_,h=>by rw[HT.lexLt_nil_cons] at h;cases h
 | x::xs,y::ys,h1,h2=>by
  rw[HT.lexLt_cons] at h1 h2;by_cases e:x=y
  .subst e;rw[if_pos rfl] at h1 h2;rw[lex_tot xs ys h1 h2]
  .rw[if_neg e] at h1;rw[if_neg (Ne.symm e)] at h2;have l1:¬x<y:=of_decide_eq_false h1;have l2:¬y<x:=of_decide_eq_false h2;omega
theorem lex_neg(a b c:List Int)(h:HT.lexLt a c=true):HT.lexLt a b=true\/HT.lexLt b c=true:=by
 cases e1:HT.lexLt a b with
 | true=>exact .inl rfl
 | false=>
  refine .inr ?_;cases e2:HT.lexLt b a with
  | true=>exact lex_trans b a c e2 h
  | false=>
   have e:=lex_tot a b e1 e2;subst e;exact h
def lexO:KeyOrd where
 α:=List Int
 blt:=HT.lexLt
 irrefl:=lex_irr
 trans:=lex_trans
 negTrans:=lex_neg
 total:=lex_tot
theorem Wp.kas{α:Type}{N:Nat}{lt:Nat->Nat->Bool}{cmp:Nat->Nat->(Bool->Shared->Prop)->Shared->Prop}{Q:α->Prop}{G:α->Shared->Prop}{s:Shared}
  (hc:∀i j C,i<N->j<N->C (lt i j) s->cmp i j C s) (hG:∀a,Q a->G a s):∀t:KasT α,Wp N lt t Q->t.kasWp cmp G s
 | .ret a,h=>hG a h
 | .ask i j k,⟨h1,h2,h⟩=>hc i j _ h1 h2 (Wp.kas hc hG (k _) h)
section
variable{prog:Program}{w:World}{A:Around}{E:Value->Shared->Prop}{s:Shared}
theorem kat_ints{b fin:Bool}{Q:Bool->Shared->Prop}:∀{vs us:List Value}{ns ms:List Int}(i:Nat),IntsAre vs ns->IntsAre us ms->fin=decide (ns.length<ms.length)->Q (HT.lexLt ns ms) s →
  KatLex prog w A b fin Q (vs.zip us) i s
 | _,_,_,_,i,.nil,.nil,e,h=>by
  have e':fin=false:=e;subst e';exact kat_nil h
 | _,_,_,_,i,.nil,.cons _ _ _,e,h=>by
  have e':fin=true:=by rw[e];exact decide_eq_true (by simp)
  subst e';exact kat_nil h
 | _,_,_,_,i,.cons _ _ _,.nil,e,h=>by
  have e':fin=false:=by rw[e];exact decide_eq_false (by simp)
  subst e';exact kat_nil h
 | _,_,_,_,i,.cons a t ha,.cons c u hc,e,h=>by
  rw[List.zip_cons_cons];rw[HT.lexLt_cons] at h;refine kat_cons (wpAny_eqBool_int (kat_go (λq=>?_) λq=>?_))
  .have ac:a=c:=eq_of_beq q;rw[if_pos ac] at h;exact kat_yes (kat_ints (i+1) ha hc (by rw[e];simp) h)
  .have ac:¬a=c:=by simpa using q
   rw[if_neg ac] at h;refine kat_no ?_;cases(b&&i==0) with
   | true=>exact oneLt_int h
   | false=>exact kat_one _ _ (PyProof.Rows.lt_int h)
def TupI(h:Heap)(a:Addr)(t:List Int):Prop:=∃o its n,h.get? a=some o/\o.cls=.type "tuple"/\o.data=.seq its n/\IntsAre its.toList t
theorem TupI.keep{h h':Heap}{a:Addr}{t:List Int}(x:TupI h a t)(k:∀o,h.get? a=some o->h'.get? a=some o):TupI h' a t:=
 let ⟨o,its,n,e,r⟩:=x;⟨o,its,n,k o e,r⟩
theorem lt_tups{x y:Addr}{b:Bool}{t u:List Int}{Q:Bool->Shared->Prop}(hx:TupI s.heap x t)(hy:TupI s.heap y u)(h:Q (HT.lexLt t u) s):wpAny (model prog w) A (keyLt' (tuples' b) (.ref x) (.ref y)) Q E s:=by
 obtain⟨ox,xs,n,ex,_,dx,ix⟩:=hx;obtain⟨oy,ys,k,ey,_,dy,iy⟩:=hy;refine kat_lt ex dx ey dy (kat_ints 0 ix iy ?_ h);rw[<-ix.length,<-iy.length,Array.length_toList,Array.length_toList]
theorem kind_tups{rs:List Addr}{ts:List (List Int)}{Q:SortKind->Shared->Prop}(h2:0<rs.length)(hp:Paired (λr t=>TupI s.heap r t/\t≠[]) rs ts)(h:∀b,Q (tuples' b) s) :
  wpAny (model prog w) A (keyKind' (rs.map Value.ref).toArray) Q E s:=by
 have all:∃fs:List Value,KatTups s.heap (rs.map Value.ref) fs/\fs.length=rs.length/\∀v∈fs,∃i t,v=Value.int i t:=by
  clear h h2
  induction hp with
  | nil=>exact⟨[],trivial,rfl,λv hv=>nomatch hv⟩
  | @cons r t rs ts hr _ ih=>
   obtain⟨fs,k1,k2,k3⟩:=ih;obtain⟨⟨o,its,n,e,c,d,ii⟩,hne⟩:=hr;cases t with
   | nil=>exact absurd rfl hne
   | cons i t=>
    generalize hL:its.toList=L at ii;cases ii with
    | cons _ tk ii'=>
     have h0:its[0]?=some (Value.int i tk):=by rw[<-Array.getElem?_toList,hL];rfl
     refine⟨Value.int i tk::fs,⟨⟨r,o,its,n,rfl,e,c,d,h0⟩,k1⟩,by rw[List.length_cons,List.length_cons,k2],λv hv=>?_⟩;rcases List.mem_cons.mp hv with rfl|hv
     .exact⟨i,tk,rfl⟩
     .exact k3 v hv
 obtain⟨fs,k1,k2,k3⟩:=all;refine kat_kind (T:=.type "int") k1 (by omega) (λv hv=>?_) (by decide) (h _);obtain⟨i,tk,rfl⟩:=k3 v hv;exact Looks.of_pure rfl
structure Sorted(rs:List Addr)(ts:List (List Int))(rs':List Addr)(ts':List (List Int)):Prop where
 perm:(rs'.zip ts').Perm (rs.zip ts)
 len:rs'.length=ts'.length
 ord:ts'.Pairwise λa b=>HT.lexLt b a=false
end
theorem range_zip:∀(rs:List Addr)(ts:List (List Int)),rs.length=ts.length->(List.range rs.length).map (λi=>(rs.getD i 0,ts.getD i []))=rs.zip ts:=by
 intro rs ts hl;apply List.ext_getElem?;intro i;rw[List.getElem?_map];by_cases hi:i<rs.length
 .have hi2:i<ts.length:=by omega
  rw[List.getElem?_range hi,List.getElem?_eq_getElem (l:=rs.zip ts) (by rw[List.length_zip];omega),List.getElem_zip];simp[hi,hi2]
 .have e1:(List.range rs.length)[i]?=none:=List.getElem?_eq_none (by simpa using hi);have e2:(rs.zip ts)[i]?=none:=List.getElem?_eq_none (by rw[List.length_zip];omega);rw[e1,e2];rfl
theorem sorted_of{rs:List Addr}{ts:List (List Int)}{p:Array Nat}(hl:rs.length=ts.length)(hp:PB rs.length p)(hu:Up (O:=lexO) (λi=>ts.getD i []) p rs.length) :
  Sorted rs ts (p.toList.map λi=>rs.getD i 0) (p.toList.map λi=>ts.getD i []):=by
 have hpl:p.toList.Perm (List.range rs.length):=by
  have:=Array.perm_iff_toList_perm.mp hp;simpa using this
 refine⟨?_,by simp,?_⟩
 .have e:(p.toList.map λi=>rs.getD i 0).zip (p.toList.map λi=>ts.getD i [])=p.toList.map (λi=>(rs.getD i 0,ts.getD i [])):=by
   rw[List.zip_map']
  rw[e,<-range_zip rs ts hl];exact hpl.map _
 .rw[List.pairwise_iff_getElem];intro i j hi hj hij;rw[List.length_map,Array.length_toList] at hi hj;have hs:=hp.size;have q:=hu i j (Nat.le_of_lt hij) (by omega);have ei:(p.toList.map λi=>ts.getD i [])[i]'(by simpa using hi)=ts.getD (p[i]?.getD 0) []:=by simp[hi]
  have ej:(p.toList.map λi=>ts.getD i [])[j]'(by simpa using hj)=ts.getD (p[j]?.getD 0) []:=by simp[hj]
  rw[ei,ej];exact q
section
variable{prog:Program}{w:World}{A:Around}{E:Value->Shared->Prop}{s:Shared}
theorem pair_at{α β:Type}{F:α->β->Prop}:∀{l₁:List α}{l₂:List β}{i:Nat}{a:α},Paired F l₁ l₂->l₁[i]?=some a->∃b,l₂[i]?=some b/\F a b
 | _,_,_,_,.nil,e=>by simp at e
 | _,_,0,_,.cons h _,e=>by simp at e;subst e;exact⟨_,rfl,h⟩
 | _,_,i+1,a,.cons _ t,e=>by
  obtain⟨b,h1,h2⟩:=pair_at (i:=i) (a:=a) t (by simpa using e);exact⟨b,by simpa using h1,h2⟩
theorem refs_getD(rs:List Addr){i:Nat}(hi:i<rs.length):(rs.map Value.ref).getD i Value.none=.ref (rs.getD i 0):=by
 simp[hi]
theorem sort_tree{a:Addr}{rs:List Addr}{ts:List (List Int)}{n:Nat}{P:PySem.Fin->Shared->Prop}(ho:s.heap.get? a=some (seqObj "list" (rs.map Value.ref).toArray n))(h64:rs.length<64)
  (hp:Paired (λr t=>TupI s.heap r t/\t≠[]) rs ts) (hna:a∉rs)
  (h:∀rs' ts' h' c,Sorted rs ts rs' ts'->(∀b o,b≠a->s.heap.get? b=some o->h'.get? b=some o)->h'.get? a=some (seqObj "list" (rs'.map Value.ref).toArray c)->P (.done (.ret .none)) {s with heap:=h'}) :
  wpAny (model prog w) A (Builtin.«list.sort» ⟨[.ref a],[]⟩) P E s:=by
 have hl:rs.length=ts.length:=Paired.length hp;have hlt:a<s.heap.objs.size:=Heap.lt_size ho;rw[list_sort_plain];refine wpAny_bind (listItems_at ho rfl (wpAny_bind (listUpdate_at ho rfl ?_ (by rw[List.size_toArray,List.length_map,sizeLine_eq];omega) (Nat.zero_le _))));obtain⟨e1,ho1⟩:∃e1,(s.heap.update a (Obj.mapSeq λ_=>(#[]:Array Value))).get? a=some (seqObj "list" #[] e1):=⟨_,get?_update_seq ho λ_=>#[]⟩;have sb:=Heap.SameBut.update s.heap a (Obj.mapSeq λ_=>(#[]:Array Value));refine wpAny_bind (seqEpoch_at ho1 rfl (wpAny_bind (wpAny_newTuple ?_ (by rw[Array.length_toList,List.size_toArray,List.length_map,sizeLine_eq];omega))));refine wpAny_bind (wpAny_newList (wpAny_holding ?_) (Nat.zero_le _));generalize hh2:(Heap.push (Heap.push (s.heap.update a (Obj.mapSeq λ_=>(#[]:Array Value))) _) _)=h2;have old:∀b o,b≠a->s.heap.get? b=some o->h2.get? b=some o:=λb o hb e=>by
  rw[<-hh2];exact Heap.get?_push_of_some _ (Heap.get?_push_of_some _ ((sb.2 b hb).trans e))
 have ho2:h2.get? a=some (seqObj "list" #[] e1):=by
  rw[<-hh2];exact Heap.get?_push_of_some _ (Heap.get?_push_of_some _ ho1)
 have fin:∀(rs':List Addr)(ts':List (List Int)),Sorted rs ts rs' ts'->∀(out:Array Value),out=(rs'.map Value.ref).toArray →
   P (.done (.ret .none)) {s with heap:=h2.update a (Obj.mapSeq λ_=>out)}:=λrs' ts' hS out eo=>by
  subst eo;refine h rs' ts' _ _ hS (λb o hb e=>?_) (get?_update_seq ho2 λ_=>(rs'.map Value.ref).toArray);exact((Heap.SameBut.update h2 a (Obj.mapSeq λ_=>(rs'.map Value.ref).toArray)).2 b hb).trans (old b o hb e)
 have hsz:(rs.map Value.ref).toArray.size=rs.length:=by rw[List.size_toArray,List.length_map]
 dsimp only;by_cases h2':(rs.map Value.ref).toArray.size<2
 .rw [if_pos h2',if_pos h2'];refine wpAny_bind (wpAny_pure ?_);rw[StateT.run_pure];refine wpAny_bind (wpAny_pure ?_);dsimp only;have eo:(arrOf (SortSt.mk' general' ((rs.map Value.ref).toArray.zip (rs.map Value.ref).toArray) #[] 7 none)).map (λx=>x.2)=(rs.map Value.ref).toArray:=by
   show((rs.map Value.ref).toArray.zip (rs.map Value.ref).toArray).map (λx=>x.2)=_;apply Array.toList_inj.mp;simp only[Array.toList_map,Array.toList_zip,List.toList_toArray];exact List.map_snd_zip (Nat.le_refl _)
  refine wpAny_bind (seqEpoch_at ho2 rfl (wpAny_bind (listUpdate_at ho2 rfl ?_ (Nat.zero_le _) (by rw[eo,hsz,sizeLine_eq];omega))));simp only[bne_self_eq_false,Bool.false_eq_true,if_false];refine wpAny_pure (fin rs ts ⟨List.Perm.refl _,hl,?_⟩ _ eo);rw[List.pairwise_iff_getElem];intro i j hi hj hij;exfalso;omega
 .rw [if_neg h2',if_neg h2'];have hp2:Paired (λr t=>TupI h2 r t/\t≠[]) rs ts:=by
   clear fin h;have go:∀{l:List Addr}{m:List (List Int)},Paired (λr t=>TupI s.heap r t/\t≠[]) l m->(∀r∈l,r≠a)->Paired (λr t=>TupI h2 r t/\t≠[]) l m:=by
    intro l m q
    induction q with
    | nil=>intro _;exact .nil
    | cons hr _ ih=>intro hn;exact .cons ⟨hr.1.keep λo e=>old _ o (hn _ (.head _)) e,hr.2⟩ (ih λr hr'=>hn r (.tail _ hr'))
   exact go hp λr hr z=>hna (z ▸ hr)
  refine wpAny_bind (kind_tups (s:={s with heap:=h2}) (by omega) hp2 λb=>?_);have ask:(kas_sort (rs.map Value.ref).length).kasWp (kas_ask prog w A (tuples' b) (rs.map Value.ref)) (λp s'=>s'={s with heap:=h2}/\PB rs.length p/\Up (O:=lexO) (λi=>ts.getD i []) p rs.length) {s with heap:=h2}:=by
   rw[List.length_map];refine Wp.kas (N:=rs.length) (lt:=ltK (O:=lexO) λi=>ts.getD i []) (Q:=λp=>PB rs.length p/\Up (O:=lexO) (λi=>ts.getD i []) p rs.length) (λi j C hi hj hC=>?_) (λp hq=>⟨rfl,hq⟩) _ (sort_wp (by omega) λp a b=>⟨a,b⟩);have key:∀k,k<rs.length->TupI h2 (rs.getD k 0) (ts.getD k []):=λk hk=>by
    have er:rs[k]?=some (rs.getD k 0):=by simp[hk]
    obtain⟨t,et,ht,_⟩:=pair_at hp2 er;have:ts.getD k []=t:=by simp[et]
    rw[this];exact ht
   show wpAny (model prog w) A (keyLt' (tuples' b) ((rs.map Value.ref).getD i Value.none) ((rs.map Value.ref).getD j Value.none)) C (λ_ _=>False) {s with heap:=h2};rw[refs_getD rs hi,refs_getD rs hj];exact lt_tups (s:={s with heap:=h2}) (key i hi) (key j hj) hC
  have run:=kat_run (E:=E) (vs:=rs.map Value.ref) (ks:=rs.map Value.ref)
   (Q:=λst' s'=>∃p:Array Nat,arrOf st'=p.map (kas_item ((rs.map Value.ref).toArray.zip (rs.map Value.ref).toArray))/\failedOf st'=none/\s'={s with heap:=h2}/\PB rs.length p/\Up (O:=lexO) (λi=>ts.getD i []) p rs.length)
   rfl (by rw[List.length_map];omega) (by rw[List.length_map];exact h64) (λp' st' s' _ a2 a3 a4=>⟨p',a2,a3,a4⟩) ask
  refine wpAny_bind (wpAny_mono run ?_ λ_ _ e=>e);rintro⟨⟨⟩,st'⟩ s' ⟨p,har,hf,rfl,hpb,hup⟩;dsimp only;have hS:=sorted_of hl hpb hup;have eo:(arrOf st').map (λx=>x.2)=((p.toList.map λi=>rs.getD i 0).map Value.ref).toArray:=by
   refine(kat_snds (vs:=rs.map Value.ref) (ks:=rs.map Value.ref) rfl har).trans ?_
   congr 1
   rw[List.map_map];refine List.map_congr_left λi hi=>?_;have hi':i<rs.length:=by
    have hm:i∈(List.range rs.length).toArray:=(Array.Perm.mem_iff hpb).mp (by simpa using hi);simpa using hm
   exact refs_getD rs hi'
  refine wpAny_bind (seqEpoch_at ho2 rfl (wpAny_bind (listUpdate_at ho2 rfl ?_ (Nat.zero_le _) ?_)))
  .rw[hf];simp only[bne_self_eq_false,Bool.false_eq_true,if_false];exact wpAny_pure (fin _ _ hS _ eo)
  .show((arrOf st').map (λx=>x.2)).size<=_;rw[eo,List.size_toArray,List.length_map,List.length_map,Array.length_toList,hpb.size,sizeLine_eq];omega
end
end Sx
namespace Sx
open PySem PySem.W PySem.Calls PyProof.Rows
def DictE(h:Heap)(d:Addr)(es:Array DictEntry)(ep:Nat):Prop:=∃o,h.get? d=some o/\o.ExactDict/\o.data=.dict es ep
theorem DictE.at{h h':Heap}{d:Addr}{es:Array DictEntry}{ep:Nat}(x:DictE h d es ep)(k:∀o,h.get? d=some o->h'.get? d=some o):DictE h' d es ep:=let ⟨o,e,r⟩:=x;⟨o,k o e,r⟩
theorem DictE.lt{h:Heap}{d:Addr}{es:Array DictEntry}{ep:Nat}(x:DictE h d es ep):d<h.objs.size:=let ⟨_,e,_⟩:=x;Heap.lt_size e
theorem DictE.ty{s:Shared}{d:Addr}{es:Array DictEntry}{ep:Nat}(x:DictE s.heap d es ep):s.TypeIs (.ref d) "dict":=let ⟨o,e,c,_⟩:=x;⟨o,e,c.1⟩
section
variable{prog:Program}{w:World}{A:Around}{E:Value->Shared->Prop}{s:Shared}{d it:Addr}{es:Array DictEntry}{ep i:Nat}
theorem iter_dictE{Q:Value->Shared->Prop}(lo:(d==sysModules)=false)(hm:DictE s.heap d es ep)
  (hQ:Q (.ref s.heap.objs.size) {s with heap:=s.heap.push {cls:=.type "dict_keyiterator",data:=.fields #[.ref d,.int 0 0,.int es.size 0,.int ep 0]}}):wpAny (model prog w) A (pyIter (.ref d)) Q E s:=by
 obtain⟨o,ho,hc,hd⟩:=id hm;have T:=hm.ty;refine wpAny_pyIter_slot T F.slot_dict_iter (wpAny_call_entry F.slot_dict_iter T F.entry_dict_iter ?_ (F.args_dict_iter_1 _));unfold Builtin.«dict.__iter__» Builtin.Dict.dictSlotNone;refine wpAny_bind (wpAny_bind (wpAny_notOrdered_dict T ?_));show wpAny _ _ (pure (Value.ref d)) _ _ s;refine wpAny_pure ?_;show wpAny _ _ (Builtin.Dict.showsAll d >>= _) _ _ s;unfold Builtin.Dict.showsAll;rw[if_neg (by rw[lo];exact Bool.false_ne_true)];refine wpAny_bind (wpAny_pure (wpAny_bind (wpAny_dictEntries ho hd (wpAny_bind (wpAny_dictEpoch ho hd ?_)))));refine wpAny_bind (wpAny_newObj_type (wpAny_pure ⟨_,rfl,"dict_keyiterator",_,⟨_,Heap.get?_push_size _ rfl,rfl⟩,F.slot_dict_keyiterator_next.lookup,?_⟩));simpa[rawInt] using hQ
theorem next_dictE{Q:Option Value->Shared->Prop}{e:DictEntry}(hit:s.heap.IsKeyIter it d i es.size ep)(hm:DictE s.heap d es ep)(hx:es[i]?=some e)
  (hQ:∀h',h'.IsKeyIter it d (i+1) es.size ep->Heap.SameBut it s.heap h'->Q (some e.key) {s with heap:=h'}):wpAny (model prog w) A (pyNext (.ref it)) Q E s:=by
 obtain⟨o,ho,hc,hd⟩:=id hit;obtain⟨od,hod,hcd,hdd⟩:=id hm;obtain⟨hlt,he⟩:=Array.getElem?_eq_some_iff.mp hx;unfold pyNext;refine wpAny_bind (wpAny_attempt (wpAny_callSpecial?_slot (name:=Str.ofString "__next__") hit.typeIs F.slot_dict_keyiterator_next (wpAny_call_entry F.slot_dict_keyiterator_next hit.typeIs F.entry_dict_keyiterator_next ?_ (F.args_dict_keyiterator_next_1 _))));refine wpAny_bind (wpAny_pure (wpAny_bind (wpAny_bind ?_)))
 first|refine wpAny_bind (wpAny_typeNameOfWhole_keyiter hit.typeIs (wpAny_pure ?_))|refine wpAny_bind (wpAny_typeNameOf_keyiter hit.typeIs (wpAny_pure ?_))
 refine wpAny_bind (wpAny_fieldsOf ho hd ?_);simp only[show Builtin.Dict_items.ownsTuple "dict_keyiterator"=false by decide,Bool.false_eq_true,if_false];show wpAny _ _ (if (Value.ref d==Value.none)=true then _ else _) _ _ s;rw[if_neg (show ¬((Value.ref d==Value.none)=true) from Bool.false_ne_true)];refine wpAny_bind (wpAny_pure (wpAny_bind (wpAny_dictEntries hod hdd ?_)));rw[if_neg (by simp)];refine wpAny_bind (wpAny_pure (wpAny_bind (wpAny_dictEpoch hod hdd ?_)));rw[if_neg (by simp)];refine wpAny_pure ?_;simp only[show ¬((i:Int)<0) from by omega,if_false,Int.toNat_natCast,Array.getElem?_eq_getElem hlt];refine wpAny_bind ?_
 first|refine wpAny_bind (wpAny_typeNameOfWhole_keyiter hit.typeIs (wpAny_pure ?_))|refine wpAny_bind (wpAny_typeNameOf_keyiter hit.typeIs (wpAny_pure ?_))
 refine wpAny_bind (wpAny_isOneOf_keyiter hit.typeIs ?_);show wpAny _ _ (setField (.ref it) 1 (rawInt ((i:Int)+1)) >>= _) _ _ s;refine wpAny_bind (wpAny_setField ho hd (by simp) ?_);have hit':(s.heap.update it (Obj.mapFields (·.setIfInBounds 1 (rawInt ((i:Int)+1))))).IsKeyIter it d (i+1) es.size ep:=
  ⟨_,Heap.get?_update_self _ ho (Obj.isFreed_of_fields (Obj.data_mapFields hd _)),(Obj.cls_mapFields ..).trans hc,by rw[Obj.data_mapFields hd];simp[rawInt]⟩
 refine wpAny_bind (wpAny_holding (wpAny_bind (wpAny_isOneOf_keyiter (s:={s with heap:=s.heap.update it (Obj.mapFields (·.setIfInBounds 1 (rawInt ((i:Int)+1))))}) hit'.typeIs ?_)));show wpAny _ _ (pure es[i].key) _ _ _;refine wpAny_pure (wpAny_pure ⟨_,rfl,wpAny_pure ?_⟩);rw[he];exact hQ _ hit' (Heap.SameBut.update ..)
theorem end_dictE{Q:Option Value->Shared->Prop}(hh:A.handled=none)(hit:s.heap.IsKeyIter it d i es.size ep)(hm:DictE s.heap d es ep)(hx:es.size<=i)
  (hQ:∀h',Heap.ExtBut it s.heap h'->Q none {s with heap:=h'}):wpAny (model prog w) A (pyNext (.ref it)) Q E s:=by
 obtain⟨o,ho,hc,hd⟩:=id hit;obtain⟨od,hod,hcd,hdd⟩:=id hm;unfold pyNext;refine wpAny_bind (wpAny_attempt (wpAny_callSpecial?_slot (name:=Str.ofString "__next__") hit.typeIs F.slot_dict_keyiterator_next (wpAny_call_entry F.slot_dict_keyiterator_next hit.typeIs F.entry_dict_keyiterator_next ?_ (F.args_dict_keyiterator_next_1 _))));refine wpAny_bind (wpAny_pure (wpAny_bind (wpAny_bind ?_)))
 first|refine wpAny_bind (wpAny_typeNameOfWhole_keyiter hit.typeIs (wpAny_pure ?_))|refine wpAny_bind (wpAny_typeNameOf_keyiter hit.typeIs (wpAny_pure ?_))
 refine wpAny_bind (wpAny_fieldsOf ho hd ?_);simp only[show Builtin.Dict_items.ownsTuple "dict_keyiterator"=false by decide,Bool.false_eq_true,if_false];show wpAny _ _ (if (Value.ref d==Value.none)=true then _ else _) _ _ s;rw[if_neg (show ¬((Value.ref d==Value.none)=true) from Bool.false_ne_true)];refine wpAny_bind (wpAny_pure (wpAny_bind (wpAny_dictEntries hod hdd ?_)));rw[if_neg (by simp)];refine wpAny_bind (wpAny_pure (wpAny_bind (wpAny_dictEpoch hod hdd ?_)));rw[if_neg (by simp)];refine wpAny_pure ?_;simp only[show ¬((i:Int)<0) from by omega,if_false,Int.toNat_natCast,Array.getElem?_eq_none hx];refine wpAny_bind ?_
 first|refine wpAny_bind (wpAny_typeNameOfWhole_keyiter hit.typeIs (wpAny_pure ?_))|refine wpAny_bind (wpAny_typeNameOf_keyiter hit.typeIs (wpAny_pure ?_))
 show wpAny _ _ (setField (.ref it) 0 .none >>= _) _ _ s;refine wpAny_bind (wpAny_setField ho hd (by simp) ?_);show wpAny _ _ (newExc (.type "StopIteration") [] >>= _) _ _ _;refine wpAny_bind ?_;simp only[newExc,newTuple];refine wpAny_bind (wpAny_newObj_type ?_ (by size_fits));refine wpAny_bind (m:=firstArgMember _ _) (wpAny_of_eq (a:=Value.none) (by first|rfl|(simp only[firstArgMember];rfl)) ?_);refine wpAny_newObj_type ?_ (by size_fits);simp only[raiseNew];refine wpAny_bind (wpAny_handled ?_);rw[show A.in1.handled=none from hh];refine wpAny_bind (wpAny_pure (wpAny_throw ?_));refine wpAny_bind (wpAny_isInstance (T:="StopIteration") (b:=true) ⟨_,Heap.get?_push_size _ rfl,rfl⟩ isSubtype_stop ?_);exact wpAny_pure (hQ _ (((Heap.SameBut.update ..).extBut.push _).push _))
end
theorem walks_dictE{prog:Program}{w:World}{A:Around}(hh:A.handled=none)(I d:Addr)(hne:d≠I)(es:Array DictEntry)(ep:Nat) :
  Walks prog w A I [I,d] [I] es.size (λi v=>∃e,es[i]?=some e/\v=e.key) (λi h=>h.IsKeyIter I d i es.size ep/\DictE h d es ep) where
 sub:=λb hb=>by simp at hb;simp[hb]
 frame:=λ_ _ _ st hk=>⟨st.1.at λo e=>hk I (by simp) o e,st.2.at λo e=>hk d (by simp) o e⟩
 item:=λi s Q E hi st hQ=>by
  refine next_dictE (e:=es[i]) st.1 st.2 (by simp[hi]) λh' hit' hs'=>?_;exact hQ _ h' s.toks ⟨_,by simp[hi],rfl⟩ ⟨hit',st.2.at λo e=>hs'.extBut d o hne e⟩ λb o hb e=>hs'.extBut b o (λh=>hb (by simp[h])) e
 done:=λs Q E st hQ=>end_dictE hh st.1 st.2 (Nat.le_refl _) λh' he'=>hQ h' s.toks λb o hb e=>he' b o (λh=>hb (by simp[h])) e
 self:=λ_ _ _ _ st hQ=>wpAny_pyIter_keyiter st.1 hQ
theorem src_dictE{prog:Program}{w:World}{d:Addr}{es:Array DictEntry}{ep:Nat}(lo:(d==sysModules)=false) :
  KdlSrc prog w "dict" d d es.size (λi v=>∃e,es[i]?=some e/\v=e.key) (λh=>DictE h d es ep) where
 type:=λ_ hm=>hm.ty
 there:=λ_ hm=>⟨hm.lt,hm.lt⟩
 keep:=λ_ _ hm hk=>hm.at λo e=>hk d (.inl rfl) o e
 notList:=by decide
 notTuple:=by decide
 hint:=λ_ _ _ _ hm hq=>kdl_hint_dict hm.ty hq
 iter:=λ_ _ hh hm=>⟨_,_,(λ_ _ hq=>iter_dictE lo hm hq),walks_dictE hh _ d (Nat.ne_of_lt hm.lt) es ep,⟨⟨_,Heap.get?_push_size _ rfl,rfl,rfl⟩,hm.at λ_ e=>Heap.get?_push_of_some _ e⟩⟩
end Sx
namespace L2
open PySem PySem.Spec PyProof.Rows
abbrev TupsH(H:Hp)(rs:List Addr)(ts:List (List Int)):Prop:=Paired (λr t=>H r=some (.tup (t.map V.int))/\t≠[]) rs ts
section
variable{X:Cx}{pins:List (Addr×Obj)}{σ:St}{H:Hp}{s:Shared}
theorem Inv.tupI(I:Inv X pins σ H s){r:Addr}{t:List Int}(e:H r=some (.tup (t.map V.int))):Sx.TupI s.heap r t:=by
 obtain⟨_,its,rv,o,h1,h2,n,h3⟩:=(show ObjOk X.prog X.w H s.heap r (.tup (t.map V.int)) from I.hok r _ e);exact⟨o,its.toArray,n,h1,h2,h3,by simpa using intsAre_of rv⟩
theorem Inv.tupsI(I:Inv X pins σ H s):∀{rs:List Addr}{ts:List (List Int)},TupsH H rs ts->Paired (λr t=>Sx.TupI s.heap r t/\t≠[]) rs ts
 | _,_,.nil=>.nil
 | _,_,.cons h t=>.cons ⟨I.tupI h.1,h.2⟩ (I.tupsI t)
theorem vals_refs:∀(rs:List Addr),Vals (rs.map V.ref) (rs.map Value.ref)
 | []=>.nil
 | _::r=>.cons rfl (vals_refs r)
theorem refs_of:∀{rs:List Addr}{us:List Value},Vals (rs.map V.ref) us->us=rs.map Value.ref
 | [],_,h=>by rw[List.map_nil] at h;cases h;rfl
 | r::rs,_,h=>by
  rw[List.map_cons] at h;cases h with
  | cons h1 h2=>rw[refs_of h2,List.map_cons];cases h1;rfl
theorem sort_new{A:Around}{E:Value->Shared->Prop}{Q:Value->Shared->Prop}{rs:List Addr}{ts:List (List Int)}{h1:Heap}{tk:Nat}(I:Inv X pins σ H s)(k1:∀b o,s.heap.get? b=some o->h1.get? b=some o)
  (hp:TupsH H rs ts) (h64:rs.length<64) (h:∀rs' ts' s' p,Sx.Sorted rs ts rs' ts'->H p=none->Inv X pins σ (upd H p (.lst (rs'.map V.ref))) s'->Q (.ref p) s') :
  wpAny (model X.prog X.w) A (newList (rs.map Value.ref)) (λl s'=>wpAny (model X.prog X.w) A (call (.builtin "list.sort") [l]) (λ_ s''=>Q l s'') E s') E {s with heap:=h1,toks:=tk}:=by
 have I1:Inv X pins σ H {s with heap:=h1,toks:=tk}:=I.kept k1;refine wpAny_newList ?_ (by rw[List.length_map,sizeLine_eq];omega);have ho:(h1.push {cls:=.type "list",data:=.seq (rs.map Value.ref).toArray}).get? h1.objs.size=some (seqObj "list" (rs.map Value.ref).toArray 0):=Heap.get?_push_size _ rfl;have hfr:H h1.objs.size=none:=I1.hok.fresh (Nat.le_refl _);have hne:h1.objs.size∉rs:=λhm=>by
  obtain⟨i,hi,e⟩:=List.getElem_of_mem hm;obtain⟨t,_,q,_⟩:=Sx.pair_at (i:=i) (a:=h1.objs.size) hp (by rw[<-e];simp[hi]);rw[hfr] at q;cases q
 have I2:Inv X pins σ H {s with heap:=h1.push {cls:=.type "list",data:=.seq (rs.map Value.ref).toArray},toks:=tk}:=I1.kept λb o e=>Heap.get?_push_of_some _ e;refine wpAny_call_entry slot_list_sort ⟨_,ho,rfl⟩ entry_list_sort (Sx.sort_tree (s:={s with heap:=h1.push {cls:=.type "list",data:=.seq (rs.map Value.ref).toArray},toks:=tk}) ho h64 (I2.tupsI hp) hne λrs' ts' h' c hS hk hl=>⟨_,rfl,?_⟩) (args_list_sort _);refine h rs' ts' _ h1.objs.size hS hfr (I1.laid (a:=h1.objs.size) (λb o e=>hk b o (Nat.ne_of_lt (Heap.lt_size e)) (Heap.get?_push_of_some _ e)) (Nat.le_refl _) ?_);have hlen:rs'.length=rs.length:=by
  have e:=hS.perm.length_eq;have e2:=hS.len;have e3:=Paired.length hp;simp only[List.length_zip] at e;omega
 exact⟨by rw[List.length_map,sizeLine_eq];omega,rs'.map Value.ref,c,vals_refs rs',hl⟩
end
section
variable{X:Cx}
theorem call_sortedL:CallR X (.builtin "sorted") (λxs H Q=>∃a rs ts,xs=[.ref a]/\SqL X.K H a (rs.map V.ref)/\rs.length<64/\TupsH H rs ts ∧
  ∀rs' ts' p,Sx.Sorted rs ts rs' ts'->H p=none->Q (.ref p) (upd H p (.lst (rs'.map V.ref)))):=by
 intro pins s σ H xs us Q I r h;obtain⟨a,rs,ts,rfl,hq,h64,hp,q⟩:=h;obtain⟨u,rfl,ru⟩:=vals1 r;cases ru;obtain⟨its,rv,pl,hz⟩:=I.list hq;have ei:=refs_of rv;subst ei;refine Calls.call_function_entry kind_sorted plain_sorted entry_sorted (args_sorted1 _) ?_;unfold Builtin.«sorted»;refine wpAny_bind (m:=checkCount "sorted" 1 1 _) (wpAny_pure (wpAny_bind (collect_list pl.isList ?_ (by rw[List.length_map,sizeLine_eq];omega))));have fin:=sort_new (A:=X.A.in1) (E:=X.xe) (Q:=λv s'=>EP X pins σ Q v s') (h1:=(s.heap.push (seqObj "list" #[] 0)).update s.heap.objs.size (Obj.mapSeq (·++(rs.map Value.ref).toArray))) (tk:=s.toks) I (λb o e=>
  ((Heap.SameBut.update _ _ _).2 b (Nat.ne_of_lt (Heap.lt_size e))).trans (Heap.get?_push_of_some _ e)) hp h64 λrs' ts' s' p hS hf I'=>⟨.ref p,_,I',rfl,q rs' ts' p hS hf⟩
 refine wpAny_bind (wpAny_mono fin (λl s' hl=>wpAny_bind (wpAny_holding (wpAny_mono hl (λ_ s'' hq'=>wpAny_pure ⟨_,rfl,hq'⟩) λ_ _ e=>e))) λ_ _ e=>e)
end
end L2
namespace Mt
def lo(a b:Int):Int:=if b<a then b else a
def hi(a b:Int):Int:=if b>a then b else a
abbrev Tri:=Int×Int×Int
def bad(m a b:Int):Prop:=a<0\/m<=a\/b<0\/m<=b\/a=b
instance (m a b:Int):Decidable (bad m a b):=by unfold bad;infer_instance
def tri(t:Tri):List Int:=[t.1,t.2.1,t.2.2]
def key(t:Tri):List Int:=[lo t.1 t.2.1,hi t.1 t.2.1]
def row(t:Tri):List Int:=key t++[t.2.2]
inductive Res|bad|twice|good
 deriving DecidableEq
def scan(m:Int):List Tri->List (List Int)->Res
 | [],_=>.good
 | t::r,seen=>if bad m t.1 t.2.1 then .bad else if seen.any (λk=>decide (k=key t))=true then .twice else scan m r (seen++[key t])
theorem scan_cons(m:Int)(t:Tri)(r:List Tri)(seen:List (List Int)):scan m (t::r) seen=if bad m t.1 t.2.1 then .bad else if seen.any (λk=>decide (k=key t))=true then .twice else scan m r (seen++[key t]):=rfl
theorem scan_good{m:Int}:∀{T:List Tri}{seen:List (List Int)},scan m T seen=.good->seen.Nodup->(seen++T.map key).Nodup/\∀t∈T,¬bad m t.1 t.2.1
 | [],seen,_,hn=>⟨by simpa using hn,λt ht=>nomatch ht⟩
 | t :: r,seen,h,hn=>by
  unfold scan at h;by_cases hb:bad m t.1 t.2.1
  .rw[if_pos hb] at h;cases h
  .rw [if_neg hb] at h;by_cases hk:seen.any (λk=>decide (k=key t))=true
   .rw[if_pos hk] at h;cases h
   .rw [if_neg hk] at h;have hk':key t∉seen:=λhm=>hk (List.any_eq_true.mpr ⟨_,hm,decide_eq_true rfl⟩);have hn':(seen++[key t]).Nodup:=by
     rw[List.nodup_append];refine⟨hn,by simp,λa ha b hb'=>?_⟩;rw[List.mem_singleton] at hb';subst hb';exact λe=>hk' (e ▸ ha)
    obtain⟨h1,h2⟩:=scan_good h hn';refine⟨by simpa using h1,λu hu=>?_⟩;rcases List.mem_cons.mp hu with rfl|hu
    .exact hb
    .exact h2 u hu
theorem perm_sorted_eq{α:Type}{R:α->α->Prop}(anti:∀a b,R a b->R b a->a=b):∀{l m:List α},l.Perm m->l.Pairwise R->m.Pairwise R->l=m
 | [],m,h,_,_=>by rw[List.nil_perm.mp h]
 | a::l,[],h,_,_=>by have:=h.length_eq;simp at this
 | a::l,b::m,h,hl,hm=>by
  rw[List.pairwise_cons] at hl hm;have e:a=b:=by
   have ha:a∈b::m:=h.mem_iff.mp (.head _);have hb:b∈a::l:=h.mem_iff.mpr (.head _);rcases List.mem_cons.mp ha with e|ha
   .exact e
   .rcases List.mem_cons.mp hb with e|hb
    .exact e.symm
    .exact anti a b (hl.1 b hb) (hm.1 a ha)
  subst e;rw[perm_sorted_eq anti (List.Perm.cons_inv h) hl.2 hm.2]
theorem sorted_eq{l m:List (List Int)}(h:l.Perm m)(hl:l.Pairwise λa b=>HT.lexLt b a=false)(hm:m.Pairwise λa b=>HT.lexLt b a=false):l=m:=
 perm_sorted_eq (λa b h1 h2=>(Sx.lex_tot b a h1 h2).symm) h hl hm
theorem key_range{m:Int}{t:Tri}(h:¬bad m t.1 t.2.1):0<=lo t.1 t.2.1/\lo t.1 t.2.1<hi t.1 t.2.1/\hi t.1 t.2.1<m:=by
 unfold bad at h;unfold lo hi
 split<;>split<;>omega
end Mt
namespace L2
open PySem PySem.Spec PyProof.Rows
def Xc(X:Cx)(pins:List (Addr×Obj))(scope:Scope)(cl:List (Str×Addr))(C:Addr)(N:List Str)(s:Shared)(H:Hp)(fp:List Addr):Cx where
 prog:=X.prog
 w:=X.w
 K:=X.K
 mg:=X.mg
 base:=X.base
 A:=X.A
 N:=N
 s₀:=s
 H₀:=H
 env:=compEnvC scope cl C X.env
 outer:=X.stack
 stack:=X.stack
 ex:=fp
 fn:=λx=>(cl.lookup x).isNone
 calm:=X.calm
 pn:=X.pn++pins
 xe:=λ_ _=>False
def σC(own:Nat)(js:List Nat)(σ:St):St:=List.replicate own none++js.map λj=>(σ[j]?).getD none
structure Caps(X:Cx)(scope:Scope)(cl:List (Str×Addr))(own caps:List Str)(js:List Nat):Prop where
 clos:closureFor scope X.env=pure cl
 sub:∀x c,cl.lookup x=some c->X.env.cells.lookup x=some c
 kind:scope.kind=.function
 nocell:∀y∈scope.names,y.2≠.cell
 names:∀y∈scope.names,y.2=.local->scope.names.lookup y.1=some .local
 has:∀x,((relabel scope X.env).names.lookup x=some .cell\/(relabel scope X.env).names.lookup x=some .free)->∃c,cl.lookup x=some c
 capl:caps.length=js.length
 cap:∀(i:Nat)(x:Str),caps[i]?=some x->∃j:Nat,js[i]?=some j/\X.N[j]?=some x/\X.env.scope.names.lookup x=some .cell/\(cl.lookup x).isSome=true/\(relabel scope X.env).names.lookup x=some .cell
section
variable{X:Cx}{pins:List (Addr×Obj)}{σ:St}{H:Hp}{s:Shared}{scope:Scope}{cl:List (Str×Addr)}{own caps:List Str}{js:List Nat}
theorem Inv.offC{C:Addr}{h':Heap}{t':Nat}(I:Inv X pins σ H s)(f:FpOk X pins H C)(hs:Heap.SameBut C s.heap h'):Inv X pins σ H {s with heap:=h',toks:=t'}:=by
 obtain⟨f0,f1,f2,f3,f4,f5⟩:=f;exact I.turned (λb o hb e=>(hs.2 b hb).trans e) f0 f1 f3 f4 f5
theorem xc_ok{fp:List Addr}{C:Addr}{H1:Hp}(I:Inv X pins σ H1 s)(K:Caps X scope cl own caps js)(hC:s.heap.objs.size<=C)(hf:∀b∈fp,FpOk X pins H1 b)(ho:∀b∈fp,∃o,s.heap.get? b=some o) :
  (Xc X pins scope cl C (own++caps) s H1 fp).Ok:=by
 refine⟨I.ok.mod,K.kind,I.ok.glob,I.ok.blt,hC,λx y c h1 h2=>I.ok.inj x y c (K.sub x c h1) (K.sub y c h2),λx hx=>K.has x hx,λx c h1 h2=>?_,I.ok.hd,I.ok.frames,.inl rfl,λb hb=>?_,I.bs,Nat.le_trans I.ok.bsz I.sz,λb o e hb=>?_,λb hb hm=>?_,I.stack,I.stkFree⟩
 .have h1:(cl.lookup x).isNone=true:=h1;have h2:cl.lookup x=some c:=h2;rw[h2] at h1;cases h1
 .obtain⟨o,e⟩:=ho b hb;refine⟨λz=>?_,λx c h z=>(hf b hb).2.2.2.2.1 x c (K.sub x c h) z⟩;have:b<C:=Nat.lt_of_lt_of_le (Heap.lt_size e) hC;rw[z] at this;exact absurd this (Nat.lt_irrefl _)
 .rcases(hf b hb).2.2.2.1 with z|z
  .exact I.ok.noex b o e z
  .exact absurd (Nat.lt_of_lt_of_le (Heap.lt_size e) (Nat.le_trans I.ok.bsz z)) (Nat.lt_irrefl _)
 .rcases List.mem_cons.mp (I.stkSub b hm) with z|z
  .exact(hf b hb).2.1 z
  .exact(hf b hb).2.2.1 z
theorem xc_inv{fp:List Addr}{D C:Addr}{H1:Hp}{s4:Shared}{mC:Str->Option Value}(I:Inv X pins σ H1 s)(K:Caps X scope cl own caps js)(hC:s.heap.objs.size<=C)(hD:s.heap.objs.size<=D)(hDC:D≠C)
  (hf:∀b∈fp,FpOk X pins H1 b) (ho:∀b∈fp,∃o,s.heap.get? b=some o) (h4:∃h' tk,s4={s with heap:=h',toks:=tk}) (k4:∀b o,s.heap.get? b=some o->s4.heap.get? b=some o) (hn:s4.heap.Ns C mC)
  (hl:s4.heap.get? D=some {cls:=.type "list",data:=.seq #[] 0}):Inv (Xc X pins scope cl C (own++caps) s H1 fp) [] (σC own.length js σ) (upd H1 D (.lst [])) s4:=by
 obtain⟨h',tk,rfl⟩:=h4;have hfr:H1 D=none:=I.hok.fresh hD;have hlen:(σC own.length js σ).length=(own++caps).length:=by
  unfold σC;rw[List.length_append,List.length_append,List.length_replicate,List.length_map,K.capl]
 have celK:∀c v,s.heap.IsCell c v->h'.IsCell c v:=λc v ⟨o,e,d⟩=>⟨o,k4 c o e,d⟩;have cold:∀x c,cl.lookup x=some c->c<s.heap.objs.size:=λx c e=>by
  obtain⟨v,z⟩:=I.cell x c (K.sub x c e);exact z.lt
 refine⟨xc_ok I K hC hf ho,rfl,I.bare,Un.laid k4 hD hfr,⟨mC,hn,λi x v e1 e2 e3=>?_⟩,λx c e=>?_,?_,λx c e=>?_,λp hp=>?_,I.hok.laid k4 hD ?_,hlen⟩
 .have hi:own.length<=i:=by
   by_cases hi:i<own.length
   .exfalso;unfold σC at e2;rw[List.getElem?_append_left (by rw[List.length_replicate];exact hi),List.getElem?_replicate,if_pos hi] at e2;cases e2
   .omega
  obtain⟨k,rfl⟩:∃k,i=own.length+k:=⟨i-own.length,by omega⟩;have e1:(own++caps)[own.length+k]?=some x:=e1;rw[List.getElem?_append_right (by omega),Nat.add_sub_cancel_left] at e1;obtain⟨j,j1,j2,j3,j4,j5⟩:=K.cap k x e1;unfold σC at e2;rw[List.getElem?_append_right (by rw[List.length_replicate];omega),List.length_replicate,Nat.add_sub_cancel_left,List.getElem?_map,j1] at e2;have e2:(σ[j]?).getD none=some v:=Option.some.inj e2;have e4:σ[j]?=some (some v):=by
   cases q:σ[j]? with
   | none=>rw[q] at e2;cases e2
   | some y=>rw[q] at e2;exact congrArg some e2
  obtain⟨m,_,hl'⟩:=I.loc;obtain⟨u,ru,lk⟩:=hl' j x v j2 e4 (.inr (.inl j3));refine⟨u,ru,?_⟩;rcases lk with⟨hk,_⟩|⟨_,c,hc,hcell⟩
  .have hk:X.env.scope.names.lookup x=some .local:=hk;rw[j3] at hk;cases hk
  .obtain⟨c',hc'⟩:=Option.isSome_iff_exists.mp j4;have:=K.sub x c' hc';rw[hc] at this;cases this;exact .inr ⟨.inl j5,c,hc',celK _ _ hcell⟩
 .obtain⟨v,z⟩:=I.cell x c (K.sub x c e);exact⟨v,celK _ _ z⟩
 .show upd H1 D (.lst []) C=none;rw[upd_ne (Ne.symm hDC)];exact I.hok.fresh hC
 .rw[upd_ne (Nat.ne_of_lt (Nat.lt_of_lt_of_le (cold x c e) hD))];exact I.freeC x c (K.sub x c e)
 .have hp:p∈X.pn++pins:=by
   have:p∈(X.pn++pins)++[]:=hp;simpa using this
  obtain⟨e,n,ne,nf,d⟩:=I.pin p hp;have hlt:=Heap.lt_size e;refine⟨k4 _ _ e,by rw[upd_ne (Nat.ne_of_lt (Nat.lt_of_lt_of_le hlt hD))];exact n,Nat.ne_of_lt (Nat.lt_of_lt_of_le hlt hC),λhm=>?_,d⟩;rcases List.mem_cons.mp (I.stkSub _ hm) with z|z
  .exact ne z
  .exact nf z
 .exact⟨Nat.zero_le _,[],0,.nil,hl⟩
theorem xc_back{fp:List Addr}{C:Addr}{N:List Str}{H1 H':Hp}{σ':St}{pl:List (Addr×Obj)}{s':Shared}(I:Inv X pins σ H1 s)(hf:∀b∈fp,FpOk X pins H1 b)(J:Inv (Xc X pins scope cl C N s H1 fp) pl σ' H' s'):Inv X pins σ H' s':=
 I.call' J.os J.base J.hok J.bare λb hb=>⟨(hf b hb).2.2.2.1,(hf b hb).2.1,(hf b hb).2.2.2.2.1,(hf b hb).2.2.2.2.2⟩
end
def tTurns(J:It)(g:TG)(tt:TT)(te:TE)(σ0:St)(D:Addr)(Qd:Hp->Prop)(H1:Hp):Prop:=
 ∃W:Nat->Nat->List V->St->Hp->Prop,(∃m,W 0 m [] σ0 (upd H1 D (.lst [])))/\∀i m ys σ1 H2,W i m ys σ1 H2->H2 D=some (.lst ys) ∧
  ((J.stop i H2/\Qd H2)\/(J.go i H2/\ys.length<sizeLine/\∀x H3,J.yld i H2 x H3->g x σ1 H3 λσ2 H4=>tt σ2 H4 λc H5=>
   if c=true then te σ2 H5 λy H6=>H6 D=some (.lst ys)/\∃m',m'<m/\W (i+1) m' (ys++[y]) σ2 (upd H6 D (.lst (ys++[y]))) else ∃m',m'<m/\W (i+1) m' ys σ2 H5))
def PTs(X:Cx)(ifs:List Expr)(t:TT):Prop:=
 ∀(pins:List (Addr×Obj))(s:Shared)(σ:St)(H:Hp)(Q:Bool->Hp->Prop),Inv X pins σ H s->t σ H Q →
  wpAny (model X.prog X.w) X.A (forIn ifs true λc r=>if r=true then do let ok <-isTrue c X.env (eval c X.env);pure (ForInStep.yield ok) else pure (ForInStep.yield r)) (TP X pins σ Q) X.xe s
def tYes:TT:=λ_ H Q=>Q true H
theorem pts_nil{X:Cx}:PTs X [] tYes:=λ_ _ _ H _ I h=>wpAny_tests_nil ⟨H,I,h⟩
theorem pts_one{X:Cx}{c:Expr}{t:TT}(h:PT X c t):PTs X [c] t:=λpins s σ H Q I hw=>wpAny_tests_one (h pins s σ H Q I hw)
section
variable{X:Cx}{pins:List (Addr×Obj)}{σ:St}{H:Hp}{s:Shared}{scope:Scope}{cl:List (Str×Addr)}{own caps:List Str}{js:List Nat}
variable{tg iter elt:Expr}{ifs:List Expr}{pos:Pos}{g:TG}{tt:TT}{te:TE}
theorem comp_loop{J:It}{fp:List Addr}{it D C:Addr}{tn:Nat->Heap->Prop}{H1:Hp}{σ0:St}{Qd:Hp->Prop}{RR:Result->Shared->Prop}{s4:Shared}
  (hc:X.calm=true) (T:Turn X.prog X.w X.K tg J fp it tn)
  (hg:PG (Xc X pins scope cl C (own++caps) s H1 fp) tg g) (ht:PTs (Xc X pins scope cl C (own++caps) s H1 fp) ifs tt) (he:PE (Xc X pins scope cl C (own++caps) s H1 fp) elt te)
  (hf:∀b∈fp,FpOk X pins H1 b)
  (J0:Inv (Xc X pins scope cl C (own++caps) s H1 fp) [] σ0 (upd H1 D (.lst [])) s4) (st0:tn 0 s4.heap) (hfD:∀b∈fp,b≠D)
  (turns:tTurns J g tt te σ0 D Qd H1)
  (fin:∀σ' H' s',Inv (Xc X pins scope cl C (own++caps) s H1 fp) [] σ' H' s'->Qd H'->RR (.ok .next) s') :
  codeAny (model X.prog X.w) X.A (.compLoop (.ListComp elt [⟨tg,iter,ifs,0⟩] scope pos) 0 (.ref it) (.ref D) (compEnvC scope cl C X.env)) RR s4:=by
 obtain⟨W,⟨m0,w0⟩,turn⟩:=turns;have stat:∀{H':Hp},(∀b∈fp,H' b=none)->∀b∈fp,FpOk (Xc X pins scope cl C (own++caps) s H1 fp) [] H' b:=λ{H'} hn b hb=>by
  refine⟨hn b hb,(J0.ok.exf b hb).1,J0.ok.exfs b hb,.inl hb,λx c e=>(J0.ok.exf b hb).2 x c e,λp hp=>?_⟩;have hp:p∈X.pn++pins:=by
   have:p∈(X.pn++pins)++[]:=hp;simpa using this
  exact(hf b hb).2.2.2.2.2 p hp
 refine codeAny_loop rfl (λn s'=>∃i ys σ' H',Inv (Xc X pins scope cl C (own++caps) s H1 fp) [] σ' H' s'/\tn i s'.heap/\(∀b∈fp,H' b=none)/\W i n ys σ' H') (λn s' hI=>?_) m0
  ⟨0,[],_,_,J0,st0,λb hb=>by rw[upd_ne (hfD b hb)];exact(hf b hb).1,w0⟩
 obtain⟨i,ys,σ2,H2,I2,st,fr,w2⟩:=hI;show wpAny _ X.A ((compTurn (.ListComp elt [⟨tg,iter,ifs,0⟩] scope pos) 0 (.ref it) (.ref D) (compEnvC scope cl C X.env)).onRaise (λx=>do noteFrame x (compEnvC scope cl C X.env);theTreesLotGoes x)) _ _ s';refine wpAny_noted (wpAny_noRaise ?_);rw[compTurn_list];obtain⟨hD,alt⟩:=turn i n ys σ2 H2 w2;rcases alt with⟨stop,qd⟩|⟨go,hz,step⟩
 .refine wpAny_bind (wpAny_standAt (wpAny_bind (thn (T.done (Xc X pins scope cl C (own++caps) s H1 fp) rfl rfl rfl hc i [] s' σ2 H2 (λ_ _=>False) I2 (stat fr) st stop) λr s5 ⟨hr,I5⟩=>?_)));subst hr;exact wpAny_pure (fin _ _ _ I5 qd)
 .refine wpAny_bind (wpAny_standAt (wpAny_bind (thn (T.item (Xc X pins scope cl C (own++caps) s H1 fp) rfl rfl rfl hc i [] s' σ2 H2 (λ_ _=>False) I2 (stat fr) st go) λr s5 ⟨u,hr,h5⟩=>?_)));subst hr;refine wpAny_bind (thn h5 λ_ s6 ⟨x,H6,I6,r6,y6,st6,fr6⟩=>?_);have I6':=I6.pinned (stat fr6) (T.obj _ _ st6);refine wpAny_bind (thn (hg _ s6 σ2 H6 x u _ I6' r6 (step x H6 y6)) λ_ s7 ⟨σ7,H7,I7,q7⟩=>?_);refine wpAny_bind (thn (ht _ s7 σ7 H7 _ I7 q7) λok s8 ⟨H8,I8,q8⟩=>?_);have again:∀{H9:Hp}{ys':List V}{m:Nat}{s9:Shared},Inv (Xc X pins scope cl C (own++caps) s H1 fp) ([]++pinsAt fp s6.heap) σ7 H9 s9->m<n->W (i+1) m ys' σ7 H9 →
    ∃m,m<n/\∃i ys σ' H',Inv (Xc X pins scope cl C (own++caps) s H1 fp) [] σ' H' s9/\tn i s9.heap/\(∀b∈fp,H' b=none)/\W i m ys σ' H':=λ{H9 ys' m s9} I9 hm w9=>by
   refine⟨m,hm,i+1,ys',σ7,H9,I9.unpinned,T.keep _ _ _ st6 λb hb o e=>(I9.pin (b,o) (List.mem_append_right _ (List.mem_append_right _ (mem_pinsAt hb e)))).1,λb hb=>?_,w9⟩;obtain⟨o,e,_⟩:=T.obj _ _ st6 b hb;exact(I9.pin (b,o) (List.mem_append_right _ (List.mem_append_right _ (mem_pinsAt hb e)))).2.1
  cases ok with
  | false=>
   rw[if_neg Bool.false_ne_true] at q8;obtain⟨m,hm,w8⟩:=q8;exact wpAny_pure ⟨rfl,again I8 hm w8⟩
  | true=>
   rw[if_pos rfl] at q8;refine wpAny_bind (wpAny_bind (thn (he _ s8 σ7 H8 _ I8 q8) λy s9 ⟨yv,H9,I9,r9,hD9,m,hm,w9⟩=>?_));refine wpAny_bind (thn (mt_append _ s9 σ7 H9 (.ref D) [yv] (.ref D) [y] (λ_ H10=>H10=upd H9 D (.lst (ys++[yv]))) I9 rfl (.cons r9 .nil) ⟨D,ys,yv,rfl,rfl,hD9,hz,rfl⟩) λ_ s10 ⟨_,H10,I10,_,e10⟩=>?_);subst e10;exact wpAny_pure (wpAny_pure ⟨rfl,again I10 hm w9⟩)
theorem comp_block{J:It}{fp:List Addr}{it:Addr}{tn:Nat->Heap->Prop}{H1:Hp}{Qd:Addr->Hp->Prop}{RR:Value->Addr->Result->Shared->Prop}{E:Value->Shared->Prop}
  (hc:X.calm=true) (I:Inv X pins σ H1 s) (K:Caps X scope cl own caps js) (T:Turn X.prog X.w X.K tg J fp it tn) (st0:tn 0 s.heap) (hf:∀b∈fp,FpOk X pins H1 b)
  (hg:∀C,PG (Xc X pins scope cl C (own++caps) s H1 fp) tg g) (ht:∀C,PTs (Xc X pins scope cl C (own++caps) s H1 fp) ifs tt) (he:∀C,PE (Xc X pins scope cl C (own++caps) s H1 fp) elt te)
  (turns:∀D,H1 D=none->tTurns J g tt te (σC own.length js σ) D (Qd D) H1)
  (fin:∀D C H' s',Inv X pins σ H' s'->FpOk X pins H' C->(∃m,s'.heap.Ns C m)->Qd D H'->RR (.ref D) C (.ok .next) s') :
  wpAny (model X.prog X.w) X.A (newList []) (λacc s₃=>wpAny (model X.prog X.w) X.A (newFunctionEnv scope X.env.globals cl [] X.env.qual none .none (some X.env)) (λcenv s₄=>
   codeAny (model X.prog X.w) X.A (.compStart (.ListComp elt [⟨tg,iter,ifs,0⟩] scope pos) 0 (.ref it) acc {cenv with scope:=relabel scope X.env}) (RR acc cenv.locals) s₄) E s₃) E s:=by
 have hold:∀b∈fp,∃o,s.heap.get? b=some o:=λb hb=>let ⟨o,e,_⟩:=T.obj 0 _ st0 b hb;⟨o,e⟩;refine wpAny_newObj_type (wpAny_newFunctionEnv K.nocell (by intro y hy;simp at hy) (λh₁ hns₁ hsb₁=>?_) K.kind);dsimp only at hns₁ hsb₁ ⊢;generalize hH2:s.heap.push {cls:=.type "list",dict:=none,data:=.seq ([]:List Value).toArray}=H2 at hns₁ hsb₁ ⊢;have hsz:H2.objs.size=s.heap.objs.size+1:=by rw[<-hH2,Heap.size_push]
 have k4:∀b o,s.heap.get? b=some o->h₁.get? b=some o:=λb o e=>by
  have hlt:=Heap.lt_size e;refine(hsb₁.2 b (Nat.ne_of_lt (hsz ▸ Nat.lt_succ_of_lt hlt))).trans (Heap.get?_push_of_some _ ?_);rw[<-hH2];exact Heap.get?_push_of_some _ e
 have hlist:h₁.get? s.heap.objs.size=some {cls:=.type "list",data:=.seq #[] 0}:=by
  refine(hsb₁.2 _ (Nat.ne_of_lt (hsz ▸ Nat.lt_succ_self _))).trans (Heap.get?_push_of_some _ ?_);rw[<-hH2];exact Heap.get?_push_size _ rfl
 have hfr:H1 s.heap.objs.size=none:=I.hok.fresh (Nat.le_refl _);have J0:=xc_inv (C:=H2.objs.size) (D:=s.heap.objs.size) (s4:={s with heap:=h₁,toks:=s.toks+([]:List (Str×Value)).length}) I K (hsz ▸ Nat.le_succ _) (Nat.le_refl _) (Nat.ne_of_lt (hsz ▸ Nat.lt_succ_self _)) hf hold ⟨_,_,rfl⟩ k4 hns₁ hlist;have hfD:∀b∈fp,b≠s.heap.objs.size:=λb hb z=>by
  obtain⟨o,e⟩:=hold b hb;have hlt:=Heap.lt_size e;rw[z] at hlt;exact absurd hlt (Nat.lt_irrefl _)
 have st1:tn 0 h₁:=T.keep 0 _ _ st0 λb hb o e=>k4 b o e;have loop:∀s₃:Shared,s₃={s with heap:=h₁,toks:=s.toks+([]:List (Str×Value)).length} →
   codeAny (model X.prog X.w) X.A (.compLoop (.ListComp elt [⟨tg,iter,ifs,0⟩] scope pos) 0 (.ref it) (.ref s.heap.objs.size) (compEnvC scope cl H2.objs.size X.env)) (RR (.ref s.heap.objs.size) H2.objs.size) s₃:=by
  rintro s₃ rfl;refine comp_loop hc T (hg _) (ht _) (he _) hf J0 st1 hfD (turns _ hfr) λσ' H' s' J' qd=>?_;have hC:H' H2.objs.size=none:=J'.free;obtain⟨m,hn,_⟩:=J'.loc;exact fin _ _ _ _ (xc_back I hf J') (I.fpOk (by omega) hC) ⟨m,hn⟩ qd
 exact codeAny_compStart_list (loop _ rfl) (T.self _ 0 _ _ _ st1 (loop _ rfl))
def tComp(wi:TI)(g:TG)(tt:TT)(te:TE)(own:Nat)(js:List Nat):TE:=λσ H Q=>wi σ H λJ H1=>∀D,H1 D=none->tTurns J g tt te (σC own js σ) D (λH'=>Q (.ref D) H') H1
theorem pe_comp{wi:TI}(hc:X.calm=true)(K:Caps X scope cl own caps js)(hi:PI X tg iter wi)
  (hg:∀pins C s H1 fp,PG (Xc X pins scope cl C (own++caps) s H1 fp) tg g) (ht:∀pins C s H1 fp,PTs (Xc X pins scope cl C (own++caps) s H1 fp) ifs tt) (he:∀pins C s H1 fp,PE (Xc X pins scope cl C (own++caps) s H1 fp) elt te)
  (hs:∀x,foldedSetIterable iter X.env x=pure x:=by intro _;rfl):PE X (.ListComp elt [⟨tg,iter,ifs,0⟩] scope pos) (tComp wi g tt te own.length js):=by
 intro pins s σ H Q I h;rw[eval_ListComp];refine wpAny_comprehension_free (use:=none) rfl hs K.clos K.kind K.names (thn (hi pins s σ H _ I h) λv s1 h1=>thn h1 λitv s2 h2=>?_);obtain⟨it,fp,tn,J,H1,e,I2,T,st,f,q⟩:=h2;subst e;refine comp_block (Qd:=λD H'=>Q (.ref D) H') (RR:=λacc C=>compPost (model X.prog X.w) X.A X.xe none (EP X pins σ Q) acc C) hc I2 K T st f (λC=>hg _ C _ _ _) (λC=>ht _ C _ _ _) (λC=>he _ C _ _ _) q ?_;intro D C H' s' I' fC ⟨m,hn⟩ qd;exact⟨m,hn,λh' hs'=>⟨.ref D,H',I'.offC (t':=s'.toks) fC hs',rfl,qd⟩⟩
def tCompSet(i:Nat)(wi:TI)(g:TG)(tt:TT)(te:TE)(own:Nat)(js:List Nat):TS:=λD σ H=>wi σ H λJ H1=>∀d,H1 d=none->tTurns J g tt te (σC own js σ) d (λH'=>D.nx (σ.set i (some (.ref d))) H') H1
theorem ps_comp{wi:TI}{i:Nat}{y:Str}{py spos:Pos}(hc:X.calm=true)(K:Caps X scope cl own caps js)(hi:PI X tg iter wi)
  (hg:∀pins C s H1 fp,PG (Xc X pins scope cl C (own++caps) s H1 fp) tg g) (ht:∀pins C s H1 fp,PTs (Xc X pins scope cl C (own++caps) s H1 fp) ifs tt) (he:∀pins C s H1 fp,PE (Xc X pins scope cl C (own++caps) s H1 fp) elt te)
  (hN:X.N.Nodup) (hy:X.N[i]?=some y) (hyl:X.env.scope.names.lookup y=some .local)
  (hsw:swapsWith (.ListComp elt [⟨tg,iter,ifs,0⟩] scope pos) (some (.Name y py)) spos.line X.env=pure true)
  (hs:∀x,foldedSetIterable iter X.env x=pure x:=by intro _;rfl):PS X (.Assign [.Name y py] (.ListComp elt [⟨tg,iter,ifs,0⟩] scope pos) spos) (tCompSet i wi g tt te own.length js):=by
 intro pins s σ H D I h;rw[exec_Assign_Name_used _ _ _ _ hsw];refine wpAny_bind (wpAny_standAt (wpAny_bind ?_));show wpAny _ X.A (do let _ <-comprehension (.ListComp elt [⟨tg,iter,ifs,0⟩] scope pos) scope X.env _ (newList []) false (eval iter X.env) (some (assign (.Name y py) X.env))) _ _ s;refine wpAny_bind (thn (wpAny_comprehension_free (use:=some (assign (.Name y py) X.env)) (Q:=λ_ s'=>SP X pins D .next s') rfl hs K.clos K.kind K.names (thn (hi pins s σ H _ I h) λv s1 h1=>thn h1 λitv s2 h2=>?_)) λ_ s' hq=>wpAny_pure (wpAny_pure hq));obtain⟨it,fp,tn,J,H1,e,I2,T,st,f,q⟩:=h2;subst e;refine comp_block (Qd:=λd H'=>D.nx (σ.set i (some (.ref d))) H') (RR:=λacc C=>compPost (model X.prog X.w) X.A X.xe (some (assign (.Name y py) X.env)) (λ_ s'=>SP X pins D .next s') acc C) hc I2 K T st f (λC=>hg _ C _ _ _) (λC=>ht _ C _ _ _) (λC=>he _ C _ _ _) q ?_;intro d C H' s' I' fC ⟨m,hn⟩ qd;show wpAny _ X.A (assign (.Name y py) X.env (.ref d)) _ _ _;refine wpAny_assign_Name (store_ok2 I' hN hy (.inl hyl) (show RelV (.ref d) (.ref d) from rfl) (λs3 I3 ⟨a,sb,ha⟩=>?_) (.inr hyl));have hCa:C≠a:=by
  rcases ha with z|z
  .rw[z];exact fC.2.1
  .exact λz2=>fC.2.2.2.2.1 y a z z2.symm
 exact⟨m,hn.sameBut sb hCa,λh' hs'=>⟨_,H',I3.offC (t':=s3.toks) fC hs',qd⟩⟩
end
end L2
namespace Sx
open PySem PySem.W PyProof.Rows
theorem ints_fun:∀{vs:List Value}{a b:List Int},IntsAre vs a->IntsAre vs b->a=b
 | _,_,_,.nil,.nil=>rfl
 | _,_,_,.cons n t h,.cons _ _ h'=>by rw[ints_fun h h']
theorem ints_at:∀{vs:List Value}{ns:List Int}{i:Nat}{v:Value},IntsAre vs ns->vs[i]?=some v->∃t,v=.int (ns.getD i 0) t
 | _,_,_,_,.nil,e=>by simp at e
 | _,_,0,_,.cons n t _,e=>by simp at e;subst e;exact⟨t,rfl⟩
 | _,_,i+1,v,.cons n t h,e=>by
  obtain⟨t',e'⟩:=ints_at (i:=i) (v:=v) h (by simpa using e);exact⟨t',by simpa using e'⟩
theorem all_eq:∀(t u:List Int),((List.range (min t.length u.length)).all (λj=>t.getD j 0==u.getD j 0)&&t.length==u.length)=decide (t=u):=by
 intro t u;rw[Bool.eq_iff_iff,Bool.and_eq_true,List.all_eq_true,beq_iff_eq,decide_eq_true_iff];constructor
 .rintro⟨h1,h2⟩;apply List.ext_getElem h2;intro i hi hj;have:=h1 i (List.mem_range.mpr (by omega));simpa[hi,hj] using this
 .rintro rfl;exact⟨λi _=>by simp,rfl⟩
theorem eqAt_tups{A:Around}{s:Shared}{a b:Addr}{t u:List Int}(ha:TupI s.heap a t)(hb:TupI s.heap b u)(hu:A.units<cLine):SeqAt.EqAt A s (.ref a) (.ref b) (decide (t=u)):=by
 obtain⟨oa,ia,na,ea,ca,da,pa⟩:=ha;obtain⟨ob,ib,nb,eb,cb,db,pb⟩:=hb;by_cases e:a=b
 .subst e;rw[ea] at eb;cases eb;rw[da] at db;injection db with d1 _
  subst d1;have:=ints_fun pa pb;subst this;rw[decide_eq_true rfl];exact SeqAt.EqAt.same _
 .have la:ia.size=t.length:=by rw[<-pa.length,Array.length_toList]
  have lb:ib.size=u.length:=by rw[<-pb.length,Array.length_toList]
  have:=SeqAt.RcAt.tuples (A:=A) (s:=s) (l:=a) (b:=b) (items:=ia) (items2:=ib) (e:=λj=>t.getD j 0==u.getD j 0) ⟨oa,ea,ca,na,da⟩ ⟨ob,eb,cb,nb,db⟩ hu λj h1 h2=>by
   obtain⟨t1,e1⟩:=ints_at (i:=j) (v:=ia[j]) pa (by simp[h1]);obtain⟨t2,e2⟩:=ints_at (i:=j) (v:=ib[j]) pb (by simp[h2]);rw[e1,e2];exact SeqAt.EqAt.int_int _ _ _ _
  rw[la,lb,all_eq] at this;exact SeqAt.EqAt.of_refs e this
end Sx
namespace L2
open PySem PySem.Spec PyProof.Rows
theorem ints_inj:∀{a b:List Int},a.map V.int=b.map V.int->a=b
 | [],[],_=>rfl
 | [],_::_,e=>by simp at e
 | _::_,[],e=>by simp at e
 | x::xs,y::ys,e=>by
  rw[List.map_cons,List.map_cons] at e;injection e with e1 e2
  injection e1 with e1
  rw[e1,ints_inj e2]
section
variable{X:Cx}
open Classical in
noncomputable def isT(H:Hp)(t:List Int):Value->Bool
 | .ref r=>decide (H r=some (.tup (t.map V.int)))
 | _=>false
theorem isT_ref{H:Hp}{t u:List Int}{r:Addr}(h:H r=some (.tup (u.map V.int))):isT H t (.ref r)=decide (u=t):=by
 classical
 unfold isT;rw[Bool.eq_iff_iff,decide_eq_true_iff,decide_eq_true_iff,h];constructor
 .intro e;injection e with e
  injection e with e
  exact ints_inj e
 .rintro rfl;rfl
theorem any_isT{H:Hp}{t:List Int}:∀{rs:List Addr}{ts:List (List Int)},TupsH H rs ts->(rs.map Value.ref).any (isT H t)=ts.any (λu=>decide (u=t))
 | _,_,.nil=>rfl
 | _,_,.cons h r=>by rw[List.map_cons,List.any_cons,List.any_cons,isT_ref h.1,any_isT r]
theorem op_notInT(hu:X.A.units+1<cLine):OpR X (compareOp .NotIn) (λx y H Q=>∃b t p rs ts,x=.ref b/\H b=some (.tup (t.map V.int))/\y=.ref p/\SqL X.K H p (rs.map V.ref)/\TupsH H rs ts/\Q (.bl (!ts.any λu=>decide (u=t))) H):=by
 intro pins s σ H x y v u Q I rx ry h;obtain⟨b,t,p,rs,ts,rfl,hb,rfl,hq,hp,q⟩:=h;cases rx;cases ry;obtain⟨its,rv,pl,hz⟩:=I.list hq;have ei:=refs_of rv;subst ei;refine SeqAt.notIn_listAt (isT H t) pl.isList (λv hv=>?_) ⟨.bl _,H,I,rfl,?_⟩
 .have hv':v∈rs.map Value.ref:=by simpa using hv
  obtain⟨r,hr,rfl⟩:=List.mem_map.mp hv';obtain⟨i,hi,e⟩:=List.getElem_of_mem hr;obtain⟨t',_,ht,_⟩:=Sx.pair_at (i:=i) (a:=r) hp (by rw[<-e];simp[hi]);rw[isT_ref ht];exact Sx.eqAt_tups (I.tupI ht) (I.tupI hb) hu
 .rw[show(rs.map Value.ref).toArray.any (isT H t)=(rs.map Value.ref).any (isT H t) by simp,any_isT hp];exact q
theorem op_inT(hu:X.A.units+1<cLine):OpR X (compareOp .In) (λx y H Q=>∃b t p rs ts,x=.ref b/\H b=some (.tup (t.map V.int))/\y=.ref p/\SqL X.K H p (rs.map V.ref)/\TupsH H rs ts/\Q (.bl (ts.any λu=>decide (u=t))) H):=by
 intro pins s σ H x y v u Q I rx ry h;obtain⟨b,t,p,rs,ts,rfl,hb,rfl,hq,hp,q⟩:=h;cases rx;cases ry;obtain⟨its,rv,pl,hz⟩:=I.list hq;have ei:=refs_of rv;subst ei;refine SeqAt.in_listAt (isT H t) pl.isList (λv hv=>?_) ⟨.bl _,H,I,rfl,?_⟩
 .have hv':v∈rs.map Value.ref:=by simpa using hv
  obtain⟨r,hr,rfl⟩:=List.mem_map.mp hv';obtain⟨i,hi,e⟩:=List.getElem_of_mem hr;obtain⟨t',_,ht,_⟩:=Sx.pair_at (i:=i) (a:=r) hp (by rw[<-e];simp[hi]);rw[isT_ref ht];exact Sx.eqAt_tups (I.tupI ht) (I.tupI hb) hu
 .rw[show(rs.map Value.ref).toArray.any (isT H t)=(rs.map Value.ref).any (isT H t) by simp,any_isT hp];exact q
theorem all_eqL:∀(ts us:List (List Int)),ts.length=us.length->(List.range ts.length).all (λj=>decide (ts.getD j []=us.getD j []))=decide (ts=us):=by
 intro ts us hl;rw[Bool.eq_iff_iff,List.all_eq_true,decide_eq_true_iff];constructor
 .intro h1;apply List.ext_getElem hl;intro i hi hj;have:=h1 i (List.mem_range.mpr hi);simpa[hi,hj] using this
 .rintro rfl;exact λi _=>by simp
theorem op_eqLT(hu:X.A.units+1<cLine):OpR X (compareOp .Eq) (λx y H Q=>∃a b rs qs ts us,x=.ref a/\y=.ref b/\SqL X.K H a (rs.map V.ref)/\SqL X.K H b (qs.map V.ref)/\TupsH H rs ts/\TupsH H qs us/\Q (.bl (decide (ts=us))) H):=by
 intro pins s σ H x y v u Q I rx ry h;obtain⟨a,b,rs,qs,ts,us,rfl,rfl,ha,hb,hp,hq,q⟩:=h;cases rx;cases ry;obtain⟨ia,ra,pa,_⟩:=I.list ha;obtain⟨ib,rb,pb,_⟩:=I.list hb;have ea:=refs_of ra;have eb:=refs_of rb;subst ea;subst eb;have l1:=Paired.length hp;have l2:=Paired.length hq;have hu':X.A.units<cLine:=by omega
 by_cases hl:rs.length=qs.length
 .refine SeqAt.eq_listAt (e:=λj=>decide (ts.getD j []=us.getD j [])) pa.isList pb.isList (by simp[hl]) hu' (λj h1 h2=>?_) ?_
  .have h1':j<rs.length:=by simpa using h1
   have h2':j<qs.length:=by simpa using h2
   obtain⟨t,et,ht,_⟩:=Sx.pair_at (i:=j) (a:=rs[j]) hp (by simp[h1']);obtain⟨t',et',ht',_⟩:=Sx.pair_at (i:=j) (a:=qs[j]) hq (by simp[h2']);have e1:ts.getD j []=t:=by simp[et]
   have e2:us.getD j []=t':=by simp[et']
   rw[e1,e2];simp only[List.getElem_toArray,List.getElem_map];exact Sx.eqAt_tups (I.tupI ht) (I.tupI ht') hu
  .rw[show(rs.map Value.ref).toArray.size=ts.length by simp[l1],all_eqL ts us (by omega)];exact⟨.bl _,H,I,rfl,q⟩
 .refine SeqAt.eq_list_lengthsAt pa.isList pb.isList (by simpa using hl) hu' ⟨.bl false,H,I,rfl,?_⟩;rw[show decide (ts=us)=false from decide_eq_false (λe=>hl (by rw[l1,l2,e]))] at q;exact q
end
theorem yes_of{σ:St}{H:Hp}{A B:Hp->Prop}(h:A H):tYes σ H λc H5=>if c=true then A H5 else B H5:=by
 show if true=true then A H else B H
 rw[if_pos rfl];exact h
def Nxt(n i:Nat)(Pv:Nat->List V->St->Hp->Prop)(ys:List V)(σ:St)(H:Hp):Prop:=∃m',m'<n-i/\m'=n-(i+1)/\i+1<=n/\Pv (i+1) ys σ H
theorem Nxt.mk{n i:Nat}{Pv:Nat->List V->St->Hp->Prop}{ys:List V}{σ:St}{H:Hp}(hi:i<n)(h:Pv (i+1) ys σ H):Nxt n i Pv ys σ H:=⟨n-(i+1),by omega,rfl,hi,h⟩
theorem turns_list{K:W.Frag}{a D:Addr}{xs:List V}{g:TG}{tt:TT}{te:TE}{σ0:St}{Qd:Hp->Prop}{H1:Hp}(Pv:Nat->List V->St->Hp->Prop)(h0:Pv 0 [] σ0 (upd H1 D (.lst [])))
  (hD:∀i ys σ H,Pv i ys σ H->H D=some (.lst ys)/\ys.length<sizeLine/\SqL K H a xs)
  (hs:∀i x ys σ H,xs[i]?=some x->Pv i ys σ H->g x σ H λσ2 H4=>tt σ2 H4 λc H5=>if c=true then te σ2 H5 λy H6=>H6 D=some (.lst ys)/\Nxt xs.length i Pv (ys++[y]) σ2 (upd H6 D (.lst (ys++[y]))) else Nxt xs.length i Pv ys σ2 H5)
  (hd:∀ys σ H,Pv xs.length ys σ H->Qd H):tTurns (Itl K a) g tt te σ0 D Qd H1:=by
 refine⟨λi m ys σ H=>m=xs.length-i/\i<=xs.length/\Pv i ys σ H,⟨xs.length,by simp,Nat.zero_le _,h0⟩,?_⟩;rintro i m ys σ H ⟨rfl,hi,p⟩;obtain⟨d1,d2,d3⟩:=hD i ys σ H p;refine⟨d1,?_⟩;by_cases hlt:i<xs.length
 .refine .inr ⟨⟨xs,xs[i],d3,by simp[hlt]⟩,d2,λx H3 y=>?_⟩;obtain⟨e,y⟩:=y;subst e;exact hs i x ys σ _ (y xs d3) p
 .have e:i=xs.length:=by omega
  subst e;exact .inl ⟨⟨xs,d3,Nat.le_refl _⟩,hd ys σ H p⟩
theorem turns_range{lo:Int}{n:Nat}{D:Addr}{g:TG}{tt:TT}{te:TE}{σ0:St}{Qd:Hp->Prop}{H1:Hp}(Pv:Nat->List V->St->Hp->Prop)(h0:Pv 0 [] σ0 (upd H1 D (.lst [])))
  (hD:∀i ys σ H,Pv i ys σ H->H D=some (.lst ys)/\ys.length<sizeLine)
  (hs:∀i ys σ H,i<n->Pv i ys σ H->g (.int (lo+i)) σ H λσ2 H4=>tt σ2 H4 λc H5=>if c=true then te σ2 H5 λy H6=>H6 D=some (.lst ys)/\Nxt n i Pv (ys++[y]) σ2 (upd H6 D (.lst (ys++[y]))) else Nxt n i Pv ys σ2 H5)
  (hd:∀ys σ H,Pv n ys σ H->Qd H):tTurns (Itr lo n) g tt te σ0 D Qd H1:=by
 refine⟨λi m ys σ H=>m=n-i/\i<=n/\Pv i ys σ H,⟨n,by simp,Nat.zero_le _,h0⟩,?_⟩;rintro i m ys σ H ⟨rfl,hi,p⟩;obtain⟨d1,d2⟩:=hD i ys σ H p;refine⟨d1,?_⟩;by_cases hlt:i<n
 .refine .inr ⟨hlt,d2,λx H3 y=>?_⟩;obtain⟨e,y⟩:=y;subst e y;exact hs i ys σ _ hlt p
 .have e:i=n:=by omega
  subst e;exact .inl ⟨Nat.le_refl _,hd ys σ H p⟩
theorem paired_zip{α β:Type}{F:α->β->Prop}:∀{l:List α}{m:List β},Paired F l m->∀p∈l.zip m,F p.1 p.2
 | _,_,.nil,p,hp=>by simp at hp
 | _,_,.cons h t,p,hp=>by
  rcases List.mem_cons.mp hp with rfl|hp
  .exact h
  .exact paired_zip t p hp
theorem zip_paired{α β:Type}{F:α->β->Prop}:∀{l:List α}{m:List β},l.length=m.length->(∀p∈l.zip m,F p.1 p.2)->Paired F l m
 | [],[],_,_=>.nil
 | [],_::_,e,_=>by simp at e
 | _::_,[],e,_=>by simp at e
 | a::l,b::m,e,h=>.cons (h (a,b) (.head _)) (zip_paired (by simpa using e) λp hp=>h p (.tail _ hp))
theorem TupsH.sorted{H:Hp}{rs rs':List Addr}{ts ts':List (List Int)}(h:TupsH H rs ts)(S:Sx.Sorted rs ts rs' ts'):TupsH H rs' ts'/\ts'.Perm ts/\rs'.length=rs.length:=by
 have l1:=Paired.length h;have e:=S.perm.length_eq;rw[List.length_zip,List.length_zip] at e;have e2:=S.len;refine⟨zip_paired S.len λp hp=>paired_zip h p (S.perm.mem_iff.mp hp),?_,by omega⟩;have q:=S.perm.map (·.2);rw[List.map_snd_zip (by omega),List.map_snd_zip (by omega)] at q;exact q
theorem paired_snoc{α β:Type}{F:α->β->Prop}:∀{l:List α}{m:List β}{a:α}{b:β},Paired F l m->F a b->Paired F (l++[a]) (m++[b])
 | _,_,_,_,.nil,h=>.cons h .nil
 | _,_,_,_,.cons q t,h=>.cons q (paired_snoc t h)
theorem vals_bls:∀{bs:List Bool}{us:List Value},Vals (bs.map V.bl) us->us=bs.map Value.bool
 | [],_,h=>by rw[List.map_nil] at h;cases h;rfl
 | b::bs,_,h=>by
  rw[List.map_cons] at h;cases h with
  | cons h1 h2=>rw[vals_bls h2,List.map_cons];cases h1;rfl
end L2
namespace Sx
open PySem PySem.W PyProof.Rows
theorem all_eqI(t u:List Int)(hl:t.length=u.length):(List.range t.length).all (λj=>t.getD j 0==u.getD j 0)=decide (t=u):=by
 rw[Bool.eq_iff_iff,List.all_eq_true,decide_eq_true_iff];constructor
 .intro h1;apply List.ext_getElem hl;intro i hi hj;have:=h1 i (List.mem_range.mpr hi);simpa[hi,hj] using this
 .rintro rfl;exact λi _=>by simp
def LstI(h:Heap)(a:Addr)(t:List Int):Prop:=∃its:Array Value,h.IsList a its/\IntsAre its.toList t
section
variable{A:Around}{s:Shared}{a b:Addr}{t u:List Int}
theorem rcAt_ints(ha:LstI s.heap a t)(hb:LstI s.heap b u)(hu:A.units<cLine):SeqAt.RcAt A s (.ref a) (.ref b) (decide (t=u)):=by
 obtain⟨ia,la,pa⟩:=ha;obtain⟨ib,lb,pb⟩:=hb;have sa:ia.size=t.length:=by rw[<-pa.length,Array.length_toList]
 have sb:ib.size=u.length:=by rw[<-pb.length,Array.length_toList]
 by_cases hl:t.length=u.length
 .have:=SeqAt.RcAt.lists (A:=A) (e:=λj=>t.getD j 0==u.getD j 0) la lb (by omega) hu λj h1 h2=>by
   obtain⟨t1,e1⟩:=ints_at (i:=j) (v:=ia[j]) pa (by simp[h1]);obtain⟨t2,e2⟩:=ints_at (i:=j) (v:=ib[j]) pb (by simp[h2]);rw[e1,e2];exact SeqAt.EqAt.int_int _ _ _ _
  rw[sa,all_eqI t u hl] at this;exact this
 .have:=SeqAt.RcAt.lists_lengths (A:=A) la lb (by rw[sa,sb];simpa using hl) hu;rw[show decide (t=u)=false from decide_eq_false λe=>hl (by rw[e])];exact this
theorem lstI_one(ha:LstI s.heap a t)(hb:LstI s.heap a u):t=u:=by
 obtain⟨ia,⟨o,e,_,n,d⟩,pa⟩:=ha;obtain⟨ib,⟨o',e',_,n',d'⟩,pb⟩:=hb;rw[e] at e';cases e';rw[d] at d';injection d' with d1 _
 subst d1;exact ints_fun pa pb
theorem eqAt_ints(ha:LstI s.heap a t)(hb:LstI s.heap b u)(hu:A.units<cLine):SeqAt.EqAt A s (.ref a) (.ref b) (decide (t=u)):=by
 by_cases e:a=b
 .subst e;rw[decide_eq_true (lstI_one ha hb)];exact SeqAt.EqAt.same _
 .exact SeqAt.EqAt.of_refs e (rcAt_ints ha hb hu)
end
theorem intsAre_at:∀{vs:List Value}{t:List Int},vs.length=t.length->(∀(j:Nat) v,vs[j]?=some v->∃tk,v=.int (t.getD j 0) tk)->IntsAre vs t
 | [],[],_,_=>.nil
 | [],_::_,e,_=>by simp at e
 | _::_,[],e,_=>by simp at e
 | v::vs,n::t,e,h=>by
  obtain⟨tk,rfl⟩:=h 0 v rfl;exact .cons n tk (intsAre_at (by simpa using e) λj v hv=>by simpa using h (j+1) v (by simpa using hv))
end Sx
namespace L2
open PySem PySem.Spec PyProof.Rows
abbrev LsH(H:Hp)(rs:List Addr)(ts:List (List Int)):Prop:=Paired (λr t=>H r=some (.lst (t.map V.int))) rs ts
section
variable{X:Cx}{pins:List (Addr×Obj)}{σ:St}{H:Hp}{s:Shared}
theorem Inv.lstI{a:Addr}{t:List Int}(I:Inv X pins σ H s)(hq:SqL X.K H a (t.map V.int)):Sx.LstI s.heap a t:=by
 obtain⟨its,rv,pl,hz⟩:=I.list hq;exact⟨its.toArray,pl.isList,by simpa using intsAre_of rv⟩
theorem range_allB(bs:List Bool):((List.range bs.length).all λi=>(bs[i]?).getD true)=bs.all id:=by
 rw[Bool.eq_iff_iff,List.all_eq_true,List.all_eq_true];constructor
 .intro h b hb;obtain⟨i,hi,rfl⟩:=List.getElem_of_mem hb;have:=h i (List.mem_range.mpr hi);simpa[hi] using this
 .intro h i hi;have hi':=List.mem_range.mp hi;simpa[hi'] using h bs[i] (List.getElem_mem hi')
theorem call_allB(hc:X.calm=true):CallR X (.builtin "all") (λvs H Q=>∃(a:Addr)(bs:List Bool),vs=[.ref a]/\SqL X.K H a (bs.map V.bl)/\Q (.bl (bs.all id)) H):=by
 intro pins s σ H vs us Q I r h;obtain⟨a,bs,rfl,hq,q⟩:=h;obtain⟨u,rfl,ru⟩:=vals1 r;cases ru;obtain⟨its,rv,pl,hz⟩:=I.list hq;have ei:=vals_bls rv;subst ei;have hl:=pl.isList;have hlt:a<s.heap.objs.size:=by obtain⟨_,e,_⟩:=hl;exact Heap.lt_size e
 refine PySem.call_all_walk (wpAny_pyIter_list hl ?_);refine⟨s.heap.objs.size,[s.heap.objs.size,a],[s.heap.objs.size],(bs.map Value.bool).toArray.size,_,_,λi=>(bs[i]?).getD true,rfl,Walks.list (A:=X.A.in1) (I.ok.hd hc) _ a (Nat.ne_of_lt hlt) (bs.map Value.bool).toArray,
  ⟨⟨_,Heap.get?_push_size _ rfl,rfl,rfl⟩,hl.push _⟩,λi v s' Q' E' hP hQ=>?_,λh' tk hk=>?_⟩
 .have hP:(bs.map Value.bool)[i]?=some v:=by simpa using hP
  rw[List.getElem?_map] at hP;cases e:bs[i]? with
  | none=>rw[e] at hP;cases hP
  | some b=>
   rw[e] at hP;cases hP;simp only[e,Option.getD_some] at hQ;exact wpAny_truthy_bool hQ
 .have e:((List.range (bs.map Value.bool).toArray.size).all λi=>(bs[i]?).getD true)=bs.all id:=by
   rw[List.size_toArray,List.length_map];exact range_allB bs
  rw[e];exact⟨.bl _,H,I.kept λb x z=>hk b x (λhm=>by rw[List.mem_singleton.mp hm] at z;exact Nat.lt_irrefl _ (Heap.lt_size z)) (Heap.get?_push_of_some _ z),rfl,q⟩
theorem call_sortedDI(hc:X.calm=true):CallR X (.builtin "sorted") (λxs H Q=>∃(a:Addr)(kvs:List (Key×V))(t:List Int),xs=[.ref a]/\H a=some (.dK kvs)/\kvs.map (·.1)=t.map Sum.inl/\t.length<64 ∧
  ∀(t':List Int)(p:Addr),t'.Perm t->t'.Pairwise (·<=·)->H p=none->Q (.ref p) (upd H p (.lst (t'.map V.int)))):=by
 intro pins s σ H xs us Q I r h;obtain⟨a,kvs,t,rfl,ha,hk,h64,q⟩:=h;obtain⟨u,rfl,ru⟩:=vals1 r;cases ru;obtain⟨z,lo,vs,rel,dd⟩:=dk_of I.hok ha;obtain⟨ep,hat⟩:=dd.dictAt;have l1:kvs.length=vs.length:=Paired.length rel;have l2:kvs.length=t.length:=by have:=congrArg List.length hk;simpa using this
 refine Calls.call_function_entry kind_sorted plain_sorted entry_sorted (args_sorted1 _) ?_;unfold Builtin.«sorted»;refine wpAny_bind (m:=checkCount "sorted" 1 1 _) (wpAny_pure (wpAny_bind (PySem.W.kdu_collect (A:=X.A.in1) (PySem.W.kdl_dict lo) (I.ok.hd hc) hat (by omega) λh' tk acc hkp hacc=>?_)));have hsz:acc.toList.length=t.length:=by rw[Array.length_toList,hacc.1];omega
 have hi:IntsAre acc.toList t:=Sx.intsAre_at hsz λj v hv=>by
  obtain⟨k,x,e1,e2⟩:=hacc.2 j v (by simpa using hv);have hj:j<kvs.length:=by have:=(List.getElem?_eq_some_iff.mp e1).1;omega
  obtain⟨p,ep',hp,_⟩:=Sx.pair_at (i:=j) (a:=kvs[j]) rel (by simp[hj]);rw[e1] at ep';cases ep';have e3:(kvs.map (·.1))[j]?=some k:=by rw[List.getElem?_map,List.getElem?_eq_getElem hj];exact congrArg some hp
  rw[hk,List.getElem?_map] at e3;cases e4:t[j]? with
  | none=>rw[e4] at e3;cases e3
  | some n=>
   rw[e4] at e3;cases e3;obtain⟨tk',rfl⟩:=Value.isInt_shape (k:=n) (v:=v) e2;exact⟨tk',by simp[e4]⟩
 have I1:Inv X pins σ H {s with heap:=h',toks:=tk}:=I.kept hkp;refine wpAny_bind (wpAny_newList ?_ (by rw[hsz,sizeLine_eq];omega));have ho:(h'.push {cls:=.type "list",data:=.seq acc.toList.toArray}).get? h'.objs.size=some (seqObj "list" acc.toList.toArray 0):=Heap.get?_push_size _ rfl;refine wpAny_bind (wpAny_holding (wpAny_call_entry slot_list_sort ⟨_,ho,rfl⟩ entry_list_sort (list_sort_tree (s:={s with heap:=h'.push {cls:=.type "list",data:=.seq acc.toList.toArray},toks:=tk}) ho hi (by omega) λout ns' a1 a2 a3=>⟨_,rfl,?_⟩) (args_list_sort _)));obtain⟨e,he⟩:=sortedHeap_at (out:=out) ho;have hfr:H h'.objs.size=none:=I1.hok.fresh (Nat.le_refl _);have hln:=a2.length_eq;refine wpAny_pure ⟨_,rfl,⟨.ref h'.objs.size,_,I1.laid (a:=h'.objs.size) (o:=.lst (ns'.map V.int)) (t':=tk) (λb o z=>?_) (Nat.le_refl _) ⟨by rw[List.length_map,sizeLine_eq];omega,out.toList,e,vals_ints a1,he⟩,rfl,q ns' _ a2 a3 hfr⟩⟩;have hlt:=Heap.lt_size z;exact(sortedHeap_old (Nat.ne_of_lt hlt) (by rw[size_push'];exact Nat.lt_succ_of_lt hlt)).trans (Heap.get?_push_of_some _ z)
theorem Vals.take':∀{xs:List V}{us:List Value}(k:Nat),Vals xs us->Vals (xs.take k) (us.take k)
 | _,_,0,_=>by rw[List.take_zero,List.take_zero];exact .nil
 | _,_,_+1,.nil=>.nil
 | _,_,k+1,.cons r t=>.cons r (Vals.take' k t)
theorem Vals.drop':∀{xs:List V}{us:List Value}(k:Nat),Vals xs us->Vals (xs.drop k) (us.drop k)
 | _,_,0,h=>h
 | _,_,_+1,.nil=>.nil
 | _,_,k+1,.cons _ t=>Vals.drop' k t
theorem mt_insert:MtM X "list.insert" (λx vs H Q=>∃(l:Addr)(xs:List V)(i:Int)(y:V),x=.ref l/\vs=[.int i,y]/\H l=some (.lst xs)/\0<=i/\i<=xs.length/\xs.length<1000/\Q .non (upd H l (.lst (xs.take i.toNat++y::xs.drop i.toNat)))):=by
 intro pins s σ H x vs v us Q I rx rv h;obtain⟨l,xs,i,y,rfl,rfl,hH,h0,h1,hz,q⟩:=h;cases rx;obtain⟨u,w,rfl,ru,rw'⟩:=rv.two;obtain⟨t,rfl⟩:=ru;obtain⟨z,its,n,r,hl,e⟩:=I.lstM hH;have hf:Builtin.List.listFitsIndex i=true:=by
  unfold Builtin.List.listFitsIndex
  first|(simp;omega)|(rw[Bool.and_eq_true,decide_eq_true_iff,decide_eq_true_iff];omega)
 refine call_meets PySem.F.slot_list_insert ⟨_,e,rfl⟩ PySem.F.entry_list_insert (PySem.F.args_list_insert_3 _ _ _) (PySem.AutoSeq1.list_insert_list_int_val_1 l its.toArray n i t w (by simp[hf]) (by rw[List.size_toArray];omega)) ⟨e,?_⟩;refine⟨.non,_,I.lset (its':=its.take i.toNat++w::its.drop i.toNat) hH e ?_ ((Vals.take' _ r).append (.cons rw' (Vals.drop' _ r))) ?_,rfl,q⟩
 .have e1:¬i<0:=by omega
  have e2:min i.toNat its.length=i.toNat:=by omega
  simp only[e1,if_false,List.size_toArray,e2];apply Array.ext';simp;exact List.take_of_length_le (by rw[List.length_drop];exact Nat.le_refl _)
 .rw[List.length_append,List.length_cons,List.length_take,List.length_drop,sizeLine_eq];omega
end
end L2
namespace G13
abbrev Tri:=Int×Int×Int
def tied(T:List Tri)(x y:Int):Prop:=∃t∈T,(t.1=x/\t.2.1=y)\/(t.1=y/\t.2.1=x)
inductive Reach (T:List Tri) (O:List Int) (x:Int):Int->Prop
 | refl:Reach T O x x
 | step {y z:Int}:Reach T O x y->tied T y z->z∉O->Reach T O x z
section
variable{T:List Tri}{O:List Int}{x y z m:Int}
def pts(m:Int):List Int:=(List.range m.toNat).map λ(i:Nat)=>(i:Int)
open Classical in
noncomputable def comp(m:Int)(T:List Tri)(O:List Int)(x:Int):List Int:=(pts m).filter λy=>decide (Reach T O x y)
def first(T:List Tri)(O:List Int)(x:Int):Prop:=x∉O/\∀y,0<=y->y<x->y∉O->¬Reach T O y x
def met(m:Int)(T:List Tri)(O:List Int)(i:Int)(y:Int):Prop:=y∈O\/∃x,0<=x/\x<i/\first T O x/\y∈comp m T O x
def good(m:Int)(T:List Tri):Prop:=∀t∈T,0<=t.1/\t.1<m/\0<=t.2.1/\t.2.1<m
open Classical in
noncomputable def firsts(m:Int)(T:List Tri)(O:List Int)(i:Int):List Int:=(pts i).filter λx=>decide (first T O x)
noncomputable def partsTo(m:Int)(T:List Tri)(O:List Int)(i:Int):List (List Int):=(firsts m T O i).map (comp m T O)
structure Hangs(T:List Tri)(P:List Int)(h:Int):Prop where
 ex:∃O:List Int,(∀y∈P,Reach T O h y)/\∀y∈P,∀z,tied T y z->z∉O->z∈P
def plc:Nat->List (List Int)->List (Int×Nat)
 | _,[]=>[]
 | k,c::r=>c.map (λy=>(y,k))++plc (k+1) r
end
end G13
namespace Ts
open PySem PyProof.Rows
def gallop':Bool->Keyed->Array Keyed->Nat->Nat->Nat->StateT SortSt Sem (Option Nat):=sortPriv% PySem.Builtin.gallop
def mergeLo':Array Keyed->Array Keyed->StateT SortSt Sem (Array Keyed):=sortPriv% PySem.Builtin.mergeLo
def mergeHi':Array Keyed->Array Keyed->StateT SortSt Sem (Array Keyed):=sortPriv% PySem.Builtin.mergeHi
section
variable{prog:Program}{w:World}{A:Around}{E:Value->Shared->Prop}{s:Shared}{κ:SortKind}{O:KeyOrd}{key:Keyed->O.α}{Good:Keyed->Prop}
def LtOk(prog:Program)(w:World)(A:Around)(E:Value->Shared->Prop)(s:Shared)(κ:SortKind)(O:KeyOrd)(key:Keyed->O.α)(Good:Keyed->Prop):Prop:=
 ∀x y,Good x->Good y->∀(Q:Option Bool->SortSt->Prop)(st:SortSt),kindOf st=κ->Q (some (O.blt (key x) (key y))) st->wpS (model prog w) A E s (lt' x y) Q st
def bnd(O:KeyOrd)(key:Keyed->O.α)(l:Bool)(k x:Keyed):Bool:=if l=true then O.blt (key x) (key k) else !(O.blt (key k) (key x))
theorem elem_ok{arr:Array Keyed}{i:Nat}{x:Keyed}{Q:Keyed->SortSt->Prop}{st:SortSt}(hx:arr[i]?=some x)(h:Q x st):wpS (model prog w) A E s (elem' arr i) Q st:=by
 rw[elem'_eq,hx];exact wpS_pure h
theorem beyond_ok{l:Bool}{k x:Keyed}{arr:Array Keyed}{i:Nat}{Q:Option Bool->SortSt->Prop}{st:SortSt}(L:LtOk prog w A E s κ O key Good)(hk:Good k)(gx:Good x)(hx:arr[i]?=some x)(hst:kindOf st=κ)(h:Q (some (bnd O key l k x)) st) :
  wpS (model prog w) A E s (do let y <-elem' arr i;if l=true then lt' y k else do {let r <-lt' k y;pure (r.map λz=>!z)}) Q st:=by
 refine wpS_bind (elem_ok hx ?_);unfold bnd at h;cases l with
 | true=>
  rw[if_pos rfl] at h ⊢;exact L x k gx hk _ st hst h
 | false=>
  rw[if_neg Bool.false_ne_true] at h ⊢;exact wpS_bind (L k x hk gx _ st hst (wpS_pure h))
theorem bin_ok{n:Nat}{bb:Nat->Bool}{st:SortSt}{f:Nat->Option (Option Nat)×Nat×Nat->StateT SortSt Sem (ForInStep (Option (Option Nat)×Nat×Nat))}{Q:Option (Option Nat)×Nat×Nat->SortSt->Prop}
  (mono:∀i j,i<=j->j<n->bb j=true->bb i=true)
  (h1:∀x lo hi (R:ForInStep (Option (Option Nat)×Nat×Nat)->SortSt->Prop),hi<=lo->R (.done (none,lo,hi)) st->wpS (model prog w) A E s (f x (none,lo,hi)) R st)
  (h2:∀x lo hi (R:ForInStep (Option (Option Nat)×Nat×Nat)->SortSt->Prop),lo<hi->hi<=n->R (.yield (none,if bb (lo+(hi-lo) / 2)=true then lo+(hi-lo) / 2+1 else lo,if bb (lo+(hi-lo) / 2)=true then hi else lo+(hi-lo) / 2)) st->wpS (model prog w) A E s (f x (none,lo,hi)) R st)
  {lo hi:Nat} (hl:lo<=hi) (hh:hi<=n) (ha:∀i,i<lo->bb i=true) (hb:∀i,hi<=i->i<n->bb i=false)
  (h:∀lo r,r<=n->(∀i,i<r->bb i=true)->(∀i,r<=i->i<n->bb i=false)->Q (none,lo,r) st):wpS (model prog w) A E s (forIn [0:n] (none,lo,hi) f) Q st:=by
 refine wpS_forRange (I:=λi c st'=>st'=st/\∃lo hi,c=(none,lo,hi)/\lo<=hi/\hi<=n/\hi-lo+i<=n/\(∀i,i<lo->bb i=true)/\∀i,hi<=i->i<n->bb i=false) ?_ ?_ ⟨rfl,lo,hi,rfl,hl,hh,by omega,ha,hb⟩
 .rintro i c st' _ hi' ⟨rfl,lo,hi,rfl,hl,hh,hz,ha,hb⟩;by_cases e:hi<=lo
  .obtain rfl:lo=hi:=by omega
   exact h1 i lo lo _ e (h lo lo hh ha hb)
  .refine h2 i lo hi _ (by omega) hh ⟨rfl,_,_,rfl,?_⟩;cases q:bb (lo+(hi-lo) / 2) with
   | true=>
    rw[if_pos rfl,if_pos rfl];exact⟨by omega,hh,by omega,λj hj=>mono j _ (by omega) (by omega) q,hb⟩
   | false=>
    rw[if_neg Bool.false_ne_true,if_neg Bool.false_ne_true];refine⟨by omega,by omega,by omega,ha,λj hj hjn=>?_⟩;cases z:bb j with
    | false=>rfl
    | true=>rw[mono _ j hj hjn z] at q;cases q
 .rintro c st' ⟨rfl,lo,hi,rfl,hl,hh,hz,ha,hb⟩;obtain rfl:lo=hi:=by omega
  exact h lo lo hh ha hb
theorem gallop_ok{l:Bool}{k:Keyed}{arr:Array Keyed}{b n hint:Nat}{Q:Option Nat->SortSt->Prop}{st:SortSt}{bb:Nat->Bool}(L:LtOk prog w A E s κ O key Good)(hk:Good k)
  (hg:∀i,i<n->∃x,arr[b+i]?=some x/\Good x/\bnd O key l k x=bb i) (mono:∀i j,i<=j->j<n->bb j=true->bb i=true) (hh:hint<n) (hst:kindOf st=κ)
  (h:∀r,r<=n->(∀i,i<r->bb i=true)->(∀i,r<=i->i<n->bb i=false)->Q (some r) st):wpS (model prog w) A E s (gallop' l k arr b n hint) Q st:=by
 have down:∀i j,bb i=false->i<=j->j<n->bb j=false:=λi j hi hij hj=>by
  cases z:bb j with
  | false=>rfl
  | true=>rw[mono i j hij hj z] at hi;cases hi
 unfold gallop';obtain⟨x,hx,gx,ex⟩:=hg hint hh;refine wpS_bind (beyond_ok L hk gx hx hst ?_);rw[ex];dsimp only;cases q:bb hint with
 | true=>
  rw[if_pos rfl];refine wpS_bind (wpS_mono (wpS_forRange (I:=λi c st'=>st'=st/\∃last ofs,c=(none,last,ofs)/\hint+last<n/\bb (hint+last)=true/\last<ofs/\i+1<=ofs)
   (Q:=λc st'=>st'=st/\∃last ofs,c=(none,last,ofs)/\hint+last<n/\bb (hint+last)=true/\last<ofs/\(n-hint<=ofs\/(hint+ofs<n/\bb (hint+ofs)=false))) ?_ ?_ ⟨rfl,0,1,rfl,hh,q,by omega,by omega⟩) ?_)
  .rintro i c st' _ hi ⟨rfl,last,ofs,rfl,l1,l2,l3,l4⟩;dsimp only;by_cases e:ofs>=n-hint
   .rw[if_pos e];exact wpS_pure ⟨rfl,last,ofs,rfl,l1,l2,l3,.inl e⟩
   .rw[if_neg e];obtain⟨y,hy,gy,ey⟩:=hg (hint+ofs) (by omega);refine wpS_bind (beyond_ok L hk gy hy hst ?_);rw[ey];dsimp only;cases z:bb (hint+ofs) with
    | false=>exact wpS_pure ⟨rfl,last,ofs,rfl,l1,l2,l3,.inr ⟨by omega,z⟩⟩
    | true=>exact wpS_pure ⟨rfl,ofs,2*ofs+1,rfl,by omega,z,by omega,by omega⟩
  .rintro c st' ⟨rfl,last,ofs,rfl,l1,l2,l3,l4⟩;exact⟨rfl,last,ofs,rfl,l1,l2,l3,.inl (by omega)⟩
  .rintro c st' ⟨rfl,last,ofs,rfl,l1,l2,l3,l4⟩;dsimp only;refine wpS_bind (bin_ok (bb:=bb) mono ?_ ?_ (by omega) (by omega) (λi hi=>mono i _ (by omega) l1 l2) (λi hi hin=>?_) λlo r r1 r2 r3=>?_)
   .intro x lo hi R hle hR;dsimp only;rw[if_pos hle];exact wpS_pure hR
   .intro x lo hi R hlt hn hR;dsimp only;rw[if_neg (by omega)];obtain⟨y,hy,gy,ey⟩:=hg (lo+(hi-lo) / 2) (by omega);refine wpS_bind (beyond_ok L hk gy hy hst ?_);rw[ey];dsimp only;cases z:bb (lo+(hi-lo) / 2) with
    | false=>
     rw[z] at hR;exact wpS_pure hR
    | true=>
     rw[z] at hR;exact wpS_pure hR
   .rcases l4 with l4|⟨l4,l5⟩
    .omega
    .exact down (hint+ofs) i l5 (by omega) hin
   .exact wpS_pure (h r r1 r2 r3)
 | false=>
  rw[if_neg Bool.false_ne_true];refine wpS_bind (wpS_mono (wpS_forRange (I:=λi c st'=>st'=st/\∃last ofs,c=(none,last,ofs)/\last<=hint/\bb (hint-last)=false/\last<ofs/\i+1<=ofs)
   (Q:=λc st'=>st'=st/\∃last ofs,c=(none,last,ofs)/\last<=hint/\bb (hint-last)=false/\last<ofs/\(hint+1<=ofs\/(ofs<=hint/\bb (hint-ofs)=true))) ?_ ?_ ⟨rfl,0,1,rfl,by omega,q,by omega,by omega⟩) ?_)
  .rintro i c st' _ hi ⟨rfl,last,ofs,rfl,l1,l2,l3,l4⟩;dsimp only;by_cases e:ofs>=hint+1
   .rw[if_pos e];exact wpS_pure ⟨rfl,last,ofs,rfl,l1,l2,l3,.inl e⟩
   .rw[if_neg e];obtain⟨y,hy,gy,ey⟩:=hg (hint-ofs) (by omega);refine wpS_bind (beyond_ok L hk gy hy hst ?_);rw[ey];dsimp only;cases z:bb (hint-ofs) with
    | true=>exact wpS_pure ⟨rfl,last,ofs,rfl,l1,l2,l3,.inr ⟨by omega,z⟩⟩
    | false=>exact wpS_pure ⟨rfl,ofs,2*ofs+1,rfl,by omega,z,by omega,by omega⟩
  .rintro c st' ⟨rfl,last,ofs,rfl,l1,l2,l3,l4⟩;exact⟨rfl,last,ofs,rfl,l1,l2,l3,.inl (by omega)⟩
  .rintro c st' ⟨rfl,last,ofs,rfl,l1,l2,l3,l4⟩;dsimp only;refine wpS_bind (bin_ok (bb:=bb) mono ?_ ?_ (by omega) (by omega) (λi hi=>?_) (λi hi hin=>down _ i l2 (by omega) hin) λlo r r1 r2 r3=>?_)
   .intro x lo hi R hle hR;dsimp only;rw[if_pos hle];exact wpS_pure hR
   .intro x lo hi R hlt hn hR;dsimp only;rw[if_neg (by omega)];obtain⟨y,hy,gy,ey⟩:=hg (lo+(hi-lo) / 2) (by omega);refine wpS_bind (beyond_ok L hk gy hy hst ?_);rw[ey];dsimp only;cases z:bb (lo+(hi-lo) / 2) with
    | false=>
     rw[z] at hR;exact wpS_pure hR
    | true=>
     rw[z] at hR;exact wpS_pure hR
   .rcases l4 with l4|⟨l4,l5⟩
    .omega
    .exact mono i (hint-ofs) (by omega) (by omega) l5
   .exact wpS_pure (h r r1 r2 r3)
end
section
variable{O:KeyOrd}{key:Keyed->O.α}
def Le(O:KeyOrd)(key:Keyed->O.α)(x y:Keyed):Prop:=O.kle (key x) (key y)
theorem Le.trans{x y z:Keyed}(h:Le O key x y)(k:Le O key y z):Le O key x z:=KeyOrd.kle_trans h k
theorem le_of_lt{x y:Keyed}(h:O.blt (key x) (key y)=true):Le O key x y:=KeyOrd.kle_of_klt h
theorem le_of_nlt{x y:Keyed}(h:O.blt (key x) (key y)=false):Le O key y x:=h
structure Mg(O:KeyOrd)(key:Keyed->O.α)(al bl:List Keyed)(out:Array Keyed)(ia ib:Nat):Prop where
 perm:out.toList.Perm (al.take ia++bl.take ib)
 srt:out.toList.Pairwise (Le O key)
 ale:∀x∈out.toList,∀y∈al.drop ia,Le O key x y
 ble:∀x∈out.toList,∀y∈bl.drop ib,Le O key x y
variable{al bl:List Keyed}{out:Array Keyed}{ia ib:Nat}
theorem take_add(l:List Keyed)(i k:Nat):l.take (i+k)=l.take i++(l.drop i).take k:=by
 rw[List.take_add]
theorem drop_add'(l:List Keyed)(i k:Nat):l.drop (i+k)=(l.drop i).drop k:=by rw[List.drop_drop]
theorem Mg.app{k:Nat}{more:Array Keyed}(M:Mg O key al bl out ia ib)(sa:al.Pairwise (Le O key))(hm:more.toList=(al.drop ia).take k)(h:∀x∈(al.drop ia).take k,∀y∈bl.drop ib,Le O key x y):Mg O key al bl (out++more) (ia+k) ib:=by
 have sd:(al.drop ia).Pairwise (Le O key):=sa.sublist (List.drop_sublist _ _);have sp:(al.drop ia).take k++(al.drop ia).drop k=al.drop ia:=List.take_append_drop _ _;have sc:=sd;rw[<-sp,List.pairwise_append] at sc;refine⟨?_,?_,λx hx y hy=>?_,λx hx y hy=>?_⟩
 .rw[Array.toList_append,hm,take_add];refine(M.perm.append_right _).trans ?_;rw[List.append_assoc,List.append_assoc];exact List.Perm.append_left _ List.perm_append_comm
 .rw[Array.toList_append,hm,List.pairwise_append];exact⟨M.srt,sc.1,λx hx y hy=>M.ale x hx y (List.mem_of_mem_take hy)⟩
 .rw[drop_add'] at hy;rw[Array.toList_append,hm] at hx;rcases List.mem_append.mp hx with hx|hx
  .exact M.ale x hx y (List.mem_of_mem_drop hy)
  .exact sc.2.2 x hx y hy
 .rw[Array.toList_append,hm] at hx;rcases List.mem_append.mp hx with hx|hx
  .exact M.ble x hx y hy
  .exact h x hx y hy
theorem Mg.swap(M:Mg O key al bl out ia ib):Mg O key bl al out ib ia:=⟨M.perm.trans List.perm_append_comm,M.srt,M.ble,M.ale⟩
theorem Mg.push{x:Keyed}(M:Mg O key al bl out ia ib)(sa:al.Pairwise (Le O key))(hx:al[ia]?=some x)(h:∀y∈bl.drop ib,Le O key x y):Mg O key al bl (out.push x) (ia+1) ib:=by
 have e:(al.drop ia).take 1=[x]:=by
  obtain⟨hi,ex⟩:=List.getElem?_eq_some_iff.mp hx;rw[List.drop_eq_getElem_cons hi,ex];rfl
 have:=M.app (k:=1) (more:=#[x]) sa (by rw[e]) (by rw[e];intro z hz y hy;rw[List.mem_singleton] at hz;subst hz;exact h y hy)
 rwa [Array.append_singleton] at this
def Done(O:KeyOrd)(key:Keyed->O.α)(al bl:List Keyed)(r:Array Keyed):Prop:=r.toList.Perm (al++bl)/\r.toList.Pairwise (Le O key)
theorem Mg.fin{xs ys:Array Keyed}(M:Mg O key al bl out ia ib)(sa:al.Pairwise (Le O key))(sb:bl.Pairwise (Le O key))(hx:xs.toList=al.drop ia)(hy:ys.toList=bl.drop ib)(h:∀x∈al.drop ia,∀y∈bl.drop ib,Le O key x y):Done O key al bl (out++xs++ys):=by
 constructor
 .rw[Array.toList_append,Array.toList_append,hx,hy];have e1:al.Perm (al.take ia++al.drop ia):=by rw[List.take_append_drop]
  have e2:bl.Perm (bl.take ib++bl.drop ib):=by rw[List.take_append_drop]
  refine((M.perm.append_right _).append_right _).trans ?_;refine List.Perm.trans ?_ (e1.append e2).symm;rw[List.append_assoc,List.append_assoc,List.append_assoc];refine List.Perm.append_left _ ?_;rw[<-List.append_assoc,<-List.append_assoc];exact List.Perm.append_right _ List.perm_append_comm
 .rw[Array.toList_append,Array.toList_append,hx,hy,List.pairwise_append,List.pairwise_append];refine⟨⟨M.srt,sa.sublist (List.drop_sublist _ _),M.ale⟩,sb.sublist (List.drop_sublist _ _),λx hx y hy=>?_⟩;rcases List.mem_append.mp hx with hx|hx
  .exact M.ble x hx y hy
  .exact h x hx y hy
theorem Done.swap{r:Array Keyed}(D:Done O key bl al r):Done O key al bl r:=⟨D.1.trans List.perm_append_comm,D.2⟩
theorem ext_drop(a:Array Keyed)(i:Nat):(a.extract i a.size).toList=a.toList.drop i:=by
 rw[Array.toList_extract,List.extract_eq_take_drop];rw[List.take_of_length_le (by rw[List.length_drop,Array.length_toList];exact Nat.le_refl _)]
theorem ext_take(a:Array Keyed)(i k:Nat):(a.extract i (i+k)).toList=(a.toList.drop i).take k:=by
 rw[Array.toList_extract,List.extract_eq_take_drop,Nat.add_sub_cancel_left]
theorem drop_nil{l:List Keyed}{i:Nat}(h:l.length<=i):∀x∈l.drop i,False:=λx hx=>by
 rw[List.drop_of_length_le h] at hx;cases hx
theorem drop_at{l:List Keyed}{i:Nat}{x:Keyed}(h:x∈l.drop i):∃j,i<=j/\l[j]?=some x:=by
 obtain⟨j,hj,e⟩:=List.getElem_of_mem h;rw[List.length_drop] at hj;refine⟨i+j,by omega,?_⟩;rw[<-e];simp
theorem take_at{l:List Keyed}{i k:Nat}{x:Keyed}(h:x∈(l.drop i).take k):∃j,j<k/\l[i+j]?=some x:=by
 obtain⟨j,hj,e⟩:=List.getElem_of_mem h;rw[List.length_take,List.length_drop] at hj;refine⟨j,by omega,?_⟩;rw[<-e];simp
theorem le_at{l:List Keyed}(sl:l.Pairwise (Le O key)){i j:Nat}{x y:Keyed}(hx:l[i]?=some x)(hy:l[j]?=some y)(h:i<=j):Le O key x y:=by
 by_cases e:i=j
 .subst e;rw[hx] at hy;cases hy;exact KeyOrd.kle_refl _
 .obtain⟨h1,e1⟩:=List.getElem?_eq_some_iff.mp hx;obtain⟨h2,e2⟩:=List.getElem?_eq_some_iff.mp hy;rw[List.pairwise_iff_getElem] at sl;have:=sl i j h1 h2 (by omega);rw[e1,e2] at this;exact this
end
section
variable{prog:Program}{w:World}{A:Around}{E:Value->Shared->Prop}{s:Shared}{κ:SortKind}{O:KeyOrd}{key:Keyed->O.α}{Good:Keyed->Prop}
structure Sm(κ:SortKind)(st st':SortSt):Prop where
 kind:kindOf st'=κ
 arr:arrOf st'=arrOf st
 pend:pendingOf st'=pendingOf st
 fail:failedOf st'=failedOf st
theorem arr_at{a:Array Keyed}{i:Nat}(h:i<a.size):∃x,a[i]?=some x/\a.toList[i]?=some x:=⟨a[i],by simp[h],by simp[h]⟩
theorem gal_right{a:Array Keyed}{ia:Nat}{y:Keyed}{Q:Option Nat->SortSt->Prop}{st:SortSt}(L:LtOk prog w A E s κ O key Good)(ga:∀x∈a.toList,Good x)(gy:Good y)(sa:a.toList.Pairwise (Le O key))(hi:ia<a.size)(hst:kindOf st=κ)
  (h:∀k,ia+k<=a.size->(∀x∈(a.toList.drop ia).take k,Le O key x y)->(∀x∈a.toList.drop (ia+k),Le O key y x)->Q (some k) st):wpS (model prog w) A E s (gallop' false y a ia (a.size-ia) 0) Q st:=by
 have at_:∀i,i<a.size-ia->∃x,a[ia+i]?=some x/\a.toList[ia+i]?=some x:=λi hi=>arr_at (by omega);have key':∀i,i<a.size-ia->∃x,a[ia+i]?=some x/\Good x/\bnd O key false y x=(match a[ia+i]? with|some x=>!(O.blt (key y) (key x))|none=>false):=λi hi=>by
  obtain⟨x,h1,h2⟩:=at_ i hi;refine⟨x,h1,ga x (List.mem_of_getElem? h2),?_⟩;rw[h1];rfl
 refine gallop_ok (bb:=λi=>match a[ia+i]? with|some x=>!(O.blt (key y) (key x))|none=>false) L gy key' (λi j hij hj hb=>?_) (by omega) hst λr r1 r2 r3=>h r (by omega) (λx hx=>?_) (λx hx=>?_)
 .obtain ⟨x,h1,h2⟩:=at_ i (by omega);obtain⟨z,h3,h4⟩:=at_ j hj;simp only[h1,h3] at hb ⊢;have lz:Le O key z y:=by
   have:O.blt (key y) (key z)=false:=by simpa using hb
   exact this
  have:Le O key x y:=(le_at sa h2 h4 (by omega)).trans lz;have:O.blt (key y) (key x)=false:=this;rw[this];rfl
 .obtain⟨j,hj,ej⟩:=take_at hx;have:=r2 j hj;have e:a[ia+j]?=some x:=by simpa using ej
  simp only[e] at this;have:O.blt (key y) (key x)=false:=by simpa using this
  exact this
 .obtain⟨j,hj,ej⟩:=drop_at hx;have hjl:j<a.size:=by have:=(List.getElem?_eq_some_iff.mp ej).1;simpa using this
  have e:a[ia+(j-ia)]?=some x:=by rw[show ia+(j-ia)=j by omega];simpa using ej
  have:=r3 (j-ia) (by omega) (by omega);simp only[e] at this;have:O.blt (key y) (key x)=true:=by simpa using this
  exact le_of_lt this
theorem gal_left{b:Array Keyed}{ib:Nat}{x:Keyed}{Q:Option Nat->SortSt->Prop}{st:SortSt}(L:LtOk prog w A E s κ O key Good)(gb:∀x∈b.toList,Good x)(gx:Good x)(sb:b.toList.Pairwise (Le O key))(hi:ib<b.size)(hst:kindOf st=κ)
  (h:∀k,ib+k<=b.size->(∀y∈(b.toList.drop ib).take k,Le O key y x)->(∀y∈b.toList.drop (ib+k),Le O key x y)->Q (some k) st):wpS (model prog w) A E s (gallop' true x b ib (b.size-ib) 0) Q st:=by
 have at_:∀i,i<b.size-ib->∃x,b[ib+i]?=some x/\b.toList[ib+i]?=some x:=λi hi=>arr_at (by omega);have key':∀i,i<b.size-ib->∃y,b[ib+i]?=some y/\Good y/\bnd O key true x y=(match b[ib+i]? with|some y=>O.blt (key y) (key x)|none=>false):=λi hi=>by
  obtain⟨y,h1,h2⟩:=at_ i hi;refine⟨y,h1,gb y (List.mem_of_getElem? h2),?_⟩;rw[h1];rfl
 refine gallop_ok (bb:=λi=>match b[ib+i]? with|some y=>O.blt (key y) (key x)|none=>false) L gx key' (λi j hij hj hb=>?_) (by omega) hst λr r1 r2 r3=>h r (by omega) (λy hy=>?_) (λy hy=>?_)
 .obtain⟨y,h1,h2⟩:=at_ i (by omega);obtain⟨z,h3,h4⟩:=at_ j hj;simp only[h1,h3] at hb ⊢;exact KeyOrd.klt_of_kle_of_klt (le_at sb h2 h4 (by omega)) hb
 .obtain⟨j,hj,ej⟩:=take_at hy;have:=r2 j hj;have e:b[ib+j]?=some y:=by simpa using ej
  simp only[e] at this;exact le_of_lt this
 .obtain⟨j,hj,ej⟩:=drop_at hy;have hjl:j<b.size:=by have:=(List.getElem?_eq_some_iff.mp ej).1;simpa using this
  have e:b[ib+(j-ib)]?=some y:=by rw[show ib+(j-ib)=j by omega];simpa using ej
  have:=r3 (j-ib) (by omega) (by omega);simp only[e] at this;exact this
structure Cu(O:KeyOrd)(key:Keyed->O.α)(a b:Array Keyed)(out:Array Keyed)(ia ib:Nat):Prop where
 mg:Mg O key a.toList b.toList out ia ib
 la:ia+1<a.size
 lb:ib<b.size
abbrev Fi(O:KeyOrd)(key:Keyed->O.α)(a b r:Array Keyed):Prop:=Done O key a.toList b.toList r
section
variable{a b out:Array Keyed}{ia ib:Nat}
theorem fin_b(M:Mg O key a.toList b.toList out ia ib)(sa:a.toList.Pairwise (Le O key))(sb:b.toList.Pairwise (Le O key))(h:(ib==b.size)=true):Fi O key a b (out++a.extract ia a.size++b.extract ib b.size):=
 M.fin sa sb (ext_drop _ _) (ext_drop _ _) λ_ _ y hy=>(drop_nil (by rw[Array.length_toList];exact Nat.le_of_eq (beq_iff_eq.mp h).symm) y hy).elim
theorem fin_a(M:Mg O key a.toList b.toList out ia ib)(sa:a.toList.Pairwise (Le O key))(sb:b.toList.Pairwise (Le O key))(h:(ia==a.size)=true):Fi O key a b (out++a.extract ia a.size++b.extract ib b.size):=
 M.fin sa sb (ext_drop _ _) (ext_drop _ _) λx hx _ _=>(drop_nil (by rw[Array.length_toList];exact Nat.le_of_eq (beq_iff_eq.mp h).symm) x hx).elim
theorem fin_last(M:Mg O key a.toList b.toList out ia ib)(sa:a.toList.Pairwise (Le O key))(sb:b.toList.Pairwise (Le O key))(hl:∀y∈b.toList,∀x,a.toList[a.size-1]?=some x->Le O key y x)(h:(ia+1==a.size)=true) :
  Fi O key a b (out++b.extract ib b.size++a.extract ia a.size):=by
 refine(M.swap.fin sb sa (ext_drop _ _) (ext_drop _ _) λy hy x hx=>?_).swap;obtain⟨j,hj,ej⟩:=drop_at hx;have hjl:j<a.size:=by have:=(List.getElem?_eq_some_iff.mp ej).1;simpa using this
 have h:=beq_iff_eq.mp h;exact hl y (List.mem_of_mem_drop hy) x (by rw[show a.size-1=j by omega];exact ej)
end
theorem ite_ok{α:Type}{c:Prop}[Decidable c]{m1 m2:StateT SortSt Sem α}{Q:α->SortSt->Prop}{st:SortSt}(h1:c->wpS (model prog w) A E s m1 Q st)(h2:¬c->wpS (model prog w) A E s m2 Q st):wpS (model prog w) A E s (if c then m1 else m2) Q st:=by
 by_cases h:c
 .rw[if_pos h];exact h1 h
 .rw[if_neg h];exact h2 h
theorem ext_zero(a:Array Keyed)(i:Nat):a.extract i (i+0)=#[]:=by
 apply Array.ext';rw[ext_take,List.take_zero]
theorem ne_of_beq{m n:Nat}(h:¬(m==n)=true):m≠n:=λz=>h (beq_iff_eq.mpr z)
theorem go{G:Prop}(k:∀G':Prop,(G->G')->G'):G:=k G id
theorem iteT{α:Type}{c:Prop}[Decidable c]{m1 m2:StateT SortSt Sem α}{Q:α->SortSt->Prop}{st:SortSt}(h:c)(h1:wpS (model prog w) A E s m1 Q st):wpS (model prog w) A E s (if c then m1 else m2) Q st:=by rw[if_pos h];exact h1
theorem iteF{α:Type}{c:Prop}[Decidable c]{m1 m2:StateT SortSt Sem α}{Q:α->SortSt->Prop}{st:SortSt}(h:¬c)(h1:wpS (model prog w) A E s m2 Q st):wpS (model prog w) A E s (if c then m1 else m2) Q st:=by rw[if_neg h];exact h1
theorem bindFor{σ β γ:Type}{a b:Nat}{f:Nat->β->StateT σ Sem (ForInStep β)}{k:β->StateT σ Sem γ}{R:γ->σ->Prop}{c:β}{st:σ}(I:Nat->β->σ->Prop)(Q:β->σ->Prop)
  (step:∀(i:Nat)(c:β)(st:σ),a<=i->i<b->I i c st->wpS (model prog w) A E s (f i c) (λr st'=>match r with|ForInStep.done c'=>Q c' st' | ForInStep.yield c'=>I (i+1) c' st') st)
  (fin:∀(c:β)(st:σ),I (max a b) c st->Q c st) (h0:I a c st) (post:∀(c:β)(st':σ),Q c st'->wpS (model prog w) A E s (k c) R st'):wpS (model prog w) A E s (forIn [a:b] c f >>= k) R st:=wpS_bind (wpS_mono (wpS_forRange I step fin h0) post)
theorem ite_two{α:Type}{c:Prop}[Decidable c]{m:Nat->StateT SortSt Sem α}{x y:Nat}{Q:α->SortSt->Prop}{st:SortSt}(h:∀z,wpS (model prog w) A E s (m z) Q st):wpS (model prog w) A E s (if c then m x else m y) Q st:=ite_ok (λ_=>h _) (λ_=>h _)
theorem join2{α:Type}{jp:PUnit->Array Keyed->Nat->StateT SortSt Sem α}{m:StateT SortSt Sem α}{Q:α->SortSt->Prop}{st:SortSt}(I:Array Keyed->Nat->Prop)(hj:∀o i,I o i->wpS (model prog w) A E s (jp () o i) Q st)(h:(∀o i,I o i->wpS (model prog w) A E s (jp () o i) Q st)->wpS (model prog w) A E s m Q st):wpS (model prog w) A E s m Q st:=h hj
theorem mergeLo_ok{a b:Array Keyed}{st:SortSt}{Q:Array Keyed->SortSt->Prop}(L:LtOk prog w A E s κ O key Good)(ga:∀x∈a.toList,Good x)(gb:∀x∈b.toList,Good x)(sa:a.toList.Pairwise (Le O key))(sb:b.toList.Pairwise (Le O key))
  (na:0<a.size) (nb:0<b.size) (hf:∀x,a.toList[0]?=some x->∀y,b.toList[0]?=some y->Le O key y x) (hl:∀y∈b.toList,∀x,a.toList[a.size-1]?=some x->Le O key y x) (hst:kindOf st=κ)
  (h:∀r st',Fi O key a b r->Sm κ st st'->Q r st'):wpS (model prog w) A E s (mergeLo' a b) Q st:=by
 unfold mergeLo';refine wpS_bind (wpS_lift (wpAny_rule ⟨rfl,?_⟩))
 try dsimp -zeta only
 obtain⟨y0,hy0,ly0⟩:=arr_at nb;have s0:Sm κ st st:=⟨hst,rfl,rfl,rfl⟩;have la0:∀x∈a.toList.drop 0,Le O key y0 x:=λx hx=>by
  obtain⟨j,_,ej⟩:=drop_at hx;obtain⟨x0,_,lx0⟩:=arr_at na;exact(hf x0 lx0 y0 ly0).trans (le_at sa lx0 ej (Nat.zero_le _))
 have M0:Mg O key a.toList b.toList #[y0] 0 1:=by
  have:Mg O key b.toList a.toList #[] 0 0:=⟨by simp,by simp,λx hx=>(by simp at hx),λx hx=>(by simp at hx)⟩;have:=(this.push sb ly0 la0).swap;simpa using this
 refine wpS_bind (elem_ok hy0 ?_);refine ite_ok (λe1=>?_) (λe1=>?_)
 .skip
  exact wpS_pure (h _ _ (fin_b M0 sa sb e1) s0)
 skip
 refine ite_ok (λe2=>?_) (λe2=>?_)
 .skip
  exact wpS_pure (h _ _ (fin_last M0 sa sb hl e2) s0)
 skip
 have e1':1≠b.size:=λz=>e1 (beq_iff_eq.mpr z);have e2':0+1≠a.size:=λz=>e2 (beq_iff_eq.mpr z);refine wpS_bind (wpS_get ?_);refine bindFor
  (I:=λi c st'=>Sm κ st st'/\∃out ia ib g,c=(none,out,ia,ib,g)/\Cu O key a b out ia ib/\i+1<=ia+ib)
  (Q:=λc st'=>Sm κ st st'/\∃r out ia ib g,c=(some r,out,ia,ib,g)/\Fi O key a b r) ?step ?fin ⟨s0,_,_,_,_,rfl,⟨M0,by omega,by omega⟩,by omega⟩ ?post
 case post=>
  intro c st' hh;refine go λ_ bk0=>?_;obtain⟨s1,r,out,ia,ib,g,rfl,F⟩:=hh;refine bk0 ?_;exact wpS_pure (h r st' F s1)
 case fin=>
  intro c st' hh;refine go λ_ bk0=>?_;obtain⟨s1,out,ia,ib,g,rfl,C,hz⟩:=hh;refine bk0 ?_;exfalso;have:=C.la;have:=C.lb;omega
 case step=>
  intro i c st' _ _ hh;refine go λ_ bk0=>?_;obtain⟨s1,out,ia,ib,g,rfl,C,hz⟩:=hh;refine bk0 ?_
  try dsimp -zeta only
  refine bindFor
   (I:=λ_ c st'=>Sm κ st st'/\∃out ia ib ac bc,c=(none,out,ia,ib,ac,bc)/\Cu O key a b out ia ib/\i+1<=ia+ib)
   (Q:=λc st'=>Sm κ st st'/\((∃r out ia ib ac bc,c=(some r,out,ia,ib,ac,bc)/\Fi O key a b r)\/∃out ia ib ac bc,c=(none,out,ia,ib,ac,bc)/\Cu O key a b out ia ib/\i+1<=ia+ib)) ?step1 ?fin1 ⟨s1,_,_,_,_,_,rfl,C,hz⟩ ?post1
  case fin1=>exact λc st' h=>⟨h.1,.inr h.2⟩
  case step1=>
   intro j c st2 _ _ hh;refine go λ_ bk0=>?_;obtain⟨s2,out,ia,ib,ac,bc,rfl,C,hz⟩:=hh;refine bk0 ?_
   try dsimp -zeta only
   obtain⟨y,hy,ly⟩:=arr_at C.lb;obtain⟨x,hx,lx⟩:=arr_at (show ia<a.size by have:=C.la;omega);have la:=C.la;have lb:=C.lb;refine wpS_bind (elem_ok hy (wpS_bind (elem_ok hx (wpS_bind (L y x (gb y (List.mem_of_getElem? ly)) (ga x (List.mem_of_getElem? lx)) _ _ s2.kind ?_)))));cases q:O.blt (key y) (key x) with
   | true=>
    try dsimp -zeta only
    refine iteT rfl ?_;refine wpS_bind (elem_ok hy ?_);have M1:=(C.mg.swap.push sb ly λz hz=>by
     obtain⟨j,hj,ej⟩:=drop_at hz;exact(le_of_lt q).trans (le_at sa lx ej hj)).swap
    refine ite_ok (λf1=>?_) (λf1=>?_)
    .skip
     exact wpS_pure ⟨s2,.inl ⟨_,_,_,_,_,_,rfl,fin_b M1 sa sb f1⟩⟩
    .skip
     have f1':ib+1≠b.size:=λz=>f1 (beq_iff_eq.mpr z);have C1:Cu O key a b (out.push y) ia (ib+1):=⟨M1,la,by omega⟩
     first|refine ite_ok (λ_=>?_) (λ_=>?_)|split
     .exact wpS_pure ⟨s2,.inr ⟨_,_,_,_,_,rfl,C1,by omega⟩⟩
     .exact wpS_pure ⟨s2,_,_,_,_,_,rfl,C1,by omega⟩
   | false=>
    try dsimp -zeta only
    refine iteF Bool.false_ne_true ?_;refine wpS_bind (elem_ok hx ?_);have M1:=C.mg.push sa lx λz hz=>by
     obtain⟨j,hj,ej⟩:=drop_at hz;exact(le_of_nlt q).trans (le_at sb ly ej hj)
    refine ite_ok (λf1=>?_) (λf1=>?_)
    .skip
     exact wpS_pure ⟨s2,.inl ⟨_,_,_,_,_,_,rfl,fin_last M1 sa sb hl f1⟩⟩
    .skip
     have f1':ia+1+1≠a.size:=λz=>f1 (beq_iff_eq.mpr z);have C1:Cu O key a b (out.push x) (ia+1) ib:=⟨M1,by omega,lb⟩
     first|refine ite_ok (λ_=>?_) (λ_=>?_)|split
     .exact wpS_pure ⟨s2,.inr ⟨_,_,_,_,_,rfl,C1,by omega⟩⟩
     .exact wpS_pure ⟨s2,_,_,_,_,_,rfl,C1,by omega⟩
  case post1=>
   intro c st2 hh;refine go λ_ bk0=>?_;obtain⟨s2,⟨r,out,ia,ib,ac,bc,rfl,F⟩|⟨out,ia,ib,ac,bc,rfl,C,hz⟩⟩:=hh
   all_goals refine bk0 ?_
   .exact wpS_pure ⟨s2,r,_,_,_,_,rfl,F⟩
   try dsimp -zeta only
   refine wpS_bind (wpS_lift (wpAny_rule ⟨rfl,?_⟩));refine bindFor
    (I:=λj c st'=>Sm κ st st'/\∃out ia ib g ac bc,c=(none,out,ia,ib,g,ac,bc)/\Cu O key a b out ia ib/\i+1+j<=ia+ib)
    (Q:=λc st'=>Sm κ st st'/\((∃r out ia ib g ac bc,c=(some r,out,ia,ib,g,ac,bc)/\Fi O key a b r)\/∃out ia ib g ac bc,c=(none,out,ia,ib,g,ac,bc)/\Cu O key a b out ia ib/\i+2<=ia+ib)) ?step2 ?fin2 ⟨s2,_,_,_,_,_,_,rfl,C,hz⟩ ?post2
   case fin2=>
    intro c st' hh;refine go λ_ bk0=>?_;obtain⟨s3,out,ia,ib,g,ac,bc,rfl,C,hz⟩:=hh;refine bk0 ?_;exact⟨s3,.inr ⟨_,_,_,_,_,_,rfl,C,by omega⟩⟩
   case post2=>
    intro c st3 hh;refine go λ_ bk0=>?_;obtain⟨s3,⟨r,out,ia,ib,g,ac,bc,rfl,F⟩|⟨out,ia,ib,g,ac,bc,rfl,C,hz⟩⟩:=hh
    all_goals refine bk0 ?_
    .exact wpS_pure ⟨s3,r,_,_,_,_,rfl,F⟩
    .dsimp only;refine wpS_bind (wpS_modify ?_);exact wpS_pure ⟨⟨s3.kind,s3.arr,s3.pend,s3.fail⟩,_,_,_,_,rfl,C,by omega⟩
   case step2=>
    intro j c st3 _ _ hh;refine go λ_ bk0=>?_;obtain⟨s3,out,ia,ib,g,ac,bc,rfl,C,hz⟩:=hh;refine bk0 ?_;obtain⟨y,hy,ly⟩:=arr_at C.lb;have la:=C.la;have lb:=C.lb;have gy:=gb y (List.mem_of_getElem? ly)
    try dsimp -zeta only
    extract_lets u0 u1 u2 u3 u4 u5 u6 u7 u8 u9 u10 v1 jp v2
    refine ite_two (m:=jp ()) (λmg=>?_);dsimp -zeta only [jp];clear jp v2;refine wpS_bind (wpS_modify ?_);refine wpS_bind (elem_ok hy ?_);refine wpS_bind (gal_right L ga gy sa (show ia<a.size from Nat.lt_of_succ_lt la) s3.kind λk hk k1 k2=>?_)
    try dsimp -zeta only
    extract_lets ac2 jp2 out2 ia2
    have M1:Mg O key a.toList b.toList (out++a.extract ia (ia+k)) (ia+k) ib:=C.mg.app sa (ext_take _ _ _) λx hx z hz=>by
     obtain⟨j,hj,ej⟩:=drop_at hz;exact(k1 x hx).trans (le_at sb ly ej hj)
    refine join2 (jp:=jp2) (λo i'=>Mg O key a.toList b.toList o i' ib/\(∀x∈a.toList.drop i',Le O key y x)/\i'+1<a.size/\ia<=i') (λo i' hI=>?rest) (λhj=>?here)
    case here=>
     refine ite_ok (λhk0=>ite_ok (λf1=>wpS_pure ⟨⟨s3.kind,s3.arr,s3.pend,s3.fail⟩,.inl ⟨_,_,_,_,_,_,_,rfl,fin_last M1 sa sb hl f1⟩⟩) (λf1=>ite_ok (λf2=>wpS_pure ⟨⟨s3.kind,s3.arr,s3.pend,s3.fail⟩,.inl ⟨_,_,_,_,_,_,_,rfl,fin_a M1 sa sb f2⟩⟩) (λf2=>hj _ _ ⟨M1,k2,?_,Nat.le_add_right _ _⟩))) (λhk0=>?_)
     .have:=ne_of_beq f1;have:=ne_of_beq f2;show ia+k+1<a.size;have h1:ia2=ia+k:=rfl;omega
     .obtain rfl:k=0:=by omega
      rw[ext_zero,Array.append_empty] at M1;exact hj _ _ ⟨M1,k2,la,Nat.le_refl _⟩
    clear hk k1 k2 M1;dsimp -zeta only [jp2];clear jp2 out2 ia2;obtain⟨MI,kI,lI,leI⟩:=hI;have M2:=(MI.swap.push sb ly kI).swap;refine wpS_bind (elem_ok hy ?_)
    try dsimp -zeta only
    extract_lets out3
    refine ite_ok (λf3=>wpS_pure ⟨⟨s3.kind,s3.arr,s3.pend,s3.fail⟩,.inl ⟨_,_,_,_,_,_,_,rfl,fin_b M2 sa sb f3⟩⟩) (λf3=>?_);have lb1:ib+1<b.size:=by
     have:=ne_of_beq f3;have h1:v1=ib+1:=rfl;omega
    obtain⟨x,hx,lx⟩:=arr_at (Nat.lt_of_succ_lt lI);have gx:=ga x (List.mem_of_getElem? lx);refine wpS_bind (elem_ok hx ?_);refine wpS_bind (gal_left L gb gx sb lb1 s3.kind λk' hk' k1' k2'=>?_)
    try dsimp -zeta only
    extract_lets bc3 jp3 out4 ib4
    have M3:=(M2.swap.app (k:=k') (more:=b.extract (ib+1) (ib+1+k')) sb (ext_take _ _ _) λz hz u hu=>by
     obtain⟨j,hj,ej⟩:=drop_at hu;exact(k1' z hz).trans (le_at sa lx ej hj)).swap
    refine join2 (jp:=jp3) (λo i2=>Mg O key a.toList b.toList o i' i2/\(∀y∈b.toList.drop i2,Le O key x y)/\i2<b.size/\ib+1<=i2) (λo i2 hI=>?rest2) (λhj=>?here2)
    case here2=>
     refine ite_ok (λh1=>ite_ok (λf4=>wpS_pure ⟨⟨s3.kind,s3.arr,s3.pend,s3.fail⟩,.inl ⟨_,_,_,_,_,_,_,rfl,fin_b M3 sa sb f4⟩⟩) (λf4=>hj _ _ ⟨M3,k2',?_,Nat.le_add_right _ _⟩)) (λh1=>?_)
     .have:=ne_of_beq f4;have h1:ib4=ib+1+k':=rfl;show ib+1+k'<b.size;omega
     .obtain rfl:k'=0:=by omega
      rw[ext_zero,Array.append_empty] at M3;exact hj _ _ ⟨M3,k2',lb1,Nat.le_refl _⟩
    clear hk' k1' k2' M3 M2;dsimp -zeta only [jp3];clear jp3 out4 ib4;obtain⟨MI2,kI2,lI2,leI2⟩:=hI;have M4:=MI2.push sa lx kI2;refine wpS_bind (elem_ok hx ?_)
    try dsimp -zeta only
    extract_lets out5 ia5
    refine ite_ok (λf5=>wpS_pure ⟨⟨s3.kind,s3.arr,s3.pend,s3.fail⟩,.inl ⟨_,_,_,_,_,_,_,rfl,fin_last M4 sa sb hl f5⟩⟩) (λf5=>?_);have f5':i'+1+1≠a.size:=ne_of_beq f5;have C5:Cu O key a b (o.push x) (i'+1) i2:=⟨M4,by omega,lI2⟩;exact ite_ok (λ_=>wpS_pure ⟨⟨s3.kind,s3.arr,s3.pend,s3.fail⟩,.inr ⟨_,_,_,_,_,_,rfl,C5,by omega⟩⟩) (λ_=>wpS_pure ⟨⟨s3.kind,s3.arr,s3.pend,s3.fail⟩,_,_,_,_,_,_,rfl,C5,by omega⟩)
end
def rv(O:KeyOrd):KeyOrd where
 α:=O.α
 blt:=λx y=>O.blt y x
 irrefl:=O.irrefl
 trans:=λa b c h1 h2=>O.trans c b a h2 h1
 negTrans:=λa b c h=>(O.negTrans c b a h).symm
 total:=λa b h1 h2=>O.total a b h2 h1
section
variable{O:KeyOrd}{key:Keyed->O.α}
abbrev Mh(O:KeyOrd)(key:Keyed->O.α)(a b out:Array Keyed)(na nb:Nat):Prop:=Mg (rv O) key a.toList.reverse b.toList.reverse out (a.size-na) (b.size-nb)
theorem srt_rev{l:List Keyed}(h:l.Pairwise (Le O key)):l.reverse.Pairwise (Le (rv O) key):=by
 rw[List.pairwise_reverse];exact h
theorem rev_drop(l:List Keyed){n:Nat}(h:n<=l.length):l.reverse.drop (l.length-n)=(l.take n).reverse:=by
 rw[List.drop_reverse]
 congr 2
 omega
variable{a b out:Array Keyed}{na nb:Nat}
theorem mem_rest{x:Keyed}(h:na<=a.size)(hx:x∈a.toList.reverse.drop (a.size-na)):x∈a.toList.take na:=by
 have:=rev_drop a.toList (n:=na) (by rw[Array.length_toList];exact h);rw[Array.length_toList] at this;rw[this] at hx;exact List.mem_reverse.mp hx
theorem Mh.push{x:Keyed}(M:Mh O key a b out na nb)(sa:a.toList.Pairwise (Le O key))(h0:0<na)(h1:na<=a.size)(h2:nb<=b.size)(hx:a.toList[na-1]?=some x)(h:∀y∈b.toList.take nb,Le O key y x):Mh O key a b (out.push x) (na-1) nb:=by
 have e:a.toList.reverse[a.size-na]?=some x:=by
  rw[List.getElem?_reverse (by rw[Array.length_toList];omega),Array.length_toList];rw[show a.size-1-(a.size-na)=na-1 by omega];exact hx
 have:=Mg.push M (srt_rev sa) e λy hy=>h y (mem_rest h2 hy);show Mg (rv O) key _ _ _ (a.size-(na-1)) _;rw[show a.size-(na-1)=a.size-na+1 by omega];exact this
theorem ext_mid(a:Array Keyed)(m n:Nat):(a.extract m n).toList=(a.toList.take n).drop m:=by
 rw[Array.toList_extract,List.extract_eq_take_drop,List.drop_take]
theorem Mh.app{m:Nat}(M:Mh O key a b out na nb)(sa:a.toList.Pairwise (Le O key))(hm:m<=na)(h1:na<=a.size)(h2:nb<=b.size)(h:∀x∈(a.toList.take na).drop m,∀y∈b.toList.take nb,Le O key y x):Mh O key a b (out++(a.extract m na).reverse) m nb:=by
 have e:(a.toList.reverse.drop (a.size-na)).take (na-m)=((a.toList.take na).drop m).reverse:=by
  have:=rev_drop a.toList (n:=na) (by rw[Array.length_toList];exact h1);rw[Array.length_toList] at this;rw[this,List.take_reverse]
  congr 2
  rw[List.length_take,Array.length_toList];omega
 have:=Mg.app (k:=na-m) (more:=(a.extract m na).reverse) M (srt_rev sa) (by rw[Array.toList_reverse,ext_mid,e]) (by rw[e];exact λx hx y hy=>h x (List.mem_reverse.mp hx) y (mem_rest h2 hy));show Mg (rv O) key _ _ _ (a.size-m) _;rw[show a.size-m=a.size-na+(na-m) by omega];exact this
theorem done_rv{al bl:List Keyed}{r x:Array Keyed}(D:Done (rv O) key al.reverse bl.reverse r)(e:x.toList=r.toList.reverse):Done O key al bl x:=by
 constructor
 .rw[e];exact(List.reverse_perm _).trans (D.1.trans ((List.reverse_perm al).append (List.reverse_perm bl)))
 .rw[e,List.pairwise_reverse];exact D.2
theorem Mh.finB(M:Mh O key a b out na nb)(sa:a.toList.Pairwise (Le O key))(sb:b.toList.Pairwise (Le O key))(h1:na<=a.size)(h2:nb<=b.size)(h:∀x∈a.toList.take na,∀y∈b.toList.take nb,Le O key y x) :
  Done O key a.toList b.toList (b.extract 0 nb++a.extract 0 na++out.reverse):=by
 have ra:=rev_drop a.toList (n:=na) (by rw[Array.length_toList];exact h1);have rb:=rev_drop b.toList (n:=nb) (by rw[Array.length_toList];exact h2);rw[Array.length_toList] at ra rb;refine done_rv (Mg.fin (xs:=(a.toList.take na).reverse.toArray) (ys:=(b.toList.take nb).reverse.toArray) M (srt_rev sa) (srt_rev sb) ra.symm rb.symm λx hx y hy=>h x (mem_rest h1 hx) y (mem_rest h2 hy)) ?_;simp only[Array.toList_append,Array.toList_reverse,ext_mid,List.drop_zero,List.reverse_append,List.reverse_reverse,List.append_assoc]
theorem Mh.swap(M:Mh O key a b out na nb):Mh O key b a out nb na:=Mg.swap M
theorem Mh.finA(M:Mh O key a b out na nb)(sa:a.toList.Pairwise (Le O key))(sb:b.toList.Pairwise (Le O key))(h1:na<=a.size)(h2:nb<=b.size)(h:(na==0)=true\/(nb==0)=true) :
  Done O key a.toList b.toList (a.extract 0 na++b.extract 0 nb++out.reverse):=by
 refine(M.swap.finB sb sa h2 h1 λy hy x hx=>?_).swap;exfalso;rcases h with h|h
 .rw[beq_iff_eq.mp h] at hx;simp at hx
 .rw[beq_iff_eq.mp h] at hy;simp at hy
end
section
variable{prog:Program}{w:World}{A:Around}{E:Value->Shared->Prop}{s:Shared}{κ:SortKind}{O:KeyOrd}{key:Keyed->O.α}{Good:Keyed->Prop}
theorem gal_r{a:Array Keyed}{b n hint:Nat}{y:Keyed}{Q:Option Nat->SortSt->Prop}{st:SortSt}(L:LtOk prog w A E s κ O key Good)(gy:Good y)(ga:∀i,i<n->∃x,a[b+i]?=some x/\Good x)
  (sa:∀i j x z,i<=j->j<n->a[b+i]?=some x->a[b+j]?=some z->Le O key x z) (hi:hint<n) (hst:kindOf st=κ)
  (h:∀r,r<=n->(∀i x,i<r->a[b+i]?=some x->Le O key x y)->(∀i x,r<=i->i<n->a[b+i]?=some x->O.blt (key y) (key x)=true)->Q (some r) st):wpS (model prog w) A E s (gallop' false y a b n hint) Q st:=by
 have key':∀i,i<n->∃x,a[b+i]?=some x/\Good x/\bnd O key false y x=(match a[b+i]? with|some x=>!(O.blt (key y) (key x))|none=>false):=λi hi=>by
  obtain⟨x,h1,h2⟩:=ga i hi;refine⟨x,h1,h2,?_⟩;rw[h1];rfl
 refine gallop_ok (bb:=λi=>match a[b+i]? with|some x=>!(O.blt (key y) (key x))|none=>false) L gy key' (λi j hij hj hb=>?_) hi hst λr r1 r2 r3=>h r r1 (λi x hi ei=>?_) (λi x hi hn ei=>?_)
 .obtain ⟨x,h1,_⟩:=ga i (by omega);obtain⟨z,h3,_⟩:=ga j hj;simp only[h1,h3] at hb ⊢;have lz:Le O key z y:=by
   have:O.blt (key y) (key z)=false:=by simpa using hb
   exact this
  have:Le O key x y:=(sa i j x z hij hj h1 h3).trans lz;have:O.blt (key y) (key x)=false:=this;rw[this];rfl
 .have:=r2 i hi;simp only[ei] at this;have:O.blt (key y) (key x)=false:=by simpa using this
  exact this
 .have:=r3 i hi hn;simp only[ei] at this;simpa using this
theorem gal_l{a:Array Keyed}{b n hint:Nat}{y:Keyed}{Q:Option Nat->SortSt->Prop}{st:SortSt}(L:LtOk prog w A E s κ O key Good)(gy:Good y)(ga:∀i,i<n->∃x,a[b+i]?=some x/\Good x)
  (sa:∀i j x z,i<=j->j<n->a[b+i]?=some x->a[b+j]?=some z->Le O key x z) (hi:hint<n) (hst:kindOf st=κ)
  (h:∀r,r<=n->(∀i x,i<r->a[b+i]?=some x->O.blt (key x) (key y)=true)->(∀i x,r<=i->i<n->a[b+i]?=some x->Le O key y x)->Q (some r) st):wpS (model prog w) A E s (gallop' true y a b n hint) Q st:=by
 have key':∀i,i<n->∃x,a[b+i]?=some x/\Good x/\bnd O key true y x=(match a[b+i]? with|some x=>O.blt (key x) (key y)|none=>false):=λi hi=>by
  obtain⟨x,h1,h2⟩:=ga i hi;refine⟨x,h1,h2,?_⟩;rw[h1];rfl
 refine gallop_ok (bb:=λi=>match a[b+i]? with|some x=>O.blt (key x) (key y)|none=>false) L gy key' (λi j hij hj hb=>?_) hi hst λr r1 r2 r3=>h r r1 (λi x hi ei=>?_) (λi x hi hn ei=>?_)
 .obtain⟨x,h1,_⟩:=ga i (by omega);obtain⟨z,h3,_⟩:=ga j hj;simp only[h1,h3] at hb ⊢;exact KeyOrd.klt_of_kle_of_klt (sa i j x z hij hj h1 h3) hb
 .have:=r2 i hi;simp only[ei] at this;exact this
 .have:=r3 i hi hn;simp only[ei] at this;exact this
structure Ch(O:KeyOrd)(key:Keyed->O.α)(a b out:Array Keyed)(na nb:Nat):Prop where
 mg:Mh O key a b out na nb
 a0:0<na
 a1:na<=a.size
 b0:1<nb
 b1:nb<=b.size
theorem mid_at{l:List Keyed}{m n:Nat}{x:Keyed}(h:x∈(l.take n).drop m):∃j,m<=j/\j<n/\l[j]?=some x:=by
 obtain⟨j,hj,ej⟩:=drop_at h;have hl:=(List.getElem?_eq_some_iff.mp ej).1;rw[List.length_take] at hl;rw[List.getElem?_take] at ej;rw[if_pos (by omega)] at ej;exact⟨j,hj,by omega,ej⟩
theorem tk_at{l:List Keyed}{n:Nat}{x:Keyed}(h:x∈l.take n):∃j,j<n/\l[j]?=some x:=by
 obtain⟨j,_,h2,h3⟩:=mid_at (m:=0) (l:=l) (n:=n) (x:=x) (by rw[List.drop_zero];exact h);exact⟨j,h2,h3⟩
theorem join3{α:Type}{jp:PUnit->Nat->Array Keyed->StateT SortSt Sem α}{m:StateT SortSt Sem α}{Q:α->SortSt->Prop}{st:SortSt}(I:Nat->Array Keyed->Prop)(hj:∀n o,I n o->wpS (model prog w) A E s (jp () n o) Q st)(h:(∀n o,I n o->wpS (model prog w) A E s (jp () n o) Q st)->wpS (model prog w) A E s m Q st):wpS (model prog w) A E s m Q st:=h hj
theorem mergeHi_ok{a b:Array Keyed}{st:SortSt}{Q:Array Keyed->SortSt->Prop}(L:LtOk prog w A E s κ O key Good)(ga:∀x∈a.toList,Good x)(gb:∀x∈b.toList,Good x)(sa:a.toList.Pairwise (Le O key))(sb:b.toList.Pairwise (Le O key))
  (na:0<a.size) (nb:0<b.size) (hf:∀x,a.toList[0]?=some x->∀y,b.toList[0]?=some y->Le O key y x) (hl:∀y∈b.toList,∀x,a.toList[a.size-1]?=some x->Le O key y x) (hst:kindOf st=κ)
  (h:∀r st',Fi O key a b r->Sm κ st st'->Q r st'):wpS (model prog w) A E s (mergeHi' a b) Q st:=by
 have at_a:∀i,i<a.size->∃x,a[i]?=some x/\a.toList[i]?=some x/\Good x:=λi hi=>by
  obtain⟨x,h1,h2⟩:=arr_at hi;exact⟨x,h1,h2,ga x (List.mem_of_getElem? h2)⟩
 have at_b:∀i,i<b.size->∃x,b[i]?=some x/\b.toList[i]?=some x/\Good x:=λi hi=>by
  obtain⟨x,h1,h2⟩:=arr_at hi;exact⟨x,h1,h2,gb x (List.mem_of_getElem? h2)⟩
 have sg:∀{c:Array Keyed},c.toList.Pairwise (Le O key)->∀n,n<=c.size->∀i j x z,i<=j->j<n->c[0+i]?=some x->c[0+j]?=some z->Le O key x z:=λ{c} sc n hn i j x z hij hj hx hz=>by
  rw[Nat.zero_add] at hx hz;exact le_at sc (by simpa using hx) (by simpa using hz) hij
 have low:∀{n m},m=1->∀x∈a.toList.take n,∀y∈b.toList.take m,Le O key y x:=λ{n m} hm x hx y hy=>by
  obtain⟨i,_,ei⟩:=tk_at hx;obtain⟨j,hj,ej⟩:=tk_at hy;obtain rfl:j=0:=by omega
  obtain⟨x0,_,lx0,_⟩:=at_a 0 na;exact(hf x0 lx0 y ej).trans (le_at sa lx0 ei (Nat.zero_le _))
 unfold mergeHi';refine wpS_bind (wpS_lift (wpAny_rule ⟨rfl,?_⟩))
 try dsimp -zeta only
 obtain⟨x0,hx0,lx0,_⟩:=at_a (a.size-1) (by omega);have s0:Sm κ st st:=⟨hst,rfl,rfl,rfl⟩;have M0:Mh O key a b #[x0] (a.size-1) b.size:=by
  have:Mh O key a b #[] a.size b.size:=by
   show Mg (rv O) key _ _ #[] (a.size-a.size) (b.size-b.size);rw[Nat.sub_self,Nat.sub_self];exact⟨by simp,by simp,λx hx=>(by simp at hx),λx hx=>(by simp at hx)⟩
  have:=Mh.push this sa na (Nat.le_refl _) (Nat.le_refl _) lx0 λy hy=>hl y (List.mem_of_mem_take hy) x0 lx0;simpa using this
 refine wpS_bind (elem_ok hx0 ?_);refine ite_ok (λe1=>wpS_pure (h _ _ (M0.finA sa sb (by omega) (Nat.le_refl _) (.inl e1)) s0)) (λe1=>ite_ok (λe2=>wpS_pure (h _ _ (M0.finB sa sb (by omega) (Nat.le_refl _) (low (beq_iff_eq.mp e2))) s0)) (λe2=>?_));have e1':=ne_of_beq e1;have e2':=ne_of_beq e2;refine wpS_bind (wpS_get ?_);refine bindFor
  (I:=λi c st'=>Sm κ st st'/\∃na nb out g,c=(none,na,nb,out,g)/\Ch O key a b out na nb/\i+1+na+nb<=a.size+b.size)
  (Q:=λc st'=>Sm κ st st'/\∃r na nb out g,c=(some r,na,nb,out,g)/\Fi O key a b r) ?step ?fin ⟨s0,_,_,_,_,rfl,⟨M0,by omega,by omega,by omega,by omega⟩,by omega⟩ ?post
 case post=>
  intro c st' hh;refine go λ_ bk0=>?_;obtain⟨s1,r,na,nb,out,g,rfl,F⟩:=hh;refine bk0 ?_;exact wpS_pure (h r st' F s1)
 case fin=>
  intro c st' hh;refine go λ_ bk0=>?_;obtain⟨s1,na,nb,out,g,rfl,C,hz⟩:=hh;refine bk0 ?_;exfalso;have:=C.a0;omega
 case step=>
  intro i c st' _ _ hh;refine go λ_ bk0=>?_;obtain⟨s1,na,nb,out,g,rfl,C,hz⟩:=hh;refine bk0 ?_
  try dsimp -zeta only
  refine bindFor
   (I:=λ_ c st'=>Sm κ st st'/\∃na nb out ac bc,c=(none,na,nb,out,ac,bc)/\Ch O key a b out na nb/\i+1+na+nb<=a.size+b.size)
   (Q:=λc st'=>Sm κ st st'/\((∃r na nb out ac bc,c=(some r,na,nb,out,ac,bc)/\Fi O key a b r)\/∃na nb out ac bc,c=(none,na,nb,out,ac,bc)/\Ch O key a b out na nb/\i+1+na+nb<=a.size+b.size)) ?step1 ?fin1 ⟨s1,_,_,_,_,_,rfl,C,hz⟩ ?post1
  case fin1=>exact λc st' h=>⟨h.1,.inr h.2⟩
  case step1=>
   intro j c st2 _ _ hh;refine go λ_ bk0=>?_;obtain⟨s2,na,nb,out,ac,bc,rfl,C,hz⟩:=hh;refine bk0 ?_
   try dsimp -zeta only
   obtain⟨M,a0,a1,b0,b1⟩:=C;obtain⟨y,hy,ly,gy⟩:=at_b (nb-1) (by omega);obtain⟨x,hx,lx,gx⟩:=at_a (na-1) (by omega);refine wpS_bind (elem_ok hy (wpS_bind (elem_ok hx (wpS_bind (L y x gy gx _ _ s2.kind ?_)))));cases q:O.blt (key y) (key x) with
   | true=>
    try dsimp -zeta only
    refine iteT rfl ?_;refine wpS_bind (elem_ok hx ?_);have M1:=M.push sa a0 a1 b1 lx λz hz=>by
     obtain⟨j,hj,ej⟩:=tk_at hz;exact(le_at sb ej ly (by omega)).trans (le_of_lt q)
    refine ite_ok (λf1=>wpS_pure ⟨s2,.inl ⟨_,_,_,_,_,_,rfl,M1.finA sa sb (by omega) b1 (.inl f1)⟩⟩) (λf1=>?_);have f1':=ne_of_beq f1;refine ite_ok (λ_=>wpS_pure ⟨s2,.inr ⟨_,_,_,_,_,rfl,⟨M1,by omega,by omega,b0,b1⟩,by omega⟩⟩) (λ_=>wpS_pure ⟨s2,_,_,_,_,_,rfl,⟨M1,by omega,by omega,b0,b1⟩,by omega⟩)
   | false=>
    try dsimp -zeta only
    refine iteF Bool.false_ne_true ?_;refine wpS_bind (elem_ok hy ?_);have M1:=(Mh.push M.swap sb (by omega) b1 a1 ly λz hz=>by
     obtain⟨j,hj,ej⟩:=tk_at hz;exact(le_at sa ej lx (by omega)).trans (le_of_nlt q)).swap
    refine ite_ok (λf1=>wpS_pure ⟨s2,.inl ⟨_,_,_,_,_,_,rfl,M1.finB sa sb a1 (by omega) (low (beq_iff_eq.mp f1))⟩⟩) (λf1=>?_);have f1':=ne_of_beq f1;refine ite_ok (λ_=>wpS_pure ⟨s2,.inr ⟨_,_,_,_,_,rfl,⟨M1,a0,a1,by omega,by omega⟩,by omega⟩⟩) (λ_=>wpS_pure ⟨s2,_,_,_,_,_,rfl,⟨M1,a0,a1,by omega,by omega⟩,by omega⟩)
  case post1=>
   intro c st2 hh;refine go λ_ bk0=>?_;obtain⟨s2,⟨r,na,nb,out,ac,bc,rfl,F⟩|⟨na,nb,out,ac,bc,rfl,C,hz⟩⟩:=hh
   all_goals refine bk0 ?_
   .exact wpS_pure ⟨s2,r,_,_,_,_,rfl,F⟩
   try dsimp -zeta only
   refine wpS_bind (wpS_lift (wpAny_rule ⟨rfl,?_⟩));refine bindFor
    (I:=λj c st'=>Sm κ st st'/\∃na nb out g ac bc,c=(none,na,nb,out,g,ac,bc)/\Ch O key a b out na nb/\i+1+j+na+nb<=a.size+b.size)
    (Q:=λc st'=>Sm κ st st'/\((∃r na nb out g ac bc,c=(some r,na,nb,out,g,ac,bc)/\Fi O key a b r)\/∃na nb out g ac bc,c=(none,na,nb,out,g,ac,bc)/\Ch O key a b out na nb/\i+2+na+nb<=a.size+b.size)) ?step2 ?fin2 ⟨s2,_,_,_,_,_,_,rfl,C,hz⟩ ?post2
   case fin2=>
    intro c st' hh;refine go λ_ bk0=>?_;obtain⟨s3,na,nb,out,g,ac,bc,rfl,C,hz⟩:=hh;refine bk0 ?_;exact⟨s3,.inr ⟨_,_,_,_,_,_,rfl,C,by omega⟩⟩
   case post2=>
    intro c st3 hh;refine go λ_ bk0=>?_;obtain⟨s3,⟨r,na,nb,out,g,ac,bc,rfl,F⟩|⟨na,nb,out,g,ac,bc,rfl,C,hz⟩⟩:=hh
    all_goals refine bk0 ?_
    .exact wpS_pure ⟨s3,r,_,_,_,_,rfl,F⟩
    .dsimp only;refine wpS_bind (wpS_modify ?_);exact wpS_pure ⟨⟨s3.kind,s3.arr,s3.pend,s3.fail⟩,_,_,_,_,rfl,C,by omega⟩
   case step2=>
    intro j c st3 _ _ hh;refine go λ_ bk0=>?_;obtain⟨s3,na,nb,out,g,ac,bc,rfl,C,hz⟩:=hh;refine bk0 ?_;obtain⟨M,a0,a1,b0,b1⟩:=C;obtain⟨y,hy,ly,gy⟩:=at_b (nb-1) (by omega)
    try dsimp -zeta only
    extract_lets u0 u1 u2 u3 u4 u5 u6 u7 u8 u9 u10 v1 jp v2
    refine ite_two (m:=jp ()) (λmg=>?_);dsimp -zeta only [jp];clear jp v2;refine wpS_bind (wpS_modify ?_);refine wpS_bind (elem_ok hy ?_);refine wpS_bind (gal_r L gy (λi hi=>by obtain⟨x,h1,_,h2⟩:=at_a (0+i) (by have:i<na:=hi;omega);exact⟨x,h1,h2⟩) (sg sa na a1) (show na-1<na from by omega) s3.kind λm hm k1 k2=>?_)
    try dsimp -zeta only
    have hm:m<=na:=hm
    extract_lets kk ac2 jp2 out2 na2
    have up:∀x∈(a.toList.take na).drop m,Le O key y x:=λx hx=>by
     obtain⟨j,h1,h2,h3⟩:=mid_at hx;exact le_of_lt (k2 j x h1 h2 (by rw[Nat.zero_add];simpa using h3))
    have dn:∀x∈a.toList.take m,Le O key x y:=λx hx=>by
     obtain⟨j,h1,h2⟩:=tk_at hx;exact k1 j x h1 (by rw[Nat.zero_add];simpa using h2)
    have M1:=M.app sa hm a1 b1 λx hx z hz=>by
     obtain⟨j,h1,h2⟩:=tk_at hz;exact(le_at sb h2 ly (by omega)).trans (up x hx)
    have ekk:kk=na-m:=rfl;refine join3 (jp:=jp2) (λn o=>Mh O key a b o n nb/\(∀x∈a.toList.take n,Le O key x y)/\0<n/\n<=na) (λn o hI=>?rest) (λhj=>?here)
    case here=>
     refine ite_ok (λhk0=>ite_ok (λf1=>wpS_pure ⟨⟨s3.kind,s3.arr,s3.pend,s3.fail⟩,.inl ⟨_,_,_,_,_,_,_,rfl,M1.finA sa sb (by omega) b1 (.inl f1)⟩⟩) (λf1=>hj _ _ ⟨M1,dn,?_,hm⟩)) (λhk0=>?_)
     .have:=ne_of_beq f1;have e2:na2=m:=rfl;show 0<m;omega
     .obtain rfl:m=na:=by omega
      have ez:a.extract m m=#[]:=by
       apply Array.ext';rw[ext_mid,List.drop_of_length_le (by rw[List.length_take];omega)]
      rw[ez,Array.reverse_empty,Array.append_empty] at M1;exact hj _ _ ⟨M1,dn,a0,Nat.le_refl _⟩
    clear hm k1 k2 M1 up dn ekk;dsimp -zeta only [jp2];clear jp2 out2 na2;obtain⟨MI,kI,lI,leI⟩:=hI;have M2:=(Mh.push MI.swap sb (by omega) b1 (by omega) ly kI).swap
    try dsimp -zeta only
    refine wpS_bind (elem_ok hy ?_)
    try dsimp -zeta only
    extract_lets out3
    have ev:v1=nb-1:=rfl;refine ite_ok (λf3=>wpS_pure ⟨⟨s3.kind,s3.arr,s3.pend,s3.fail⟩,.inl ⟨_,_,_,_,_,_,_,rfl,M2.finB sa sb (by omega) (by omega) (low (beq_iff_eq.mp f3))⟩⟩) (λf3=>?_);have f3':nb-1≠1:=ne_of_beq f3;obtain⟨x,hx,lx,gx⟩:=at_a (n-1) (by omega);refine wpS_bind (elem_ok hx ?_);refine wpS_bind (gal_l L gx (λi hi=>by obtain⟨x,h1,_,h2⟩:=at_b (0+i) (by have:i<nb-1:=hi;omega);exact⟨x,h1,h2⟩) (sg sb (nb-1) (by omega)) (show nb-1-1<nb-1 from by omega) s3.kind λm' hm' k1' k2'=>?_)
    try dsimp -zeta only
    have hm':m'<=nb-1:=hm'
    extract_lets kk bc3 jp3 out4 nb4
    have ekk:kk=nb-1-m':=rfl;have up':∀z∈(b.toList.take (nb-1)).drop m',Le O key x z:=λz hz=>by
     obtain⟨j,h1,h2,h3⟩:=mid_at hz;exact k2' j z h1 h2 (by rw[Nat.zero_add];simpa using h3)
    have dn':∀z∈b.toList.take m',Le O key z x:=λz hz=>by
     obtain⟨j,h1,h2⟩:=tk_at hz;exact le_of_lt (k1' j z h1 (by rw[Nat.zero_add];simpa using h2))
    have M3:=(Mh.app M2.swap sb hm' (by omega) (by omega) λz hz u hu=>by
     obtain⟨j,h1,h2⟩:=tk_at hu;exact(le_at sa h2 lx (by omega)).trans (up' z hz)).swap
    refine join3 (jp:=jp3) (λn2 o=>Mh O key a b o n n2/\(∀z∈b.toList.take n2,Le O key z x)/\1<n2/\n2<=nb-1) (λn2 o hI=>?rest2) (λhj=>?here2)
    case here2=>
     refine ite_ok (λh1=>ite_ok (λf4=>wpS_pure ⟨⟨s3.kind,s3.arr,s3.pend,s3.fail⟩,.inl ⟨_,_,_,_,_,_,_,rfl,M3.finB sa sb (by omega) (by omega) (low (beq_iff_eq.mp f4))⟩⟩) (λf4=>ite_ok (λf6=>wpS_pure ⟨⟨s3.kind,s3.arr,s3.pend,s3.fail⟩,.inl ⟨_,_,_,_,_,_,_,rfl,M3.finA sa sb (by omega) (by omega) (.inr f6)⟩⟩) (λf6=>hj _ _ ⟨M3,dn',?_,hm'⟩))) (λh1=>?_)
     .have:=ne_of_beq f4;have:=ne_of_beq f6;have e2:nb4=m':=rfl;show 1<m';omega
     .obtain rfl:m'=nb-1:=by omega
      have ez':b.extract (nb-1) (nb-1)=#[]:=by
       apply Array.ext';rw[ext_mid,List.drop_of_length_le (by rw[List.length_take];omega)]
      rw[ez',Array.reverse_empty,Array.append_empty] at M3;exact hj _ _ ⟨M3,dn',by omega,Nat.le_refl _⟩
    clear hm' k1' k2' M3 M2 up' dn' ekk;dsimp -zeta only [jp3];clear jp3 out4 nb4;obtain⟨MI2,kI2,lI2,leI2⟩:=hI;have M4:=MI2.push sa lI (by omega) (by omega) lx kI2
    try dsimp -zeta only
    try extract_lets na5
    refine wpS_bind (elem_ok hx ?_)
    try dsimp -zeta only
    extract_lets out5
    refine ite_ok (λf5=>wpS_pure ⟨⟨s3.kind,s3.arr,s3.pend,s3.fail⟩,.inl ⟨_,_,_,_,_,_,_,rfl,M4.finA sa sb (by omega) (by omega) (.inl f5)⟩⟩) (λf5=>?_);have f5':n-1≠0:=ne_of_beq f5;have C5:Ch O key a b (o.push x) (n-1) n2:=⟨M4,by omega,by omega,lI2,by omega⟩;exact ite_ok (λ_=>wpS_pure ⟨⟨s3.kind,s3.arr,s3.pend,s3.fail⟩,.inr ⟨_,_,_,_,_,_,rfl,C5,by omega⟩⟩) (λ_=>wpS_pure ⟨⟨s3.kind,s3.arr,s3.pend,s3.fail⟩,_,_,_,_,_,_,rfl,C5,by omega⟩)
end
def sg(a:Array Keyed)(lo n:Nat):List Keyed:=(a.toList.drop lo).take n
theorem sg_add(a:Array Keyed)(lo m n:Nat):sg a lo (m+n)=sg a lo m++sg a (lo+m) n:=by
 unfold sg;rw[take_add,drop_add']
theorem sg_all(a:Array Keyed)(lo n:Nat):a.toList=a.toList.take lo++sg a lo n++a.toList.drop (lo+n):=by
 unfold sg;rw[drop_add',List.append_assoc,List.take_append_drop,List.take_append_drop]
theorem sg_len{a:Array Keyed}{lo n:Nat}(h:lo+n<=a.size):(sg a lo n).length=n:=by
 unfold sg;rw[List.length_take,List.length_drop,Array.length_toList];omega
theorem sg_at{a:Array Keyed}{lo n:Nat}{x:Keyed}(h:x∈sg a lo n):∃j,j<n/\a[lo+j]?=some x:=by
 obtain⟨j,hj,ej⟩:=take_at h;exact⟨j,hj,by simpa using ej⟩
theorem sg_get{a:Array Keyed}{lo n i:Nat}(h:i<n):(sg a lo n)[i]?=a[lo+i]?:=by
 unfold sg;rw[List.getElem?_take,if_pos h,List.getElem?_drop];simp
theorem sg_congr{a b:Array Keyed}{lo n:Nat}(h:∀i,i<n->a[lo+i]?=b[lo+i]?):sg a lo n=sg b lo n:=by
 apply List.ext_getElem?;intro i;by_cases hi:i<n
 .rw[sg_get hi,sg_get hi,h i hi]
 .unfold sg;rw[List.getElem?_take,List.getElem?_take,if_neg hi,if_neg hi]
theorem ext_sg(a:Array Keyed)(lo n:Nat):(a.extract lo (lo+n)).toList=sg a lo n:=ext_take a lo n
theorem wr_at:∀(l:List Keyed)(m b:Nat)(a:Array Keyed)(i:Nat),b+m+l.length<=a.size →
  ((l.zipIdx m).foldl (λa (x:Keyed×Nat)=>a.setIfInBounds (b+x.2) x.1) a)[i]?=if b+m<=i/\i<b+m+l.length then l[i-(b+m)]? else a[i]?
 | [],m,b,a,i,h=>by
  rw[if_neg (by simp)];rfl
 | x::l,m,b,a,i,h=>by
  rw[List.length_cons] at h;rw[List.zipIdx_cons,List.foldl_cons,wr_at l (m+1) b _ i (by rw[Array.size_setIfInBounds];omega)];by_cases c:b+(m+1)<=i/\i<b+(m+1)+l.length
  .rw[if_pos c,if_pos (by rw[List.length_cons];omega),show i-(b+m)=(i-(b+(m+1)))+1 by omega,List.getElem?_cons_succ]
  .rw [if_neg c,Array.getElem?_setIfInBounds];by_cases e:b+m=i
   .rw[if_pos e,if_pos (by omega),if_pos (by rw[List.length_cons];omega),<-e,Nat.sub_self];rfl
   .rw[if_neg e,if_neg (by rw[List.length_cons];omega)]
def Frm(a a':Array Keyed)(lo n:Nat):Prop:=∀i,¬(lo<=i/\i<lo+n)->a'[i]?=a[i]?
theorem Frm.refl(a:Array Keyed)(lo n:Nat):Frm a a lo n:=λ_ _=>rfl
theorem Frm.trans{a b c:Array Keyed}{lo n:Nat}(h:Frm a b lo n)(k:Frm b c lo n):Frm a c lo n:=λi hi=>(k i hi).trans (h i hi)
theorem perm_of_frm{a a':Array Keyed}{lo n:Nat}(hs:a'.size=a.size)(h:Frm a a' lo n)(hp:(sg a' lo n).Perm (sg a lo n)):a'.toList.Perm a.toList:=by
 have e1:a'.toList.take lo=a.toList.take lo:=by
  apply List.ext_getElem?;intro i;rw[List.getElem?_take,List.getElem?_take];by_cases hi:i<lo
  .rw[if_pos hi,if_pos hi];have:=h i (by omega);simpa using this
  .rw[if_neg hi,if_neg hi]
 have e2:a'.toList.drop (lo+n)=a.toList.drop (lo+n):=by
  apply List.ext_getElem?;intro i;rw[List.getElem?_drop,List.getElem?_drop];have:=h (lo+n+i) (by omega);simpa using this
 rw[sg_all a' lo n,sg_all a lo n,e1,e2];exact(hp.append_left _).append_right _
section
variable{O:KeyOrd}{key:Keyed->O.α}
theorem pw_app{l m:List Keyed}(hl:l.Pairwise (Le O key))(hm:m.Pairwise (Le O key))(h:∀x∈l,∀y∈m,Le O key x y):(l++m).Pairwise (Le O key):=List.pairwise_append.mpr ⟨hl,hm,h⟩
theorem seg_at{a:Array Keyed}{lo n i j:Nat}{x y:Keyed}(h:(sg a lo n).Pairwise (Le O key))(hij:i<=j)(hj:j<n)(ex:a[lo+i]?=some x)(ey:a[lo+j]?=some y):Le O key x y:=
 le_at h ((sg_get (by omega)).trans ex) ((sg_get hj).trans ey) hij
end
section
variable{prog:Program}{w:World}{A:Around}{E:Value->Shared->Prop}{s:Shared}{κ:SortKind}{O:KeyOrd}{key:Keyed->O.α}{Good:Keyed->Prop}
structure Kp(κ:SortKind)(a₀:Array Keyed)(st:SortSt):Prop where
 kind:kindOf st=κ
 perm:(arrOf st).toList.Perm a₀.toList
 fail:failedOf st=none
theorem Kp.size{a₀:Array Keyed}{st:SortSt}(K:Kp κ a₀ st):(arrOf st).size=a₀.size:=by
 have:=K.perm.length_eq;simpa using this
theorem Kp.good{a₀:Array Keyed}{st:SortSt}(K:Kp κ a₀ st)(g:∀x∈a₀.toList,Good x){i:Nat}(h:i<a₀.size):∃x,(arrOf st)[i]?=some x/\Good x:=by
 obtain⟨x,h1,h2⟩:=arr_at (a:=arrOf st) (i:=i) (by rw[K.size];exact h);exact⟨x,h1,g x (K.perm.mem_iff.mp (List.mem_of_getElem? h2))⟩
theorem set_ok{x:SortSt}{Q:PUnit->SortSt->Prop}{st:SortSt}(h:Q ⟨⟩ x):wpS (model prog w) A E s (set x:StateT SortSt Sem PUnit) Q st:=by
 have:wpS (model prog w) A E s (modify (λ_=>x):StateT SortSt Sem PUnit) Q st:=wpS_modify h;exact this
theorem mergeAt_ok{a₀:Array Keyed}{st:SortSt}{i sa na nb p q:Nat}{Q:Bool->SortSt->Prop}(L:LtOk prog w A E s κ O key Good)(g:∀x∈a₀.toList,Good x)(K:Kp κ a₀ st)
  (h1:(pendingOf st)[i]?=some (sa,na,p)) (h2:(pendingOf st)[i+1]?=some (sa+na,nb,q)) (pa:0<na) (pb:0<nb) (hs:sa+na+nb<=a₀.size)
  (sA:(sg (arrOf st) sa na).Pairwise (Le O key)) (sB:(sg (arrOf st) (sa+na) nb).Pairwise (Le O key))
  (h:∀st',Kp κ a₀ st'->pendingOf st'=((pendingOf st).setIfInBounds i (sa,na+nb,p)).eraseIdxIfInBounds (i+1)->(sg (arrOf st') sa (na+nb)).Pairwise (Le O key)->Frm (arrOf st) (arrOf st') sa (na+nb)->Q true st') :
  wpS (model prog w) A E s (mergeAt' i) Q st:=by
 have gd:∀i,i<a₀.size->∃x,(arrOf st)[i]?=some x/\Good x:=λi hi=>K.good g hi;have sz:=K.size;unfold mergeAt';refine wpS_bind (wpS_get ?_);dsimp only;rw[h1,h2];dsimp only;refine wpS_bind (set_ok ?_);obtain⟨y0,ey0,gy0⟩:=gd (sa+na) (by omega);refine wpS_bind (elem_ok ey0 ?_);refine wpS_bind (gal_r (key:=key) L gy0 (λi hi=>gd _ (by omega)) (λi j x z hij hj ex ez=>seg_at sA hij hj ex ez) pa K.kind λk hk rA rB=>?_);dsimp only;have eA:sg (arrOf st) sa na=sg (arrOf st) sa k++sg (arrOf st) (sa+k) (na-k):=by rw[<-sg_add];congr 1;omega
 have leY:∀y∈sg (arrOf st) (sa+na) nb,Le O key y0 y:=λy hy=>by
  obtain⟨j,hj,ej⟩:=sg_at hy;exact seg_at sB (Nat.zero_le j) hj ey0 ej
 have leA1:∀x∈sg (arrOf st) sa k,Le O key x y0:=λx hx=>by
  obtain⟨j,hj,ej⟩:=sg_at hx;exact rA j x hj ej
 have ltA2:∀x∈sg (arrOf st) (sa+k) (na-k),O.blt (key y0) (key x)=true:=λx hx=>by
  obtain⟨j,hj,ej⟩:=sg_at hx;exact rB (k+j) x (by omega) (by omega) (by rw[<-Nat.add_assoc];exact ej)
 refine ite_ok (λe=>wpS_pure (h _ ⟨K.kind,K.perm,K.fail⟩ rfl ?_ (Frm.refl _ _ _))) (λe=>?_)
 .show(sg (arrOf st) sa (na+nb)).Pairwise (Le O key);have ek:k=na:=by have:=beq_iff_eq.mp e;omega
  subst ek;rw[sg_add];exact pw_app sA sB λx hx y hy=>(leA1 x hx).trans (leY y hy)
 have hk':k<na:=by have:=ne_of_beq e;omega
 obtain⟨x0,ex0,gx0⟩:=gd (sa+k+(na-k)-1) (by omega);refine wpS_bind (elem_ok ex0 ?_);refine wpS_bind (gal_l (key:=key) L gx0 (λi hi=>gd _ (by omega)) (λi j x z hij hj ex ez=>seg_at sB hij hj ex ez) (by omega) K.kind λr hr qA qB=>?_);dsimp only;have eB:sg (arrOf st) (sa+na) nb=sg (arrOf st) (sa+na) r++sg (arrOf st) (sa+na+r) (nb-r):=by rw[<-sg_add];congr 1;omega
 have eX:sa+k+(na-k)-1=sa+(na-1):=by omega
 have leX:∀x∈sg (arrOf st) sa na,Le O key x x0:=λx hx=>by
  obtain⟨j,hj,ej⟩:=sg_at hx;exact seg_at sA (i:=j) (j:=na-1) (by omega) (by omega) ej (eX ▸ ex0)
 have ltB1:∀y∈sg (arrOf st) (sa+na) r,O.blt (key y) (key x0)=true:=λx hx=>by
  obtain⟨j,hj,ej⟩:=sg_at hx;exact qA j x hj ej
 have leB2:∀y∈sg (arrOf st) (sa+na+r) (nb-r),Le O key x0 y:=λx hx=>by
  obtain⟨j,hj,ej⟩:=sg_at hx;exact qB (r+j) x (by omega) (by omega) (by rw[<-Nat.add_assoc];exact ej)
 refine ite_ok (λe=>wpS_pure (h _ ⟨K.kind,K.perm,K.fail⟩ rfl ?_ (Frm.refl _ _ _))) (λe=>?_)
 .show(sg (arrOf st) sa (na+nb)).Pairwise (Le O key);have er:r=0:=beq_iff_eq.mp e;subst er;rw[sg_add];exact pw_app sA sB λx hx y hy=>(leX x hx).trans (leB2 y hy)
 have hr0:0<r:=by have:=ne_of_beq e;omega
 have eXs:((arrOf st).extract (sa+k) (sa+na)).toList=sg (arrOf st) (sa+k) (na-k):=by rw[<-ext_sg];congr 2;omega
 have eYs:((arrOf st).extract (sa+na) (sa+na+r)).toList=sg (arrOf st) (sa+na) r:=ext_sg _ _ _;have lX:(sg (arrOf st) (sa+k) (na-k)).length=na-k:=sg_len (by omega);have lY:(sg (arrOf st) (sa+na) r).length=r:=sg_len (by omega);have pA2:(sg (arrOf st) (sa+k) (na-k)).Pairwise (Le O key):=by rw[eA] at sA;exact(List.pairwise_append.mp sA).2.1
 have pB1:(sg (arrOf st) (sa+na) r).Pairwise (Le O key):=by rw[eB] at sB;exact(List.pairwise_append.mp sB).1
 have szX:((arrOf st).extract (sa+k) (sa+na)).size=na-k:=by rw[<-Array.length_toList,eXs,lX]
 have szY:((arrOf st).extract (sa+na) (sa+na+r)).size=r:=by rw[<-Array.length_toList,eYs,lY]
 have gX:∀x∈((arrOf st).extract (sa+k) (sa+na)).toList,Good x:=λx hx=>by
  rw[eXs] at hx;obtain⟨j,hj,ej⟩:=sg_at hx;obtain⟨z,e1,e2⟩:=gd (sa+k+j) (by omega);rw[e1] at ej;cases ej;exact e2
 have gY:∀x∈((arrOf st).extract (sa+na) (sa+na+r)).toList,Good x:=λx hx=>by
  rw[eYs] at hx;obtain⟨j,hj,ej⟩:=sg_at hx;obtain⟨z,e1,e2⟩:=gd (sa+na+j) (by omega);rw[e1] at ej;cases ej;exact e2
 have hf:∀x,((arrOf st).extract (sa+k) (sa+na)).toList[0]?=some x->∀y,((arrOf st).extract (sa+na) (sa+na+r)).toList[0]?=some y->Le O key y x:=λx ex y ey=>by
  rw[eXs] at ex;rw[eYs,sg_get hr0,Nat.add_zero,ey0] at ey;cases ey;exact le_of_lt (ltA2 x (List.mem_of_getElem? ex))
 have hl:∀y∈((arrOf st).extract (sa+na) (sa+na+r)).toList,∀x,((arrOf st).extract (sa+k) (sa+na)).toList[((arrOf st).extract (sa+k) (sa+na)).size-1]?=some x->Le O key y x:=λy hy x ex=>by
  rw[eYs] at hy;rw[szX,eXs,sg_get (by omega),show sa+k+(na-k-1)=sa+k+(na-k)-1 by omega,ex0] at ex;cases ex;exact le_of_lt (ltB1 y hy)
 have fin:∀(m:Array Keyed)(st':SortSt),Fi O key ((arrOf st).extract (sa+k) (sa+na)) ((arrOf st).extract (sa+na) (sa+na+r)) m →
   kindOf st'=κ->arrOf st'=arrOf st->pendingOf st'=((pendingOf st).setIfInBounds i (sa,na+nb,p)).eraseIdxIfInBounds (i+1)->failedOf st'=none →
   Q true (setArr st' (m.toList.zipIdx.foldl (λa (x:Keyed×Nat)=>a.setIfInBounds (sa+k+x.2) x.1) (arrOf st'))):=λm st' F c1 c2 c3 c4=>by
  obtain⟨mp,ms⟩:=F;rw[eXs,eYs] at mp;have ml:m.toList.length=na-k+r:=by rw[mp.length_eq,List.length_append,lX,lY]
  rw[c2];generalize ea:m.toList.zipIdx.foldl (λa (x:Keyed×Nat)=>a.setIfInBounds (sa+k+x.2) x.1) (arrOf st)=a';have at':∀i,a'[i]?=if sa+k<=i/\i<sa+k+(na-k+r) then m.toList[i-(sa+k)]? else (arrOf st)[i]?:=λi=>by
   have:=wr_at m.toList 0 (sa+k) (arrOf st) i (by rw[ml];omega);rw[ea,ml] at this;exact this
  have sz':a'.size=(arrOf st).size:=by
   rw[<-ea];have:∀(l:List (Keyed×Nat))(a:Array Keyed),(l.foldl (λa (x:Keyed×Nat)=>a.setIfInBounds (sa+k+x.2) x.1) a).size=a.size:=by
    intro l
    induction l with
    | nil=>intro a;rfl
    | cons x l ih=>intro a;rw[List.foldl_cons,ih,Array.size_setIfInBounds]
   exact this _ _
  have fr:Frm (arrOf st) a' (sa+k) (na-k+r):=λi hi=>by rw[at' i,if_neg hi]
  have em:sg a' (sa+k) (na-k+r)=m.toList:=by
   apply List.ext_getElem?;intro i;by_cases hi:i<na-k+r
   .rw[sg_get hi,at',if_pos (by omega)]
    congr 1;omega
   .rw[List.getElem?_eq_none (by rw[sg_len (by omega)];omega),List.getElem?_eq_none (by omega)]
  have fr':Frm (arrOf st) a' sa (na+nb):=λi hi=>fr i (by omega);refine h _ ⟨c1,?_,c4⟩ c3 ?_ fr'
  .show a'.toList.Perm _;refine(perm_of_frm sz' fr ?_).trans K.perm;rw[em,sg_add,show sa+k+(na-k)=sa+na by omega];exact mp
  .show (sg a' sa (na+nb)).Pairwise _;have e1:sg a' sa k=sg (arrOf st) sa k:=sg_congr λj hj=>fr _ (by omega);have e2:sg a' (sa+na+r) (nb-r)=sg (arrOf st) (sa+na+r) (nb-r):=sg_congr λj hj=>fr _ (by omega);rw[show na+nb=k+(na-k+r)+(nb-r) by omega,sg_add,sg_add,em,e1,show sa+(k+(na-k+r))=sa+na+r by omega,e2];have mm:∀x∈m.toList,x∈sg (arrOf st) (sa+k) (na-k)\/x∈sg (arrOf st) (sa+na) r:=λx hx=>List.mem_append.mp (mp.mem_iff.mp hx);have pA1:(sg (arrOf st) sa k).Pairwise (Le O key):=by rw[eA] at sA;exact(List.pairwise_append.mp sA).1
   have pB2:(sg (arrOf st) (sa+na+r) (nb-r)).Pairwise (Le O key):=by rw[eB] at sB;exact(List.pairwise_append.mp sB).2.1
   have x0m:∀x∈m.toList,Le O key x x0:=λx hx=>by
    rcases mm x hx with q|q
    .exact leX x (by rw[eA];exact List.mem_append_right _ q)
    .exact le_of_lt (ltB1 x q)
   have my0:∀x∈m.toList,Le O key y0 x:=λx hx=>by
    rcases mm x hx with q|q
    .exact le_of_lt (ltA2 x q)
    .exact leY x (by rw[eB];exact List.mem_append_left _ q)
   refine pw_app (pw_app pA1 ms λx hx y hy=>(leA1 x hx).trans (my0 y hy)) pB2 λx hx y hy=>?_;rcases List.mem_append.mp hx with q|q
   .exact(leX x (by rw[eA];exact List.mem_append_left _ q)).trans (leB2 y hy)
   .exact(x0m x q).trans (leB2 y hy)
 refine ite_ok (λ_=>wpS_bind (mergeLo_ok L gX gY (by rw[eXs];exact pA2) (by rw[eYs];exact pB1) (by rw[szX];omega) (by rw[szY];exact hr0) hf hl K.kind λm st' F S=>?_)) (λ_=>wpS_bind (mergeHi_ok L gX gY (by rw[eXs];exact pA2) (by rw[eYs];exact pB1) (by rw[szX];omega) (by rw[szY];exact hr0) hf hl K.kind λm st' F S=>?_))
 all_goals
  refine wpS_bind (wpS_modify (wpS_bind (wpS_get (wpS_pure ?_))));have this:=fin m st' F S.kind S.arr S.pend (S.fail.trans K.fail);have ef:failedOf st'=none:=S.fail.trans K.fail;show Q (failedOf st').isNone _;rw[ef];exact this
end
section
variable{O:KeyOrd}{key:Keyed->O.α}
def kk(key:Keyed->O.α)(a:Array Keyed)(lo i:Nat):O.α:=key (a[lo+i]?.getD (Value.none,Value.none))
def Inc(O:KeyOrd)(key:Keyed->O.α)(a:Array Keyed)(lo n:Nat):Prop:=∀i j,i<=j->j<n->O.kle (kk key a lo i) (kk key a lo j)
def Dec(O:KeyOrd)(key:Keyed->O.α)(a:Array Keyed)(lo n:Nat):Prop:=∀i j,i<=j->j<n->O.kle (kk key a lo j) (kk key a lo i)
theorem kk_congr{a b:Array Keyed}{lo i j:Nat}(h:a[lo+i]?=b[lo+j]?):kk key a lo i=kk key b lo j:=by
 unfold kk;rw[h]
theorem inc_one(a:Array Keyed)(lo:Nat){n:Nat}(h:n<=1):Inc O key a lo n:=λi j hij hj=>(show i=j by omega) ▸ O.irrefl _
theorem inc_snoc{a:Array Keyed}{lo n:Nat}(h:Inc O key a lo n)(hn:1<=n)(e:O.blt (kk key a lo n) (kk key a lo (n-1))=false):Inc O key a lo (n+1):=λi j hij hj=>by
 rcases Nat.lt_or_ge j n with q|q
 .exact h i j hij q
 obtain rfl:j=n:=by omega
 rcases Nat.lt_or_ge i j with z|z
 .exact KeyOrd.kle_trans (h i (j-1) (by omega) (by omega)) e
 .obtain rfl:i=j:=by omega
  exact O.irrefl _
theorem dec_snoc{a:Array Keyed}{lo n:Nat}(h:Dec O key a lo n)(hn:1<=n)(e:O.kle (kk key a lo n) (kk key a lo (n-1))):Dec O key a lo (n+1):=λi j hij hj=>by
 rcases Nat.lt_or_ge j n with q|q
 .exact h i j hij q
 obtain rfl:j=n:=by omega
 rcases Nat.lt_or_ge i j with z|z
 .exact KeyOrd.kle_trans e (h i (j-1) (by omega) (by omega))
 .obtain rfl:i=j:=by omega
  exact O.irrefl _
theorem dec_congr{a b:Array Keyed}{lo n:Nat}(h:Dec O key a lo n)(e:∀k,kk key b lo k=kk key a lo k):Dec O key b lo n:=λi j hij hj=>by
 rw[e,e];exact h i j hij hj
theorem inc_seg{a:Array Keyed}{lo n:Nat}(h:Inc O key a lo n):(sg a lo n).Pairwise (Le O key):=by
 rw[List.pairwise_iff_getElem];intro i j hi hj hij;have li:(sg a lo n).length<=n:=by unfold sg;rw[List.length_take];omega
 have hi':i<n:=by omega
 have hj':j<n:=by omega
 have ei:a[lo+i]?=some (sg a lo n)[i]:=(sg_get hi').symm.trans (List.getElem?_eq_getElem hi);have ej:a[lo+j]?=some (sg a lo n)[j]:=(sg_get hj').symm.trans (List.getElem?_eq_getElem hj);have:=h i j (Nat.le_of_lt hij) hj';unfold kk at this;rw[ei,ej] at this;exact this
theorem kk_mir{a:Array Keyed}{lo x y:Nat}(h:lo+y<=a.size)(k:Nat):kk key (mirror a (lo+x) (lo+y) ((lo+y-(lo+x)) / 2)) lo k=if x<=k/\k<y then kk key a lo (x+y-1-k) else kk key a lo k:=by
 have e:=getElem?_mirror_all (i:=lo+x) h (lo+k);by_cases c:x<=k/\k<y
 .rw[if_pos (by omega)] at e;rw[if_pos c];refine kk_congr (e.trans ?_)
  congr 1;omega
 .rw[if_neg (by omega)] at e;rw[if_neg c];exact kk_congr e
theorem kk_mir_eq{a:Array Keyed}{lo x y:Nat}(h:lo+y<=a.size)(he:∀k,x<=k->k<y->kk key a lo k=kk key a lo (y-1))(k:Nat):kk key (mirror a (lo+x) (lo+y) ((lo+y-(lo+x)) / 2)) lo k=kk key a lo k:=by
 rw[kk_mir h]
 split
 .rw[he _ (by omega) (by omega),he k (by omega) (by omega)]
 .rfl
theorem kk_bub{a:Array Keyed}{lo k l:Nat}(h:lo+k<a.size)(hl:l<=k)(i:Nat):kk key (bubble a (lo+k) (lo+k-(lo+l))) lo i=if i=l then kk key a lo k else if l<i/\i<=k then kk key a lo (i-1) else kk key a lo i:=by
 have e:=getElem?_bubble h (lo+k-(lo+l)) (by omega) (lo+i);by_cases c:i=l
 .rw[if_pos (by omega)] at e;rw[if_pos c];exact kk_congr e
 .rw [if_neg (by omega)] at e;rw[if_neg c];by_cases c2:l<i/\i<=k
  .rw[if_pos (by omega)] at e;rw[if_pos c2];refine kk_congr (e.trans ?_)
   congr 1;omega
  .rw[if_neg (by omega)] at e;rw[if_neg c2];exact kk_congr e
end
section
variable{prog:Program}{w:World}{A:Around}{E:Value->Shared->Prop}{s:Shared}{κ:SortKind}{O:KeyOrd}{key:Keyed->O.α}{Good:Keyed->Prop}{a₀:Array Keyed}
structure Cr(κ:SortKind)(a₀:Array Keyed)(st0:SortSt)(lo nrem:Nat)(st:SortSt):Prop where
 kp:Kp κ a₀ st
 pend:pendingOf st=pendingOf st0
 frm:Frm (arrOf st0) (arrOf st) lo nrem
theorem Cr.mir{st0 st:SortSt}{lo nrem x y:Nat}(C:Cr κ a₀ st0 lo nrem st)(h:y<=nrem)(hs:lo+nrem<=a₀.size):Cr κ a₀ st0 lo nrem (setArr st (mirror (arrOf st) (lo+x) (lo+y) ((lo+y-(lo+x)) / 2))):=
 ⟨⟨C.kp.kind,(Array.perm_iff_toList_perm.mp (mirror_perm _ _ _ _)).trans C.kp.perm,C.kp.fail⟩,C.pend,C.frm.trans λi hi=>by
  show(mirror (arrOf st) (lo+x) (lo+y) ((lo+y-(lo+x)) / 2))[i]?=_;rw[getElem?_mirror_all (by rw[C.kp.size];omega),if_neg (by omega)]⟩
theorem Cr.bub{st0 st:SortSt}{lo nrem k l:Nat}(C:Cr κ a₀ st0 lo nrem st)(hl:l<=k)(h:k<nrem)(hs:lo+nrem<=a₀.size):Cr κ a₀ st0 lo nrem (setArr st (bubble (arrOf st) (lo+k) (lo+k-(lo+l)))):=
 ⟨⟨C.kp.kind,(Array.perm_iff_toList_perm.mp (bubble_perm _ _ _)).trans C.kp.perm,C.kp.fail⟩,C.pend,C.frm.trans λi hi=>by
  show(bubble (arrOf st) (lo+k) (lo+k-(lo+l)))[i]?=_;rw[getElem?_bubble (by rw[C.kp.size];omega) _ (by omega),if_neg (by omega),if_neg (by omega)]⟩
theorem ltAt_ok{st:SortSt}{lo i j i' j':Nat}{Q:Option Bool->SortSt->Prop}(L:LtOk prog w A E s κ O key Good)(g:∀x∈a₀.toList,Good x)(K:Kp κ a₀ st)(ei:i'=lo+i)(ej:j'=lo+j)(hi:lo+i<a₀.size)(hj:lo+j<a₀.size)
  (h:Q (some (O.blt (kk key (arrOf st) lo i) (kk key (arrOf st) lo j))) st):wpS (model prog w) A E s (ltAt' i' j') Q st:=by
 subst ei;subst ej;obtain⟨x,ex,gx⟩:=K.good g hi;obtain⟨y,ey,gy⟩:=K.good g hj;unfold kk at h;rw[ex,ey] at h;rw[ltAt'_eq];refine wpS_bind (wpS_get ?_);refine wpS_bind (elem_ok ex ?_);refine wpS_bind (elem_ok ey ?_);exact L x y gx gy Q st K.kind h
theorem asc_ok{st:SortSt}{lo a nrem:Nat}{f:Nat->Option (Option Nat)×Nat->StateT SortSt Sem (ForInStep (Option (Option Nat)×Nat))}{Q:Option (Option Nat)×Nat->SortSt->Prop}(ha:1<=a)(han:a<=nrem)
  (hf:∀x n (R:ForInStep (Option (Option Nat)×Nat)->SortSt->Prop),1<=n->n<nrem->(O.blt (kk key (arrOf st) lo n) (kk key (arrOf st) lo (n-1))=true->R (.done (none,n)) st)->(O.blt (kk key (arrOf st) lo n) (kk key (arrOf st) lo (n-1))=false->R (.yield (none,n+1)) st)->wpS (model prog w) A E s (f x (none,n)) R st)
  (hs:Inc O key (arrOf st) lo a) (h:∀n,a<=n->n<=nrem->Inc O key (arrOf st) lo n->(n=nrem\/O.klt (kk key (arrOf st) lo n) (kk key (arrOf st) lo (n-1)))->Q (none,n) st) :
  wpS (model prog w) A E s (forIn [a:nrem] (none,a) f) Q st:=by
 refine wpS_forRange (I:=λx c z=>z=st/\c=(none,x)/\Inc O key (arrOf st) lo x) (λx c z l1 l2=>?_) (λc z=>?_) ⟨rfl,rfl,hs⟩
 .rintro⟨rfl,rfl,up⟩;exact hf x x _ (by omega) l2 (λe=>h x l1 (by omega) up (.inr e)) λe=>⟨rfl,rfl,inc_snoc up (by omega) e⟩
 .rintro⟨rfl,rfl,up⟩;obtain e:max a nrem=nrem:=by omega
  rw[e] at up ⊢;exact h nrem han (Nat.le_refl nrem) up (.inl rfl)
theorem desc_ok{st0 st:SortSt}{lo a nrem:Nat}{f:Nat->Option (Option Nat)×Nat×Nat->StateT SortSt Sem (ForInStep (Option (Option Nat)×Nat×Nat))}{Q:Option (Option Nat)×Nat×Nat->SortSt->Prop}(hz:lo+nrem<=a₀.size)(ha:1<=a)(han:a<=nrem)
  (C:Cr κ a₀ st0 lo nrem st)
  (hf:∀x n neq st' (R:ForInStep (Option (Option Nat)×Nat×Nat)->SortSt->Prop),Cr κ a₀ st0 lo nrem st'->1<=n->n<nrem->neq+1<=n →
   (O.blt (kk key (arrOf st') lo n) (kk key (arrOf st') lo (n-1))=true->neq>0->R (.yield (none,n+1,0)) (setArr st' (mirror (arrOf st') (lo+(n-(neq+1))) (lo+n) ((lo+n-(lo+(n-(neq+1)))) / 2)))) →
   (O.blt (kk key (arrOf st') lo n) (kk key (arrOf st') lo (n-1))=true->¬neq>0->R (.yield (none,n+1,0)) st') →
   (O.blt (kk key (arrOf st') lo n) (kk key (arrOf st') lo (n-1))=false->O.blt (kk key (arrOf st') lo (n-1)) (kk key (arrOf st') lo n)=true->R (.done (none,n,neq)) st') →
   (O.blt (kk key (arrOf st') lo n) (kk key (arrOf st') lo (n-1))=false->O.blt (kk key (arrOf st') lo (n-1)) (kk key (arrOf st') lo n)=false->R (.yield (none,n+1,neq+1)) st') →
   wpS (model prog w) A E s (f x (none,n,neq)) R st')
  (hs:Dec O key (arrOf st) lo a)
  (h:∀m neq st',Cr κ a₀ st0 lo nrem st'->a<=m->m<=nrem->Dec O key (arrOf st') lo m->neq+1<=m->(∀i,m-(neq+1)<=i->i<m->kk key (arrOf st') lo i=kk key (arrOf st') lo (m-1))->Q (none,m,neq) st') :
  wpS (model prog w) A E s (forIn [a:nrem] (none,a,0) f) Q st:=by
 refine wpS_forRange (I:=λx c z=>∃m,c=(none,x,m)/\Cr κ a₀ st0 lo nrem z/\Dec O key (arrOf z) lo x/\m+1<=x/\∀i,x-(m+1)<=i->i<x->kk key (arrOf z) lo i=kk key (arrOf z) lo (x-1))
  (λx c z l1 l2=>?_) (λc z=>?_) ⟨0,rfl,C,hs,ha,λi _ _=>by congr 1;omega⟩
 .rintro ⟨m,rfl,C',dn,lm,sm⟩;have fits:lo+x<=(arrOf z).size:=by rw[C'.kp.size];omega
  have last:∀(b:Array Keyed) i,x+1-(0+1)<=i->i<x+1->kk key b lo i=kk key b lo (x+1-1):=λb i _ _=>by congr 1;omega
  refine hf x x m z _ C' (by omega) l2 lm (λe q=>⟨0,rfl,C'.mir (by omega) hz,?_,by omega,last _⟩) (λe q=>⟨0,rfl,C',dec_snoc dn (by omega) (KeyOrd.kle_of_klt e),by omega,last _⟩) (λe q=>h x m z C' l1 (by omega) dn lm sm) (λe q=>?_)
  .exact dec_congr (dec_snoc dn (by omega) (KeyOrd.kle_of_klt e)) (kk_mir_eq fits sm)
  .have same:kk key (arrOf z) lo x=kk key (arrOf z) lo (x-1):=KeyOrd.kle_antisymm q e;refine⟨m+1,rfl,C',dec_snoc dn (by omega) q,by omega,λi i1 i2=>?_⟩;rw[Nat.add_sub_cancel];rcases Nat.lt_or_ge i x with y|y
   .exact(sm i (by omega) y).trans same.symm
   .obtain rfl:i=x:=by omega
    rfl
 .rintro⟨m,rfl,C',dn,lm,sm⟩;obtain e:max a nrem=nrem:=by omega
  rw[e] at dn lm sm ⊢;exact h nrem m z C' han (Nat.le_refl nrem) dn lm sm
theorem countRun_ok{st:SortSt}{lo nrem:Nat}{Q:Option Nat->SortSt->Prop}(L:LtOk prog w A E s κ O key Good)(g:∀x∈a₀.toList,Good x)(K:Kp κ a₀ st)(h1:1<=nrem)(hz:lo+nrem<=a₀.size)
  (h:∀m st',Cr κ a₀ st lo nrem st'->1<=m->m<=nrem->Inc O key (arrOf st') lo m->Q (some m) st'):wpS (model prog w) A E s (countRun' lo nrem) Q st:=by
 have C0:Cr κ a₀ st lo nrem st:=⟨K,rfl,Frm.refl _ _ _⟩;have stp:∀st' n (R:Option Bool->SortSt->Prop),Kp κ a₀ st'->1<=n->n<nrem->(∀b,O.blt (kk key (arrOf st') lo n) (kk key (arrOf st') lo (n-1))=b->R (some b) st')->wpS (model prog w) A E s (ltAt' (lo+n) (lo+n-1)) R st':=λst' n R K' a b hR=>
  ltAt_ok (key:=key) L g K' rfl (show lo+n-1=lo+(n-1) by omega) (by omega) (by omega) (hR _ rfl)
 unfold countRun';refine wpS_bind (asc_ok (key:=key) (lo:=lo) (Nat.le_refl 1) h1 (λx n R a b r1 r2=>wpS_bind (stp st n _ K a b λc e=>?_)) (inc_one _ _ (Nat.le_refl 1)) λn n1 n2 hs hor=>?_)
 .cases c with
  | true=>exact wpS_pure (r1 e)
  | false=>exact wpS_pure (r2 e)
 dsimp only;refine ite_ok (λe=>wpS_pure (h n st C0 n1 n2 hs)) λe=>?_;have hlt:O.klt (kk key (arrOf st) lo n) (kk key (arrOf st) lo (n-1)):=hor.resolve_left (ne_of_beq e);have hnn:n<nrem:=by have:=ne_of_beq e;omega
 refine ite_ok (λhgt=>?_) (λhgt=>?_)
 .refine wpS_bind (ltAt_ok (key:=key) L g K (show lo=lo+0 from rfl) (show lo+n-1=lo+(n-1) by omega) (by omega) (by omega) ?_);dsimp only;refine ite_ok (λ_=>wpS_pure (h n st C0 n1 n2 hs)) λhrose=>?_;have hsz:lo+n<=(arrOf st).size:=by rw[K.size];omega
  have hall:∀k,0<=k->k<n->kk key (arrOf st) lo k=kk key (arrOf st) lo (n-1):=by
   intro k _ hk;have a1:=hs 0 k (by omega) hk;have a2:=hs k (n-1) (by omega) (by omega);have a3:O.kle (kk key (arrOf st) lo (n-1)) (kk key (arrOf st) lo 0):=by
    have z:O.blt (kk key (arrOf st) lo 0) (kk key (arrOf st) lo (n-1))=false:=by simpa using hrose
    exact z
   exact KeyOrd.kle_antisymm a2 (KeyOrd.kle_trans a3 a1)
  refine wpS_bind (wpS_reverse ?_);have C1:=C0.mir (x:=0) (y:=n) n2 hz;have flat:Dec O key (arrOf st) lo n:=λi j hij hj=>by
   rw[hall i (Nat.zero_le i) (by omega),hall j (Nat.zero_le j) hj];exact O.irrefl _
  have D1:Dec O key (arrOf (setArr st (mirror (arrOf st) (lo+0) (lo+n) ((lo+n-(lo+0)) / 2)))) lo (n+1):=dec_congr (dec_snoc flat n1 (KeyOrd.kle_of_klt hlt)) (kk_mir_eq hsz hall);change wpS (model prog w) A E s _ Q (setArr st (mirror (arrOf st) (lo+0) (lo+n) ((lo+n-(lo+0)) / 2)))
  revert C1 D1
  generalize setArr st (mirror (arrOf st) (lo+0) (lo+n) ((lo+n-(lo+0)) / 2))=st1;intro C1 D1;refine wpS_bind (wpS_lift (wpAny_rule ⟨rfl,?_⟩));refine wpS_bind (desc_ok (key:=key) hz (by omega) (by omega) C1 (λx n neq st' R C' a b c r1 r2 r3 r4=>wpS_bind (stp st' n _ C'.kp a b λc1 e1=>?_)) D1 λm neq st2 C2 m1 m2 D2 q1 q2=>?_)
  .cases c1 with
   | true=>
    dsimp only;rw[if_pos rfl];refine ite_ok (λhq=>wpS_bind (wpS_reverse (wpS_pure ?_))) λhq=>wpS_pure (r2 e1 hq);rw[show lo+n-(neq+1)=lo+(n-(neq+1)) by omega];exact r1 e1 hq
   | false=>
    dsimp only;rw[if_neg Bool.false_ne_true];refine wpS_bind (ltAt_ok (key:=key) L g C'.kp (show lo+n-1=lo+(n-1) by omega) rfl (by omega) (by omega) ?_);dsimp only;exact ite_ok (λhq=>wpS_pure (r3 e1 hq)) λhq=>wpS_pure (r4 e1 (by simpa using hq))
  .dsimp only;have hsz2:lo+m<=(arrOf st2).size:=by rw[C2.kp.size];omega
   have tl:∀st3,Cr κ a₀ st lo nrem st3->Dec O key (arrOf st3) lo m->Inc O key (arrOf (setArr st3 (mirror (arrOf st3) (lo+0) (lo+m) ((lo+m-(lo+0)) / 2)))) lo m:=λst3 C3 D3 i j hij hj=>by
    show O.kle (kk key (mirror (arrOf st3) _ _ _) lo i) (kk key (mirror (arrOf st3) _ _ _) lo j);have hsz3:lo+m<=(arrOf st3).size:=by rw[C3.kp.size];omega
    rw[kk_mir hsz3,kk_mir hsz3,if_pos (by omega),if_pos (by omega)];exact D3 _ _ (by omega) (by omega)
   refine ite_ok (λhq=>wpS_bind (wpS_reverse ?_)) (λhq=>?_)
   .have C3:=C2.mir (x:=m-(neq+1)) (y:=m) m2 hz;rw[show lo+m-(neq+1)=lo+(m-(neq+1)) by omega];have D3:Dec O key (arrOf (setArr st2 (mirror (arrOf st2) (lo+(m-(neq+1))) (lo+m) ((lo+m-(lo+(m-(neq+1)))) / 2)))) lo m:=dec_congr D2 (kk_mir_eq hsz2 q2)
    revert C3 D3
    generalize setArr st2 (mirror (arrOf st2) (lo+(m-(neq+1))) (lo+m) ((lo+m-(lo+(m-(neq+1)))) / 2))=st3;intro C3 D3;refine wpS_bind (wpS_reverse ?_);have C4:=Cr.mir (x:=0) C3 m2 hz;have D4:=tl st3 C3 D3;refine wpS_bind (asc_ok (key:=key) (lo:=lo) (st:=setArr st3 (mirror (arrOf st3) (lo+0) (lo+m) ((lo+m-(lo+0)) / 2))) (by omega) m2 (λx n R a b r1 r2=>wpS_bind (stp _ n _ C4.kp a b λc e=>?_)) D4 λn n1 n2 hs hor=>wpS_pure (h n _ C4 (by omega) n2 hs));cases c with
    | true=>exact wpS_pure (r1 e)
    | false=>exact wpS_pure (r2 e)
   .refine wpS_bind (wpS_reverse ?_);have C4:=Cr.mir (x:=0) C2 m2 hz;have D4:=tl st2 C2 D2;refine wpS_bind (asc_ok (key:=key) (lo:=lo) (st:=setArr st2 (mirror (arrOf st2) (lo+0) (lo+m) ((lo+m-(lo+0)) / 2))) (by omega) m2 (λx n R a b r1 r2=>wpS_bind (stp _ n _ C4.kp a b λc e=>?_)) D4 λn n1 n2 hs hor=>wpS_pure (h n _ C4 (by omega) n2 hs));cases c with
    | true=>exact wpS_pure (r1 e)
    | false=>exact wpS_pure (r2 e)
 .have hn1':n=1:=by omega
  subst hn1';have C1:=C0;have D1:Dec O key (arrOf st) lo (1+1):=dec_snoc (λi j hij hj=>(show i=j by omega) ▸ O.irrefl _) (Nat.le_refl 1) (KeyOrd.kle_of_klt hlt);refine wpS_bind (wpS_lift (wpAny_rule ⟨rfl,?_⟩));refine wpS_bind (desc_ok (key:=key) hz (by omega) (by omega) C1 (λx n neq st' R C' a b c r1 r2 r3 r4=>wpS_bind (stp st' n _ C'.kp a b λc1 e1=>?_)) D1 λm neq st2 C2 m1 m2 D2 q1 q2=>?_)
  .cases c1 with
   | true=>
    dsimp only;rw[if_pos rfl];refine ite_ok (λhq=>wpS_bind (wpS_reverse (wpS_pure ?_))) λhq=>wpS_pure (r2 e1 hq);rw[show lo+n-(neq+1)=lo+(n-(neq+1)) by omega];exact r1 e1 hq
   | false=>
    dsimp only;rw[if_neg Bool.false_ne_true];refine wpS_bind (ltAt_ok (key:=key) L g C'.kp (show lo+n-1=lo+(n-1) by omega) rfl (by omega) (by omega) ?_);dsimp only;exact ite_ok (λhq=>wpS_pure (r3 e1 hq)) λhq=>wpS_pure (r4 e1 (by simpa using hq))
  .dsimp only;have hsz2:lo+m<=(arrOf st2).size:=by rw[C2.kp.size];omega
   have tl:∀st3,Cr κ a₀ st lo nrem st3->Dec O key (arrOf st3) lo m->Inc O key (arrOf (setArr st3 (mirror (arrOf st3) (lo+0) (lo+m) ((lo+m-(lo+0)) / 2)))) lo m:=λst3 C3 D3 i j hij hj=>by
    show O.kle (kk key (mirror (arrOf st3) _ _ _) lo i) (kk key (mirror (arrOf st3) _ _ _) lo j);have hsz3:lo+m<=(arrOf st3).size:=by rw[C3.kp.size];omega
    rw[kk_mir hsz3,kk_mir hsz3,if_pos (by omega),if_pos (by omega)];exact D3 _ _ (by omega) (by omega)
   refine ite_ok (λhq=>wpS_bind (wpS_reverse ?_)) (λhq=>?_)
   .have C3:=C2.mir (x:=m-(neq+1)) (y:=m) m2 hz;rw[show lo+m-(neq+1)=lo+(m-(neq+1)) by omega];have D3:Dec O key (arrOf (setArr st2 (mirror (arrOf st2) (lo+(m-(neq+1))) (lo+m) ((lo+m-(lo+(m-(neq+1)))) / 2)))) lo m:=dec_congr D2 (kk_mir_eq hsz2 q2)
    revert C3 D3
    generalize setArr st2 (mirror (arrOf st2) (lo+(m-(neq+1))) (lo+m) ((lo+m-(lo+(m-(neq+1)))) / 2))=st3;intro C3 D3;refine wpS_bind (wpS_reverse ?_);have C4:=Cr.mir (x:=0) C3 m2 hz;have D4:=tl st3 C3 D3;refine wpS_bind (asc_ok (key:=key) (lo:=lo) (st:=setArr st3 (mirror (arrOf st3) (lo+0) (lo+m) ((lo+m-(lo+0)) / 2))) (by omega) m2 (λx n R a b r1 r2=>wpS_bind (stp _ n _ C4.kp a b λc e=>?_)) D4 λn n1 n2 hs hor=>wpS_pure (h n _ C4 (by omega) n2 hs));cases c with
    | true=>exact wpS_pure (r1 e)
    | false=>exact wpS_pure (r2 e)
   .refine wpS_bind (wpS_reverse ?_);have C4:=Cr.mir (x:=0) C2 m2 hz;have D4:=tl st2 C2 D2;refine wpS_bind (asc_ok (key:=key) (lo:=lo) (st:=setArr st2 (mirror (arrOf st2) (lo+0) (lo+m) ((lo+m-(lo+0)) / 2))) (by omega) m2 (λx n R a b r1 r2=>wpS_bind (stp _ n _ C4.kp a b λc e=>?_)) D4 λn n1 n2 hs hor=>wpS_pure (h n _ C4 (by omega) n2 hs));cases c with
    | true=>exact wpS_pure (r1 e)
    | false=>exact wpS_pure (r2 e)
theorem binarySort_ok{st:SortSt}{lo n ok:Nat}{Q:Bool->SortSt->Prop}(L:LtOk prog w A E s κ O key Good)(g:∀x∈a₀.toList,Good x)(K:Kp κ a₀ st)(hz:lo+n<=a₀.size)(hok:ok<=n)(hs:Inc O key (arrOf st) lo ok)
  (h:∀st',Cr κ a₀ st lo n st'->Inc O key (arrOf st') lo n->Q true st'):wpS (model prog w) A E s (binarySort' lo n ok) Q st:=by
 unfold binarySort';refine wpS_bind (wpS_mono (wpS_forRange (I:=λx c z=>c=(none,())/\Cr κ a₀ st lo n z/\Inc O key (arrOf z) lo (min x n)) (Q:=λc z=>c=(none,())/\Cr κ a₀ st lo n z/\Inc O key (arrOf z) lo n) (λk c z l1 l2=>?_) (λc z=>?_) ⟨rfl,⟨K,rfl,Frm.refl _ _ _⟩,?_⟩) λc z=>?_)
 .rintro ⟨rfl,C,up⟩;obtain ek:min k n=k:=by omega
  rw[ek] at up;obtain⟨kf,kn⟩:lo+k<a₀.size/\lo+k<(arrOf z).size:=⟨by omega,by rw[C.kp.size];omega⟩;refine wpS_bind (wpS_mono (wpS_forRange
   (I:=λx c y=>y=z/\∃u v,c=(none,u,v)/\u<=v/\v<=k/\v-u+x<=k/\(∀i,i<u->O.kle (kk key (arrOf z) lo i) (kk key (arrOf z) lo k))/\∀i,v<=i->i<k->O.klt (kk key (arrOf z) lo k) (kk key (arrOf z) lo i))
   (Q:=λc y=>y=z/\∃u v,c=(none,u,v)/\u<=k/\(∀i,i<u->O.kle (kk key (arrOf z) lo i) (kk key (arrOf z) lo k))/\∀i,u<=i->i<k->O.klt (kk key (arrOf z) lo k) (kk key (arrOf z) lo i))
   (λx c y _ l3=>?_) (λc y=>?_) ⟨rfl,0,k,rfl,Nat.zero_le k,Nat.le_refl k,by omega,λ_ q=>absurd q (Nat.not_lt_zero _),λ_ q1 q2=>absurd q2 (by omega)⟩) λc y=>?_)
  .rintro⟨rfl,u,v,rfl,uv,vk,le,below,above⟩;dsimp only;refine ite_ok (λq=>?_) (λq=>wpS_bind (ltAt_ok (key:=key) L g C.kp rfl rfl kf (by omega) ?_))
   .obtain rfl:u=v:=by omega
    exact wpS_pure ⟨rfl,u,u,rfl,vk,below,above⟩
   .dsimp only;refine ite_ok (λq2=>wpS_pure ⟨rfl,u,(u+v) / 2,rfl,by omega,by omega,by omega,below,λi i1 i2=>KeyOrd.klt_of_klt_of_kle q2 (up _ i i1 i2)⟩) (λq2=>wpS_pure ⟨rfl,(u+v) / 2+1,v,rfl,by omega,by omega,by omega,λi i1=>?_,above⟩);refine KeyOrd.kle_trans (up i ((u+v) / 2) (by omega) (by omega)) ?_;exact KeyOrd.kle_of_not_klt q2
  .rintro⟨rfl,u,v,rfl,uv,vk,le,below,above⟩;obtain rfl:u=v:=by omega
   exact⟨rfl,u,u,rfl,vk,below,above⟩
  .rintro ⟨rfl,u,v,rfl,uk,below,above⟩;refine wpS_bind (wpS_modify (wpS_pure ⟨rfl,C.bub uk l2 hz,?_⟩));obtain e1:min (k+1) n=k+1:=by omega
   rw[e1];intro i j hij hj;show O.kle (kk key (bubble (arrOf y) (lo+k) (lo+k-(lo+u))) lo i) (kk key (bubble (arrOf y) (lo+k) (lo+k-(lo+u))) lo j);rw[kk_bub kn uk,kk_bub kn uk];rcases Nat.lt_trichotomy i u with iu|iu|iu
   .rw [if_neg (by omega),if_neg (by omega)];rcases Nat.lt_trichotomy j u with ju|ju|ju
    .rw[if_neg (by omega),if_neg (by omega)];exact up i j hij (by omega)
    .rw[if_pos ju];exact below i iu
    .rw[if_neg (by omega),if_pos (by omega)];exact up i (j-1) (by omega) (by omega)
   .rw [if_pos iu];rcases Nat.lt_or_ge u j with ju|ju
    .rw[if_neg (by omega),if_pos (by omega)];exact KeyOrd.kle_of_klt (above (j-1) (by omega) (by omega))
    .rw[if_pos (by omega)];exact O.irrefl _
   .rw[if_neg (by omega),if_pos (by omega),if_neg (by omega),if_pos (by omega)];exact up (i-1) (j-1) (by omega) (by omega)
 .rintro⟨e,C,up⟩;obtain e1:min (max (max ok 1) n) n=n:=by omega
  rw[e1] at up;exact⟨e,C,up⟩
 .rcases Nat.lt_or_ge ok 1 with q|q
  .exact inc_one _ _ (by omega)
  .obtain e1:min (max ok 1) n=ok:=by omega
   rw[e1];exact hs
 .rintro⟨rfl,C,up⟩;exact wpS_pure (h z C up)
end
def rl(p:Array (Nat×Nat×Nat)):List (Nat×Nat):=p.toList.map λt=>(t.1,t.2.1)
section
variable{O:KeyOrd}{key:Keyed->O.α}
def Rn(O:KeyOrd)(key:Keyed->O.α)(a:Array Keyed):Nat->List (Nat×Nat)->Nat->Prop
 | lo,[],hi=>lo=hi
 | lo,t::l,hi=>t.1=lo/\0<t.2/\(sg a lo t.2).Pairwise (Le O key)/\Rn O key a (lo+t.2) l hi
theorem Rn.le{a:Array Keyed}:∀{l:List (Nat×Nat)}{lo hi:Nat},Rn O key a lo l hi->lo+l.length<=hi
 | [],_,_,h=>Nat.le_of_eq h
 | _::l,_,_,⟨_,h2,_,h4⟩=>by
  have:=Rn.le h4;rw[List.length_cons];omega
theorem Rn.keep{a b:Array Keyed}:∀{l:List (Nat×Nat)}{lo hi:Nat},Rn O key a lo l hi->(∀i,lo<=i->i<hi->b[i]?=a[i]?)->Rn O key b lo l hi
 | [],_,_,h,_=>h
 | t::l,lo,hi,⟨h1,h2,h3,h4⟩,e=>by
  have:=Rn.le h4;refine⟨h1,h2,?_,Rn.keep h4 λi i1 i2=>e i (by omega) i2⟩;rw[sg_congr (b:=a) λi hi=>e _ (by omega) (by omega)];exact h3
theorem Rn.app{a:Array Keyed}:∀{l m:List (Nat×Nat)}{lo mid hi:Nat},Rn O key a lo l mid->Rn O key a mid m hi->Rn O key a lo (l++m) hi
 | [],_,_,_,_,h,k=>by cases h;exact k
 | _::l,_,_,_,_,⟨h1,h2,h3,h4⟩,k=>⟨h1,h2,h3,Rn.app h4 k⟩
theorem Rn.split{a:Array Keyed}:∀{l m:List (Nat×Nat)}{lo hi:Nat},Rn O key a lo (l++m) hi->∃mid,Rn O key a lo l mid/\Rn O key a mid m hi
 | [],_,lo,_,h=>⟨lo,rfl,h⟩
 | _::l,_,_,_,⟨h1,h2,h3,h4⟩=>by
  obtain⟨mid,q1,q2⟩:=Rn.split h4;exact⟨mid,⟨h1,h2,h3,q1⟩,q2⟩
theorem Rn.push{a b:Array Keyed}{l:List (Nat×Nat)}{lo hi n:Nat}(h:Rn O key a lo l hi)(e:∀i,lo<=i->i<hi->b[i]?=a[i]?)(hn:0<n)(hs:(sg b hi n).Pairwise (Le O key)):Rn O key b lo (l++[(hi,n)]) (hi+n):=
 Rn.app (h.keep e) ⟨rfl,hn,hs,rfl⟩
theorem rl_push(p:Array (Nat×Nat×Nat))(t:Nat×Nat×Nat):rl (p.push t)=rl p++[(t.1,t.2.1)]:=by
 unfold rl;rw[Array.toList_push,List.map_append];rfl
theorem rl_len(p:Array (Nat×Nat×Nat)):(rl p).length=p.size:=by
 unfold rl;rw[List.length_map,Array.length_toList]
theorem rl_mod(p:Array (Nat×Nat×Nat))(i:Nat)(f:Nat×Nat×Nat->Nat×Nat×Nat)(hf:∀t,((f t).1,(f t).2.1)=(t.1,t.2.1)):rl (p.modify i f)=rl p:=by
 unfold rl;apply List.ext_getElem?;intro j;simp only[List.getElem?_map,Array.getElem?_toList,Array.getElem?_modify]
 split
 .cases p[j]? with
  | none=>rfl
  | some t=>simp only[Option.map_some];rw[hf t]
 .rfl
theorem two_at{p:Array (Nat×Nat×Nat)}{i:Nat}(h:i+1<p.size):∃l t u m,p.toList=l++t::u::m/\l.length=i/\p[i]?=some t/\p[i+1]?=some u:=by
 refine⟨p.toList.take i,p[i],p[i+1],p.toList.drop (i+2),?_,by rw[List.length_take,Array.length_toList];omega,by simp,by simp⟩;have e1:p.toList.drop i=p[i]::p.toList.drop (i+1):=by rw[List.drop_eq_getElem_cons (by simpa using(by omega:i<p.size))];rfl
 have e2:p.toList.drop (i+1)=p[i+1]::p.toList.drop (i+2):=by rw[List.drop_eq_getElem_cons (by simpa using h)];rfl
 rw[<-e2,<-e1,List.take_append_drop]
theorem rl_two{p:Array (Nat×Nat×Nat)}{i:Nat}{l m:List (Nat×Nat×Nat)}{t u v:Nat×Nat×Nat}(e:p.toList=l++t::u::m)(hl:l.length=i) :
  ((p.setIfInBounds i v).eraseIdxIfInBounds (i+1)).toList=l++v::m:=by
 subst hl;rw[Array.toList_eraseIdxIfInBounds,Array.toList_setIfInBounds,e,List.set_append_right _ _ (Nat.le_refl _),Nat.sub_self,List.set_cons_zero,List.eraseIdx_append_of_length_le (by omega),Nat.add_sub_cancel_left];rfl
end
section
variable{prog:Program}{w:World}{A:Around}{E:Value->Shared->Prop}{s:Shared}{κ:SortKind}{O:KeyOrd}{key:Keyed->O.α}{Good:Keyed->Prop}{a₀:Array Keyed}
structure Pd(κ:SortKind)(O:KeyOrd)(key:Keyed->O.α)(a₀:Array Keyed)(hi:Nat)(st:SortSt):Prop where
 kp:Kp κ a₀ st
 run:Rn O key (arrOf st) 0 (rl (pendingOf st)) hi
 fits:hi<=a₀.size
theorem mergeTwo_ok{st:SortSt}{hi i:Nat}{Q:Bool->SortSt->Prop}(L:LtOk prog w A E s κ O key Good)(g:∀x∈a₀.toList,Good x)(P:Pd κ O key a₀ hi st)(hi':i+1<(pendingOf st).size)
  (h:∀st',Pd κ O key a₀ hi st'->(pendingOf st').size+1=(pendingOf st).size->(∀i,hi<=i->(arrOf st')[i]?=(arrOf st)[i]?)->Q true st'):wpS (model prog w) A E s (mergeAt' i) Q st:=by
 obtain⟨l,⟨sa,na,p⟩,⟨sb,nb,q⟩,m,ep,hl,e1,e2⟩:=two_at hi';have R:=P.run;unfold rl at R;rw[ep,List.map_append] at R;obtain⟨mid,R1,r1,r2,r3,r4,r5,r6,R2⟩:=Rn.split R;dsimp only at r1 r2 r3 r4 r5 r6 R2;subst r1;subst r4;have lim:=Rn.le R2;refine mergeAt_ok L g P.kp e1 e2 r2 r5 (by have:=P.fits;omega) r3 r6 λst' K' e3 sS fr=>h st' ⟨K',?_,P.fits⟩ ?_ λi i1=>fr i (by omega)
 .unfold rl;rw[e3,rl_two ep hl,List.map_append];refine Rn.app (R1.keep λi i1 i2=>fr i (by omega)) ⟨rfl,by show 0<na+nb;omega,sS,?_⟩;show Rn O key (arrOf st') (sa+(na+nb)) _ hi;rw[<-Nat.add_assoc];exact R2.keep λi i1 i2=>fr i (by omega)
 .have l1:=congrArg List.length (rl_two (v:=(sa,na+nb,p)) ep hl);have l2:=congrArg List.length ep;rw[<-e3] at l1;rw[Array.length_toList] at l1 l2;rw[l1,l2,List.length_append,List.length_append];simp only[List.length_cons];omega
theorem Pd.kpSet{st:SortSt}{hi:Nat}{p:Array (Nat×Nat×Nat)}(P:Pd κ O key a₀ hi st)(e:rl p=rl (pendingOf st)):Pd κ O key a₀ hi (setPending st p):=
 ⟨⟨P.kp.kind,P.kp.perm,P.kp.fail⟩,by
  show Rn O key (arrOf st) 0 (rl p) hi;rw[e];exact P.run,P.fits⟩
theorem Pd.push{st:SortSt}{lo n q:Nat}(P:Pd κ O key a₀ lo st)(hn:1<=n)(hf:lo+n<=a₀.size)(S:(sg (arrOf st) lo n).Pairwise (Le O key)):Pd κ O key a₀ (lo+n) (setPending st ((pendingOf st).push (lo,n,q))):=
 ⟨⟨P.kp.kind,P.kp.perm,P.kp.fail⟩,by
  show Rn O key (arrOf st) 0 (rl ((pendingOf st).push (lo,n,q))) (lo+n);rw[rl_push];exact P.run.push (λ_ _ _=>rfl) hn S,hf⟩
theorem sortRuns_ok{st:SortSt}{Q:Unit->SortSt->Prop}(L:LtOk prog w A E s κ O key Good)(g:∀x∈a₀.toList,Good x)(K:Kp κ a₀ st)(h0:pendingOf st=#[])(h1:1<=a₀.size)
  (h:∀st',Kp κ a₀ st'->(arrOf st').toList.Pairwise (Le O key)->Q () st'):wpS (model prog w) A E s sortRuns' Q st:=by
 rw[sortRuns'_eq];refine wpS_bind (wpS_get ?_);dsimp only;rw[K.size];have P0:Pd κ O key a₀ 0 st:=⟨K,by rw[h0];rfl,Nat.zero_le _⟩;refine wpS_bind (wpS_mono (wpS_forRange (I:=λx c z=>∃lo,c=(none,lo)/\Pd κ O key a₀ lo z/\(x<=lo\/lo=a₀.size)) (Q:=λc z=>c=(none,a₀.size)/\Pd κ O key a₀ a₀.size z) (λx c z l1 l2=>?_) (λc z=>?_) ⟨0,rfl,P0,.inl (Nat.le_refl 0)⟩) λc z=>?_)
 .rintro ⟨lo,rfl,P,le⟩;dsimp only;refine ite_ok (λq=>wpS_pure ?_) (λq=>?_)
  .obtain rfl:lo=a₀.size:=by have:=P.fits;omega
   exact⟨rfl,P⟩
  have old:∀{n:Nat}{z':SortSt},Cr κ a₀ z lo n z'->Pd κ O key a₀ lo z':=λC=>⟨C.kp,by rw[C.pend];exact P.run.keep λi _ i2=>C.frm i (by omega),P.fits⟩;refine wpS_bind (countRun_ok L g P.kp (by omega) (by omega) λm z1 C1 m1 m2 up1=>?_);dsimp only;refine ite_ok (λmr=>?_) (λ_=>?_)
  .refine wpS_bind (wpS_lift (wpAny_rule ⟨rfl,?_⟩));refine wpS_bind (binarySort_ok L g C1.kp (by omega) (by omega) up1 λz2 C2 up2=>?_);have hn:1<=min (a₀.size-lo) (minRun' a₀.size a₀.size 0):=by omega
   have hf:lo+min (a₀.size-lo) (minRun' a₀.size a₀.size 0)<=a₀.size:=by omega
   rw[if_neg (by simp)];have P2:Pd κ O key a₀ lo z2:=old (n:=a₀.size-lo) ⟨C2.kp,C2.pend.trans C1.pend,C1.frm.trans λi hi=>C2.frm i (by omega)⟩;refine wpS_bind (wpS_get ?_);cases eb:(pendingOf z2).back? with
   | none=>
    dsimp only;exact wpS_bind (wpS_modify (wpS_pure ⟨lo+(min (a₀.size-lo) (minRun' a₀.size a₀.size 0)),rfl,Pd.push P2 hn hf (inc_seg up2),.inl (by omega)⟩))
   | some t=>
    obtain⟨s1,n1,pw⟩:=t;dsimp only;refine wpS_bind (wpS_mono (wpS_forRange (I:=λ_ c y=>c=(none,())/\Pd κ O key a₀ lo y/\(sg (arrOf y) lo (min (a₀.size-lo) (minRun' a₀.size a₀.size 0))).Pairwise (Le O key)) (Q:=λc y=>c=(none,())/\Pd κ O key a₀ lo y/\(sg (arrOf y) lo (min (a₀.size-lo) (minRun' a₀.size a₀.size 0))).Pairwise (Le O key)) (λx' c y _ _=>?_) (λ_ _ hh=>hh) ⟨rfl,P2,(inc_seg up2)⟩) λc y=>?_)
    .rintro⟨rfl,P2,S2⟩;refine wpS_bind (wpS_get ?_);by_cases q2:(pendingOf y).size>1
     .obtain⟨t,et⟩:∃t,(pendingOf y)[(pendingOf y).size-2]?=some t:=⟨_,getElem?_pos _ _ (by omega)⟩;rw[if_pos q2,et];dsimp only;refine ite_ok (λ_=>wpS_pure ⟨rfl,P2,S2⟩) λ_=>wpS_bind (mergeTwo_ok L g P2 (by omega) λy' P3 _ fr=>?_);rw[if_neg (by simp)];refine wpS_pure ⟨rfl,P3,?_⟩;rw[sg_congr (b:=arrOf y) λi _=>fr _ (Nat.le_add_right lo i)];exact S2
     .rw[if_neg q2];exact wpS_pure ⟨rfl,P2,S2⟩
    .rintro⟨rfl,P2,S2⟩;dsimp only;refine wpS_bind (wpS_modify (wpS_bind (wpS_modify (wpS_pure ⟨lo+(min (a₀.size-lo) (minRun' a₀.size a₀.size 0)),rfl,?_,.inl (by omega)⟩))));exact Pd.push (P2.kpSet (rl_mod _ _ _ λ_=>rfl)) hn hf S2
  .have hn:1<=m:=m1;have hf:lo+m<=a₀.size:=by omega
   refine wpS_bind (wpS_get ?_);cases eb:(pendingOf z1).back? with
   | none=>
    dsimp only;exact wpS_bind (wpS_modify (wpS_pure ⟨lo+m,rfl,Pd.push (old C1) hn hf (inc_seg up1),.inl (by omega)⟩))
   | some t=>
    obtain⟨s1,n1,pw⟩:=t;dsimp only;refine wpS_bind (wpS_mono (wpS_forRange (I:=λ_ c y=>c=(none,())/\Pd κ O key a₀ lo y/\(sg (arrOf y) lo m).Pairwise (Le O key)) (Q:=λc y=>c=(none,())/\Pd κ O key a₀ lo y/\(sg (arrOf y) lo m).Pairwise (Le O key)) (λx' c y _ _=>?_) (λ_ _ hh=>hh) ⟨rfl,(old C1),(inc_seg up1)⟩) λc y=>?_)
    .rintro⟨rfl,P2,S2⟩;refine wpS_bind (wpS_get ?_);by_cases q2:(pendingOf y).size>1
     .obtain⟨t,et⟩:∃t,(pendingOf y)[(pendingOf y).size-2]?=some t:=⟨_,getElem?_pos _ _ (by omega)⟩;rw[if_pos q2,et];dsimp only;refine ite_ok (λ_=>wpS_pure ⟨rfl,P2,S2⟩) λ_=>wpS_bind (mergeTwo_ok L g P2 (by omega) λy' P3 _ fr=>?_);rw[if_neg (by simp)];refine wpS_pure ⟨rfl,P3,?_⟩;rw[sg_congr (b:=arrOf y) λi _=>fr _ (Nat.le_add_right lo i)];exact S2
     .rw[if_neg q2];exact wpS_pure ⟨rfl,P2,S2⟩
    .rintro⟨rfl,P2,S2⟩;dsimp only;refine wpS_bind (wpS_modify (wpS_bind (wpS_modify (wpS_pure ⟨lo+m,rfl,?_,.inl (by omega)⟩))));exact Pd.push (P2.kpSet (rl_mod _ _ _ λ_=>rfl)) hn hf S2
 .rintro⟨lo,rfl,P,le⟩;obtain rfl:lo=a₀.size:=by have:=P.fits;omega
  exact⟨rfl,P⟩
 .rintro ⟨rfl,P⟩;dsimp only;have few:(pendingOf z).size<=a₀.size:=by have:=Rn.le P.run;rw[rl_len] at this;omega
  refine wpS_bind (wpS_mono (wpS_forRange (I:=λx c y=>c=(none,())/\Pd κ O key a₀ a₀.size y/\(pendingOf y).size+x<=a₀.size+1) (Q:=λc y=>c=(none,())/\Pd κ O key a₀ a₀.size y/\(pendingOf y).size<=1) (λx c y _ l2=>?_) (λc y=>?_) ⟨rfl,P,by omega⟩) λc y=>?_)
  .rintro⟨rfl,P2,le⟩;refine wpS_bind (wpS_get ?_);refine ite_ok (λq=>wpS_pure ⟨rfl,P2,q⟩) λq=>?_;have go:∀i,i+1<(pendingOf y).size->wpS (model prog w) A E s (mergeAt' i) (λb z=>b=true/\Pd κ O key a₀ a₀.size z/\(pendingOf z).size+(x+1)<=a₀.size+1) y:=λi hi=>
    mergeTwo_ok L g P2 hi λz P3 e _=>⟨rfl,P3,by omega⟩
   refine wpS_bind (wpS_mono (go _ ?_) ?_)
   .have pick:∀(c:Prop)[Decidable c],(if c then (pendingOf y).size-2-1 else (pendingOf y).size-2)+1<(pendingOf y).size:=λc _=>by split<;>omega
    exact pick _
   .rintro b z ⟨rfl,P3,e⟩;rw[if_neg (by simp)];exact wpS_pure ⟨rfl,P3,e⟩
  .rintro⟨rfl,P2,le⟩;exact⟨rfl,P2,by omega⟩
  .rintro ⟨rfl,P2,le⟩;refine wpS_pure (h y P2.kp ?_);have R:=P2.run;have sz:=P2.kp.size;rw[<-rl_len] at le
   revert R le
   generalize rl (pendingOf y)=l;intro le R
   match l,le,R with
   | [],_,R=>exact absurd (show 0=a₀.size from R) (by omega)
   | [t],_,⟨_,_,R3,R4⟩=>
    have e:t.2=(arrOf y).size:=by rw[sz];simpa[Rn] using R4
    rw[e] at R3;have:sg (arrOf y) 0 (arrOf y).size=(arrOf y).toList:=by
     unfold sg;rw[List.drop_zero,List.take_of_length_le (by simp)]
    rw[this] at R3;exact R3
   | _::_::_,le,_=>simp at le
end
end Ts
namespace Sx
open PySem PySem.W PyProof.Rows
theorem ints_inj:∀{vs:List Value}{ns ms:List Int},IntsAre vs ns->IntsAre vs ms->ns=ms
 | _,_,_,.nil,.nil=>rfl
 | _,_,_,.cons _ _ a,.cons _ _ b=>by rw[ints_inj a b]
theorem TupI.inj{h:Heap}{a:Addr}{t u:List Int}(x:TupI h a t)(y:TupI h a u):t=u:=by
 obtain⟨o,its,n,e1,_,e2,e3⟩:=x;obtain⟨o',its',n',f1,_,f2,f3⟩:=y;rw[e1] at f1;cases f1;rw[e2] at f2;cases f2;exact ints_inj e3 f3
open Classical in
noncomputable def tOf(h:Heap)(r:Addr):List Int:=if q:∃t,TupI h r t then Classical.choose q else []
theorem tOf_eq{h:Heap}{r:Addr}{t:List Int}(x:TupI h r t):tOf h r=t:=by
 have q:∃t,TupI h r t:=⟨t,x⟩;unfold tOf;rw[dif_pos q];exact(Classical.choose_spec q).inj x
noncomputable def kf(h:Heap)(x:Keyed):List Int:=match x.1 with|.ref r=>tOf h r|_=>[]
def dup(r:Addr):Keyed:=(.ref r,.ref r)
def und(x:Keyed):Addr:=match x.2 with|.ref r=>r|_=>0
section
variable{prog:Program}{w:World}{A:Around}{E:Value->Shared->Prop}{s:Shared}
theorem lt_ok{b:Bool}:Ts.LtOk prog w A E s (tuples' b) lexO (kf s.heap) (λx=>∃r t,x=dup r/\TupI s.heap r t):=by
 rintro x y ⟨r,t,rfl,hr⟩ ⟨q,u,rfl,hq⟩ Q st hk h;rw[lt'_eq];refine wpS_bind (wpS_get ?_);rw[hk];refine wpS_bind (wpS_lift (wpAny_attempt (lt_tups hr hq ⟨rfl,?_⟩)));refine wpS_pure ?_;have e1:kf s.heap (dup r)=t:=tOf_eq hr;have e2:kf s.heap (dup q)=u:=tOf_eq hq;rw[e1,e2] at h;exact h
theorem zip_dup(rs:List Addr):((rs.map Value.ref).toArray.zip (rs.map Value.ref).toArray).toList=rs.map dup:=by
 simp only[Array.toList_zip,List.toList_toArray];rw[List.zip_map'];rfl
theorem ts_of{h:Heap}:∀{rs:List Addr}{ts:List (List Int)},Paired (λr t=>TupI h r t/\t≠[]) rs ts->ts=rs.map (tOf h)
 | _,_,.nil=>rfl
 | _,_,.cons x t=>by rw[List.map_cons,<-ts_of t,tOf_eq x.1]
theorem zip_self{f:Addr->List Int}:∀(l:List Addr),l.zip (l.map f)=l.map λr=>(r,f r)
 | []=>rfl
 | _::l=>by rw[List.map_cons,List.zip_cons_cons,zip_self l,List.map_cons]
theorem sorted_dup{h:Heap}{rs:List Addr}{ts:List (List Int)}{l:List Keyed}(hp:Paired (λr t=>TupI h r t/\t≠[]) rs ts)(pm:l.Perm (rs.map dup))(pw:l.Pairwise (Ts.Le lexO (kf h))) :
  Sorted rs ts (l.map und) ((l.map und).map (tOf h))/\l=(l.map und).map dup:=by
 have e0:∀m:List Addr,(m.map dup).map und=m:=λm=>by rw[List.map_map];exact(List.map_congr_left λ_ _=>rfl).trans (List.map_id _)
 have bk0:l=(l.map und).map dup:=by
  rw[List.map_map];refine(List.map_id _).symm.trans (List.map_congr_left λx hx=>?_);obtain⟨r,_,rfl⟩:=List.mem_map.mp (pm.mem_iff.mp hx);rfl
 have pr:(l.map und).Perm rs:=by
  have:=pm.map und
  rwa [e0] at this
 refine⟨⟨?_,by simp,?_⟩,bk0⟩
 .rw[zip_self,ts_of hp,zip_self];exact pr.map _
 .rw[List.pairwise_map];rw[bk0,List.pairwise_map] at pw;exact pw.imp λq=>q
theorem sort_treeB{a:Addr}{rs:List Addr}{ts:List (List Int)}{n:Nat}{P:PySem.Fin->Shared->Prop}(ho:s.heap.get? a=some (seqObj "list" (rs.map Value.ref).toArray n))(hb:rs.length<=1000000)
  (hp:Paired (λr t=>TupI s.heap r t/\t≠[]) rs ts) (hna:a∉rs)
  (h:∀rs' ts' h' c,Sorted rs ts rs' ts'->(∀b o,b≠a->s.heap.get? b=some o->h'.get? b=some o)->h'.get? a=some (seqObj "list" (rs'.map Value.ref).toArray c)->P (.done (.ret .none)) {s with heap:=h'}) :
  wpAny (model prog w) A (Builtin.«list.sort» ⟨[.ref a],[]⟩) P E s:=by
 have hl:rs.length=ts.length:=Paired.length hp;have hlt:a<s.heap.objs.size:=Heap.lt_size ho;rw[list_sort_plain];refine wpAny_bind (listItems_at ho rfl (wpAny_bind (listUpdate_at ho rfl ?_ (by rw[List.size_toArray,List.length_map,sizeLine_eq];omega) (Nat.zero_le _))));obtain⟨e1,ho1⟩:∃e1,(s.heap.update a (Obj.mapSeq λ_=>(#[]:Array Value))).get? a=some (seqObj "list" #[] e1):=⟨_,get?_update_seq ho λ_=>#[]⟩;have sb:=Heap.SameBut.update s.heap a (Obj.mapSeq λ_=>(#[]:Array Value));refine wpAny_bind (seqEpoch_at ho1 rfl (wpAny_bind (wpAny_newTuple ?_ (by rw[Array.length_toList,List.size_toArray,List.length_map,sizeLine_eq];omega))));refine wpAny_bind (wpAny_newList (wpAny_holding ?_) (Nat.zero_le _));generalize hh2:(Heap.push (Heap.push (s.heap.update a (Obj.mapSeq λ_=>(#[]:Array Value))) _) _)=h2;have old:∀b o,b≠a->s.heap.get? b=some o->h2.get? b=some o:=λb o hb e=>by
  rw[<-hh2];exact Heap.get?_push_of_some _ (Heap.get?_push_of_some _ ((sb.2 b hb).trans e))
 have ho2:h2.get? a=some (seqObj "list" #[] e1):=by
  rw[<-hh2];exact Heap.get?_push_of_some _ (Heap.get?_push_of_some _ ho1)
 have fin:∀(rs':List Addr)(ts':List (List Int)),Sorted rs ts rs' ts'->∀(out:Array Value),out=(rs'.map Value.ref).toArray →
   P (.done (.ret .none)) {s with heap:=h2.update a (Obj.mapSeq λ_=>out)}:=λrs' ts' hS out eo=>by
  subst eo;refine h rs' ts' _ _ hS (λb o hb e=>?_) (get?_update_seq ho2 λ_=>(rs'.map Value.ref).toArray);exact((Heap.SameBut.update h2 a (Obj.mapSeq λ_=>(rs'.map Value.ref).toArray)).2 b hb).trans (old b o hb e)
 have hsz:(rs.map Value.ref).toArray.size=rs.length:=by rw[List.size_toArray,List.length_map]
 dsimp only;by_cases h2':(rs.map Value.ref).toArray.size<2
 .rw [if_pos h2',if_pos h2'];refine wpAny_bind (wpAny_pure ?_);rw[StateT.run_pure];refine wpAny_bind (wpAny_pure ?_);dsimp only;have eo:(arrOf (SortSt.mk' general' ((rs.map Value.ref).toArray.zip (rs.map Value.ref).toArray) #[] 7 none)).map (λx=>x.2)=(rs.map Value.ref).toArray:=by
   show((rs.map Value.ref).toArray.zip (rs.map Value.ref).toArray).map (λx=>x.2)=_;apply Array.toList_inj.mp;simp only[Array.toList_map,Array.toList_zip,List.toList_toArray];exact List.map_snd_zip (Nat.le_refl _)
  refine wpAny_bind (seqEpoch_at ho2 rfl (wpAny_bind (listUpdate_at ho2 rfl ?_ (Nat.zero_le _) (by rw[eo,hsz,sizeLine_eq];omega))));simp only[bne_self_eq_false,Bool.false_eq_true,if_false];refine wpAny_pure (fin rs ts ⟨List.Perm.refl _,hl,?_⟩ _ eo);rw[List.pairwise_iff_getElem];intro i j hi hj hij;exfalso;omega
 .rw [if_neg h2',if_neg h2'];have hp2:Paired (λr t=>TupI h2 r t/\t≠[]) rs ts:=by
   clear fin h;have go:∀{l:List Addr}{m:List (List Int)},Paired (λr t=>TupI s.heap r t/\t≠[]) l m->(∀r∈l,r≠a)->Paired (λr t=>TupI h2 r t/\t≠[]) l m:=by
    intro l m q
    induction q with
    | nil=>intro _;exact .nil
    | cons hr _ ih=>intro hn;exact .cons ⟨hr.1.keep λo e=>old _ o (hn _ (.head _)) e,hr.2⟩ (ih λr hr'=>hn r (.tail _ hr'))
   exact go hp λr hr z=>hna (z ▸ hr)
  refine wpAny_bind (kind_tups (s:={s with heap:=h2}) (by omega) hp2 λb=>?_);have gd:∀x∈((rs.map Value.ref).toArray.zip (rs.map Value.ref).toArray).toList,∃r t,x=dup r/\TupI h2 r t:=λx hx=>by
   rw[zip_dup] at hx;obtain⟨r,hr,rfl⟩:=List.mem_map.mp hx;obtain⟨i,hi,e⟩:=List.getElem_of_mem hr;obtain⟨t,_,ht,_⟩:=pair_at (i:=i) (a:=r) hp2 (by rw[<-e];simp[hi]);exact⟨r,t,rfl,ht⟩
  have sz0:((rs.map Value.ref).toArray.zip (rs.map Value.ref).toArray).size=rs.length:=by rw[<-Array.length_toList,zip_dup,List.length_map]
  have run:wpS (model prog w) A E {s with heap:=h2} sortRuns' (λ_ st'=>failedOf st'=none/\(arrOf st').toList.Perm (rs.map dup)/\(arrOf st').toList.Pairwise (Ts.Le lexO (kf h2))) (SortSt.mk' (tuples' b) ((rs.map Value.ref).toArray.zip (rs.map Value.ref).toArray) #[] 7 none):=
   Ts.sortRuns_ok (a₀:=(rs.map Value.ref).toArray.zip (rs.map Value.ref).toArray) (lt_ok (s:={s with heap:=h2})) gd ⟨rfl,List.Perm.refl _,rfl⟩ rfl (by omega) λst' K' pw=>⟨K'.fail,by rw[<-zip_dup];exact K'.perm,pw⟩
  refine wpAny_bind (wpAny_mono run ?_ λ_ _ e=>e);rintro⟨⟨⟩,st'⟩ s' ⟨rfl,hf,pm,pw⟩;dsimp only at hf pm pw ⊢;obtain⟨hS,bk0⟩:=sorted_dup hp2 pm pw;have eo:(arrOf st').map (λx=>x.2)=(((arrOf st').toList.map und).map Value.ref).toArray:=by
   apply Array.toList_inj.mp;rw[Array.toList_map,List.toList_toArray];generalize hl2:(arrOf st').toList.map und=m at bk0 ⊢;rw[bk0,List.map_map];rfl
  refine wpAny_bind (seqEpoch_at ho2 rfl (wpAny_bind (listUpdate_at ho2 rfl ?_ (Nat.zero_le _) ?_)))
  .rw[hf];simp only[bne_self_eq_false,Bool.false_eq_true,if_false];exact wpAny_pure (fin _ _ hS _ eo)
  .show((arrOf st').map (λx=>x.2)).size<=_;have:=pm.length_eq;rw[List.length_map,Array.length_toList] at this;rw[Array.size_map,this,sizeLine_eq];omega
end
end Sx
namespace L2
open PySem PySem.Spec PyProof.Rows
section
variable{X:Cx}{pins:List (Addr×Obj)}{σ:St}{H:Hp}{s:Shared}
theorem sort_newB{A:Around}{E:Value->Shared->Prop}{Q:Value->Shared->Prop}{rs:List Addr}{ts:List (List Int)}{h1:Heap}{tk:Nat}(I:Inv X pins σ H s)(k1:∀b o,s.heap.get? b=some o->h1.get? b=some o)
  (hp:TupsH H rs ts) (h64:rs.length<=1000000) (h:∀rs' ts' s' p,Sx.Sorted rs ts rs' ts'->H p=none->Inv X pins σ (upd H p (.lst (rs'.map V.ref))) s'->Q (.ref p) s') :
  wpAny (model X.prog X.w) A (newList (rs.map Value.ref)) (λl s'=>wpAny (model X.prog X.w) A (call (.builtin "list.sort") [l]) (λ_ s''=>Q l s'') E s') E {s with heap:=h1,toks:=tk}:=by
 have I1:Inv X pins σ H {s with heap:=h1,toks:=tk}:=I.kept k1;refine wpAny_newList ?_ (by rw[List.length_map,sizeLine_eq];omega);have ho:(h1.push {cls:=.type "list",data:=.seq (rs.map Value.ref).toArray}).get? h1.objs.size=some (seqObj "list" (rs.map Value.ref).toArray 0):=Heap.get?_push_size _ rfl;have hfr:H h1.objs.size=none:=I1.hok.fresh (Nat.le_refl _);have hne:h1.objs.size∉rs:=λhm=>by
  obtain⟨i,hi,e⟩:=List.getElem_of_mem hm;obtain⟨t,_,q,_⟩:=Sx.pair_at (i:=i) (a:=h1.objs.size) hp (by rw[<-e];simp[hi]);rw[hfr] at q;cases q
 have I2:Inv X pins σ H {s with heap:=h1.push {cls:=.type "list",data:=.seq (rs.map Value.ref).toArray},toks:=tk}:=I1.kept λb o e=>Heap.get?_push_of_some _ e;refine wpAny_call_entry slot_list_sort ⟨_,ho,rfl⟩ entry_list_sort (Sx.sort_treeB (s:={s with heap:=h1.push {cls:=.type "list",data:=.seq (rs.map Value.ref).toArray},toks:=tk}) ho h64 (I2.tupsI hp) hne λrs' ts' h' c hS hk hl=>⟨_,rfl,?_⟩) (args_list_sort _);refine h rs' ts' _ h1.objs.size hS hfr (I1.laid (a:=h1.objs.size) (λb o e=>hk b o (Nat.ne_of_lt (Heap.lt_size e)) (Heap.get?_push_of_some _ e)) (Nat.le_refl _) ?_);have hlen:rs'.length=rs.length:=by
  have e:=hS.perm.length_eq;have e2:=hS.len;have e3:=Paired.length hp;simp only[List.length_zip] at e;omega
 exact⟨by rw[List.length_map,sizeLine_eq];omega,rs'.map Value.ref,c,vals_refs rs',hl⟩
end
section
variable{X:Cx}
theorem call_sortedLB:CallR X (.builtin "sorted") (λxs H Q=>∃a rs ts,xs=[.ref a]/\SqL X.K H a (rs.map V.ref)/\rs.length<=1000000/\TupsH H rs ts ∧
  ∀rs' ts' p,Sx.Sorted rs ts rs' ts'->H p=none->Q (.ref p) (upd H p (.lst (rs'.map V.ref)))):=by
 intro pins s σ H xs us Q I r h;obtain⟨a,rs,ts,rfl,hq,h64,hp,q⟩:=h;obtain⟨u,rfl,ru⟩:=vals1 r;cases ru;obtain⟨its,rv,pl,hz⟩:=I.list hq;have ei:=refs_of rv;subst ei;refine Calls.call_function_entry kind_sorted plain_sorted entry_sorted (args_sorted1 _) ?_;unfold Builtin.«sorted»;refine wpAny_bind (m:=checkCount "sorted" 1 1 _) (wpAny_pure (wpAny_bind (collect_list pl.isList ?_ (by rw[List.length_map,sizeLine_eq];omega))));have fin:=sort_newB (A:=X.A.in1) (E:=X.xe) (Q:=λv s'=>EP X pins σ Q v s') (h1:=(s.heap.push (seqObj "list" #[] 0)).update s.heap.objs.size (Obj.mapSeq (·++(rs.map Value.ref).toArray))) (tk:=s.toks) I (λb o e=>
  ((Heap.SameBut.update _ _ _).2 b (Nat.ne_of_lt (Heap.lt_size e))).trans (Heap.get?_push_of_some _ e)) hp h64 λrs' ts' s' p hS hf I'=>⟨.ref p,_,I',rfl,q rs' ts' p hS hf⟩
 refine wpAny_bind (wpAny_mono fin (λl s' hl=>wpAny_bind (wpAny_holding (wpAny_mono hl (λ_ s'' hq'=>wpAny_pure ⟨_,rfl,hq'⟩) λ_ _ e=>e))) λ_ _ e=>e)
theorem call_sortedDB(hc:X.calm=true):CallR X (.builtin "sorted") (λxs H Q=>∃a kvs ts,xs=[.ref a]/\H a=some (.dT kvs)/\kvs.map (·.1)=ts.map (·.map Sum.inl)/\(∀t∈ts,t≠[])/\kvs.length<=1000000 ∧
  ∀rs rs' ts' p,TupsH H rs ts->Sx.Sorted rs ts rs' ts'->H p=none->Q (.ref p) (upd H p (.lst (rs'.map V.ref)))):=by
 intro pins s σ H xs us Q I r h;obtain⟨a,kvs,ts,rfl,ha,hk,hne,h64,q⟩:=h;obtain⟨u,rfl,ru⟩:=vals1 r;cases ru;obtain⟨z,lo,xs,rel,o,es,ep,e1,e2,e3,e4,_⟩:=(show ObjOk X.prog X.w H s.heap a (.dT kvs) from I.hok a _ ha);have hT:∀{l:List (List Key×V)}{m:List (List Key×Addr×Value)}{ts:List (List Int)},KT H l m->l.map (·.1)=ts.map (·.map Sum.inl)->(∀t∈ts,t≠[])->TupsH H (m.map (·.2.1)) ts:=by
  intro l m ts q
  induction q generalizing ts with
  | nil=>
   intro e _;cases ts with
   | nil=>exact .nil
   | cons t ts=>simp at e
  | @cons p q' ps qs hq t ih=>
   intro e hn;cases ts with
   | nil=>simp at e
   | cons t0 ts=>
    rw[List.map_cons,List.map_cons] at e;injection e with ea eb
    refine .cons ⟨?_,hn t0 (.head _)⟩ (ih eb λt ht=>hn t (.tail _ ht));have:=hq.2.1;rw[ea,List.map_map] at this;exact this
 have hp:TupsH H (xs.map (·.2.1)) ts:=hT rel hk hne;have hl1:xs.length=kvs.length:=(Paired.length rel).symm;have hsz:es.size=xs.length:=by rw[<-Array.length_toList,e4,List.length_map]
 refine Calls.call_function_entry kind_sorted plain_sorted entry_sorted (args_sorted1 _) ?_;unfold Builtin.«sorted»;refine wpAny_bind (m:=checkCount "sorted" 1 1 _) (wpAny_pure (wpAny_bind (PySem.W.kdu_collect (A:=X.A.in1) (Sx.src_dictE lo) (I.ok.hd hc) ⟨o,e1,e2,e3⟩ (by rw[hsz,hl1];exact z) λh' tk acc hkp hacc=>?_)));have ea:acc.toList=(xs.map (·.2.1)).map Value.ref:=by
  have ha':acc.size=es.size:=hacc.1;apply List.ext_getElem?;intro j;rw[Array.getElem?_toList,List.map_map,List.getElem?_map];cases ej:acc[j]? with
  | none=>
   have:acc.size<=j:=by simpa using ej
   rw[List.getElem?_eq_none (by omega)];rfl
  | some v=>
   obtain⟨en,h1,rfl⟩:=hacc.2 j v ej;have h2:es.toList[j]?=some en:=by rw[Array.getElem?_toList];exact h1
   rw[e4,List.getElem?_map] at h2;cases ex:xs[j]? with
   | none=>rw[ex] at h2;cases h2
   | some x=>rw[ex] at h2;cases h2;rfl
 have fin:=sort_newB (A:=X.A.in1) (E:=X.xe) (Q:=λv s'=>EP X pins σ Q v s') (h1:=h') (tk:=tk) I hkp hp (by rw[List.length_map];omega) λrs' ts' s' p hS hf I'=>⟨.ref p,_,I',rfl,q _ rs' ts' p hp hS hf⟩;rw[ea];refine wpAny_bind (wpAny_mono fin (λl s' hl=>wpAny_bind (wpAny_holding (wpAny_mono hl (λ_ s'' hq'=>wpAny_pure ⟨_,rfl,hq'⟩) λ_ _ e=>e))) λ_ _ e=>e)
end
end L2
namespace Rv
open PySem PySem.W PyProof.Rows
abbrev RIT:String:="list_reverseiterator"
def IsRit(h:Heap)(it l:Addr)(k:Int):Prop:=∃(o:Obj)(t:Tok),h.get? it=some o/\o.cls=.type RIT/\o.data=.fields #[.ref l,.int (k-1) t]
section
variable{prog:Program}{w:World}{A:Around}{E:Value->Shared->Prop}{s:Shared}{it l:Addr}{k:Int}{xs:Array Value}
end
section
variable{prog:Program}{w:World}{A:Around}{E:Value->Shared->Prop}{s:Shared}
end
end Rv
namespace L2
open PySem PySem.Spec PyProof.Rows
def Itz(K:W.Frag)(a b:Addr):It:=
  ⟨λi H=>∃xs ys x y,SqL K H a xs/\SqL K H b ys/\xs[i]?=some x/\ys[i]?=some y,
   λi H x H'=>∃t u v,x=.ref t/\H t=none/\H'=upd H t (.tup [u,v])/\∀xs ys,SqL K H a xs->SqL K H b ys->xs[i]?=some u/\ys[i]?=some v,
   λi H=>∃xs ys,SqL K H a xs/\SqL K H b ys/\(xs.length<=i\/ys.length<=i)⟩
section
variable{X:Cx}{pins:List (Addr×Obj)}{σ:St}{H H':Hp}{s:Shared}{h':Heap}
theorem Inv.turnedL{t':Nat}{ch:List Addr}(I:Inv X pins σ H s)(k:∀b o,b∉ch->s.heap.get? b=some o->h'.get? b=some o)(f:∀b∈ch,FpOk X pins H b)
  (old:∀b u,H b=some u->H' b=some u) (free:∀b o,b∉ch->s.heap.get? b=some o->H b=none->H' b=none) (new:∀b u,H' b=some u->H b=none->ObjOk X.prog X.w H' h' b u):Inv X pins σ H' {s with heap:=h',toks:=t'}:=by
 have out:∀b u,H b=some u->b∉ch:=λb u e z=>by rw[(f b z).1] at e;cases e
 refine I.step (g':=s.gens) (d':=s.drawn) (ch:=ch) (λb hb=>?_) (λb o _ _ hc e _=>k b o hc e) (λb o _ _ hc e _=>⟨o.slots,k b o hc e⟩) free
  (λb o hc e=>⟨o,k b o hc e⟩) (λ_ _ e=>old _ _ e) (λ_ _ _ e=>old _ _ e) (λb ps e=>⟨#[],by rw[old _ _ e];simp⟩) (λm hm=>?_) (λb u e=>?_) I.bare
 .obtain⟨_,g1,_,g3,g4,g5⟩:=f b hb;exact⟨g3,g1,g4,g5⟩
 .obtain⟨o,es,ep,ho,r⟩:=hm;exact⟨o,es,ep,k _ o (λz=>(f _ z).2.1 rfl) ho,r⟩
 .cases q:H b with
  | none=>exact new b u e q
  | some v=>
   have:=old b v q;rw[e] at this;cases this;refine(I.hok b u q).stay (λc o hc w=>k c o ?_ w) (λ_ w=>old _ _ w) λ_ _ w=>old _ _ w;rcases hc with z|z
   .rw[z];exact out b u q
   .exact out c _ z
end
theorem turn_zip{P:Program}{w:World}{K:W.Frag}{elts:List Expr}{x1}{pos:Pos}{z TI TO i1 i2 a b:Addr}(D:ZipApart z TI TO i1 i2 a b) :
  Turn P w K (.Tuple elts x1 pos) (Itz K a b) [z,TI,TO,i1,i2] z (λi h=>IsZip h z TI TO .none/\IsPair h TI (.ref i1) (.ref i2)/\(∃u v,IsPair h TO u v)/\h.IsListIter i1 a i/\h.IsListIter i2 b i) where
 mem:=by simp
 obj:=λi h st c hc=>by
  obtain⟨s1,s2,⟨u,v,s3⟩,⟨o4,e4,_,d4⟩,⟨o5,e5,_,d5⟩⟩:=st;simp only[List.mem_cons,List.not_mem_nil,or_false] at hc;rcases hc with rfl|rfl|rfl|rfl|rfl
  .exact⟨_,s1,λv q=>by cases(show Data.fields _=Data.cell v from q)⟩
  .exact⟨_,s2,λv q=>by cases(show Data.seq _ _=Data.cell v from q)⟩
  .exact⟨_,s3,λv q=>by cases(show Data.seq _ _=Data.cell v from q)⟩
  .exact⟨o4,e4,λv q=>by rw[d4] at q;cases q⟩
  .exact⟨o5,e5,λv q=>by rw[d5] at q;cases q⟩
 keep:=λi h h' st k=>by
  obtain⟨s1,s2,⟨u,v,s3⟩,s4,s5⟩:=st;exact⟨k z (by simp) _ s1,k TI (by simp) _ s2,⟨u,v,k TO (by simp) _ s3⟩,s4.at λo e=>k i1 (by simp) o e,s5.at λo e=>k i2 (by simp) o e⟩
 item:=by
  intro X hP hw hK hc i pins s σ H E I hf st hg;subst hP hw hK;obtain⟨s1,s2,⟨u,v,s3⟩,s4,s5⟩:=st;obtain⟨xs,ys,x,y,hx,hy,ex,ey⟩:=hg;obtain⟨ia,ra,pa,za⟩:=I.list hx;obtain⟨ib,rb,pb,zb⟩:=I.list hy;obtain⟨vx,evx,rx⟩:=Vals.get ra ex;obtain⟨vy,evy,ry⟩:=Vals.get rb ey;refine wpAny_pyNext_zip_item D s1 s2 s3 s4 s5 pa.isList pb.isList (x:=vx) (y:=vy) (by simpa using evx) (by simpa using evy) λh1 a1 a2 a3 a4 a5 a6 a7=>⟨_,rfl,?_⟩;refine wpAny_letOwnedTupleGo_zip a1 λh2 b1 sb=>?_;have nz:∀{c:Addr}{o:Obj},s.heap.get? c=some o->s.heap.objs.size≠c:=λe=>Nat.ne_of_gt (Heap.lt_size e);have hT:H s.heap.objs.size=none:=I.hok.fresh (Nat.le_refl _);have tz:s.heap.objs.size≠z:=nz s1;have kept:∀c o,c∉[z,TI,TO,i1,i2]->s.heap.get? c=some o->h2.get? c=some o:=λc o hc e=>by
   simp only[List.mem_cons,List.not_mem_nil,or_false,not_or] at hc;exact sb.extBut c o hc.1 (a7 c o hc.1 hc.2.2.1 hc.2.2.2.1 hc.2.2.2.2 e)
  have pT:IsPair h2 s.heap.objs.size vx vy:=sb.extBut _ _ tz a5;have I2:Inv X pins σ (upd H s.heap.objs.size (.tup [x,y])) {s with heap:=h2,toks:=s.toks}:=by
   refine I.turnedL kept hf (λc u e=>by rw[upd_ne (ne_of_none e hT)];exact e) (λc o _ e n=>by rw[upd_ne (Ne.symm (nz e))];exact n) λc u e n=>?_;by_cases ec:c=s.heap.objs.size
   .subst ec;rw[upd_same] at e;cases e;exact⟨by show 2<=sizeLine;decide,[vx,vy],.cons rx (.cons ry .nil),_,pT,rfl,0,rfl⟩
   .rw[upd_ne ec,n] at e;cases e
  refine⟨.ref s.heap.objs.size,_,I2,rfl,⟨_,x,y,rfl,hT,rfl,λxs' ys' hx' hy'=>?_⟩,⟨b1,sb.extBut _ _ D.TIz (a7 _ _ D.TIz D.TITO D.TIi1 D.TIi2 s2),⟨_,_,sb.extBut _ _ D.TOz a2⟩,a3.extBut sb.extBut D.i1z,a4.extBut sb.extBut D.i2z⟩,λc hc=>?_⟩
  .rw[I.list_inj hx' hx,I.list_inj hy' hy];exact⟨ex,ey⟩
  .rw [upd_ne λq=>?_]
   .exact(hf c hc).1
   .subst q;simp only[List.mem_cons,List.not_mem_nil,or_false] at hc;obtain⟨_,e4,_⟩:=s4;obtain⟨_,e5,_⟩:=s5;rcases hc with q|q|q|q|q
    .exact nz s1 q
    .exact nz s2 q
    .exact nz s3 q
    .exact nz e4 q
    .exact nz e5 q
 done:=by
  intro X hP hw hK hc i pins s σ H E I hf st hg;subst hP hw hK;obtain⟨s1,s2,⟨u,v,s3⟩,s4,s5⟩:=st;obtain⟨xs,ys,hx,hy,le⟩:=hg;obtain⟨ia,ra,pa,za⟩:=I.list hx;obtain⟨ib,rb,pb,zb⟩:=I.list hy;have la:=Vals.length ra;have lb:=Vals.length rb;refine wpAny_pyNext_zip_end (I.ok.hd hc) D s1 s2 s3 s4 s5 pa.isList pb.isList ?_ λh1 k=>⟨rfl,I.turnedL (t':=s.toks) (λc o hc e=>?_) hf (λ_ _ e=>e) (λ_ _ _ _ e=>e) λc u e n=>by rw[n] at e;cases e⟩
  .rcases le with q|q
   .left;simp;omega
   .right;simp;omega
  .simp only[List.mem_cons,List.not_mem_nil,or_false,not_or] at hc;exact k c o hc.1 hc.2.2.1 hc.2.2.2.1 hc.2.2.2.2 e
 self:=λ_ _ _ _ _ st h=>wpAny_pyIter_zip st.1 h
section
variable{X:Cx}{elts:List Expr}{x1:Nat}{p0:Pos}
theorem boot_zip:bootBuiltins "zip"=some (.type "zip"):=by decide +kernel
def iZip(K:W.Frag)(ta:TA):TI:=λσ H R=>ta σ H λvs H1=>∃a b,vs=[.ref a,.ref b]/\(∃xs,SqL K H1 a xs)/\(∃ys,SqL K H1 b ys)/\R (Itz K a b) H1
theorem pi_zip{a b:Expr}{ta:TA}{p pos:Pos}(hg:Gl X "zip")(hm:X.mg "zip"=none)(ha:PA X [a,b] ta)(hs:starEach [a,b] X.env=[(false,eval a X.env),(false,eval b X.env)]:=by rfl)(hs2:starEach [b] X.env=[(false,eval b X.env)]:=by rfl) :
  PI X (.Tuple elts x1 p0) (.Call (.Name "zip" p) [a,b] [] pos) (iZip X.K ta):=by
 intro pins s σ H R I h;refine Call_ (ld_blt I hg hm boot_zip (PyProof.Rows.callWith_type1 (thn (ha pos pins s σ H _ I h) λus s1 ⟨vs,H1,I1,r1,q1⟩=>?_) (by rw[hs,hs2]) (by rw[hs2];rfl)));obtain⟨l,m,rfl,⟨xs,hx⟩,⟨ys,hy⟩,q⟩:=q1;obtain⟨u,v,rfl,ru,rv⟩:=Vals.two r1;cases ru;cases rv;obtain⟨ia,ra,pa,za⟩:=I1.list hx;obtain⟨ib,rb,pb,zb⟩:=I1.list hy;obtain⟨oa,ea,_⟩:=id pa.isList;obtain⟨ob,eb,_⟩:=id pb.isList;have la:=Heap.lt_size ea;have lb:=Heap.lt_size eb;refine call_zip_2 pa.isList pb.isList λh' c1 c2 c3 c4 c5 c6 k=>?_;refine wpAny_pyIter_zip (s:={s1 with heap:=h'}) c1 ?_;refine⟨_,_,_,_,H1,rfl,I1.kept (t':=s1.toks) k,turn_zip (TI:=s1.heap.objs.size+2) (TO:=s1.heap.objs.size+3) (i1:=s1.heap.objs.size) (i2:=s1.heap.objs.size+1) (zipApart_new la lb),⟨c1,c2,⟨_,_,c3⟩,c4,c5⟩,λc hc=>?_,q⟩;have ge:s1.heap.objs.size<=c:=by
  simp only[List.mem_cons,List.not_mem_nil,or_false] at hc;rcases hc with rfl|rfl|rfl|rfl|rfl<;>first|exact Nat.le_add_right _ _|exact Nat.le_refl _
 exact I1.fpOk ge (I1.hok.fresh ge)
end
def upto(n:Nat):List Int:=(List.range n).map λ(i:Nat)=>(i:Int)
def tLR(ta:TA):TE:=λσ H Q=>ta σ H λvs H1=>∃j:Int,vs=[.int j]/\0<=j/\j<=1000/\∀l,H1 l=none->Q (.ref l) (upd H1 l (.lst ((upto j.toNat).map V.int)))
section
variable{X:Cx}
end
section
variable{X:Cx}{pins:List (Addr×Obj)}{σ:St}{H:Hp}{s:Shared}
theorem op_neLT(hu:X.A.units+1<cLine):OpR X (compareOp .NotEq) (λx y H Q=>∃(a b:Addr)(rs qs:List Addr)(ts us:List (List Int)),x=.ref a/\y=.ref b/\SqL X.K H a (rs.map V.ref)/\SqL X.K H b (qs.map V.ref)/\TupsH H rs ts/\TupsH H qs us/\Q (.bl (!decide (ts=us))) H):=by
 intro pins s σ H x y v u Q I rx ry h;obtain⟨a,b,rs,qs,ts,us,rfl,rfl,ha,hb,hp,hq,q⟩:=h;cases rx;cases ry;obtain⟨ia,ra,pa,_⟩:=I.list ha;obtain⟨ib,rb,pb,_⟩:=I.list hb;obtain rfl:=refs_of ra;obtain rfl:=refs_of rb;have l1:=Paired.length hp;have l2:=Paired.length hq;have hu':X.A.units<cLine:=by omega
 rcases Nat.decEq rs.length qs.length with hl|hl
 .have:=SeqAt.RcNeAt.lists_lengths (A:=X.A) pa.isList pb.isList (by simpa using hl) hu';obtain e:decide (ts=us)=false:=decide_eq_false λe=>hl (by rw[l1,l2,e]);rw[e] at q;exact this X.prog X.w _ _ ⟨.bl _,H,I,rfl,q⟩
 .have:=SeqAt.RcNeAt.lists (A:=X.A) (e:=λj=>decide (ts.getD j []=us.getD j [])) pa.isList pb.isList (by simp[hl]) hu' λj h1 h2=>by
   have h1':j<rs.length:=by simpa using h1
   have h2':j<qs.length:=by simpa using h2
   obtain⟨t,et,ht,_⟩:=Sx.pair_at (i:=j) (a:=rs[j]) hp (by simp[h1']);obtain⟨t',et',ht',_⟩:=Sx.pair_at (i:=j) (a:=qs[j]) hq (by simp[h2']);obtain⟨e1,e2⟩:ts.getD j []=t/\us.getD j []=t':=⟨by simp[et],by simp[et']⟩;rw[e1,e2];simp only[List.getElem_toArray,List.getElem_map];exact Sx.eqAt_tups (I.tupI ht) (I.tupI ht') hu
  rw[show(rs.map Value.ref).toArray.size=ts.length by simp[l1],all_eqL ts us (by omega)] at this;exact this X.prog X.w _ _ ⟨.bl _,H,I,rfl,q⟩
end
def tLV(K:W.Frag)(ta:TA):TE:=λσ H Q=>ta σ H λvs H1=>∃a xs,vs=[.ref a]/\SqL K H1 a xs/\∀l,H1 l=none->Q (.ref l) (upd H1 l (.lst xs.reverse))
def unlike(t:List Int):Nat:=(firstMet (λi=>t.getD i 0) t.length).length
theorem met_le(f:Nat->Int):∀n,(firstMet f n).length=n↔∀i j,i<j->j<n->f i≠f j
 | 0=>⟨λ_ i j _ h=>absurd h (Nat.not_lt_zero _),λ_=>rfl⟩
 | n+1=>by
  have ih:=met_le f n;have le:=firstMet_length_le f n;have an:=firstMet_any f n (f n);rw[firstMet_succ,step_length];cases q:(firstMet f n).any (·==f n) with
  | true=>
   rw[if_pos rfl];refine⟨λe=>absurd e (by omega),λh=>?_⟩;exfalso;rw[q] at an;obtain⟨x,hx,ex⟩:=List.any_eq_true.mp an.symm;obtain⟨i,hi,rfl⟩:=List.mem_map.mp hx;exact h i n (List.mem_range.mp hi) (Nat.lt_succ_self n) (beq_iff_eq.mp ex)
  | false=>
   rw[if_neg Bool.false_ne_true];refine⟨λe i j hij hj=>?_,λh=>by rw[ih.mpr λi j hij hj=>h i j hij (by omega)]⟩;rcases Nat.lt_or_ge j n with z|z
   .exact ih.mp (by omega) i j hij z
   .obtain rfl:j=n:=by omega
    intro z;rw[q] at an;have:((List.range j).map f).any (·==f j)=true:=List.any_eq_true.mpr ⟨f i,List.mem_map.mpr ⟨i,List.mem_range.mpr hij,rfl⟩,by simp[z]⟩;rw[<-an] at this;cases this
theorem unlike_len{t:List Int}:unlike t=t.length↔t.Nodup:=by
 unfold unlike;rw[met_le];constructor
 .intro h;show t.Pairwise (·≠·);rw[List.pairwise_iff_getElem];intro i j hi hj hij;have:=h i j hij hj;simpa[hi,hj] using this
 .intro h i j hij hj;have h:t.Pairwise (·≠·):=h;rw[List.pairwise_iff_getElem] at h;have:=h i j (by omega) hj hij;have hi:i<t.length:=by omega
  simpa[hi,hj] using this
def tLenSet(K:W.Frag)(ta:TA):TE:=λσ H Q=>ta σ H λvs H1=>∃(a:Addr)(t:List Int),vs=[.ref a]/\SqL K H1 a (t.map V.int)/\t.length<=1000/\Q (.int (unlike t)) H1
theorem boot_set:bootBuiltins "set"=some (.type "set"):=by decide +kernel
theorem pe_lenSet{X:Cx}{a:Expr}{ta:TA}{p q pos pos':Pos}(hg:Gl X "len")(hm:X.mg "len"=none)(hg2:Gl X "set")(hm2:X.mg "set"=none)(hc:X.calm=true)(ha:PA X [a] ta)(hs:starEach [a] X.env=[(false,eval a X.env)]:=by rfl)
  (ht:backTo pos (starEach [.Call (.Name "set" q) [a] [] pos'] X.env)=[(false,eval (.Call (.Name "set" q) [a] [] pos') X.env)]:=by rfl) :
  PE X (.Call (.Name "len" p) [.Call (.Name "set" q) [a] [] pos'] [] pos) (tLenSet X.K ta):=by
 intro pins s σ H Q I h;refine Call_ (ld_blt I hg hm PySem.boot_len ?_);rw[ht];refine Calls.callWith_builtin rfl (Calls.evalArgs_plain ?_);refine Calls.spliced_cons (Call_ (ld_blt I hg2 hm2 boot_set (PyProof.Rows.callWith_type1 (thn (ha pos' pins s σ H _ I h) λus s1 ⟨vs,H1,I1,r1,q1⟩=>?_) hs rfl)));obtain⟨b,t,rfl,hx,lt,k⟩:=q1;obtain⟨u,rfl,ru⟩:=Vals.one r1;cases ru;obtain⟨its,rv,pl,hz⟩:=I1.list hx;have le:=Vals.length rv;rw[List.length_map] at le;refine call_set_list (items:=its.toArray) (ns:=t) (I.ok.hd hc) pl.isList (by simpa using intsAre_of rv) (by simp[scanBound];omega) λh2 tk hS kp=>Calls.spliced_nil ?_;obtain⟨o,es,ep,tb,e1,e2,e3,_,_,_,e7,e8⟩:=hS;have I2:Inv X pins σ H1 {s1 with heap:=h2,toks:=tk}:=I1.kept λc o e=>kp c o (Heap.lt_size e) e;refine call_len_set (s:={s1 with heap:=h2,toks:=tk}) e1 e2 e3 e7 ?_ ⟨.int (unlike t),H1,I2.tok _,⟨tk+1,?_⟩,k⟩
 .rw[e8];have:=firstMet_length_le (λi=>t.getD i 0) its.toArray.size;have h3:its.toArray.size=t.length:=by simp[le]
  omega
 .rw[e8];unfold unlike;rw[show its.toArray.size=t.length by simp[le]]
end L2
namespace Mt
theorem scan_ok{m:Int}:∀{T:List Tri}{seen:List (List Int)},(seen++T.map key).Nodup->(∀t∈T,¬bad m t.1 t.2.1)->scan m T seen=.good
 | [],_,_,_=>rfl
 | t::r,seen,hn,hb=>by
  rw[scan_cons,if_neg (hb t (.head _))];have e:seen++(t::r).map key=(seen++[key t])++r.map key:=by simp
  rw[e] at hn;have hk:¬(seen.any λk=>decide (k=key t))=true:=λz=>by
   obtain⟨k,hk,ek⟩:=List.any_eq_true.mp z;have ek:=of_decide_eq_true ek;have h1:=(List.nodup_append.mp hn).1;exact(List.nodup_append.mp h1).2.2 k hk (key t) (.head _) ek
  rw[if_neg hk];exact scan_ok hn λu hu=>hb u (.tail _ hu)
end Mt
namespace L2
open PySem PySem.Spec PyProof.Rows
theorem PS.imp{X:Cx}{st:Stmt}{t t':TS}(h:PS X st t)(i:∀D σ H,t' D σ H->t D σ H):PS X st t':=λpins s σ H D I q=>h pins s σ H D I (i D σ H q)
theorem pick2{xs:List Int}{z:Int}(h0:0<=z)(h1:z<xs.length):∃v:Int,v∈xs/\atI (xs.map V.int) z=some (.int v):=by
 have hz:z.toNat<xs.length:=by omega
 refine⟨xs[z.toNat],by simp,?_⟩;have:=atI_nat (xs:=xs.map V.int) (j:=z.toNat) (v:=.int xs[z.toNat]) (by simp[hz])
 rwa [Int.toNat_of_nonneg h0] at this
theorem TupsH.at'{H H':Hp}{rs:List Addr}{ts:List (List Int)}(h:TupsH H rs ts)(k:∀b xs,H b=some (.tup xs)->H' b=some (.tup xs)):TupsH H' rs ts:=
 zip_paired (Paired.length h) λz hz=>⟨k _ _ (paired_zip h z hz).1,(paired_zip h z hz).2⟩
theorem set_self{α:Type}:∀{l:List α}{i:Nat}{x:α},l[i]?=some x->l.set i x=l
 | [],_,_,e=>by simp at e
 | a::l,0,x,e=>by simp at e;subst e;rfl
 | a::l,i+1,x,e=>by
  show a::l.set i x=a::l;rw[set_self (l:=l) (i:=i) (by simpa using e)]
theorem tup_at{rs:List Addr}{ts:List (List Int)}{H:Hp}{i:Nat}{x:V}(h:TupsH H rs ts)(e:(rs.map V.ref)[i]?=some x):∃r t,x=.ref r/\ts[i]?=some t/\H r=some (.tup (t.map V.int)):=by
 rw[List.getElem?_map] at e;cases er:rs[i]? with
 | none=>rw[er] at e;cases e
 | some r=>
  rw[er] at e;obtain⟨t,et,ht,_⟩:=Sx.pair_at (i:=i) (a:=r) h er;exact⟨r,t,(Option.some.inj e).symm,et,ht⟩
theorem map_int_at{xs:List Int}{i:Nat}{v:V}(h:(xs.map V.int)[i]?=some v):∃z,v=.int z/\xs[i]?=some z:=by
 rw[List.getElem?_map] at h;cases e:xs[i]? with
 | none=>rw[e] at h;cases h
 | some z=>rw[e] at h;exact⟨z,(Option.some.inj h).symm,rfl⟩
theorem cut_int(ns:List Int)(lo hi:Option Int)(i:Nat)(x:V)(h:(cutV (ns.map V.int) lo hi)[i]?=some x):∃z:Int,x=.int z:=by
 unfold cutV at h;have m:=List.mem_of_getElem? h;have m2:=List.mem_of_mem_drop (List.mem_of_mem_take m);obtain⟨z,_,e⟩:=List.mem_map.mp m2;exact⟨z,e.symm⟩
def cutA{α:Type}(xs:List α)(lo hi:Option Int):List α:=(xs.drop (HT.sIx xs.length 0 lo)).take (HT.sIx xs.length xs.length hi-HT.sIx xs.length 0 lo)
theorem cut_map{α:Type}(f:α->V)(xs:List α)(lo hi:Option Int):cutV (xs.map f) lo hi=(cutA xs lo hi).map f:=by
 unfold cutV cutA;rw[List.length_map,List.map_take,List.map_drop]
theorem sIx_lo(n:Nat){i:Int}(h:0<=i):HT.sIx n 0 (some i)=min i.toNat n:=by
 unfold HT.sIx;dsimp only;rw[if_neg (by omega)]
theorem sIx_hi(n:Nat){i:Int}(h:0<=i):HT.sIx n n (some i)=min i.toNat n:=by
 unfold HT.sIx;dsimp only;rw[if_neg (by omega)]
def Prs(H:Hp)(rs:List Addr):Prop:=∀r∈rs,∃x y:Int,H r=some (.tup [.int x,.int y])
def Two(ts:List (List Int)):Prop:=∀t∈ts,∃x y:Int,t=[x,y]
theorem bt_all:bootBuiltins "all"=some (.builtin "all"):=by decide +kernel
theorem Same.new'{H:Hp}{p:Addr}{o:HO}(h:H p=none):Same H (upd H p o):=λb u e=>by
 rw[upd_ne (ne_of_none e h)];exact e
section
variable{X:Cx}
end
def Its(lo st:Int)(n:Nat):It:=⟨λi _=>i<n,λi H x H'=>H'=H/\x=.int (lo+i*st),λi _=>n<=i⟩
section
variable{X:Cx}{tg:Expr}
def iRng02(ta:TA):TI:=λσ H R=>ta σ H λvs H1=>∃j:Int,vs=[.int 0,.int j,.int 2]/\-1<=j/\j<=1000000/\R (Its 0 2 ((j+1) / 2).toNat) H1
theorem pick_rev(its:List Value):slicePick its.toArray none none (some (-1))=its.reverse.toArray:=by
 have h1:sliceBounds none none (some (-1)) its.toArray.size=((its.length:Int)-1,-1,-1):=by
  simp[sliceBounds]
 unfold slicePick;rw[h1]
 congr 1
 unfold sliceRange;have hc:(if (-1:Int)>0 then if (its.length:Int)-1 < -1 then (-1-((its.length:Int)-1)+-1-1) / -1 else 0 else if (its.length:Int)-1>-1 then ((its.length:Int)-1 - -1 - -1-1) / - -1 else 0)=(its.length:Int):=by
  rw[if_neg (by decide)]
  split
  .have:- (-1:Int)=1:=by decide
   rw[this,Int.ediv_one];omega
  .omega
 dsimp only;rw[hc];apply List.ext_getElem?;intro k;rw[List.filterMap_map];have key:∀(l:List Nat),(∀x∈l,x<its.length)->List.filterMap ((λx=>its.toArray[x]?)∘λ(k:Nat)=>((its.length:Int)-1+-1*(k:Int)).toNat) l=l.map λk=>its.getD (its.length-1-k) .none:=by
  intro l
  induction l with
  | nil=>intro _;rfl
  | cons x l ih=>
   intro h;have hx:=h x (.head _);have e:((its.length:Int)-1+-1*(x:Int)).toNat=its.length-1-x:=by omega
   have hl:its.length-1-x<its.length:=by omega
   rw[List.filterMap_cons];have:((λx=>its.toArray[x]?)∘λ(k:Nat)=>((its.length:Int)-1+-1*(k:Int)).toNat) x=some (its.getD (its.length-1-x) .none):=by
    show its.toArray[((its.length:Int)-1+-1*(x:Int)).toNat]?=_;rw[e];simp[hl]
   rw[this,List.map_cons,ih λy hy=>h y (.tail _ hy)]
 rw[key _ λx hx=>by have:=List.mem_range.mp hx;omega];rw[List.getElem?_map];by_cases hk:k<its.length
 .have e2:(List.range (its.length:Int).toNat)[k]?=some k:=by simp[hk]
  rw[e2,List.getElem?_reverse hk];simp[show its.length-1-k<its.length by omega]
 .have e2:(List.range (its.length:Int).toNat)[k]?=none:=by simp;omega
  rw[e2]
  symm
  simp;omega
theorem Vals.reverse':∀{xs:List V}{us:List Value},Vals xs us->Vals xs.reverse us.reverse
 | _,_,.nil=>.nil
 | _,_,.cons r t=>by
  rw[List.reverse_cons,List.reverse_cons];exact(Vals.reverse' t).append (.cons r .nil)
def tRevS(K:W.Frag)(te ts:TE):TE:=λσ H Q=>te σ H λx H1=>ts σ H1 λy H2=>y=.int (-1)/\∃a xs,x=.ref a/\SqL K H2 a xs/\∀p,H2 p=none->Q (.ref p) (upd H2 p (.lst xs.reverse))
theorem pe_rev{e st:Expr}{te ts:TE}{p2 pos:Pos}(he:PE X e te)(hst:PE X st ts):PE X (.Subscript e (.Slice none none (some st) p2) pos) (tRevS X.K te ts):=by
 intro pins s σ H Q I h;refine Subscript_ (thn (he pins s σ H _ I h) λv s1 ⟨x,H1,I1,r1,q1⟩=>?_);refine wpAny_Slice ?_;rw[evalPart_none,evalPart_some];refine wpAny_pure (wpAny_pure (thn (hst pins s1 σ H1 _ I1 q1) λu s3 ⟨y,H3,I3,ry,q3⟩=>?_));obtain⟨rfl,a,xs,rfl,hx,q⟩:=q3;obtain⟨tk,rfl⟩:=ry;cases r1;have I4:Inv X pins σ H3 {s3 with heap:=s3.heap.push {cls:=.type "slice",data:=.fields #[.none,.none,.int (-1) tk]}}:=I3.kept (t':=s3.toks) λb ob q=>Heap.get?_push_of_some _ q;obtain⟨its,r,ht,hz⟩:=I4.list hx;have hlen:=r.length;have hg:wpAny (model X.prog X.w) X.A (getItem (.ref a) (.ref s3.heap.objs.size)) (EP X pins σ Q) X.xe {s3 with heap:=s3.heap.push {cls:=.type "slice",data:=.fields #[.none,.none,.int (-1) tk]}}:=by
  refine wpAny_getItem_list_slice ht.isList (Heap.IsSliceOf.new ..) .none .none (.int (-1) tk) (by decide) ?_ (by rw[List.size_toArray]<;>omega);rw[pick_rev];refine⟨.ref _,_,I4.laid (t':=s3.toks) (o:=.lst xs.reverse) (λb ob q=>Heap.get?_push_of_some _ q) (Nat.le_refl _) ?_,rfl,q _ (I4.hok.fresh (Nat.le_refl _))⟩;exact⟨by rw[List.length_reverse];exact hz,_,0,Vals.reverse' r,Heap.get?_push_size _ rfl⟩
 show wpAny (model X.prog X.w) X.A (subscriptTail e (.Slice none none (some st) p2) (.ref a) (.ref s3.heap.objs.size)) (EP X pins σ Q) X.xe {s3 with heap:=s3.heap.push {cls:=.type "slice",data:=.fields #[.none,.none,.int (-1) tk]}};exact tail_any (ops:=[.ref a,.ref s3.heap.objs.size]) ht.isList.typeIs slot_list_getitem.lookup hg (by with_unfolding_all rfl)
end
theorem turns_zip{K:W.Frag}{a b D:Addr}{xs ys:List V}{n:Nat}{g:TG}{tt:TT}{te:TE}{σ0:St}{Qd:Hp->Prop}{H1:Hp}(Pv:Nat->List V->St->Hp->Prop)(hx:n<=xs.length)(hy:n<=ys.length)(hn:xs.length<=n\/ys.length<=n)(h0:Pv 0 [] σ0 (upd H1 D (.lst [])))
  (hD:∀i zs σ H,Pv i zs σ H->H D=some (.lst zs)/\zs.length<sizeLine/\SqL K H a xs/\SqL K H b ys)
  (hs:∀i x y t zs σ H,xs[i]?=some x->ys[i]?=some y->i<n->Pv i zs σ H->H t=none->g (.ref t) σ (upd H t (.tup [x,y])) λσ2 H4=>tt σ2 H4 λc H5=>if c=true then te σ2 H5 λz H6=>H6 D=some (.lst zs)/\Nxt n i Pv (zs++[z]) σ2 (upd H6 D (.lst (zs++[z]))) else Nxt n i Pv zs σ2 H5)
  (hd:∀zs σ H,Pv n zs σ H->Qd H):tTurns (Itz K a b) g tt te σ0 D Qd H1:=by
 refine⟨λi m zs σ H=>m=n-i/\i<=n/\Pv i zs σ H,⟨n,by simp,Nat.zero_le _,h0⟩,?_⟩;rintro i m zs σ H ⟨rfl,hi,p⟩;obtain⟨d1,d2,d3,d4⟩:=hD i zs σ H p;refine⟨d1,?_⟩;by_cases hlt:i<n
 .have i1:i<xs.length:=by omega
  have i2:i<ys.length:=by omega
  refine .inr ⟨⟨xs,ys,xs[i],ys[i],d3,d4,by simp[i1],by simp[i2]⟩,d2,λx H3 q=>?_⟩;obtain⟨t,u,v,rfl,ht,rfl,y⟩:=q;obtain⟨y1,y2⟩:=y xs ys d3 d4;exact hs i u v t zs σ _ y1 y2 hlt p ht
 .have e:i=n:=by omega
  subst e;refine .inl ⟨⟨xs,ys,d3,d4,?_⟩,hd zs σ H p⟩;omega
section
variable{X:Cx}{pins:List (Addr×Obj)}{σ:St}{H:Hp}{s:Shared}
theorem Inv.freeze{d:Addr}{o:Obj}{kvs:List (List Key×V)}(I:Inv X pins σ H s)(e:H d=some (.dT kvs))(ho:s.heap.get? d=some o):Inv X pins σ (upd H d (.frz o (.dT kvs))) s:=by
 have k:∀b u,H b=some u->(∀l,u≠.dT l)->upd H d (.frz o (.dT kvs)) b=some u:=λb u eb n=>by
  rw[upd_ne λz=>?_]
  .exact eb
  .rw[z,e] at eb;cases eb;exact n _ rfl
 have st:∀b u,H b=some u->ObjOk X.prog X.w (upd H d (.frz o (.dT kvs))) s.heap b u:=λb u eb=>
  (I.hok b u eb).stay (λ_ _ _ q=>q) (λc q=>k c _ q (by intro l z;cases z)) λc xs q=>k c _ q (by intro l z;cases z)
 have:=I.un (t':=s.toks) (h':=s.heap) (H':=upd H d (.frz o (.dT kvs))) ⟨λb o q _ _ _=>q,λb o q _ _ _=>⟨o.slots,q⟩,λb o q n _=>?_,λb o q _=>⟨o,q⟩,λb xs q=>k b _ q (by intro l z;cases z),λb o u q=>k b _ q (by intro l z;cases z),λb ps q=>⟨#[],by rw[k b _ q (by intro l z;cases z)];simp⟩⟩ λb u q=>?_
 .exact this
 .rw[upd_ne λz=>?_]
  .exact n
  .rw[z,e] at n;cases n
 .by_cases hb:b=d
  .subst hb;rw[upd_same] at q;cases q;exact⟨ho,st _ _ e⟩
  .rw[upd_ne hb] at q;exact st b u q
end
def Itd(d:Addr)(o:Obj)(u:HO)(rs:List Addr):It:=
 ⟨λi H=>i<rs.length/\H d=some (.frz o u),λi H x H'=>H'=H/\∃r,rs[i]?=some r/\x=.ref r,λi H=>rs.length<=i/\H d=some (.frz o u)⟩
theorem turn_dict{P:Program}{w:World}{K:W.Frag}{tg:Expr}(it d:Addr)(o:Obj)(u:HO)(es:Array DictEntry)(ep:Nat)(rs:List Addr)(hx:o.ExactDict)(hd:o.data=.dict es ep)(hk:es.toList.map (·.key)=rs.map Value.ref):Turn P w K tg (Itd d o u rs) [it] it (λi h=>h.IsKeyIter it d i es.size ep) where
 mem:=by simp
 obj:=λi h st b hb=>by
  have e:b=it:=by simpa using hb
  subst e;obtain⟨o,e,c,d⟩:=st;exact⟨o,e,λv z=>by rw[d] at z;cases z⟩
 keep:=λi h h' st k=>st.at λo e=>k it (by simp) o e
 item:=by
  intro X hP hw hK hc i pins s σ H E I hf st hg;subst hP hw hK;obtain⟨hi,hq⟩:=hg;obtain⟨ho,_⟩:=(show ObjOk X.prog X.w H s.heap d (.frz o u) from I.hok d _ hq);have hlen:es.size=rs.length:=by rw[<-Array.length_toList,<-List.length_map (f:=(·.key)),hk,List.length_map]
  have hi':i<es.size:=by omega
  obtain⟨f0,f1,f2,f3,f4,f5⟩:=hf it (by simp);refine Sx.next_dictE (e:=es[i]) st ⟨o,ho,hx,hd⟩ (by simp[hi']) λh' st' sb=>?_;have I1:Inv X pins σ H {s with heap:=h'}:=I.turned (t':=s.toks) (λb o hb e=>(sb.2 b hb).trans e) f0 f1 f3 f4 f5;obtain⟨o',e,c,d'⟩:=id st';have ek:es[i].key=.ref rs[i]:=by
   have:=congrArg (λl=>l[i]?) hk;simpa[hi,hi'] using this
  exact⟨es[i].key,rfl,go_of (s:={s with heap:=h'}) e c d' (by decide) ⟨.ref rs[i],H,I1,ek,⟨rfl,_,by simp[hi],rfl⟩,st',λb hb=>(hf b hb).1⟩⟩
 done:=by
  intro X hP hw hK hc i pins s σ H E I hf st hg;subst hP hw hK;obtain⟨hi,hq⟩:=hg;obtain⟨ho,_⟩:=(show ObjOk X.prog X.w H s.heap d (.frz o u) from I.hok d _ hq);have hlen:es.size=rs.length:=by rw[<-Array.length_toList,<-List.length_map (f:=(·.key)),hk,List.length_map]
  obtain⟨f0,f1,f2,f3,f4,f5⟩:=hf it (by simp);exact Sx.end_dictE (I.ok.hd hc) st ⟨o,ho,hx,hd⟩ (by omega) λh' eb=>⟨rfl,I.turned (t':=s.toks) (λb o hb e=>eb b o hb e) f0 f1 f3 f4 f5⟩
 self:=λ_ _ _ _ _ st h=>wpAny_pyIter_keyiter st h
section
variable{X:Cx}{tg:Expr}
def iDict(tl:TE):TI:=λσ H R=>tl σ H λx H1=>∃(d:Addr)(kvs:List (List Key×V))(ts:List (List Int)),x=.ref d/\H1 d=some (.dT kvs)/\kvs.map (·.1)=ts.map (·.map Sum.inl)/\(∀t∈ts,t≠[])/\∀(o:Obj)(rs:List Addr),TupsH (upd H1 d (.frz o (.dT kvs))) rs ts->R (Itd d o (.dT kvs) rs) (upd H1 d (.frz o (.dT kvs)))
theorem keys_tups{H:Hp}:∀{l:List (List Key×V)}{m:List (List Key×Addr×Value)}{ts:List (List Int)},KT H l m->l.map (·.1)=ts.map (·.map Sum.inl)->(∀t∈ts,t≠[])->TupsH H (m.map (·.2.1)) ts:=by
 intro l m ts q
 induction q generalizing ts with
 | nil=>
  intro e _;cases ts with
  | nil=>exact .nil
  | cons t ts=>simp at e
 | @cons p q' ps qs hq t ih=>
  intro e hn;cases ts with
  | nil=>simp at e
  | cons t0 ts=>
   rw[List.map_cons,List.map_cons] at e;injection e with ea eb
   refine .cons ⟨?_,hn t0 (.head _)⟩ (ih eb λt ht=>hn t (.tail _ ht));have:=hq.2.1;rw[ea,List.map_map] at this;exact this
theorem pi_dict{l:Expr}{tl:TE}(hl:PE X l tl):PI X tg l (iDict tl):=by
 intro pins s σ H R I h;refine thn (hl pins s σ H _ I h) λv s1 ⟨x,H1,I1,r1,q1⟩=>?_;obtain⟨d,kvs,ts,rfl,hd,hk,hne,q⟩:=q1;cases r1;obtain⟨z,lo,xs,rel,o,es,ep,e1,e2,e3,e4,_⟩:=(show ObjOk X.prog X.w H1 s1.heap d (.dT kvs) from I1.hok d _ hd);have hT:TupsH H1 (xs.map (·.2.1)) ts:=keys_tups rel hk hne;have hT':TupsH (upd H1 d (.frz o (.dT kvs))) (xs.map (·.2.1)) ts:=TupsH.at' hT λb ys e=>by rw[upd_ne (ne_of e hd (by intro z;cases z))];exact e
 have I2:=I1.freeze hd e1;refine Sx.iter_dictE lo ⟨o,e1,e2,e3⟩ ?_;refine⟨s1.heap.objs.size,[s1.heap.objs.size],_,Itd d o (.dT kvs) (xs.map (·.2.1)),_,rfl,I2.kept (t':=s1.toks) λb o e=>Heap.get?_push_of_some _ e,turn_dict _ d o _ es ep _ e2 e3 ?_,⟨_,Heap.get?_push_size _ rfl,rfl,rfl⟩,λb hb=>?_,q o _ hT'⟩
 .rw[e4,List.map_map,List.map_map];rfl
 .have e:b=s1.heap.objs.size:=by simpa using hb
  subst e;exact I2.fpOk (Nat.le_refl _) (I2.hok.fresh (Nat.le_refl _))
theorem for_dict{d:Addr}{o:Obj}{u:HO}{rs:List Addr}{g:TG}{tb:TS}{D:Ends}{σ:St}{H:Hp}(Pv:Nat->St->Hp->Prop)(h0:Pv 0 σ H)(ha:∀i σ H,i<=rs.length->Pv i σ H->H d=some (.frz o u))
  (hs:∀i r σ H,rs[i]?=some r->Pv i σ H->g (.ref r) σ H λσ2 H2=>tb {D with nx:=Pv (i+1),ct:=Pv (i+1),bk:=D.nx} σ2 H2) (hd:∀σ H,Pv rs.length σ H->D.nx σ H) :
  ∃W:Nat->Nat->St->Hp->Prop,(∃m,W 0 m σ H)/\∀i m σ H,W i m σ H →
   ((Itd d o u rs).stop i H/\D.nx σ H)\/((Itd d o u rs).go i H/\∃N:St->Hp->Prop,(∀σ' H',N σ' H'->∃m',m'<m/\W (i+1) m' σ' H')/\∀x H',(Itd d o u rs).yld i H x H'->g x σ H' λσ2 H2=>tb {D with nx:=N,ct:=N,bk:=D.nx} σ2 H2):=by
 refine⟨λi m σ H=>m+i=rs.length/\Pv i σ H,⟨rs.length,rfl,h0⟩,?_⟩;rintro i m σ H ⟨e,p⟩;have q:=ha i σ H (by omega) p;rcases Nat.eq_zero_or_pos m with rfl|pm
 .have e':i=rs.length:=by omega
  subst e';exact .inl ⟨⟨Nat.le_refl _,q⟩,hd σ H p⟩
 .have i1:i<rs.length:=by omega
  refine .inr ⟨⟨i1,q⟩,Pv (i+1),λσ' H' p'=>⟨m-1,by omega,by omega,p'⟩,?_⟩;rintro x H' ⟨rfl,r,er,rfl⟩;exact hs i r σ _ er p
end
section
variable{X:Cx}{pins:List (Addr×Obj)}{σ:St}{H:Hp}{s:Shared}
end
theorem cutA_drop{α:Type}(xs:List α){i:Int}(h:0<=i):cutA xs (some i) none=xs.drop i.toNat:=by
 unfold cutA;rw[sIx_lo _ h];have e:HT.sIx xs.length xs.length none=xs.length:=rfl;rw[e];by_cases q:i.toNat<=xs.length
 .rw[Nat.min_eq_left q,List.take_of_length_le (by rw[List.length_drop];exact Nat.le_refl _)]
 .rw[Nat.min_eq_right (by omega),Nat.sub_self,List.take_zero,List.drop_eq_nil_of_le (by omega)]
theorem cutA_take{α:Type}(xs:List α){i:Int}(h:0<=i):cutA xs none (some i)=xs.take i.toNat:=by
 unfold cutA;rw[sIx_hi _ h];have e:HT.sIx xs.length 0 none=0:=rfl;rw[e,List.drop_zero,Nat.sub_zero];by_cases q:i.toNat<=xs.length
 .rw[Nat.min_eq_left q]
 .rw[Nat.min_eq_right (by omega),List.take_length,List.take_of_length_le (by omega)]
theorem atI_get'{xs:List Int}{z:Int}{k:Nat}(e:z=k)(h:k<xs.length):atI (xs.map V.int) z=some (.int (xs.getD k 0)):=by
 subst e;exact atI_nat (by simp[h])
theorem inV_ints(x:Int)(t:List Int):inV (.int x) (t.map V.int)=decide (x∈t):=by
 unfold inV;rw[List.any_map,Bool.eq_iff_iff,decide_eq_true_iff,List.any_eq_true];constructor
 .rintro⟨y,hy,e⟩;have e:(y==x)=true:=e;exact beq_iff_eq.mp e ▸ hy
 .exact λh=>⟨x,h,beq_self_eq_true x⟩
theorem flat_ints(us:List Int):(us.map V.int).all flatV=true:=by
 rw[List.all_map];exact List.all_eq_true.mpr λ_ _=>rfl
theorem upto_succ(n:Nat):upto (n+1)=upto n++[(n:Int)]:=by
 unfold upto;rw[List.range_succ,List.map_append];rfl
theorem upto_len(n:Nat):(upto n).length=n:=by simp[upto]
theorem upto_nd(n:Nat):(upto n).Nodup:=by
 induction n with
 | zero=>exact List.nodup_nil
 | succ n ih=>
  rw[upto_succ,List.nodup_append];refine⟨ih,by simp,λa ha b hb=>?_⟩;rw[List.mem_singleton] at hb;obtain⟨k,hk,rfl⟩:=List.mem_map.mp ha;have:=List.mem_range.mp hk;omega
theorem upto_mem{n:Nat}{x:Int}:x∈upto n↔0<=x/\x<n:=by
 unfold upto;rw[List.mem_map];constructor
 .rintro⟨k,hk,rfl⟩;have:=List.mem_range.mp hk;omega
 .rintro⟨h0,h1⟩;exact⟨x.toNat,List.mem_range.mpr (by omega),by omega⟩
theorem ix_tupK{X:Cx}(K:W.Frag)(h:X.K=K):IxR X (rIxT K):=by subst h;exact ix_tup
def alg:List Int->List (List Int)
 | a::b::r=>[Mt.lo a b,Mt.hi a b]::alg (b::r)
 | _=>[]
theorem alg_len:∀t:List Int,(alg t).length=t.length-1
 | []=>rfl
 | [_]=>by simp[alg]
 | a::b::r=>by
  show(alg (b::r)).length+1=_;rw[alg_len (b::r)];simp
theorem alg_get:∀(t:List Int)(i:Nat),i+1<t.length->(alg t)[i]?=some [Mt.lo (t.getD i 0) (t.getD (i+1) 0),Mt.hi (t.getD i 0) (t.getD (i+1) 0)]
 | [],i,h=>by simp at h
 | [_],i,h=>by simp at h
 | a::b::r,0,_=>rfl
 | a::b::r,i+1,h=>by
  have e1:(a::b::r).getD (i+1) 0=(b::r).getD i 0:=rfl;have e2:(a::b::r).getD (i+1+1) 0=(b::r).getD (i+1) 0:=rfl;rw[e1,e2];exact alg_get (b::r) i (by simp only[List.length_cons] at h ⊢;omega)
theorem lo_comm(a b:Int):Mt.lo a b=Mt.lo b a:=by unfold Mt.lo;split<;>split<;>omega
theorem hi_comm(a b:Int):Mt.hi a b=Mt.hi b a:=by unfold Mt.hi;split<;>split<;>omega
theorem alg_snoc:∀(t:List Int)(a b:Int),alg (t++[a,b])=alg (t++[a])++[[Mt.lo a b,Mt.hi a b]]
 | [],a,b=>rfl
 | [x],a,b=>rfl
 | x::y::r,a,b=>by
  show[Mt.lo x y,Mt.hi x y]::alg ((y::r)++[a,b])=[Mt.lo x y,Mt.hi x y]::alg ((y::r)++[a])++[[Mt.lo a b,Mt.hi a b]];rw[alg_snoc (y::r) a b];rfl
def altB:List Bool->Bool
 | a::b::r=>(!decide (a=b))&&altB (b::r)
 | _=>true
theorem altB_iff:∀l:List Bool,altB l=true↔∀i a b,l[i]?=some a->l[i+1]?=some b->a≠b
 | []=>⟨λ_ i a b h=>(by simp at h),λ_=>rfl⟩
 | [x]=>⟨λ_ i a b h g=>(by simp at g),λ_=>rfl⟩
 | x::y::r=>by
  show((!decide (x=y))&&altB (y::r))=true↔_;rw[Bool.and_eq_true,altB_iff (y::r)];constructor
  .rintro⟨h1,h2⟩ i a b ha hb;cases i with
   | zero=>
    simp at ha hb;subst ha hb;simpa using h1
   | succ i=>exact h2 i a b (by simpa using ha) (by simpa using hb)
  .intro h;refine⟨?_,λi a b ha hb=>h (i+1) a b (by simpa using ha) (by simpa using hb)⟩;have:=h 0 x y rfl rfl;simpa using this
def prtP(ps:List (List Int)):List (Key×V):=ps.foldl (λd p=>putK (putK d (.inl (p.getD 0 0)) (.int (p.getD 1 0))) (.inl (p.getD 1 0)) (.int (p.getD 0 0))) []
theorem putK_length{κ:Type}[DecidableEq κ](kvs:List (κ×V))(k:κ)(v:V):(putK kvs k v).length<=kvs.length+1:=by
 unfold putK
 split
 .rw[List.length_map];exact Nat.le_succ _
 .rw[List.length_append];exact Nat.le_refl _
theorem prtP_snoc(ps:List (List Int))(a b:Int):prtP (ps++[[a,b]])=putK (putK (prtP ps) (.inl a) (.int b)) (.inl b) (.int a):=by
 unfold prtP;rw[List.foldl_append];rfl
theorem prtP_len:∀ps:List (List Int),(prtP ps).length<=2*ps.length:=by
 have:∀(ps:List (List Int))(d:List (Key×V)),(ps.foldl (λd p=>putK (putK d (.inl (p.getD 0 0)) (.int (p.getD 1 0))) (.inl (p.getD 1 0)) (.int (p.getD 0 0))) d).length<=d.length+2*ps.length:=by
  intro ps
  induction ps with
  | nil=>exact λd=>Nat.le_refl _
  | cons p ps ih=>
   intro d;have h1:=ih (putK (putK d (.inl (p.getD 0 0)) (.int (p.getD 1 0))) (.inl (p.getD 1 0)) (.int (p.getD 0 0)));have h2:=putK_length (putK d (.inl (p.getD 0 0)) (.int (p.getD 1 0))) (.inl (p.getD 1 0)) (.int (p.getD 0 0));have h3:=putK_length d (.inl (p.getD 0 0)) (.int (p.getD 1 0));rw[List.foldl_cons,List.length_cons];omega
 intro ps;have:=this ps [];rw[List.length_nil] at this;unfold prtP;omega
theorem prtP_none(x:Int):∀ps:List (List Int),Two ps->(valV (prtP ps) (.inl x)=none↔x∉ps.flatten):=by
 have key:∀(ps:List (List Int))(d:List (Key×V)),Two ps->(valV (ps.foldl (λd p=>putK (putK d (.inl (p.getD 0 0)) (.int (p.getD 1 0))) (.inl (p.getD 1 0)) (.int (p.getD 0 0))) d) (.inl x)=none↔valV d (.inl x)=none/\x∉ps.flatten):=by
  intro ps
  induction ps with
  | nil=>intro d _;simp
  | cons p ps ih=>
   intro d h;obtain⟨a,b,rfl⟩:=h p (.head _);rw[List.foldl_cons,ih _ λq hq=>h q (.tail _ hq),valV_put,valV_put];show((if (Sum.inl x:Key)=Sum.inl b then some (V.int a) else if (Sum.inl x:Key)=Sum.inl a then some (V.int b) else valV d (.inl x))=none/\x∉ps.flatten)↔valV d (.inl x)=none/\x∉a::b::ps.flatten;have e:∀y:Int,((Sum.inl x:Key)=Sum.inl y)↔x=y:=λy=>⟨λz=>by injection z,λz=>by rw[z]⟩;simp only[e,List.mem_cons,not_or];by_cases c1:x=b
   .simp[c1]
   .by_cases c2:x=a
    .subst c2;simp[c1]
    .simp[c1,c2]
 intro ps h;have:=key ps [] h;rw[valV_nil] at this;simpa[prtP] using this
theorem prtP_int(ps:List (List Int)):∀k v,valV (prtP ps) k=some v->∃z:Int,v=.int z:=by
 have:∀(ps:List (List Int))(d:List (Key×V)),(∀k v,valV d k=some v->∃z:Int,v=.int z)->∀k v,valV (ps.foldl (λd p=>putK (putK d (.inl (p.getD 0 0)) (.int (p.getD 1 0))) (.inl (p.getD 1 0)) (.int (p.getD 0 0))) d) k=some v->∃z:Int,v=.int z:=by
  intro ps
  induction ps with
  | nil=>exact λd h=>h
  | cons u ps ih=>
   intro d h;rw[List.foldl_cons];refine ih _ λk v e=>?_;rw[valV_put,valV_put] at e
   split at e
   .exact⟨_,(Option.some.inj e).symm⟩
   .split at e
    .exact⟨_,(Option.some.inj e).symm⟩
    .exact h k v e
 exact this ps [] λk v e=>by rw[valV_nil] at e;cases e
def onl(ts us:List (List Int)):List (List Int):=ts.filter λt=>!us.any λu=>decide (u=t)
def xch(ps ts:List (List Int)):List (List Int):=onl ps ts++onl ts ps
def fitP(ps:List (List Int))(x:Int)(k:List Int):Prop:=k∈ps\/x∉ps.flatten
def IsRow(Ks ps:List (List Int))(t:List Int):Prop:=2<=t.length/\t.Nodup/\(∀k∈alg t,k∈Ks)/\altB ((alg t).map λk=>decide (k∈ps))=true/\fitP ps (t.getD 0 0) ((alg t).getD 0 [])/\fitP ps (t.getD (t.length-1) 0) ((alg t).getD (t.length-2) [])
end L2
namespace L2
def prs:List Int->List (List Int)
 | a::b::r=>[Mt.lo a b,Mt.hi a b]::prs r
 | _=>[]
theorem lohi_perm(a b:Int):List.Perm [Mt.lo a b,Mt.hi a b] [a,b]:=by
 unfold Mt.lo Mt.hi;by_cases h:b<a
 .rw[if_pos h,if_neg (by omega)];exact List.Perm.swap _ _ _
 .rw [if_neg h];by_cases h2:b>a
  .rw[if_pos h2]
  .rw[if_neg h2];have:a=b:=by omega
   rw[this]
end L2
namespace L2
open PySem PySem.Spec PyProof.Rows
theorem look{σ:St}{i j:Nat}{e:Option V}{v:V}(h:σ[j]?=some (some v))(n:i≠j):(σ.set i e)[j]?=some (some v):=by
 rw[List.getElem?_set_ne n];exact h
def altL(A:List (List Int))(u:Int):Nat->List (List Int)
 | 0=>[]
 | i+1=>altL A u i++(if (i:Int) % 2=u then [A.getD i []] else [])
theorem mem_altL{A:List (List Int)}{u:Int}{x:List Int}:∀{n:Nat},x∈altL A u n↔∃k:Nat,k<n/\(k:Int) % 2=u/\A.getD k []=x
 | 0=>⟨λh=>(nomatch h),λ⟨k,h,_⟩=>absurd h (Nat.not_lt_zero _)⟩
 | n + 1=>by
  show x∈altL A u n++_↔_;rw[List.mem_append,mem_altL (n:=n)];constructor
  .rintro (⟨k,h1,h2⟩|h)
   .exact⟨k,by omega,h2⟩
   .split at h
    .rename_i c
     rw[List.mem_singleton] at h;exact⟨n,Nat.lt_succ_self n,c,h.symm⟩
    .cases h
  .rintro⟨k,h1,h2,h3⟩;by_cases c:k=n
   .subst c;right;rw[if_pos h2,h3];exact .head _
   .exact .inl ⟨k,by omega,h2,h3⟩
theorem getD_inj{A:List (List Int)}(h:A.Nodup){i j:Nat}(hi:i<A.length)(hj:j<A.length)(e:A.getD i []=A.getD j []):i=j:=by
 have h:A.Pairwise (·≠·):=h;rw[List.pairwise_iff_getElem] at h;have e':A[i]=A[j]:=by simpa[hi,hj] using e
 rcases Nat.lt_trichotomy i j with q|q|q
 .exact absurd e' (h i j hi hj q)
 .exact q
 .exact absurd e'.symm (h j i hj hi q)
theorem alg_sub:∀{t:List Int}{k:List Int},k∈alg t->∃x y,k=[x,y]/\x∈t/\y∈t
 | [],k,h=>by simp[alg] at h
 | [_],k,h=>by simp[alg] at h
 | a::b::r,k,h=>by
  rcases List.mem_cons.mp (show k∈[Mt.lo a b,Mt.hi a b]::alg (b::r) from h) with rfl|h
  .refine⟨_,_,rfl,?_,?_⟩
   .unfold Mt.lo;split<;>simp
   .unfold Mt.hi;split<;>simp
  .obtain⟨x,y,e,hx,hy⟩:=alg_sub h;exact⟨x,y,e,.tail _ hx,.tail _ hy⟩
theorem lohi_mem(a b:Int):a=Mt.lo a b\/a=Mt.hi a b:=by unfold Mt.lo Mt.hi;split<;>split<;>omega
theorem prs_sub:∀{os:List Int}{k:List Int},k∈prs os->∃a b,k=[Mt.lo a b,Mt.hi a b]/\a∈os/\b∈os
 | [],k,h=>by simp[prs] at h
 | [_],k,h=>by simp[prs] at h
 | a::b::r,k,h=>by
  rcases List.mem_cons.mp (show k∈[Mt.lo a b,Mt.hi a b]::prs r from h) with rfl|h
  .exact⟨a,b,rfl,by simp,by simp⟩
  .obtain⟨x,y,e,hx,hy⟩:=prs_sub h;exact⟨x,y,e,.tail _ (.tail _ hx),.tail _ (.tail _ hy)⟩
theorem lo_in{a b:Int}{os:List Int}(ha:a∈os)(hb:b∈os):Mt.lo a b∈os/\Mt.hi a b∈os:=by
 unfold Mt.lo Mt.hi;constructor<;>split<;>assumption
structure Lay(t rest:List Int)(u:Int)(P:List (List Int)):Prop where
 nd:(t++rest).Nodup
 l2:2<=t.length
 ex:∃R:List (List Int),R.Sublist (prs rest)/\P.Perm (altL (alg t) u (alg t).length++R)
def Itn(K:W.Frag)(a:Addr):It:=
  ⟨λi H=>∃xs x,SqL K H a xs/\xs[i]?=some x,
   λi H x H'=>∃t u,x=.ref t/\H t=none/\H'=upd H t (.tup [.int i,u])/\∀xs,SqL K H a xs->xs[i]?=some u,
   λi H=>∃xs,SqL K H a xs/\xs.length<=i⟩
section
variable{X:Cx}{elts:List Expr}{x1:Nat}{p0:Pos}
def iEnum(K:W.Frag)(ta:TA):TI:=λσ H R=>ta σ H λvs H1=>∃a,vs=[.ref a]/\(∃xs,SqL K H1 a xs)/\R (Itn K a) H1
end
end L2
namespace Nx
open PySem PyProof.Rows
inductive LtL (A:Around) (s:Shared):List Value->List Value->Bool->Prop
 | nn:LtL A s [] [] false
 | nc {y:Value}{ws:List Value}:LtL A s [] (y::ws) true
 | cn {x:Value}{vs:List Value}:LtL A s (x::vs) [] false
 | eq {x y:Value}{vs ws:List Value}{r:Bool}:SeqAt.EqAt A.in1 s x y true->LtL A s vs ws r->LtL A s (x::vs) (y::ws) r
 | lt {x y:Value}{vs ws:List Value}{c:Bool}:SeqAt.EqAt A.in1 s x y false->(∀(prog:Program)(w:World)(E:Value->Shared->Prop)(Q:Value->Shared->Prop),Q (.bool c) s->wpAny (model prog w) A.in1 (richCompare .Lt x y) Q E s)->LtL A s (x::vs) (y::ws) c
section
open PySem.SeqAt
open PySem.AutoSeq1 (wpAny_loadPart')
open PySem.MeetsSeq PySem.MeetsSeq2 PySem.MeetsSeq3
end
section
variable{prog:Program}{w:World}{A:Around}{E:Value->Shared->Prop}{s:Shared}
end
abbrev Own(h:Heap)(S:Addr)(vs:Array Value)(c:Nat):Prop:=h.get? S=some {cls:=.type "list",dict:=none,data:=.seq vs c,slots:=#[]}
section
variable{prog:Program}{w:World}{A:Around}{R:Result->Shared->Prop}{I T S:Addr}{a b v:Value}{c:Nat}{z:Shared}
end
section
variable{prog:Program}{w:World}{A:Around}{E:Value->Shared->Prop}{z:Shared}
end
end Nx
namespace L2
open PySem PySem.Spec PyProof.Rows
def ltN(j:Int)(u:List Int)(i:Int)(t:List Int):Bool:=if j=i then HT.lexLt u t else decide (j<i)
section
variable{X:Cx}
end
end L2
namespace Dr
open L2
def rowK(N:Int->Int)(t:Mt.Tri):Option (List Int×List Int):=
 if N t.1=N t.2.1 then none else if N t.1<N t.2.1 then some ([N t.1,N t.2.1],[-t.2.2,t.1,t.2.1]) else some ([N t.2.1,N t.1],[-t.2.2,t.2.1,t.1])
structure IsMin(N:Int->Int)(T:List Mt.Tri)(k row:List Int):Prop where
 has:∃t∈T,rowK N t=some (k,row)
 min:∀t∈T,∀w,rowK N t=some (k,w)->HT.lexLt w row=false
structure Lst(val:V->List Int->Prop)(N:Int->Int)(T:List Mt.Tri)(kvs:List (List Key×V)):Prop where
 keys:∃ks:List (List Int),kvs.map (·.1)=ks.map (·.map Sum.inl)/\ks.Nodup
 none:∀k:List Int,valV kvs (k.map Sum.inl)=none->∀t∈T,∀w,rowK N t≠some (k,w)
 some:∀(k:List Int)(v:V),valV kvs (k.map Sum.inl)=some v->∃row,val v row/\IsMin N T k row
end Dr
namespace L2
open PySem PySem.Spec PyProof.Rows
def rng(t:List Int):List (List Int):=alg (t++t.take 1)
theorem rng_len{t:List Int}(h:0<t.length):(rng t).length=t.length:=by
 unfold rng;rw[alg_len,List.length_append,List.length_take];omega
def nxt(n i:Nat):Nat:=if i+1<n then i+1 else 0
theorem rng_get{t:List Int}{i:Nat}(h:i<t.length):(rng t)[i]?=some [Mt.lo (t.getD i 0) (t.getD (nxt t.length i) 0),Mt.hi (t.getD i 0) (t.getD (nxt t.length i) 0)]:=by
 unfold rng;have g:=alg_get (t++t.take 1) i (by rw[List.length_append,List.length_take];omega);have e1:(t++t.take 1).getD i 0=t.getD i 0:=by
  simp only[List.getD_eq_getElem?_getD];rw[List.getElem?_append_left h]
 have e2:(t++t.take 1).getD (i+1) 0=t.getD (nxt t.length i) 0:=by
  unfold nxt;simp only[List.getD_eq_getElem?_getD];by_cases c:i+1<t.length
  .rw[if_pos c,List.getElem?_append_left c]
  .rw[if_neg c,List.getElem?_append_right (by omega)];have:i+1-t.length=0:=by omega
   rw[this,List.getElem?_take,if_pos (by omega)]
 rw[g,e1,e2]
def edg(t:List Int)(k:Nat):List Int:=[Mt.lo (t.getD (if k=0 then t.length-1 else k-1) 0) (t.getD k 0),Mt.hi (t.getD (if k=0 then t.length-1 else k-1) 0) (t.getD k 0)]
def bnd(t:List Int):List (List Int):=(List.range t.length).map (edg t)
theorem at_inj{t:List Int}(hn:t.Nodup){i j:Nat}(hi:i<t.length)(hj:j<t.length)(e:t.getD i 0=t.getD j 0):i=j:=by
 have h:t.Pairwise (·≠·):=hn;rw[List.pairwise_iff_getElem] at h;have e':t[i]=t[j]:=by simpa[hi,hj] using e
 rcases Nat.lt_trichotomy i j with q|q|q
 .exact absurd e' (h i j hi hj q)
 .exact q
 .exact absurd e'.symm (h j i hj hi q)
structure RingOf(t s:List Int):Prop where
 nd:s.Nodup
 len:s.length=t.length
 ph:∃φ:Nat->Nat,(∀i,i<t.length->φ i<t.length/\(rng s)[i]?=some (edg t (φ i)))/\(∀j,j<t.length->∃i,i<t.length/\φ i=j)/\(∀i j,i<t.length->j<t.length->φ i=φ j->i=j)/\∀i,i+1<t.length->(φ i+φ (i+1)) % 2=1
def IsRing(Ks ps:List (List Int))(t:List Int):Prop:=4<=t.length/\t.length % 2=0/\t.Nodup/\(∀k∈rng t,k∈Ks)/\altB ((rng t).map λk=>decide (k∈ps))=true
structure LayR(t rest:List Int)(u:Int)(P:List (List Int)):Prop where
 nd:(t++rest).Nodup
 l4:4<=t.length
 ev:t.length % 2=0
 ex:∃R:List (List Int),R.Sublist (prs rest)/\P.Perm (altL (bnd t) u (bnd t).length++R)
section
variable{t rest:List Int}{u:Int}{P:List (List Int)}
end
end L2
namespace Rm
open PySem
end Rm
namespace Pp
open PySem
section
variable{prog:Program}{w:World}{Ky:Type}[DecidableEq Ky](knd:HeapKind prog w Ky)
end
end Pp
namespace L2
open PySem PySem.Spec PyProof.Rows
section
variable{X:Cx}{pins:List (Addr×Obj)}{σ:St}{H:Hp}{s:Shared}
end
def SetH(H:Hp)(q:Addr)(s:List Int×Int):Prop:=∃m,H q=some (.tup [.ref m,.int s.2])/\H m=some (.lst (s.1.map V.int))
abbrev SetsH(H:Hp)(qs:List Addr)(ss:List (List Int×Int)):Prop:=Paired (SetH H) qs ss
theorem paired_imp{α β:Type}{F G:α->β->Prop}(f:∀a b,F a b->G a b):∀{l:List α}{m:List β},Paired F l m->Paired G l m
 | _,_,.nil=>.nil
 | _,_,.cons h t=>.cons (f _ _ h) (paired_imp f t)
section
variable{X:Cx}{pins:List (Addr×Obj)}{σ:St}{H:Hp}{s:Shared}
open Classical in
noncomputable def isL(H:Hp)(t:List Int):Value->Bool
 | .ref r=>decide (H r=some (.lst (t.map V.int)))
 | _=>false
def PriH(H:Hp)(p:Addr)(u:Int)(t:List Int)(ss:List (List Int×Int)):Prop:=∃(a b:Addr)(qs:List Addr),H p=some (.tup [.int u,.ref a,.ref b])/\H a=some (.lst (t.map V.int))/\H b=some (.lst (qs.map V.ref))/\SetsH H qs ss
end
def GoodT(n:Nat)(t:List Int):Prop:=t.Sublist (upto n)/\(t=[]\/t.length % 2=1)
def Kp(H H':Hp):Prop:=(∀a xs,H a=some (.tup xs)->H' a=some (.tup xs))/\∀a (t:List Int),t≠[]->H a=some (.lst (t.map V.int))->H' a=some (.lst (t.map V.int))
theorem Kp.upd{H:Hp}{l:Addr}{qs:List Addr}{o:HO}(h:H l=some (.lst (qs.map V.ref))):Kp H (upd H l o):=by
 refine⟨λa xs e=>?_,λa t n e=>?_⟩
 .rw[upd_ne (λz=>by subst z;rw[h] at e;cases e)];exact e
 .rw [upd_ne (λz=>?_)]
  .exact e
  .subst z;rw[h] at e;injection e with e
   injection e with e
   cases t with
   | nil=>exact n rfl
   | cons x t=>
    cases qs with
    | nil=>cases e
    | cons q qs=>rw[List.map_cons,List.map_cons] at e;injection e with e _;cases e
end L2
namespace Bt
def tie(x y:Int):List Int:=[Mt.lo x y,Mt.hi x y]
theorem tie_lt{x y:Int}(h:x<y):tie x y=[x,y]:=by
 unfold tie Mt.lo Mt.hi;rw[if_neg (by omega),if_pos (by omega)]
theorem tie_gt{x y:Int}(h:y<x):tie x y=[y,x]:=by
 unfold tie Mt.lo Mt.hi;rw[if_pos (by omega),if_neg (by omega)]
theorem tie_self(x:Int):tie x x=[x,x]:=by
 unfold tie Mt.lo Mt.hi;simp
theorem tie_comm(x y:Int):tie x y=tie y x:=by
 rcases Int.lt_trichotomy x y with h|rfl|h
 .rw[tie_lt h,tie_gt h]
 .rfl
 .rw[tie_lt h,tie_gt h]
theorem mem_tie{x y z:Int}:z∈tie x y↔z=x\/z=y:=by
 rcases Int.lt_trichotomy x y with h|rfl|h
 .rw[tie_lt h];simp
 .rw[tie_self];simp
 .rw[tie_gt h];simp[or_comm]
theorem tie_inj{x y z w:Int}(h:tie x y=tie z w):(x=z/\y=w)\/(x=w/\y=z):=by
 have a1:x∈tie z w:=h ▸ mem_tie.mpr (.inl rfl);have a2:y∈tie z w:=h ▸ mem_tie.mpr (.inr rfl);have a3:z∈tie x y:=h ▸ mem_tie.mpr (.inl rfl);have a4:w∈tie x y:=h ▸ mem_tie.mpr (.inr rfl);rw[mem_tie] at a1 a2 a3 a4;omega
def Tie(t:List Int):Prop:=∃a b:Int,t=[a,b]/\a<b
theorem Tie.tie{x y:Int}(h:x≠y):Tie (tie x y):=by
 rcases Int.lt_or_gt_of_ne h with q|q
 .exact⟨x,y,tie_lt q,q⟩
 .exact⟨y,x,tie_gt q,q⟩
def dir1:List Int->List (Int×Int)
 | [a,b]=>[(a,b),(b,a)]
 | _=>[]
def dir(D:List (List Int)):List (Int×Int):=D.flatMap dir1
def nbE(E:List (Int×Int))(p:Int):List Int:=(E.filter λe=>decide (e.1=p)).map (·.2)
def nb(D:List (List Int))(p:Int):List Int:=nbE (dir D) p
theorem nbE_snoc(E:List (Int×Int))(e:Int×Int)(p:Int):nbE (E++[e]) p=nbE E p++if e.1=p then [e.2] else []:=by
 unfold nbE;rw[List.filter_append,List.map_append];by_cases c:e.1=p
 .rw[if_pos c];simp[c]
 .rw[if_neg c];simp[c]
theorem mem_nbE{E:List (Int×Int)}{p q:Int}:q∈nbE E p↔(p,q)∈E:=by
 unfold nbE;rw[List.mem_map];constructor
 .rintro⟨⟨a,b⟩,h,rfl⟩;obtain⟨h1,h2⟩:=List.mem_filter.mp h;have h2:a=p:=of_decide_eq_true h2;exact h2 ▸ h1
 .intro h;exact⟨(p,q),List.mem_filter.mpr ⟨h,decide_eq_true rfl⟩,rfl⟩
theorem dir_cons(t:List Int)(D:List (List Int)):dir (t::D)=dir1 t++dir D:=rfl
theorem mem_nb{D:List (List Int)}(hD:∀t∈D,Tie t){p q:Int}:q∈nb D p↔p≠q/\tie p q∈D:=by
 unfold nb;rw[mem_nbE];unfold dir;rw[List.mem_flatMap];constructor
 .rintro⟨t,ht,h⟩;obtain⟨a,b,rfl,hab⟩:=hD t ht;have h:(p,q)=(a,b)\/(p,q)=(b,a):=by
   have h:(p,q)∈[(a,b),(b,a)]:=h;simpa using h
  rcases h with h|h
  .injection h with h1 h2
   subst h1 h2;exact⟨by omega,by rw[tie_lt hab];exact ht⟩
  .injection h with h1 h2
   subst h1 h2;exact⟨by omega,by rw[tie_gt hab];exact ht⟩
 .rintro⟨hn,ht⟩;refine⟨_,ht,?_⟩;rcases Int.lt_or_gt_of_ne hn with h|h
  .rw[tie_lt h];exact .head _
  .rw[tie_gt h];exact .tail _ (.head _)
theorem nb_symm{D:List (List Int)}(hD:∀t∈D,Tie t){p q:Int}(h:q∈nb D p):p∈nb D q:=by
 rw[mem_nb hD] at h ⊢;exact⟨Ne.symm h.1,by rw[tie_comm];exact h.2⟩
theorem nb_nd:∀{D:List (List Int)},(∀t∈D,Tie t)->D.Nodup->∀p,(nb D p).Nodup
 | [],_,_,_=>List.nodup_nil
 | t::D,hD,hn,p=>by
  obtain⟨n1,n2⟩:=List.nodup_cons.mp hn;have ih:=nb_nd (λu hu=>hD u (.tail _ hu)) n2 p;obtain⟨a,b,rfl,hab⟩:=hD t (.head _);have e:nb ([a,b]::D) p=(if a=p then [b] else [])++((if b=p then [a] else [])++nb D p):=by
   unfold nb;rw[dir_cons];unfold nbE;rw[List.filter_append,List.map_append,<-List.append_assoc]
   congr 1
   show(([(a,b),(b,a)].filter λe=>decide (e.1=p)).map (·.2))=_;by_cases c1:a=p<;>by_cases c2:b=p<;>simp[c1,c2]
  have key:∀q,tie p q=[a,b]->q∉nb D p:=λq hq z=>by
   have:=((mem_nb (λu hu=>hD u (.tail _ hu))).mp z).2;rw[hq] at this;exact n1 this
  rw[e];by_cases c1:a=p
  .subst c1;rw[if_pos rfl,if_neg (by omega)];exact List.nodup_cons.mpr ⟨key b (tie_lt hab),ih⟩
  .rw [if_neg c1];by_cases c2:b=p
   .subst c2;rw[if_pos rfl];exact List.nodup_cons.mpr ⟨key a (tie_gt hab),ih⟩
   .rw[if_neg c2];exact ih
structure Two(D:List (List Int))(c:List Int->Bool):Prop where
 tie:∀t∈D,Tie t
 nd:D.Nodup
 col:∀t∈D,∀u∈D,t≠u->∀p,p∈t->p∈u->c t≠c u
section
variable{D:List (List Int)}{c:List Int->Bool}(T:Two D c)
include T
theorem two_of{p a b q:Int}(ha:a∈nb D p)(hb:b∈nb D p)(hq:q∈nb D p)(hab:a≠b):q=a\/q=b:=by
 rw[mem_nb T.tie] at ha hb hq;by_cases h1:q=a
 .exact .inl h1
 by_cases h2:q=b
 .exact .inr h2
 exfalso;have dif:∀{x y:Int},x≠y->Bt.tie p x≠Bt.tie p y:=λh z=>by
  rcases tie_inj z with w|w<;>omega
 have s1:=T.col _ ha.2 _ hb.2 (dif hab) p (mem_tie.mpr (.inl rfl)) (mem_tie.mpr (.inl rfl));have s2:=T.col _ ha.2 _ hq.2 (dif (Ne.symm h1)) p (mem_tie.mpr (.inl rfl)) (mem_tie.mpr (.inl rfl));have s3:=T.col _ hb.2 _ hq.2 (dif (Ne.symm h2)) p (mem_tie.mpr (.inl rfl)) (mem_tie.mpr (.inl rfl))
 revert s1 s2 s3
 cases c (Bt.tie p a)<;>cases c (Bt.tie p b)<;>cases c (Bt.tie p q)<;>simp
theorem no_three{x y z:Int}(h1:y∈nb D x)(h2:z∈nb D y)(h3:x∈nb D z):False:=by
 rw[mem_nb T.tie] at h1 h2 h3;have s1:=T.col _ h1.2 _ h2.2 (λq=>by rcases tie_inj q with w|w<;>omega) y (mem_tie.mpr (.inr rfl)) (mem_tie.mpr (.inl rfl));have s2:=T.col _ h2.2 _ h3.2 (λq=>by rcases tie_inj q with w|w<;>omega) z (mem_tie.mpr (.inr rfl)) (mem_tie.mpr (.inl rfl));have s3:=T.col _ h3.2 _ h1.2 (λq=>by rcases tie_inj q with w|w<;>omega) x (mem_tie.mpr (.inr rfl)) (mem_tie.mpr (.inl rfl))
 revert s1 s2 s3
 cases c (Bt.tie x y)<;>cases c (Bt.tie y z)<;>cases c (Bt.tie z x)<;>simp
end
structure Walked(D:List (List Int))(start:Int)(pts:List Int):Prop where
 len:2<=pts.length
 h0:pts[0]?=some start
 h1:(nb D start)[0]?=pts[1]?
 nd:pts.Nodup
 ch:∀i x y,pts[i]?=some x->pts[i+1]?=some y->y∈nb D x
 last:∀x,pts[pts.length-1]?=some x->∀q∈nb D x,q∈pts
def alo:List Int->List (List Int)
 | a::b::r=>tie a b::alo (b::r)
 | _=>[]
theorem alo_pts:∀{l:List Int}{t:List Int},t∈alo l->∃x y,t=tie x y/\x∈l/\y∈l
 | [],_,h=>by cases h
 | [_],_,h=>by cases h
 | a::b::r,t,h=>by
  rcases List.mem_cons.mp h with rfl|h
  .exact⟨a,b,rfl,.head _,.tail _ (.head _)⟩
  .obtain⟨x,y,e,h1,h2⟩:=alo_pts h;exact⟨x,y,e,.tail _ h1,.tail _ h2⟩
theorem alo_nd:∀{l:List Int},l.Nodup->(alo l).Nodup
 | [],_=>List.nodup_nil
 | [_],_=>List.nodup_nil
 | a::b::r,h=>by
  obtain⟨n1,n2⟩:=List.nodup_cons.mp h;refine List.nodup_cons.mpr ⟨λz=>?_,alo_nd n2⟩;obtain⟨x,y,e,h1,h2⟩:=alo_pts z;rcases tie_inj e with w|w
  .exact n1 (w.1 ▸ h1)
  .exact n1 (w.1 ▸ h2)
theorem alo_mem:∀{l:List Int}{i:Nat}{x y:Int},l[i]?=some x->l[i+1]?=some y->tie x y∈alo l
 | [],_,_,_,h,_=>by simp at h
 | [_],_,_,_,_,h=>by simp at h
 | a::b::r,0,x,y,h1,h2=>by
  simp at h1 h2;subst h1 h2;exact .head _
 | a::b::r,i+1,x,y,h1,h2=>.tail _ (alo_mem (l:=b::r) (by simpa using h1) (by simpa using h2))
theorem alo_at:∀{l:List Int}{t:List Int},t∈alo l->∃i x y,l[i]?=some x/\l[i+1]?=some y/\t=tie x y
 | [],_,h=>by cases h
 | [_],_,h=>by cases h
 | a::b::r,t,h=>by
  rcases List.mem_cons.mp h with rfl|h
  .exact⟨0,a,b,rfl,rfl,rfl⟩
  .obtain⟨i,x,y,h1,h2,e⟩:=alo_at h;exact⟨i+1,x,y,by simpa using h1,by simpa using h2,e⟩
theorem alo_len:∀l:List Int,(alo l).length=l.length-1
 | []=>rfl
 | [_]=>rfl
 | a::b::r=>by
  show(alo (b::r)).length+1=r.length+1+1-1;rw[alo_len (b::r)];show r.length+1-1+1=_;omega
def alg(k:Bool×List Int):List (List Int):=alo k.2++if k.1 then [] else [tie (k.2.getD 0 0) (k.2.getD (k.2.length-1) 0)]
structure Whole(D:List (List Int))(k:Bool×List Int):Prop where
 len:if k.1=true then 2<=k.2.length else 4<=k.2.length
 nd:k.2.Nodup
 ndA:(alg k).Nodup
 inD:∀t∈alg k,t∈D
 pts:∀t∈alg k,∃x y,t=tie x y/\x∈k.2/\y∈k.2
 all:∀p∈k.2,∀q∈nb D p,q∈k.2/\tie p q∈alg k
section
variable{D:List (List Int)}{c:List Int->Bool}(T:Two D c){start:Int}{pts:List Int}(W:Walked D start pts)
include T W
theorem W_inner{i:Nat}{x q:Int}(hi:0<i)(hj:i+1<pts.length)(e:pts[i]?=some x)(hq:q∈nb D x):pts[i-1]?=some q\/pts[i+1]?=some q:=by
 obtain⟨y,ey⟩:∃y,pts[i-1]?=some y:=⟨pts[i-1]'(by omega),by simp⟩;obtain⟨z,ez⟩:∃z,pts[i+1]?=some z:=⟨pts[i+1]'(by omega),by simp⟩;have a1:x∈nb D y:=W.ch (i-1) y x ey (by rw[show i-1+1=i by omega];exact e);have a2:z∈nb D x:=W.ch i x z e ez;have ne:y≠z:=λw=>by
  subst w;have:=(List.nodup_iff_pairwise_ne.mp W.nd);rw[List.pairwise_iff_getElem] at this;obtain⟨h1,e1⟩:=List.getElem?_eq_some_iff.mp ey;obtain⟨h2,e2⟩:=List.getElem?_eq_some_iff.mp ez;exact this (i-1) (i+1) h1 h2 (by omega) (e1.trans e2.symm)
 rcases two_of T (nb_symm T.tie a1) a2 hq ne with w|w
 .exact .inl (w ▸ ey)
 .exact .inr (w ▸ ez)
theorem W_inj{i j:Nat}{x:Int}(h1:pts[i]?=some x)(h2:pts[j]?=some x):i=j:=by
 have:=(List.nodup_iff_pairwise_ne.mp W.nd);rw[List.pairwise_iff_getElem] at this;obtain⟨a1,e1⟩:=List.getElem?_eq_some_iff.mp h1;obtain⟨a2,e2⟩:=List.getElem?_eq_some_iff.mp h2;rcases Nat.lt_trichotomy i j with q|q|q
 .exact absurd (e1.trans e2.symm) (this i j a1 a2 q)
 .exact q
 .exact absurd (e2.trans e1.symm) (this j i a2 a1 q)
theorem W_irr{p:Int}(h:p∈nb D p):False:=((mem_nb T.tie).mp h).1 rfl
theorem W_last{x q:Int}(e:pts[pts.length-1]?=some x)(hq:q∈nb D x):pts[pts.length-2]?=some q\/(q=start/\3<=pts.length):=by
 have hl:=W.len;obtain⟨j,hj,ej⟩:=List.getElem_of_mem (W.last x e q hq);have ej:pts[j]?=some q:=by rw[<-ej];simp
 have n1:j≠pts.length-1:=λz=>by
  subst z;rw[e] at ej;cases ej;exact W_irr T W hq
 by_cases z:j=pts.length-2
 .exact .inl (z ▸ ej)
 .rcases Nat.eq_zero_or_pos j with q0|q0
  .subst q0;have:=W.h0;rw[ej] at this;cases this;exact .inr ⟨rfl,by omega⟩
  .exfalso;rcases W_inner T W q0 (by omega) ej (nb_symm T.tie hq) with w|w
   .have:=W_inj T W w e;omega
   .have:=W_inj T W w e;omega
theorem W_aloD:∀t∈alo pts,t∈D:=λt ht=>by
 obtain⟨i,x,y,h1,h2,rfl⟩:=alo_at ht;exact((mem_nb T.tie).mp (W.ch i x y h1 h2)).2
theorem W_near{i j:Nat}{x q:Int}(h1:pts[i]?=some x)(h2:pts[j]?=some q)(h:j+1=i\/j=i+1):q∈pts/\tie x q∈alo pts:=by
 refine⟨List.mem_of_getElem? h2,?_⟩;rcases h with h|h
 .subst h;rw[tie_comm];exact alo_mem h2 h1
 .subst h;exact alo_mem h1 h2
theorem row_of(h1:(nb D start).length=1):Whole D (true,pts):=by
 have hl:=W.len;obtain⟨x1,e1⟩:∃y,pts[1]?=some y:=⟨pts[1]'(by omega),by simp⟩;have en:nb D start=[x1]:=by
  have:=W.h1;rw[e1] at this
  match hh:nb D start,h1,this with
  | [u],_,z=>simp at z;rw[z]
 have ea:alg (true,pts)=alo pts:=by unfold alg;simp
 refine⟨by simpa using hl,W.nd,by rw[ea];exact alo_nd W.nd,by rw[ea];exact W_aloD T W,by rw[ea];exact λt ht=>alo_pts ht,λp hp q hq=>?_⟩;rw[ea];obtain⟨i,hi,ei⟩:=List.getElem_of_mem hp;have hi:i<pts.length:=hi;have ei:pts[i]?=some p:=by rw[<-ei];simp
 rcases Nat.eq_zero_or_pos i with z|z
 .subst z;have:=W.h0;rw[ei] at this;cases this;rw[en,List.mem_singleton] at hq;subst hq;exact W_near T W ei e1 (.inr rfl)
 .by_cases y:i+1<pts.length
  .rcases W_inner T W z y ei hq with w|w
   .exact W_near T W ei w (.inl (by omega))
   .exact W_near T W ei w (.inr rfl)
  .have:i=pts.length-1:=by omega
   subst this;rcases W_last T W ei hq with w|⟨w,w3⟩
   .exact W_near T W ei w (.inl (by omega))
   .exfalso;subst w;have:=nb_symm T.tie hq;rw[en,List.mem_singleton] at this;subst this;have:=W_inj T W ei e1;omega
theorem ring_of(h2:(nb D start).length≠1)(he:∀p∈pts,(nb D p).length≠1):Whole D (false,pts):=by
 have hl:=W.len;obtain⟨x1,e1⟩:∃y,pts[1]?=some y:=⟨pts[1]'(by omega),by simp⟩;obtain⟨z,ez⟩:∃y,pts[pts.length-1]?=some y:=⟨pts[pts.length-1]'(by omega),by simp⟩;obtain⟨y,ey⟩:∃y,pts[pts.length-2]?=some y:=⟨pts[pts.length-2]'(by omega),by simp⟩;have ha:z∈nb D y:=W.ch (pts.length-2) y z ey (by rw[show pts.length-2+1=pts.length-1 by omega];exact ez);have hy:=nb_symm T.tie ha;obtain ⟨q,hq,nq⟩:∃q∈nb D z,q≠y:=by
  have hn:=he z (List.mem_of_getElem? ez);have nd:=nb_nd T.tie T.nd z
  match hh:nb D z,hn,nd,hy with
  | [u],hn,_,_=>exact absurd rfl hn
  | u::v::r,_,nd,_=>
   by_cases w:u=y
   .refine⟨v,.tail _ (.head _),λw2=>?_⟩;have:=(List.nodup_cons.mp nd).1;exact this (by rw[w,<-w2];exact .head _)
   .exact⟨u,.head _,w⟩
 obtain⟨rfl,l3⟩:q=start/\3<=pts.length:=by
  rcases W_last T W ez hq with w|w
  .rw[ey] at w;cases w;exact absurd rfl nq
  .exact w
 have hz:z∈nb D q:=nb_symm T.tie hq;have hx1:x1∈nb D q:=W.ch 0 q x1 W.h0 e1;have n1z:x1≠z:=λw=>by
  subst w;have:=W_inj T W e1 ez;omega
 have l4:4<=pts.length:=by
  rcases Nat.lt_or_ge 3 pts.length with w|w
  .exact w
  .exfalso;have:pts.length=3:=by omega
   rw[this] at ez;have h12:z∈nb D x1:=W.ch 1 x1 z e1 ez;exact no_three T hx1 h12 hq
 have eg0:pts.getD 0 0=q:=by simp[W.h0]
 have egl:pts.getD (pts.length-1) 0=z:=by simp[ez]
 have ea:alg (false,pts)=alo pts++[tie q z]:=by
  unfold alg;show alo pts++(if false=true then [] else [tie (pts.getD 0 0) (pts.getD (pts.length-1) 0)])=_;rw[if_neg (by decide),eg0,egl]
 have nin:tie q z∉alo pts:=λw=>by
  obtain⟨i,a,b,h1,h2,e⟩:=alo_at w;rcases tie_inj e with⟨w1,w2⟩|⟨w1,w2⟩
  .subst w1 w2;have i1:=W_inj T W h1 W.h0;have i2:=W_inj T W h2 ez;omega
  .subst w1 w2;have i1:=W_inj T W h2 W.h0;omega
 have mq:q∈pts:=List.mem_of_getElem? W.h0;have mz:z∈pts:=List.mem_of_getElem? ez;refine⟨by simpa using l4,W.nd,?_,?_,?_,λp hp r hr=>?_⟩
 .rw[ea,List.nodup_append];refine⟨alo_nd W.nd,by simp,λa ha b hb=>?_⟩;rw[List.mem_singleton] at hb;subst hb;exact λw=>nin (w ▸ ha)
 .rw [ea];intro t ht;rcases List.mem_append.mp ht with w|w
  .exact W_aloD T W t w
  .rw[List.mem_singleton] at w;subst w;exact((mem_nb T.tie).mp hz).2
 .rw [ea];intro t ht;rcases List.mem_append.mp ht with w|w
  .exact alo_pts w
  .rw[List.mem_singleton] at w;exact⟨q,z,w,mq,mz⟩
 .rw [ea];have lift:r∈pts/\tie p r∈alo pts->r∈pts/\tie p r∈alo pts++[tie q z]:=λw=>⟨w.1,List.mem_append_left _ w.2⟩;obtain⟨i,hi,ei⟩:=List.getElem_of_mem hp;have hi:i<pts.length:=hi;have ei:pts[i]?=some p:=by rw[<-ei];simp
  rcases Nat.eq_zero_or_pos i with w0|w0
  .subst w0;have:=W.h0;rw[ei] at this;cases this;rcases two_of T hx1 hz hr n1z with w|w
   .subst w;exact lift (W_near T W ei e1 (.inr rfl))
   .subst w;exact⟨mz,List.mem_append_right _ (.head _)⟩
  .by_cases y1:i+1<pts.length
   .rcases W_inner T W w0 y1 ei hr with w|w
    .exact lift (W_near T W ei w (.inl (by omega)))
    .exact lift (W_near T W ei w (.inr rfl))
   .have:i=pts.length-1:=by omega
    subst this;rw[ez] at ei;cases ei;rcases W_last T W ez hr with w|⟨w,_⟩
    .exact lift (W_near T W ez w (.inl (by omega)))
    .subst w;exact⟨mq,List.mem_append_right _ (by rw[tie_comm];exact .head _)⟩
end
structure Found(D:List (List Int))(F:List (Bool×List Int)):Prop where
 wh:∀k∈F,Whole D k
 nd:(F.flatMap (·.2)).Nodup
 ndA:(F.flatMap alg).Nodup
theorem Found.nil{D:List (List Int)}:Found D []:=⟨λ_ h=>(nomatch h),List.nodup_nil,List.nodup_nil⟩
theorem Found.closed{D:List (List Int)}{F:List (Bool×List Int)}(h:Found D F){p q:Int}(hp:p∈F.flatMap (·.2))(hq:q∈nb D p):q∈F.flatMap (·.2):=by
 obtain⟨k,hk,hp⟩:=List.mem_flatMap.mp hp;exact List.mem_flatMap.mpr ⟨k,hk,((h.wh k hk).all p hp q hq).1⟩
theorem Found.apart{D:List (List Int)}{c:List Int->Bool}(T:Two D c){F:List (Bool×List Int)}(h:Found D F){start:Int}{pts:List Int}(W:Walked D start pts)(hs:start∉F.flatMap (·.2)):∀p∈pts,p∉F.flatMap (·.2):=by
 have key:∀(i:Nat)(x:Int),pts[i]?=some x->x∉F.flatMap (·.2):=by
  intro i
  induction i with
  | zero=>
   intro x e;have:=W.h0;rw[e] at this;cases this;exact hs
  | succ i ih=>
   intro x e z;obtain⟨hl,_⟩:=List.getElem?_eq_some_iff.mp e;obtain⟨y,ey⟩:∃y,pts[i]?=some y:=⟨pts[i]'(by omega),by simp⟩;exact ih y ey (h.closed z (nb_symm T.tie (W.ch i y x ey e)))
 intro p hp;obtain⟨i,hi,ei⟩:=List.getElem_of_mem hp;exact key i p (by rw[<-ei];simp)
theorem Found.snoc{D:List (List Int)}{F:List (Bool×List Int)}(h:Found D F){k:Bool×List Int}(hk:Whole D k)(ha:∀p∈k.2,p∉F.flatMap (·.2)):Found D (F++[k]):=by
 have e1:(F++[k]).flatMap (·.2)=F.flatMap (·.2)++k.2:=by simp
 have e2:(F++[k]).flatMap alg=F.flatMap alg++alg k:=by simp
 refine⟨λj hj=>?_,?_,?_⟩
 .rcases List.mem_append.mp hj with w|w
  .exact h.wh j w
  .rw[List.mem_singleton] at w;exact w ▸ hk
 .rw[e1,List.nodup_append];exact⟨h.nd,hk.nd,λa ha' b hb w=>ha b hb (w ▸ ha')⟩
 .rw[e2,List.nodup_append];refine⟨h.ndA,hk.ndA,λa ha' b hb w=>?_⟩;subst w;obtain⟨x,y,rfl,hx,hy⟩:=hk.pts a hb;obtain⟨j,hj,hm⟩:=List.mem_flatMap.mp ha';obtain⟨u,v,e,hu,hv⟩:=(h.wh j hj).pts _ hm;rcases tie_inj e with w|w
  .exact ha x hx (List.mem_flatMap.mpr ⟨j,hj,w.1 ▸ hu⟩)
  .exact ha x hx (List.mem_flatMap.mpr ⟨j,hj,w.1 ▸ hv⟩)
theorem Found.perm{D:List (List Int)}{c:List Int->Bool}(T:Two D c){F:List (Bool×List Int)}(h:Found D F)(hm:∀p,nb D p≠[]->p∈F.flatMap (·.2)):(F.flatMap alg).Perm D:=by
 rw[List.perm_ext_iff_of_nodup h.ndA T.nd];intro t;constructor
 .intro ht;obtain⟨k,hk,ht⟩:=List.mem_flatMap.mp ht;exact(h.wh k hk).inD t ht
 .intro ht;obtain⟨a,b,rfl,hab⟩:=T.tie t ht;have hb:b∈nb D a:=(mem_nb T.tie).mpr ⟨by omega,by rw[tie_lt hab];exact ht⟩;have ha:=hm a (λz=>by rw[z] at hb;cases hb);obtain⟨k,hk,ha⟩:=List.mem_flatMap.mp ha;have:=((h.wh k hk).all a ha b hb).2;rw[tie_lt hab] at this;exact List.mem_flatMap.mpr ⟨k,hk,this⟩
def Mat(O:List (List Int)):Prop:=(∀t∈O,Tie t)/\O.flatten.Nodup
theorem Mat.one{O:List (List Int)}(h:Mat O):∀t∈O,∀u∈O,∀p,p∈t->p∈u->t=u:=by
 obtain⟨h1,h2⟩:=h
 induction O with
 | nil=>intro t ht;cases ht
 | cons v O ih=>
  rw[List.flatten_cons,List.nodup_append] at h2;obtain⟨_,n2,n3⟩:=h2;intro t ht u hu p hp hq;rcases List.mem_cons.mp ht with e1|ht2<;>rcases List.mem_cons.mp hu with e2|hu2
  .rw[e1,e2]
  .rw[e1] at hp;exact absurd rfl (n3 p hp p (List.mem_flatten.mpr ⟨u,hu2,hq⟩))
  .rw[e2] at hq;exact absurd rfl (n3 p hq p (List.mem_flatten.mpr ⟨t,ht2,hp⟩))
  .exact ih (λw hw=>h1 w (.tail _ hw)) n2 t ht2 u hu2 p hp hq
theorem Mat.nd{O:List (List Int)}(h:Mat O):O.Nodup:=by
 obtain⟨h1,h2⟩:=h
 induction O with
 | nil=>exact List.nodup_nil
 | cons v O ih=>
  rw[List.flatten_cons,List.nodup_append] at h2;obtain⟨_,n2,n3⟩:=h2;refine List.nodup_cons.mpr ⟨λz=>?_,ih (λw hw=>h1 w (.tail _ hw)) n2⟩;obtain⟨a,b,rfl,_⟩:=h1 v (.head _);exact n3 a (.head _) a (List.mem_flatten.mpr ⟨_,z,.head _⟩) rfl
theorem Mat.perm{O O':List (List Int)}(h:Mat O)(p:O'.Perm O):Mat O':=⟨λt ht=>h.1 t (p.mem_iff.mp ht),p.flatten.nodup_iff.mpr h.2⟩
def onl(O T:List (List Int)):List (List Int):=O.filter λt=>!decide (t∈T)
def dif(O T:List (List Int)):List (List Int):=onl O T++onl T O
theorem mem_onl{O T:List (List Int)}{t:List Int}:t∈onl O T↔t∈O/\t∉T:=by
 unfold onl;rw[List.mem_filter];simp
theorem dif_two{O T:List (List Int)}(hO:Mat O)(hT:Mat T):Two (dif O T) (λt=>decide (t∈O)):=by
 have side:∀t∈dif O T,(t∈O/\t∉T)\/(t∈T/\t∉O):=λt ht=>by
  rcases List.mem_append.mp ht with w|w
  .exact .inl (mem_onl.mp w)
  .exact .inr (mem_onl.mp w)
 refine⟨λt ht=>?_,?_,λt ht u hu ne p hp hq=>?_⟩
 .rcases side t ht with w|w
  .exact hO.1 t w.1
  .exact hT.1 t w.1
 .unfold dif;rw[List.nodup_append];refine⟨hO.nd.filter _,hT.nd.filter _,λa ha b hb w=>?_⟩;subst w;exact(mem_onl.mp hb).2 (mem_onl.mp ha).1
 .rcases side t ht with w|w<;>rcases side u hu with v|v
  .exact absurd (hO.one t w.1 u v.1 p hp hq) ne
  .simp[w.1,v.2]
  .simp[w.2,v.1]
  .exact absurd (hT.one t w.1 u v.1 p hp hq) ne
end Bt
namespace L2
open PySem PySem.Spec PyProof.Rows
section
variable{X:Cx}{pins:List (Addr×Obj)}{σ:St}{H:Hp}{s:Shared}
theorem mt_setdef:MtM X "dict.setdefault" (λx vs H Q=>∃(a:Addr)(kvs:List (Key×V))(k:Key)(z:V),x=.ref a/\vs=[kV k,z]/\H a=some (.dK kvs)/\kvs.length<sizeLine ∧
  (∀v,valV kvs k=some v->Q v H)/\(valV kvs k=none->Q z (upd H a (.dK (putK kvs k z))))):=by
 intro pins s σ H x vs v us Q I rx rv h;obtain⟨a,kvs,k,z,rfl,rfl,e,hl,h1,h2⟩:=h;cases rx;obtain⟨u,r,rfl,ru,rr⟩:=vals2 rv;obtain⟨zz,hd,vs,rel,dd⟩:=dk_of I.hok e;refine call_meetsIn PySem.F.slot_dict_setdefault dd.typeIs PySem.F.entry_dict_setdefault (PySem.F.args_dict_setdefault_3 _ _ _) (kt_meets_setdefault (mixKind X.prog X.w) a (kV_is ru) hd r)
  ⟨vs,dd,by rw[<-rel.length];exact zz,λv' hv'=>?_,λhn h' dd' hs=>?_⟩
 .cases q:valV kvs k with
  | none=>
   have:=RelO.none_of (o:=valueAt vs k) (by rw[<-q];exact rel.val k);rw[this] at hv';cases hv'
  | some y=>
   obtain⟨w',hw,rw'⟩:=RelO.some_of (v:=y) (o:=valueAt vs k) (by rw[<-q];exact rel.val k);rw[hw] at hv';cases hv';exact⟨y,H,I.tok _,rw',h1 y q⟩
 .have q:valV kvs k=none:=by
   cases q:valV kvs k with
   | none=>rfl
   | some y=>
    obtain⟨w',hw,_⟩:=RelO.some_of (v:=y) (o:=valueAt vs k) (by rw[<-q];exact rel.val k);rw[hw] at hn;cases hn
  have he:∃q,h'.get? a=some q:=let ⟨q,_,_,hq,_⟩:=dd';⟨q,hq⟩;have hl':(putK kvs k z).length<=sizeLine:=by have:=length_putK kvs k z;omega
  exact⟨z,_,d_write I (by rw[e];exact True.intro) hs he (dk_new hl' hd (rel.put k rr) dd'),rr,h2 q⟩
theorem op_notInTK{X:Cx}(K:W.Frag)(h:X.K=K)(hu:X.A.units+1<cLine):OpR X (compareOp .NotIn) (λx y H Q=>∃b t p rs ts,x=.ref b/\H b=some (.tup (t.map V.int))/\y=.ref p/\SqL K H p (rs.map V.ref)/\TupsH H rs ts/\Q (.bl (!ts.any λu=>decide (u=t))) H):=by subst h;exact op_notInT hu
theorem op_notInSK{X:Cx}(K:W.Frag)(h:X.K=K):OpR X (compareOp .NotIn) (rIn K true):=by subst h;exact op_notIn_seq
theorem call_lenK{X:Cx}(K:W.Frag)(h:X.K=K):CallR X (.builtin "len") (λxs H Q=>∃p ys,xs=[.ref p]/\(SqL K H p ys\/SqT K H p ys)/\Q (.int ys.length) H):=by subst h;exact call_len_seq
theorem any_mem(us:List (List Int))(t:List Int):(us.any λu=>decide (u=t))=decide (t∈us):=by
 rw[Bool.eq_iff_iff,decide_eq_true_iff,List.any_eq_true];exact⟨λ⟨u,hu,e⟩=>of_decide_eq_true e ▸ hu,λh=>⟨t,h,decide_eq_true rfl⟩⟩
theorem TupsH.sm{H H':Hp}{rs:List Addr}{ts:List (List Int)}(h:TupsH H rs ts)(z:Same H H'):TupsH H' rs ts:=paired_imp (λ_ _ x=>⟨z _ _ x.1,x.2⟩) h
theorem TupsH.tu{H H':Hp}{rs:List Addr}{ts:List (List Int)}(h:TupsH H rs ts)(z:∀b xs,H b=some (.tup xs)->H' b=some (.tup xs)):TupsH H' rs ts:=paired_imp (λ_ _ x=>⟨z _ _ x.1,x.2⟩) h
theorem tie_at{rs:List Addr}{ts:List (List Int)}{H:Hp}{i:Nat}{x:V}(h:TupsH H rs ts)(e:(rs.map V.ref)[i]?=some x):∃r t,x=.ref r/\ts[i]?=some t/\H r=some (.tup (t.map V.int))/\t≠[]:=by
 rw[List.getElem?_map] at e;obtain⟨q,eq,rfl⟩:=Option.map_eq_some_iff.mp e;obtain⟨s,es,hs⟩:=Sx.pair_at h eq;exact⟨q,s,rfl,es,hs⟩
end
structure NbS(H H0:Hp)(dn:Addr)(E:List (Int×Int))(kvs:List (Key×V)):Prop where
 hd:H dn=some (.dK kvs)
 ks:∃ks:List Int,kvs.map (·.1)=ks.map Sum.inl
 nd:(kvs.map (·.1)).Nodup
 at_:∀p v,valV kvs (.inl p)=some v->∃a,v=.ref a/\H a=some (.lst ((Bt.nbE E p).map V.int))/\H0 a=none/\a≠dn
 inj:∀p q a,valV kvs (.inl p)=some (.ref a)->valV kvs (.inl q)=some (.ref a)->p=q
 iff:∀p,valV kvs (.inl p)=none↔Bt.nbE E p=[]
 len:kvs.length<=E.length
 h0:H0 dn=none
theorem NbS.same{H H' H0:Hp}{dn:Addr}{E:List (Int×Int)}{kvs:List (Key×V)}(N:NbS H H0 dn E kvs)(z:Same H H'):NbS H' H0 dn E kvs:=
 ⟨z _ _ N.hd,N.ks,N.nd,λp v e=>let ⟨a,h1,h2,h3⟩:=N.at_ p v e;⟨a,h1,z _ _ h2,h3⟩,N.inj,N.iff,N.len,N.h0⟩
theorem NbS.there{H H0:Hp}{dn:Addr}{E:List (Int×Int)}{kvs:List (Key×V)}(N:NbS H H0 dn E kvs){x y:Int}{a:Addr}(hv:valV kvs (.inl x)=some (.ref a)) :
  NbS (upd H a (.lst ((Bt.nbE E x).map V.int++[.int y]))) H0 dn (E++[(x,y)]) kvs:=by
 obtain⟨a',e,ha,h0,nd⟩:=N.at_ x _ hv;cases e;refine⟨by rw[upd_ne (Ne.symm nd)];exact N.hd,N.ks,N.nd,λp v e=>?_,N.inj,λp=>?_,by rw[List.length_append];have:=N.len;omega,N.h0⟩
 .obtain ⟨b,rfl,hb,hb0,nb⟩:=N.at_ p v e;refine⟨b,rfl,?_,hb0,nb⟩;rw[Bt.nbE_snoc];by_cases c:x=p
  .subst c;rw[hv] at e;cases e;rw[upd_same,if_pos rfl,List.map_append];rfl
  .rw[upd_ne (λz=>c (by subst z;exact N.inj x p _ hv e)),if_neg c,List.append_nil];exact hb
 .rw [Bt.nbE_snoc];by_cases c:x=p
  .subst c;rw[if_pos rfl,hv];constructor
   .intro z;cases z
   .intro z;simp at z
  .rw[if_neg c,List.append_nil];exact N.iff p
theorem NbS.new{H H0:Hp}{dn:Addr}{E:List (Int×Int)}{kvs:List (Key×V)}(N:NbS H H0 dn E kvs){x y:Int}{l:Addr}(hv:valV kvs (.inl x)=none)(hl:H l=none)(hl0:H0 l=none) :
  NbS (upd (upd (upd H l (.lst [])) dn (.dK (putK kvs (.inl x) (.ref l)))) l (.lst [.int y])) H0 dn (E++[(x,y)]) (putK kvs (.inl x) (.ref l)):=by
 have nl:dn≠l:=ne_of_none N.hd hl;have em:=(N.iff x).mp hv;obtain⟨ks,ek⟩:=N.ks;refine⟨by rw[upd_ne nl,upd_same],⟨ks++[x],?_⟩,nd_putK _ N.nd hv,λp v e=>?_,λp q a e1 e2=>?_,λp=>?_,?_,N.h0⟩
 .rw[putK_new _ hv,List.map_append,List.map_append,ek];rfl
 .rw [valV_put] at e;rw[Bt.nbE_snoc];by_cases c:p=x
  .subst c;rw[if_pos rfl] at e;cases e;refine⟨l,rfl,?_,hl0,Ne.symm nl⟩;rw[upd_same,if_pos rfl,em];rfl
  .rw[if_neg (λz=>c (by injection z))] at e;obtain⟨b,rfl,hb,hb0,nb⟩:=N.at_ p v e;refine⟨b,rfl,?_,hb0,nb⟩;have n1:b≠l:=ne_of_none hb hl;rw[upd_ne n1,upd_ne nb,upd_ne n1,if_neg (Ne.symm c),List.append_nil];exact hb
 .rw [valV_put] at e1 e2;have old:∀r,¬(Sum.inl r:Key)=.inl x->valV kvs (.inl r)=some (.ref l)->False:=λr _ h=>by
   obtain⟨b,eb,hb,_⟩:=N.at_ r _ h;cases eb;rw[hl] at hb;cases hb
  by_cases c1:(Sum.inl p:Key)=.inl x<;>by_cases c2:(Sum.inl q:Key)=.inl x
  .injection c1 with c1;injection c2 with c2;rw[c1,c2]
  .rw[if_pos c1] at e1;rw[if_neg c2] at e2;cases e1;exact(old q c2 e2).elim
  .rw[if_neg c1] at e1;rw[if_pos c2] at e2;cases e2;exact(old p c1 e1).elim
  .rw[if_neg c1] at e1;rw[if_neg c2] at e2;exact N.inj p q a e1 e2
 .rw [valV_put,Bt.nbE_snoc];by_cases c:p=x
  .subst c;rw[if_pos rfl,if_pos rfl];constructor
   .intro z;cases z
   .intro z;simp at z
  .rw[if_neg (λz=>c (by injection z)),if_neg (Ne.symm c),List.append_nil];exact N.iff p
 .have h1:=length_putK kvs (Sum.inl x:Key) (V.ref l);have h2:=N.len;rw[List.length_append];show _<=_+1;omega
theorem NbS.get{H H0:Hp}{dn:Addr}{E:List (Int×Int)}{kvs:List (Key×V)}(N:NbS H H0 dn E kvs){p:Int}(h:Bt.nbE E p≠[]):∃a,DGet H dn (.int p) (some (.ref a))/\H a=some (.lst ((Bt.nbE E p).map V.int)):=by
 cases q:valV kvs (.inl p) with
 | none=>exact absurd ((N.iff p).mp q) h
 | some v=>
  obtain⟨a,rfl,ha,_⟩:=N.at_ p v q;have:DGet H dn (.int p) (valV kvs (.inl p)):=DGet.k (k:=.inl p) N.hd;rw[q] at this;exact⟨a,this,ha⟩
theorem ps_no{X:Cx}{st:Stmt}:PS X st (λ_ _ _=>False):=λ_ _ _ _ _ _ h=>h.elim
end L2
local macro_rules|`(tactic|trivial)=>`(tactic|dsimp only[L2.gName,List.set_cons_succ,List.set_cons_zero])
namespace K26
open PySem L2 PyProof.Rows
def top(i:Nat):Stmt:=PySem.Challenge.pw_pairsheath_k26_whole_from_one_choice_to.main.body.getD i (.Pass ⟨0,0,0,0⟩)
abbrev sSize:Stmt:=top 12
abbrev sEnds:Stmt:=top 13
abbrev sOrd:Stmt:=top 14
abbrev sWts:Stmt:=top 15
abbrev sNb:Stmt:=top 16
abbrev sInit:Stmt:=inClass (top 17) 0
abbrev sMSize:Stmt:=inClass (top 17) 1
abbrev sTies:Stmt:=inClass (top 17) 2
abbrev sWeight:Stmt:=inClass (top 17) 3
abbrev sTied:Stmt:=inClass (top 17) 4
abbrev sPart:Stmt:=top 2
abbrev sIs:Stmt:=top 3
abbrev sPner:Stmt:=top 4
abbrev sAlong:Stmt:=top 19
abbrev sAround:Stmt:=top 20
abbrev sTwice:Stmt:=top 21
abbrev sTiedA:Stmt:=top 22
abbrev sTurn:Stmt:=top 23
abbrev sFit:Stmt:=top 24
abbrev sTurns:Stmt:=top 25
abbrev sTurnsR:Stmt:=top 26
abbrev sOnly:Stmt:=top 27
abbrev sXch:Stmt:=top 28
abbrev sExch:Stmt:=top 29
abbrev sExchR:Stmt:=top 30
abbrev sNby:Stmt:=top 31
abbrev sFoll:Stmt:=top 32
abbrev sBetw:Stmt:=top 33
abbrev sCell:Stmt:=top 35
abbrev sTie:Stmt:=top 36
abbrev sOrder:Stmt:=top 37
abbrev sDrawn:Stmt:=top 38
abbrev sLw:Stmt:=top 39
abbrev sLends:Stmt:=top 40
abbrev sMore:Stmt:=top 41
abbrev sListed:Stmt:=top 42
abbrev sPiece:Stmt:=top 43
abbrev sTwo:Stmt:=top 44
abbrev sStep:Stmt:=top 45
abbrev sLis:Stmt:=top 46
abbrev sWalked:Stmt:=top 47
abbrev sLaw:Stmt:=top 48
section
variable{P:Program}{w:World}{K:W.Frag}{mg:Str->Option Value}{base:Heap}
theorem Same.new{H:Hp}{p:Addr}{o:HO}(h:H p=none):Same H (upd H p o):=λb u e=>by
 rw[upd_ne (ne_of_none e h)];exact e
def spSize:Sp:=λvs H Q _=>∃m:Int,vs=[.int m]/\¬(m<0\/24<m)/\Q .non H
theorem scSize:FnScope ["many"] ["many"] (defScope sSize):=⟨rfl,rfl,rfl,by decide +kernel,rfl,by decide +kernel,by decide +kernel⟩
theorem ok_size{f:Addr}{fd:FuncData}{u24:Value}(F:Fun K "check_size" "check_size" sSize f fd)(g24:mg "MOST_POINTS"=some u24)(r24:RelV (.int 24) u24):FnOk P w K mg base CX0 1 f fd ["many"] spSize:=by
 refine F.ok scSize (λvs H Q E h=>?_) (λcdv A outer s H vs Q E hr h=>?_)
 .obtain⟨m,rfl,_⟩:=h;rfl
 .obtain⟨m,rfl,h1,h2⟩:=h;refine⟨_,pss_one (ps_if (pw_or (pt_cmpR op_lt (pv 0) pe_int (nomark _)) (pw_or1 (pt_cmpR op_gt (pv 0) (pe_glob (by rfl) g24 r24) (nomark _)))).pt (pss_one ps_no) pss_nil),?_⟩;refine⟨_,rfl,_,_,rfl,rfl,_,rfl,?_⟩;refine ite2 (λc=>(h1 (.inl (of_decide_eq_true c))).elim) (λc=>?_);refine⟨_,rfl,_,_,rfl,rfl,_,rfl,?_⟩;exact ite2 (λd=>h1 (.inr (of_decide_eq_true d))) (λd=>h2)
def spOrd:Sp:=λvs H Q _=>∃a b:Int,vs=[.int a,.int b]/\∀p,H p=none->Q (.ref p) (upd H p (.tup [.int (Mt.lo a b),.int (Mt.hi a b)]))
theorem scOrd:FnScope ["a","b"] ["a","b"] (defScope sOrd):=⟨rfl,rfl,rfl,by decide +kernel,rfl,by decide +kernel,by decide +kernel⟩
theorem ok_ord{f:Addr}{fd:FuncData}(F:Fun K "ordered" "ordered" sOrd f fd)(gmin:mg "min"=none)(gmax:mg "max"=none):FnOk P w K mg base CX0 1 f fd ["a","b"] spOrd:=by
 refine F.ok scOrd (λvs H Q E h=>?_) (λcdv A outer s H vs Q E hr h=>?_)
 .obtain⟨a,b,rfl,_⟩:=h;rfl
 .obtain ⟨a,b,rfl,h⟩:=h;refine⟨_,pss_one (ps_ret (pe_tup (pa_cons (pe_callB (call_min2 rfl) (by rfl) gmin boot_min (pa_cons (pv 0) (pa_cons (pv 1) pa_nil)))
   (pa_cons (pe_callB (call_max2 rfl) (by rfl) gmax boot_max (pa_cons (pv 0) (pa_cons (pv 1) pa_nil))) pa_nil)))),?_⟩
  exact⟨_,rfl,_,rfl,a,b,rfl,_,rfl,_,rfl,a,b,rfl,(by show 2<=sizeLine;decide),λp hp=>h p hp⟩
def spEnds:Sp:=λvs H Q _=>∃m a b:Int,vs=[.int m,.int a,.int b]/\¬Mt.bad m a b/\∀H',Same H H'->Q .non H'
theorem scEnds:FnScope ["many","a","b","end"] ["many","a","b"] (defScope sEnds):=⟨rfl,rfl,rfl,by decide +kernel,rfl,by decide +kernel,by decide +kernel⟩
theorem ok_ends{f:Addr}{fd:FuncData}(F:Fun K "check_ends" "check_ends" sEnds f fd):FnOk P w K mg base CX0 1 f fd ["many","a","b"] spEnds:=by
 refine F.ok scEnds (λvs H Q E h=>?_) (λcdv A outer s H vs Q E hr h=>?_)
 .obtain⟨m,a,b,rfl,_⟩:=h;rfl
 .obtain ⟨m,a,b,rfl,h1,h2⟩:=h;refine⟨_,pss_cons (ps_for PassesOwn.never rfl (pi_tup (pe_tup (pa_cons (pv 1) (pa_cons (pv 2) pa_nil)))) (pg_name (i:=3) scEnds.nd rfl (Or.inl rfl))
    (pss_one (ps_if (pw_or (pt_cmpR op_lt (pv 3) pe_int (nomark _)) (pw_or1 (pt_cmpR op_ge (pv 3) (pv 0) (nomark _)))).pt (pss_one ps_no) pss_nil)))
   (pss_one (ps_if (pt_cmpR op_eq (pv 1) (pv 2) (nomark _)) (pss_one ps_no) pss_nil)),?_⟩
  refine⟨_,rfl,_,rfl,(by show 2<=sizeLine;decide),λt ht=>⟨t,rfl,⟨_,SqT.of upd_same⟩,for_tup (xs:=[V.int a,V.int b])
   (λi σ H2=>∃e,σ=[some (.int m),some (.int a),some (.int b),e]/\Same H H2/\H2 t=some (.tup [.int a,.int b])/\(0<i->¬(a<0\/m<=a))/\(1<i->¬(b<0\/m<=b)))
   ⟨none,rfl,Same.new ht,upd_same,λz=>absurd z (by decide),λz=>absurd z (by decide)⟩ (λi σ H2 _ ⟨e,_,_,hh,_⟩=>SqT.of hh) ?_ ?_⟩⟩
  .rintro i x σ H2 hi ⟨e,rfl,sm,hh,q1,q2⟩;obtain⟨v,rfl,hv⟩:∃v:Int,x=.int v/\((i=0/\v=a)\/(i=1/\v=b)):=by
    match i,hi with
    | 0,hi=>exact⟨a,(Option.some.inj hi).symm,.inl ⟨rfl,rfl⟩⟩
    | 1,hi=>exact⟨b,(Option.some.inj hi).symm,.inr ⟨rfl,rfl⟩⟩
    | n+2,hi=>cases hi
   have bd:v<0\/m<=v->Mt.bad m a b:=by
    unfold Mt.bad;rcases hv with⟨_,rfl⟩|⟨_,rfl⟩<;>omega
   refine⟨_,rfl,_,_,rfl,rfl,_,rfl,?_⟩;refine ite2 (λc=>(h1 (bd (.inl (of_decide_eq_true c)))).elim) (λc=>?_);refine⟨_,rfl,_,rfl,_,_,rfl,rfl,_,rfl,?_⟩;refine ite2 (λd=>h1 (bd (.inr (of_decide_eq_true d)))) (λd=>?_);simp only[decide_eq_true_eq] at c d;refine⟨_,rfl,sm,hh,λz=>?_,λz=>?_⟩
   .rcases hv with⟨rfl,rfl⟩|⟨rfl,rfl⟩
    .omega
    .exact q1 (by decide)
   .rcases hv with⟨rfl,rfl⟩|⟨rfl,rfl⟩
    .exact absurd z (by decide)
    .omega
  .rintro σ H2 ⟨e,rfl,sm,hh,q1,q2⟩;have r1:=q1 (by show 0<2;decide);have r2:=q2 (by show 1<2;decide);refine⟨_,rfl,_,rfl,rfl,_,rfl,?_⟩;refine ite2 (λc=>h1 ?_) (λc=>h2 H2 sm);have e:V.int a=V.int b:=of_decide_eq_true c;injection e with e
   unfold Mt.bad;omega
end
end K26
namespace L2
open PySem PySem.W PySem.W.X PyProof.Rows
def fr1(o:Obj)(n:Nat):Option (Nat×Obj):=match o with
 | ⟨_,_,.freed,_⟩=>none
 | o=>some (n,o)
noncomputable def fragH(h:Heap):PySem.W.Frag:=h.objs.toList.zipIdx.filterMap λp=>fr1 p.1 p.2
theorem fr1_or(o:Obj)(n:Nat):(fr1 o n=none)\/(fr1 o n=some (n,o)/\∀h:Heap,h.objs[n]?=some o->h.get? n=some o):=by
 obtain⟨c,d,dt,sl⟩:=o;cases dt<;>first
  | exact .inl rfl
  | (refine .inr ⟨rfl,λh e=>?_⟩;unfold Heap.get?;rw[e])
theorem lookupZ{h:Heap}{a:Nat}{o:Obj}:∀(l:List Obj)(k:Nat),(∀i x,l[i]?=some x->h.objs[k+i]?=some x)->((l.zipIdx k).filterMap λp=>fr1 p.1 p.2).lookup a=some o->h.get? a=some o
 | [],_,_,e=>nomatch e
 | x::l,k,q,e=>by
  have ih:=lookupZ (h:=h) (a:=a) (o:=o) l (k+1) λi y hy=>by
   rw[Nat.add_right_comm,Nat.add_assoc];exact q (i+1) y hy
  rw[List.zipIdx_cons,List.filterMap_cons] at e;rcases fr1_or x k with h1|⟨h1,h2⟩
  .rw[h1] at e;exact ih e
  .rw [h1,List.lookup_cons] at e;by_cases r:a=k
   .subst r;rw[beq_self_eq_true] at e;cases e;exact h2 h (q 0 _ rfl)
   .rw[beq_eq_false_iff_ne.mpr r] at e;exact ih e
theorem fragH_in(h:Heap):(fragH h).In h:=λa o e=>lookupZ h.objs.toList 0 (λi x hx=>by rw[Nat.zero_add,<-Array.getElem?_toList];exact hx) e
abbrev SeeD:=Str×Str×Arguments×FuncBody×Scope×Addr×List (Str×Addr)×Value×Addr×Bool×Bool
def funSee(K:W.Frag)(x:Str)(f:Addr):Option SeeD:=match K.lookup f with
 | some ⟨_,_,.func fd,_⟩=>some (fd.name,fd.qualname,fd.params,fd.body,fd.scope,fd.globals,fd.closure,fd.defaults,fd.builtins,codeIn K fd.code x,keepIn K (.ref f))
 | _=>none
def funGood(x q:Str)(st:Stmt):Option SeeD:=some (x,q,defArgs st,.stmts (defBody st),defScope st,mainGlobals,[],.none,builtinsNs,true,true)
def defSee(K:W.Frag)(x:Str):Option SeeD:=match nsIn K mainGlobals x with
 | some (some (.ref f))=>funSee K x f
 | _=>none
def metSee(K:W.Frag)(C:Addr)(x q:Str):Option (Bool×Option SeeD):=match findIn K (.ref C) x with
 | some (some (.ref f))=>some (isFn K (.ref f),funSee K q f)
 | _=>none
theorem fun_see{K:W.Frag}{x q:Str}{st:Stmt}{f:Addr}(e:funSee K q f=funGood x q st):∃(oc:Value)(od an:Option Addr)(osl:Array (Option Value))(kV doc pm cdv ct:Value),K.lookup f=some ⟨oc,od,.func (fnOf x q (defArgs st) (defBody st) (defScope st) .none kV doc pm an cdv ct),osl⟩/\codeIn K cdv q=true/\keepIn K (.ref f)=true:=by
 unfold funSee funGood at e
 split at e
 .next oc od fd osl el=>
  obtain⟨n,qn,ps,b,sc,gl,cl,df,kd,dc,pm,an,cd,ct,bi⟩:=fd;simp only[Option.some.injEq,Prod.mk.injEq] at e;obtain⟨rfl,rfl,rfl,rfl,rfl,rfl,rfl,rfl,rfl,c,k⟩:=e;exact⟨oc,od,an,osl,kd,dc,pm,cd,ct,el,c,k⟩
 .cases e
theorem def_see{K:W.Frag}{x:Str}{st:Stmt}(e:defSee K x=funGood x x st):∃(f:Addr)(oc:Value)(od an:Option Addr)(osl:Array (Option Value))(kV doc pm cdv ct:Value),nsIn K mainGlobals x=some (some (.ref f))/\K.lookup f=some ⟨oc,od,.func (fnOf x x (defArgs st) (defBody st) (defScope st) .none kV doc pm an cdv ct),osl⟩/\codeIn K cdv x=true/\keepIn K (.ref f)=true:=by
 unfold defSee at e
 split at e
 .next f en=>exact⟨f,by obtain⟨oc,od,an,osl,kV,doc,pm,cdv,ct,h⟩:=fun_see e;exact⟨oc,od,an,osl,kV,doc,pm,cdv,ct,en,h⟩⟩
 .cases e
theorem met_see{K:W.Frag}{C:Addr}{x q:Str}{st:Stmt}(e:metSee K C x q=some (true,funGood x q st)):∃(f:Addr)(oc:Value)(od an:Option Addr)(osl:Array (Option Value))(kV doc pm cdv ct:Value),findIn K (.ref C) x=some (some (.ref f))/\isFn K (.ref f)=true/\K.lookup f=some ⟨oc,od,.func (fnOf x q (defArgs st) (defBody st) (defScope st) .none kV doc pm an cdv ct),osl⟩/\codeIn K cdv q=true/\keepIn K (.ref f)=true:=by
 unfold metSee at e
 split at e
 .next f en=>
  simp only[Option.some.injEq,Prod.mk.injEq] at e;obtain⟨oc,od,an,osl,kV,doc,pm,cdv,ct,h⟩:=fun_see e.2;exact⟨f,oc,od,an,osl,kV,doc,pm,cdv,ct,en,e.1,h⟩
 .cases e
abbrev SeeC:=Bool×Bool×Bool×Option (Option Value)×Bool×Bool×List (Option (Option Value))×List (Option (Bool×Option SeeD))
def clsSee(K:W.Frag)(c:Str)(no:List Str)(ms:List (Str×Str×Stmt)):Option SeeC:=match nsIn K mainGlobals c with
 | some (some (.ref C))=>some (plainGet K C Str.empty,hasDictIn K C,plainOver K C,findIn K (.ref C) "__setattr__",makesIn K C,keepIn K (.ref C),no.map (findIn K (.ref C)),ms.map λm=>metSee K C m.1 m.2.1)
 | _=>none
def clsGood(no:List Str)(ms:List (Str×Str×Stmt)):Option SeeC:=some (true,true,true,some (some (.builtin "object.__setattr__")),true,true,no.map λ_=>some none,ms.map λm=>some (true,funGood m.1 m.2.1 m.2.2))
theorem cls_see{K:W.Frag}{c:Str}{no:List Str}{ms:List (Str×Str×Stmt)}(e:clsSee K c no ms=clsGood no ms):∃C,nsIn K mainGlobals c=some (some (.ref C))/\(plainGet K C Str.empty=true/\hasDictIn K C=true/\plainOver K C=true/\findIn K (.ref C) "__setattr__"=some (some (.builtin "object.__setattr__")))/\makesIn K C=true/\keepIn K (.ref C)=true/\(∀x∈no,findIn K (.ref C) x=some none)/\∀m∈ms,metSee K C m.1 m.2.1=some (true,funGood m.1 m.2.1 m.2.2):=by
 unfold clsSee clsGood at e
 split at e
 .next C en=>
  simp only[Option.some.injEq,Prod.mk.injEq] at e;obtain⟨h1,h2,h3,h4,h5,h6,h7,h8⟩:=e;exact⟨C,en,⟨h1,h2,h3,h4⟩,h5,h6,List.map_inj_left.mp h7,List.map_inj_left.mp h8⟩
 .cases e
def numSee(K:W.Frag)(x:Str):Option Int:=match nsIn K mainGlobals x with
 | some (some (.int n _))=>some n
 | _=>none
theorem num_see{K:W.Frag}{x:Str}{n:Int}(e:numSee K x=some n):∃t,nsIn K mainGlobals x=some (some (.int n t)):=by
 unfold numSee at e
 split at e
 .next m t en=>
  cases e;exact⟨t,en⟩
 .cases e
abbrev See:=List (Option (Option Value))×List (Option Int)×List (Option Bool)×List (Option SeeD)×Option SeeC
noncomputable def seeOf(zs:List Str)(ks:List (Str×Int))(qs:List (String×String×Bool))(ds:List (Str×Stmt))(c:Str)(no:List Str)(ms:List (Str×Str×Stmt))(K:W.Frag):See:=(zs.map (nsIn K mainGlobals),ks.map (λk=>numSee K k.1),qs.map (λq=>kitOne K (.type q.1) (.type q.2.1)),ds.map (λd=>defSee K d.1),clsSee K c no ms)
def seeGood(zs:List Str)(ks:List (Str×Int))(qs:List (String×String×Bool))(ds:List (Str×Stmt))(no:List Str)(ms:List (Str×Str×Stmt)):See:=(zs.map λ_=>some none,ks.map λk=>some k.2,qs.map λq=>some q.2.2,ds.map λd=>funGood d.1 d.1 d.2,clsGood no ms)
theorem see_of{zs:List Str}{ks:List (Str×Int)}{qs:List (String×String×Bool)}{ds:List (Str×Stmt)}{c:Str}{no:List Str}{ms:List (Str×Str×Stmt)}{K:W.Frag}(e:seeOf zs ks qs ds c no ms K=seeGood zs ks qs ds no ms):(∀x∈zs,nsIn K mainGlobals x=some none)/\(∀k∈ks,numSee K k.1=some k.2)/\(∀q∈qs,kitOne K (.type q.1) (.type q.2.1)=some q.2.2)/\(∀d∈ds,defSee K d.1=funGood d.1 d.1 d.2)/\clsSee K c no ms=clsGood no ms:=by
 unfold seeOf seeGood at e;simp only[Prod.mk.injEq] at e;exact⟨List.map_inj_left.mp e.1,List.map_inj_left.mp e.2.1,List.map_inj_left.mp e.2.2.1,List.map_inj_left.mp e.2.2.2.1,e.2.2.2.2⟩
theorem walkS{q:Program}{loose:List Str}{XP:(Str->Option Value)->Heap->Prop}{α:Type}{Yf:Shared->α}{Ya:World->α}{r:RowW}{d:DefRec}{kwd:List (Str×PySem.Expr)}{run:Value->List Value->Sem Value}
  (h:∀(w:World)(s₀:Shared),Yf s₀=Ya w->WalkO q loose XP (λ_ h=>(fragH s₀.heap).In h) r d kwd run):WalkX q loose XP Yf Ya r d kwd run:=by
 intro w s₀ s₁ mg mb G y a o pm cd doc dV kV ho hd hcd hD hmg hg args vals as' L hpre hlay hrd hwl hlo;exact h w s₀ y w s₀ s₁ mg mb G (λa o e=>L.keeps _ _ (fragH_in s₀.heap a o e)) a o pm cd doc dV kV ho hd hcd hD hmg hg args vals as' hpre hlay hrd hwl hlo
end L2
namespace K26
open PySem L2 PyProof.Rows
noncomputable def Qv:Program:={PySem.Challenge.pw_pairsheath_k26_whole_from_one_choice_to with main:={(PySem.Challenge.pw_pairsheath_k26_whole_from_one_choice_to).main with body:=[0,2,3,4,6,7,8,9,11,12,13,14,15,16,17,19,20,21,22,23,24,25,26,27,28,29,30,31,32,33,35,36,37,38,39,40,41,42,43,44,45,46,47,48].map top}}
def zsH:List Str:=[Str.ofString "min",Str.ofString "max",Str.ofString "len",Str.ofString "range",Str.ofString "set",Str.ofString "all",Str.ofString "zip",Str.ofString "sorted",Str.ofString "list"]
def ksH:List (Str×Int):=[(Str.ofString "MOST_POINTS",24)]
def qsH:List (String×String×Bool):=[]
noncomputable def dsH:List (Str×Stmt):=[(Str.ofString "check_size",sSize),(Str.ofString "check_ends",sEnds),(Str.ofString "ordered",sOrd),(Str.ofString "weights_of",sWts),(Str.ofString "neighbours_of",sNb),(Str.ofString "partners_of",sPart),(Str.ofString "partner",sPner),(Str.ofString "is_choice",sIs),(Str.ofString "ties_along",sAlong),(Str.ofString "ties_around",sAround),(Str.ofString "none_twice",sTwice),(Str.ofString "all_tied",sTiedA),(Str.ofString "in_turn",sTurn),(Str.ofString "fit_end",sFit),(Str.ofString "turns",sTurns),(Str.ofString "turns_ring",sTurnsR),(Str.ofString "only_in",sOnly),(Str.ofString "exchanged_ties",sXch),(Str.ofString "exchanged",sExch),(Str.ofString "exchanged_ring",sExchR),(Str.ofString "neighbours_by",sNby),(Str.ofString "followed",sFoll),(Str.ofString "between",sBetw),(Str.ofString "_law_cell_at",sCell),(Str.ofString "_law_tie",sTie),(Str.ofString "_law_order",sOrder),(Str.ofString "_law_drawn",sDrawn),(Str.ofString "_law_weight",sLw),(Str.ofString "_law_ends",sLends),(Str.ofString "_law_more",sMore),(Str.ofString "_law_listed",sListed),(Str.ofString "_law_piece",sPiece),(Str.ofString "_law_two",sTwo),(Str.ofString "_law_step",sStep),(Str.ofString "_law_is_choice",sLis),(Str.ofString "_law_walked",sWalked),(Str.ofString "law",sLaw)]
def noH:List Str:=[Str.ofString "many",Str.ofString "weights",Str.ofString "ties_sorted",Str.ofString "neighbours"]
noncomputable def msH:List (Str×Str×Stmt):=[(Str.ofString "__init__",Str.ofString "Web.__init__",sInit),(Str.ofString "weight",Str.ofString "Web.weight",sWeight)]
noncomputable def seeH(s:Shared):See:=seeOf zsH ksH qsH dsH "Web" noH msH (fragH s.heap)
noncomputable def goodH:See:=seeGood zsH ksH qsH dsH noH msH
noncomputable def XtH(s:Shared):Bool:=PySem.W.xlAt Qv [] s&&PySem.W.recOk (PySem.W.RowW.records (PySem.Challenge.rw_pairsheath_k26_whole_from_one_choice_to.row).toRowW) s
def posH:Stmt->Pos
 | .FunctionDef _ _ _ _ _ _ _ _ _ p=>p
 | _=>⟨0,0,0,0⟩
noncomputable def dL:PySem.DefRec:=⟨"law",defArgs sLaw,defBody sLaw,defScope sLaw,posH sLaw⟩
set_option maxRecDepth 100000 in
set_option maxHeartbeats 0 in
theorem leftH:PySem.W.LeftO PySem.Challenge.pw_pairsheath_k26_whole_from_one_choice_to Qv [] XtH seeH (λ_=>goodH) 4902:=λw=>by
 unfold PySem.W.openEnds PySem.W.fencedOpening PySem.W.topFrom;rw[PySem.W.Fast.te14082659384304107361,PySem.W.Fast.te14364793385576792824,PySem.W.Fast.te10274390034422433532]
 kernel_rfl
section
variable{P:Program}{w:World}{K:W.Frag}{mg:Str->Option Value}{base:Heap}
structure RowsAt(K:W.Frag)(H:Hp)(p:Addr)(rs:List Addr)(T:List Mt.Tri):Prop where
 ls:SqL K H p (rs.map V.ref)
 tp:TupsH H rs (T.map Mt.tri)
theorem TupsH.same{H H':Hp}(s:Same H H'):∀{rs:List Addr}{ts:List (List Int)},TupsH H rs ts->TupsH H' rs ts
 | _,_,.nil=>.nil
 | _,_,.cons h t=>.cons ⟨s _ _ h.1,h.2⟩ (TupsH.same s t)
theorem RowsAt.same{H H':Hp}{p:Addr}{rs:List Addr}{T:List Mt.Tri}(s:Same H H')(h:RowsAt K H p rs T):RowsAt K H' p rs T:=⟨s.seq h.ls,TupsH.same s h.tp⟩
theorem RowsAt.len{H:Hp}{p:Addr}{rs:List Addr}{T:List Mt.Tri}(h:RowsAt K H p rs T):rs.length=T.length:=by
 have:=Paired.length h.tp;rw[List.length_map] at this;exact this
theorem RowsAt.at_{H:Hp}{p:Addr}{rs:List Addr}{T:List Mt.Tri}(h:RowsAt K H p rs T){i:Nat}{x:V}(e:(rs.map V.ref)[i]?=some x) :
  ∃r t,x=.ref r/\T[i]?=some t/\H r=some (.tup [.int t.1,.int t.2.1,.int t.2.2]):=by
 rw[List.getElem?_map] at e;cases er:rs[i]? with
 | none=>rw[er] at e;cases e
 | some r=>
  rw[er] at e;obtain⟨u,eu,hu,_⟩:=Sx.pair_at (i:=i) (a:=r) h.tp er;rw[List.getElem?_map] at eu;cases et:T[i]? with
  | none=>rw[et] at eu;cases eu
  | some t=>
   rw[et] at eu;cases eu;exact⟨r,t,(Option.some.inj e).symm,rfl,hu⟩
def kk(t:Mt.Tri):List Key:=(Mt.key t).map Sum.inl
def wd(T:List Mt.Tri):List (List Key×V):=T.map λt=>(kk t,V.int t.2.2)
theorem inl_inj:∀{a b:List Int},a.map (Sum.inl:Int->Key)=b.map Sum.inl->a=b
 | [],[],_=>rfl
 | [],_::_,e=>by simp at e
 | _::_,[],e=>by simp at e
 | x::xs,y::ys,e=>by
  rw[List.map_cons,List.map_cons] at e;injection e with e1 e2
  injection e1 with e1
  rw[e1,inl_inj e2]
theorem wd_some(T:List Mt.Tri)(t:Mt.Tri):(valV (wd T) (kk t)).isSome=(T.map Mt.key).any λk=>decide (k=Mt.key t):=by
 rw[<-valV_any]
 induction T with
 | nil=>rfl
 | cons u T ih=>
  show(decide (kk u=kk t)||(wd T).any _)=(decide (Mt.key u=Mt.key t)||(T.map Mt.key).any _);rw[ih]
  congr 1
  rw[Bool.eq_iff_iff,decide_eq_true_iff,decide_eq_true_iff];exact⟨λe=>inl_inj e,λe=>by unfold kk;rw[e]⟩
theorem wd_snoc(T:List Mt.Tri)(t:Mt.Tri)(h:(valV (wd T) (kk t))=none):putK (wd T) (kk t) (.int t.2.2)=wd (T++[t]):=by
 rw[putK_new _ h];unfold wd;rw[List.map_append];rfl
def spWts(K:W.Frag):Sp:=λvs H Q _=>∃(m:Int)(p:Addr)(rs:List Addr)(T:List Mt.Tri),vs=[.int m,.ref p]/\RowsAt K H p rs T/\T.length<1000/\Mt.scan m T []=.good/\∀d H',H d=none->Same H H'->H' d=some (.dT (wd T))->Q (.ref d) H'
theorem scWts:FnScope ["many","ties","weights","a","b","weight","ends"] ["many","ties"] (defScope sWts):=⟨rfl,rfl,rfl,by decide +kernel,rfl,by decide +kernel,by decide +kernel⟩
theorem ok_wts{f fE fO:Addr}{fd fdE fdO:FuncData}(F:Fun K "weights_of" "weights_of" sWts f fd)
  (GE:FnOk P w K mg base CX0 1 fE fdE ["many","a","b"] spEnds) (mE:mg "check_ends"=some (.ref fE)) (kE:PySem.W.keepIn K (.ref fE)=true) (bE:Binds K fdE ["many","a","b"] [])
  (GO:FnOk P w K mg base CX0 1 fO fdO ["a","b"] spOrd) (mO:mg "ordered"=some (.ref fO)) (kO:PySem.W.keepIn K (.ref fO)=true) (bO:Binds K fdO ["a","b"] []) :
  FnOk P w K mg base CX0 2 f fd ["many","ties"] (spWts K):=by
 refine F.ok scWts (λvs H Q E h=>?_) (λcdv A outer s H vs Q E hr h=>?_)
 .obtain⟨m,p,rs,T,rfl,_⟩:=h;rfl
 .obtain ⟨m,p,rs,T,rfl,R,hl,hgood,hg⟩:=h;have hu:=hu_of hr;refine⟨_,pss_cons (ps_set (i:=2) scWts.nd rfl (Or.inl rfl) pe_dnewT)
   (pss_cons (ps_for PassesOwn.never rfl (pi_list (pv 1)) (pg_tup rfl (pgs_cons (pg_name (i:=3) scWts.nd rfl (Or.inl rfl)) (pgs_cons (pg_name (i:=4) scWts.nd rfl (Or.inl rfl)) (pgs_cons (pg_name (i:=5) scWts.nd rfl (Or.inl rfl)) pgs_nil))))
    (pss_cons (ps_expr (pe_call GE hr rfl mE kE bE .nil pass0 (pa_cons (pv 0) (pa_cons (pv 3) (pa_cons (pv 4) pa_nil)))))
    (pss_cons (ps_set (i:=6) scWts.nd rfl (Or.inl rfl) (pe_call GO hr rfl mO kO bO .nil pass0 (pa_cons (pv 3) (pa_cons (pv 4) pa_nil))))
    (pss_cons (ps_if (pt_cmp (pc_din hu (pv 6) (pv 2))) (pss_one ps_no) pss_nil)
    (pss_one (ps_dput hu (pv 2) (pv 6) (pv 5) rfl))))))
   (pss_one (ps_ret (pv 2)))),?_⟩
  intro d hd;have s0:Same H (upd H d (.dT [])):=Same.new hd;refine⟨_,rfl,p,rfl,⟨_,(R.same s0).ls⟩,for_list (K:=K) (a:=p) (xs:=rs.map V.ref)
   (λi σ H2=>∃e3 e4 e5 e6,σ=[some (.int m),some (.ref p),some (.ref d),e3,e4,e5,e6]/\Same H H2/\H2 d=some (.dT (wd (T.take i)))/\Mt.scan m T []=Mt.scan m (T.drop i) ((T.take i).map Mt.key))
   ⟨none,none,none,none,rfl,s0,upd_same,rfl⟩ (λi σ H2 _ ⟨_,_,_,_,_,s2,_⟩=>(R.same s2).ls) ?_ ?_⟩
  .rintro i x σ H2 hi ⟨e3,e4,e5,e6,rfl,s2,hdi,hsc⟩;obtain⟨r,t,rfl,et,ht⟩:=(R.same s2).at_ hi;have hil:i<T.length:=(List.getElem?_eq_some_iff.mp et).1;have hdr:T.drop i=t::T.drop (i+1):=by
    rw[List.drop_eq_getElem_cons hil]
    congr 1
    exact(List.getElem?_eq_some_iff.mp et).2
   have htk:T.take (i+1)=T.take i++[t]:=by
    rw[List.take_succ,et];rfl
   rw[hdr,Mt.scan_cons] at hsc;refine⟨r,_,rfl,SqT.of ht,rfl,_,_,rfl,_,_,rfl,_,_,rfl,rfl,?_⟩;rw[hgood] at hsc;by_cases nb:Mt.bad m t.1 t.2.1
   .rw[if_pos nb] at hsc;cases hsc
   .rw [if_neg nb] at hsc;refine⟨_,rfl,_,rfl,_,rfl,m,t.1,t.2.1,rfl,nb,λH3 s3=>?_⟩;refine⟨_,rfl,_,rfl,t.1,t.2.1,rfl,λq hq=>?_⟩;have s4:Same H3 (upd H3 q (.tup [.int (Mt.lo t.1 t.2.1),.int (Mt.hi t.1 t.2.1)])):=Same.new hq;have hd4:=s4 d _ (s3 d _ hdi);have hq4:upd H3 q (.tup [.int (Mt.lo t.1 t.2.1),.int (Mt.hi t.1 t.2.1)]) q=some (.tup ((kk t).map kV)):=upd_same;refine⟨_,rfl,_,rfl,d,_,rfl,DGet.t (k:=kk t) hd4 hq4,_,rfl,?_⟩;refine ite2 (λc=>?_) (λc=>?_)
    .rw[wd_some] at c;rw[if_pos c] at hsc;cases hsc
    .have cn:valV (wd (T.take i)) (kk t)=none:=by
      cases q:valV (wd (T.take i)) (kk t) with
      | none=>rfl
      | some v=>rw[q] at c;exact absurd rfl c
     rw[wd_some] at c;rw[if_neg c] at hsc;refine⟨_,rfl,_,rfl,_,rfl,d,_,rfl,DPut.t (k:=kk t) hd4 hq4 (small1000 ?_),?_⟩
     .unfold wd;rw[List.length_map,List.length_take];omega
     .refine ⟨_,_,_,_,rfl,λb o e=>?_,?_,?_⟩
      .rw[upd_ne (ne_of_none e hd)];exact s4 b o (s3 b o (s2 b o e))
      .rw[upd_same,wd_snoc _ _ cn,htk]
      .rw[hgood,hsc,htk,List.map_append];rfl
  .rintro σ H2 ⟨e3,e4,e5,e6,rfl,s2,hdi,hsc⟩;rw[List.length_map,R.len] at hdi hsc;rw[List.take_length] at hdi hsc;rw[List.drop_length] at hsc;exact⟨_,rfl,hg d H2 hd s2 hdi⟩
theorem relabel_no{scope:Scope}{env:Env}(h:∀y∈scope.names,y.2≠.cell/\y.2≠.free)(x:Str):¬((relabel scope env).names.lookup x=some .cell\/(relabel scope env).names.lookup x=some .free):=by
 have key:∀y∈(relabel scope env).names,y.2≠.cell/\y.2≠.free:=λy hy=>by
  obtain⟨z,hz,e⟩:=List.mem_map.mp hy;have h':=h z hz;obtain⟨n,k⟩:=z;have hk:(k==NameKind.free)=false:=beq_eq_false_iff_ne.mpr h'.2;simp only[hk,Bool.false_and,Bool.false_eq_true,if_false] at e;subst e;exact h'
 rintro(e|e)
 .exact(key _ (PySem.mem_of_lookup e)).1 rfl
 .exact(key _ (PySem.mem_of_lookup e)).2 rfl
theorem caps0{X:Cx}{scope:Scope}{own:List Str}(h1:closureFor scope X.env=pure [])(h2:scope.kind=.function)(h3:∀y∈scope.names,y.2≠.cell/\y.2≠.free)(h4:∀y∈scope.names,y.2=.local->scope.names.lookup y.1=some .local):Caps X scope [] own [] []:=
 ⟨h1,λx c e=>(by cases e),h2,λy hy=>(h3 y hy).1,h4,λx hx=>absurd hx (relabel_no h3 x),rfl,λi x e=>(by cases e)⟩
theorem ix_inj{α:Type}{l:List α}{i j:Nat}{x:α}(h:l.Nodup)(hi:l[i]?=some x)(hj:l[j]?=some x):i=j:=by
 have h:l.Pairwise (·≠·):=h;rw[List.pairwise_iff_getElem] at h;obtain⟨a,ea⟩:=List.getElem?_eq_some_iff.mp hi;obtain⟨b,eb⟩:=List.getElem?_eq_some_iff.mp hj;rcases Nat.lt_trichotomy i j with q|q|q
 .exact absurd (ea.trans eb.symm) (h i j a b q)
 .exact q
 .exact absurd (eb.trans ea.symm) (h j i b a q)
def nbM(ts:List (List Int))(i:Int):List Int:=ts.flatMap λt=>match t with | [a,b]=>(if a=i then [b] else [])++(if b=i then [a] else [])|_=>[]
theorem nbM_snoc(l:List (List Int))(a b k:Int):nbM (l++[[a,b]]) k=nbM l k++((if a=k then [b] else [])++(if b=k then [a] else [])):=by
 unfold nbM;rw[List.flatMap_append];simp
theorem nbM_len(k:Int):∀l:List (List Int),(nbM l k).length<=2*l.length
 | []=>Nat.le_refl _
 | t::l=>by
  have ih:=nbM_len k l;unfold nbM at ih ⊢;rw[List.flatMap_cons,List.length_append,List.length_cons];have:(match t with | [a,b]=>(if a=k then [b] else [])++(if b=k then [a] else [])|_=>[]).length<=2:=by
   split
   .rw[List.length_append]
    split<;>split<;>simp
   .exact Nat.zero_le _
  omega
def NbAt(H:Hp)(n:Addr)(m:Int)(ts:List (List Int)):Prop:=∃ps:List Addr,H n=some (.lst (ps.map V.ref))/\ps.length=m.toNat/\∀(j:Nat) q,ps[j]?=some q->H q=some (.lst ((nbM ts j).map V.int))
theorem NbAt.at'{H H':Hp}{n:Addr}{m:Int}{ts:List (List Int)}(h:NbAt H n m ts)(k:∀b xs,H b=some (.lst xs)->H' b=some (.lst xs)):NbAt H' n m ts:=by
 obtain⟨ps,h1,h2,h3⟩:=h;exact⟨ps,k _ _ h1,h2,λj q e=>k _ _ (h3 j q e)⟩
def NbN(H:Hp)(n:Addr)(m:Int)(ts:List (List Int))(N:Addr->Prop):Prop:=∃ps:List Addr,H n=some (.lst (ps.map V.ref))/\ps.length=m.toNat/\(∀(j:Nat) q,ps[j]?=some q->H q=some (.lst ((nbM ts j).map V.int)))/\N n/\∀q∈ps,N q
theorem NbN.nb{H:Hp}{n:Addr}{m:Int}{ts:List (List Int)}{N:Addr->Prop}(h:NbN H n m ts N):NbAt H n m ts:=let ⟨ps,h1,h2,h3,_⟩:=h;⟨ps,h1,h2,h3⟩
theorem NbN.at'{H H':Hp}{n:Addr}{m:Int}{ts:List (List Int)}{N N':Addr->Prop}(h:NbN H n m ts N)(k:∀b xs,N b->H b=some (.lst xs)->H' b=some (.lst xs))(i:∀b xs,N b->H b=some (.lst xs)->N' b):NbN H' n m ts N':=by
 obtain⟨ps,h1,h2,h3,h4,h5⟩:=h;have at_:∀q∈ps,∃xs,H q=some (.lst xs):=λq hq=>by
  obtain⟨j,hj,e⟩:=List.getElem_of_mem hq;exact⟨_,h3 j q (by rw[<-e];simp[hj])⟩
 exact⟨ps,k _ _ h4 h1,h2,λj q e=>k _ _ (h5 q (List.mem_of_getElem? e)) (h3 j q e),i _ _ h4 h1,λq hq=>let ⟨_,e⟩:=at_ q hq;i _ _ (h5 q hq) e⟩
def spNb(K:W.Frag):Sp:=λvs H Q _=>∃(m:Int)(e:Addr)(rs:List Addr)(ts:List (List Int)),vs=[.int m,.ref e]/\0<=m/\m<=24/\SqL K H e (rs.map V.ref)/\TupsH H rs ts/\rs.length<=300 ∧
 (∀t∈ts,∃a b:Int,t=[a,b]/\0<=a/\a<b/\b<m)/\∀n H',Same H H'->NbN H' n m ts (λb=>H b=none)->Q (.ref n) H'
theorem scNb:FnScope ["many","ends_sorted","neighbours","a","b"] ["many","ends_sorted"] (defScope sNb):=⟨rfl,rfl,rfl,by decide +kernel,rfl,by decide +kernel,by decide +kernel⟩
theorem nd_own1:([".0","point"]:List Str).Nodup:=by decide +kernel
theorem ok_nb{f:Addr}{fd:FuncData}(F:Fun K "neighbours_of" "neighbours_of" sNb f fd)(grange:mg "range"=none):FnOk P w K mg base CX0 1 f fd ["many","ends_sorted"] (spNb K):=by
 refine F.ok scNb (λvs H Q E h=>?_) (λcdv A outer s H vs Q E hr h=>?_)
 .obtain⟨m,e,rs,ts,rfl,_⟩:=h;rfl
 .obtain ⟨m,e,rs,ts,rfl,hm0,hm,hS,hT,h64,hts,hQ⟩:=h;refine⟨_,pss_cons (ps_comp (i:=2) (own:=[".0","point"]) (cl:=[]) (caps:=[]) (js:=[]) rfl (caps0 rfl rfl (by decide +kernel) (by decide +kernel)) (pi_range1 rfl grange (pa_cons (pv 0) pa_nil))
    (λpins C s H1 fp=>pg_name (i:=1) nd_own1 rfl (Or.inl rfl)) (λpins C s H1 fp=>pts_nil) (λpins C s H1 fp=>pe_lst pa_nil) scNb.nd rfl rfl rfl)
   (pss_cons (ps_for PassesOwn.never rfl (pi_list (pv 1)) (pg_tup rfl (pgs_cons (pg_name (i:=3) scNb.nd rfl (Or.inl rfl)) (pgs_cons (pg_name (i:=4) scNb.nd rfl (Or.inl rfl)) pgs_nil)))
    (pss_cons (ps_expr (pe_bm PySem.F.plainAttrs_list PySem.F.slot_list_append PySem.F.type_list_append mt_append (pe_ix ix_list (pv 2) (pv 3) (λ_ _=>rfl)) (pa_cons (pv 4) pa_nil)))
    (pss_one (ps_expr (pe_bm PySem.F.plainAttrs_list PySem.F.slot_list_append PySem.F.type_list_append mt_append (pe_ix ix_list (pv 2) (pv 4) (λ_ _=>rfl)) (pa_cons (pv 3) pa_nil))))))
   (pss_one (ps_ret (pv 2)))),?_⟩
  refine⟨_,rfl,m,rfl,by omega,by omega,λd hd=>?_⟩;refine turns_range (n:=m.toNat) (λi ys σ H2=>∃ps:List Addr,ys=ps.map V.ref/\ps.length=i/\i<=m.toNat/\Same H H2/\H2 d=some (.lst ys)/\ps.Nodup/\∀q∈ps,H2 q=some (.lst [])/\H q=none/\q≠d)
   ⟨[],rfl,rfl,Nat.zero_le _,Same.new hd,upd_same,List.nodup_nil,λq hq=>by cases hq⟩ ?_ ?_ ?_
  .rintro i ys σ H2 ⟨ps,rfl,hl,hi,_,hd2,_,_⟩;refine⟨hd2,small1000 ?_⟩;rw[List.length_map];omega
  .rintro i ys σ H2 hi ⟨ps,rfl,hl,_,s2,hd2,hnd,hps⟩;unfold gName;dsimp only;refine yes_of ?_;refine⟨Nat.zero_le _,λq hq=>?_⟩;have nqd:d≠q:=ne_of_none hd2 hq;have s3:=s2.trans (Same.new (o:=.lst []) hq);have hqH:H q=none:=s2.free hq;refine⟨by rw[upd_ne nqd];exact hd2,Nxt.mk hi ⟨ps++[q],by rw[List.map_append];rfl,by rw[List.length_append,hl];rfl,hi,λb o e=>?_,upd_same,?_,λr hr=>?_⟩⟩
   .rw[upd_ne (ne_of_none e hd)];exact s3 b o e
   .rw[List.nodup_append];refine⟨hnd,by simp,λa ha b hb=>?_⟩;rw[List.mem_singleton] at hb;subst hb;exact ne_of_none (hps a ha).1 hq
   .rcases List.mem_append.mp hr with hr|hr
    .obtain⟨a1,a2,a3⟩:=hps r hr;refine⟨?_,a2,a3⟩;rw[upd_ne a3,upd_ne (ne_of_none a1 hq)];exact a1
    .rw[List.mem_singleton] at hr;subst hr;refine⟨?_,hqH,nqd.symm⟩;rw[upd_ne nqd.symm,upd_same]
  .rintro ys σ0 H2 ⟨ps,rfl,hl,_,s2,hd2,hnd,hps⟩;refine⟨_,rfl,e,rfl,⟨_,s2.seq hS⟩,for_list (K:=K) (a:=e) (xs:=rs.map V.ref)
    (λi σ H3=>∃e3 e4,σ=[some (.int m),some (.ref e),some (.ref d),e3,e4]/\Same H H3/\H3 d=some (.lst (ps.map V.ref))/\∀(j:Nat) q,ps[j]?=some q->H3 q=some (.lst ((nbM (ts.take i) j).map V.int)))
    ⟨none,none,rfl,s2,hd2,λj q hq=>by rw[(hps q (List.mem_of_getElem? hq)).1];rfl⟩ (λi σ H3 _ ⟨_,_,_,s3,_⟩=>s3.seq hS) ?_ ?_⟩
   .rintro i x σ H3 hi ⟨e3,e4,rfl,s3,hd3,hq3⟩;have hil:i<rs.length:=by have:=(List.getElem?_eq_some_iff.mp hi).1;rw[List.length_map] at this;exact this
    obtain⟨r,rfl,er⟩:∃r,x=V.ref r/\rs[i]?=some r:=by
     rw[List.getElem?_map] at hi;cases q:rs[i]? with
     | none=>rw[q] at hi;cases hi
     | some r=>rw[q] at hi;exact⟨r,(Option.some.inj hi).symm,rfl⟩
    obtain⟨t,et,ht,_⟩:=Sx.pair_at (i:=i) (a:=r) hT er;obtain⟨a,b,rfl,ha0,hab,hb⟩:=hts t (List.mem_of_getElem? et);have htk:ts.take (i+1)=ts.take i++[[a,b]]:=by rw[List.take_succ,et];rfl
    have at_:∀z:Int,0<=z->z<m->∃q,ps[z.toNat]?=some q/\atI (ps.map V.ref) z=some (V.ref q):=λz h0 h1=>by
     have hz:z.toNat<ps.length:=by omega
     refine⟨ps[z.toNat],by simp[hz],?_⟩;have:=atI_nat (xs:=ps.map V.ref) (j:=z.toNat) (v:=.ref ps[z.toNat]) (by simp[hz])
     rwa [Int.toNat_of_nonneg h0] at this
    have lnb:∀j:Nat,((nbM (ts.take i) j).map V.int).length<=2*i:=λj=>by
     rw[List.length_map];have:=nbM_len (j:Int) (ts.take i);rw[List.length_take] at this;omega
    obtain⟨qa,eqa,ata⟩:=at_ a ha0 (by omega);obtain⟨qb,eqb,atb⟩:=at_ b (by omega) hb;have hxa:=hq3 _ _ eqa;have hxb:=hq3 _ _ eqb;have nab:qb≠qa:=λz=>by
     subst z;have:=ix_inj hnd eqa eqb;omega
    obtain⟨_,fa,na⟩:=hps qa (List.mem_of_getElem? eqa);obtain⟨_,fb,nb⟩:=hps qb (List.mem_of_getElem? eqb);refine⟨r,_,rfl,SqT.of (s3 r _ ht),rfl,_,_,rfl,_,_,rfl,rfl,?_⟩;have la:=lnb a.toNat;have lb:=lnb b.toNat;refine⟨_,rfl,_,rfl,d,_,a,_,rfl,rfl,SqL.of hd3,ata,.inl ⟨rfl,_,SqL.of hxa⟩,_,rfl,qa,_,_,rfl,rfl,hxa,small1000 (by omega),?_⟩;have hd4:upd H3 qa (.lst ((nbM (ts.take i) a.toNat).map V.int++[.int b])) d=some (.lst (ps.map V.ref)):=by rw[upd_ne na.symm];exact hd3
    have hxb4:upd H3 qa (.lst ((nbM (ts.take i) a.toNat).map V.int++[.int b])) qb=some (.lst ((nbM (ts.take i) b.toNat).map V.int)):=by rw[upd_ne nab];exact hxb
    refine⟨_,rfl,_,rfl,d,_,b,_,rfl,rfl,SqL.of hd4,atb,.inl ⟨rfl,_,SqL.of hxb4⟩,_,rfl,qb,_,_,rfl,rfl,hxb4,small1000 (by omega),?_⟩;refine⟨_,_,rfl,λc o ec=>?_,by rw[upd_ne nb.symm];exact hd4,λj q hq=>?_⟩
    .rw[upd_ne (ne_of_none ec fb),upd_ne (ne_of_none ec fa)];exact s3 c o ec
    .rw [htk,nbM_snoc];by_cases z:q=qb
     .subst z;have e:=ix_inj hnd hq eqb;subst e;rw[upd_same,if_neg (by omega),if_pos (by omega),List.nil_append,List.map_append];rfl
     .by_cases z2:q=qa
      .subst z2;have e:=ix_inj hnd hq eqa;subst e;rw[upd_ne z,upd_same,if_pos (by omega),if_neg (by omega),List.append_nil,List.map_append];rfl
      .have n1:¬a=(j:Int):=λk=>z2 (Option.some.inj (hq.symm.trans (by rw[<-eqa];congr 1;omega)));have n2:¬b=(j:Int):=λk=>z (Option.some.inj (hq.symm.trans (by rw[<-eqb];congr 1;omega)));rw[upd_ne z,upd_ne z2,if_neg n1,if_neg n2,List.append_nil,List.append_nil];exact hq3 j q hq
   .rintro σ H3 ⟨e3,e4,rfl,s3,hd3,hq3⟩;have lrs:=Paired.length hT;rw[List.length_map,lrs,List.take_length] at hq3;exact⟨_,rfl,hQ d H3 s3 ⟨ps,hd3,hl,hq3,hd,λq hq=>(hps q hq).2.1⟩⟩
theorem putF_len(f:Str)(v:V):∀l:List (Str×V),(putF f v l).length<=l.length+1
 | []=>Nat.le_refl _
 | p::r=>by
  obtain⟨g,u⟩:=p;show(if g=f then (g,v)::r else (g,u)::putF f v r).length<=_
  split
  .exact Nat.le_succ _
  .have:=putF_len f v r;simp only[List.length_cons];omega
def wt(T:List Mt.Tri)(k:List Int):Int:=match valV (wd T) (k.map Sum.inl) with|some (.int z)=>z|_=>0
theorem wt_get{T:List Mt.Tri}{t:Mt.Tri}(h:t∈T):∃z,valV (wd T) (kk t)=some (.int z):=by
 have e:=wd_some T t;rw[List.any_eq_true.mpr ⟨Mt.key t,List.mem_map.mpr ⟨t,h,rfl⟩,decide_eq_true rfl⟩] at e;obtain⟨v,hv⟩:=Option.isSome_iff_exists.mp e;unfold valV at hv;cases q:(wd T).find? λkv=>decide (kv.1=kk t) with
 | none=>rw[q] at hv;cases hv
 | some p=>
  obtain⟨u,_,eu⟩:=List.mem_map.mp (List.mem_of_find?_eq_some q);unfold valV;rw[q,<-eu];exact⟨_,rfl⟩
theorem wt_val{T:List Mt.Tri}{t:Mt.Tri}(h:t∈T):valV (wd T) (kk t)=some (.int (wt T (Mt.key t))):=by
 obtain⟨z,hz⟩:=wt_get h;have e:wt T (Mt.key t)=z:=by
  unfold wt;rw[show valV (wd T) ((Mt.key t).map Sum.inl)=some (.int z) from hz]
 rw[e,hz]
theorem wt_of:∀{T:List Mt.Tri},(T.map Mt.key).Nodup->∀t∈T,valV (wd T) (kk t)=some (.int t.2.2)
 | [],_,_,h=>nomatch h
 | u::T,hn,t,h=>by
  obtain⟨h1,h2⟩:=List.nodup_cons.mp hn;by_cases e:kk u=kk t
  .have e':Mt.key u=Mt.key t:=inl_inj e;rcases List.mem_cons.mp h with rfl|h
   .show((wd (t::T)).find? _).map _=_;unfold wd;rw[List.map_cons,List.find?_cons_of_pos (by simp)];rfl
   .exact absurd (List.mem_map.mpr ⟨t,h,e'.symm⟩) h1
  .rcases List.mem_cons.mp h with rfl|h
   .exact absurd rfl e
   .have:=wt_of h2 t h;unfold valV at this ⊢;unfold wd at this ⊢;rw[List.map_cons,List.find?_cons_of_neg (by simpa using e)];exact this
structure WebAt(C:Addr)(H:Hp)(p:Addr)(m:Int)(T:List Mt.Tri)(ks:List (List Int)):Prop where
 ex:∃(dx d l n:Addr)(fs:List (Str×V))(qs:List Addr),H p=some (.ins C dx fs)/\fs.lookup ("many":Str)=some (.int m)/\fs.lookup ("weights":Str)=some (.ref d)/\fs.lookup ("ties_sorted":Str)=some (.ref l) ∧
  fs.lookup ("neighbours":Str)=some (.ref n)/\(fs.lookup ("size":Str)=none/\fs.lookup ("ties":Str)=none/\fs.lookup ("weight":Str)=none/\fs.lookup ("tied":Str)=none)/\H d=some (.dT (wd T))/\H l=some (.lst (qs.map V.ref)) ∧
  TupsH H qs (ks.map λk=>k++[wt T k])/\NbAt H n m ks/\qs.length<=300
 pm:ks.Perm (T.map Mt.key)
 srt:ks.Pairwise (λa b=>HT.lexLt b a=false)
 m0:0<=m
 m1:m<=24
 ok:Mt.scan m T []=.good
theorem WebAt.same{C:Addr}{H H':Hp}{p:Addr}{m:Int}{T:List Mt.Tri}{ks:List (List Int)}(s:Same H H')(W:WebAt C H p m T ks):WebAt C H' p m T ks:=by
 obtain⟨dx,d,l,n,fs,qs,h1,h2,h3,h4,h5,h6,h7,h8,h9,h10,h11⟩:=W.ex;exact⟨⟨dx,d,l,n,fs,qs,s _ _ h1,h2,h3,h4,h5,h6,s _ _ h7,s _ _ h8,TupsH.same s h9,h10.at' λb xs e=>s _ _ e,h11⟩,W.pm,W.srt,W.m0,W.m1,W.ok⟩
structure WebN(C:Addr)(H:Hp)(p:Addr)(m:Int)(T:List Mt.Tri)(ks:List (List Int))(N:Addr->Prop):Prop where
 ex:∃(dx d l n:Addr)(fs:List (Str×V))(qs:List Addr),H p=some (.ins C dx fs)/\fs.lookup ("many":Str)=some (.int m)/\fs.lookup ("weights":Str)=some (.ref d)/\fs.lookup ("ties_sorted":Str)=some (.ref l) ∧
  fs.lookup ("neighbours":Str)=some (.ref n)/\(fs.lookup ("size":Str)=none/\fs.lookup ("ties":Str)=none/\fs.lookup ("weight":Str)=none/\fs.lookup ("tied":Str)=none)/\H d=some (.dT (wd T))/\H l=some (.lst (qs.map V.ref)) ∧
  TupsH H qs (ks.map λk=>k++[wt T k])/\NbN H n m ks N/\qs.length<=300/\N l
 pm:ks.Perm (T.map Mt.key)
 srt:ks.Pairwise (λa b=>HT.lexLt b a=false)
 m0:0<=m
 m1:m<=24
 ok:Mt.scan m T []=.good
theorem WebN.web{C:Addr}{H:Hp}{p:Addr}{m:Int}{T:List Mt.Tri}{ks:List (List Int)}{N:Addr->Prop}(W:WebN C H p m T ks N):WebAt C H p m T ks:=by
 obtain⟨dx,d,l,n,fs,qs,h1,h2,h3,h4,h5,h6,h7,h8,h9,h10,h11,_⟩:=W.ex;exact⟨⟨dx,d,l,n,fs,qs,h1,h2,h3,h4,h5,h6,h7,h8,h9,h10.nb,h11⟩,W.pm,W.srt,W.m0,W.m1,W.ok⟩
def spInit(C:Addr)(K:W.Frag):Sp:=λvs H Q _=>∃(p:Addr)(m:Int)(l dx:Addr)(rs:List Addr)(T:List Mt.Tri),vs=[.ref p,.int m,.ref l]/\H p=some (.ins C dx [])/\RowsAt K H l rs T/\T.length<=300/\¬(m<0\/24<m)/\Mt.scan m T []=.good ∧
 ∀H' ks,(∀b o,H b=some o->b≠p->H' b=some o)->WebN C H' p m T ks (λb=>H b=none)->Q .non H'
theorem scInit:FnScope ["self","many","ties","weights","ends_sorted"] ["self","many","ties"] (defScope sInit):=⟨rfl,rfl,rfl,by decide +kernel,rfl,by decide +kernel,by decide +kernel⟩
def compI:Scope:={kind:=.function,names:=[(Str.ofString ".0",.local),(Str.ofString "a",.local),(Str.ofString "b",.local),(Str.ofString "weights",.free)],isGenerator:=false,isCoroutine:=false,more:=[]}
theorem nd_own2:([".0","a","b","weights"]:List Str).Nodup:=by decide +kernel
theorem capsI{f:Addr}{cdv:Value}{A:Around}{outer:List Env}{s:Shared}{H:Hp}{E:XK} :
  Caps (cxOf CX0 P w K mg base ["self","many","ties","weights","ends_sorted"] "Web.__init__" (defScope sInit) f cdv A outer s H E).nox compI [(Str.ofString "weights",s.heap.objs.size+1)] [".0","a","b"] ["weights"] [3]:=by
 have e1:(cxOf CX0 P w K mg base ["self","many","ties","weights","ends_sorted"] "Web.__init__" (defScope sInit) f cdv A outer s H E).nox.env.cells=[(Str.ofString "weights",s.heap.objs.size+1)]:=by rfl
 have e2:(relabel compI (cxOf CX0 P w K mg base ["self","many","ties","weights","ends_sorted"] "Web.__init__" (defScope sInit) f cdv A outer s H E).nox.env).names=[(Str.ofString ".0",.local),(Str.ofString "a",.local),(Str.ofString "b",.local),(Str.ofString "weights",.cell)]:=by rfl
 refine⟨rfl,λx c h=>by rw[e1];exact h,rfl,by decide +kernel,by decide +kernel,λx hx=>?_,rfl,λi x e=>?_⟩
 .rw [e2] at hx;have hx:x=Str.ofString "weights":=by
   rcases hx with hx|hx
   all_goals
    have:=PySem.mem_of_lookup hx;simpa using this
  subst hx;exact⟨_,rfl⟩
 .match i,e with
  | 0,e=>
   cases(Option.some.inj e);exact⟨3,rfl,rfl,rfl,rfl,by rw[e2];rfl⟩
  | n+1,e=>cases e
structure TxtW(K:W.Frag)(mg:Str->Option Value)(C:Addr):Prop where
 cl:Cls K C
 n1:NoAttr K C "many"
 n2:NoAttr K C "weights"
 n3:NoAttr K C "ties_sorted"
 n4:NoAttr K C "neighbours"
 mgC:mg "Web"=some (.ref C)
 srt:mg "sorted"=none
 lst:mg "list"=none
theorem tk1{H H':Hp}{p:Addr}{C dx:Addr}{fs:List (Str×V)}(s:Same H H')(h:H p=some (.ins C dx fs)):H' p=some (.ins C dx fs):=s p _ h
theorem ok_init{f fS fW fN C:Addr}{fd fdS fdW fdN:FuncData}(F:Fun K "__init__" "Web.__init__" sInit f fd)(T0:TxtW K mg C)
  (GS:FnOk P w K mg base CX0 1 fS fdS ["many"] spSize) (mS:mg "check_size"=some (.ref fS)) (kS:PySem.W.keepIn K (.ref fS)=true) (bS:Binds K fdS ["many"] [])
  (GW:FnOk P w K mg base CX0 2 fW fdW ["many","ties"] (spWts K)) (mW:mg "weights_of"=some (.ref fW)) (kW:PySem.W.keepIn K (.ref fW)=true) (bW:Binds K fdW ["many","ties"] [])
  (GN:FnOk P w K mg base CX0 1 fN fdN ["many","ends_sorted"] (spNb K)) (mN:mg "neighbours_of"=some (.ref fN)) (kN:PySem.W.keepIn K (.ref fN)=true) (bN:Binds K fdN ["many","ends_sorted"] []) :
  FnOk P w K mg base CX0 3 f fd ["self","many","ties"] (spInit C K):=by
 refine F.ok scInit (λvs H Q E h=>?_) (λcdv A outer s H vs Q E hr h=>?_)
 .obtain⟨p,m,l,dx,rs,T,rfl,_⟩:=h;rfl
 .obtain ⟨p,m,l,dx,rs,T,rfl,hp,R,h64,c,sg,hG⟩:=h;have hu:=hu_of hr;have hr1:Room 1 _:=hr.mono (by decide);refine ⟨_,pss_cons (ps_expr (pe_call GS hr1 rfl mS kS bS .nil pass0 (pa_cons (pv 1) pa_nil)))
   (pss_cons (ps_set (i:=3) scInit.nd rfl (Or.inr rfl) (pe_call GW hr rfl mW kW bW .nil pass0 (pa_cons (pv 1) (pa_cons (pv 2) pa_nil))))
   (pss_cons (ps_set (i:=4) scInit.nd rfl (Or.inl rfl) (pe_callB (call_sortedDB rfl) (by rfl) T0.srt boot_sorted (pa_cons (pv 3) pa_nil)))
   (pss_cons (ps_fld (pv 0) (pv 1) rfl)
   (pss_cons (ps_fld (pv 0) (pv 3) rfl)
   (pss_cons (ps_fld (pv 0) (pe_comp (g:=gTup K 2 (gCons (gName 1) (gCons (gName 2) gNil))) (own:=[".0","a","b"]) (caps:=["weights"]) (js:=[3]) rfl capsI (pi_list (pv 4))
     (λpins C s H1 fp=>pg_tup (n:=2) rfl (pgs_cons (pg_name (i:=1) nd_own2 rfl (Or.inl rfl) (Or.inr rfl)) (pgs_cons (pg_name (i:=2) nd_own2 rfl (Or.inl rfl) (Or.inr rfl)) pgs_nil)))
     (λpins C s H1 fp=>pts_nil)
     (λpins C s H1 fp=>pe_tup (pa_cons (pv 1) (pa_cons (pv 2) (pa_cons (pe_dget hu (pv 3) (pe_tup (pa_cons (pv 1) (pa_cons (pv 2) pa_nil))) (λ_ _=>rfl)) pa_nil))))) rfl)
   (pss_one (ps_fld (pv 0) (pe_call GN hr1 rfl mN kN bN .nil pass0 (pa_cons (pv 1) (pa_cons (pv 4) pa_nil))) rfl))))))),?_⟩
  refine⟨_,rfl,m,rfl,c,?_⟩;refine⟨_,rfl,_,rfl,m,l,rs,T,rfl,R,by omega,sg,λd H1 hd s1 hd1=>?_⟩;obtain⟨hnd,hnb⟩:=Mt.scan_good sg List.nodup_nil;rw[List.nil_append] at hnd;refine⟨_,rfl,d,wd T,T.map Mt.key,rfl,hd1,?_,?_,?_,λqs qs' ks q hqs hS hq=>?_⟩
  .unfold wd;rw[List.map_map,List.map_map];rfl
  .intro t ht;obtain⟨u,_,rfl⟩:=List.mem_map.mp ht;exact λz=>by cases z
  .unfold wd;rw[List.length_map];omega
  obtain⟨hqs',hperm,hlen⟩:=hqs.sorted hS;have lq:qs'.length=ks.length:=Paired.length hqs';have lk:ks.length=T.length:=by rw[hperm.length_eq,List.length_map]
  have kin:∀k∈ks,∃t∈T,Mt.key t=k:=λk hk=>List.mem_map.mp (hperm.mem_iff.mp hk);have s2:Same H1 (upd H1 q (.lst (qs'.map V.ref))):=Same.new hq;have hp2:=tk1 s2 (tk1 s1 hp);have hd2:=s2 d _ hd1;have hq2:upd H1 q (.lst (qs'.map V.ref)) q=some (.lst (qs'.map V.ref)):=upd_same;have npd:d≠p:=ne_of hd2 hp2 (by intro z;cases z);have npq:q≠p:=ne_of hq2 hp2 (by intro z;cases z);have hqsA:=TupsH.same s2 hqs';generalize upd H1 q (.lst (qs'.map V.ref))=H2 at s2 hp2 hd2 hq2 hqsA ⊢;have s02:Same H H2:=s1.trans s2;refine⟨_,rfl,_,rfl,p,C,dx,_,rfl,hp2,T0.cl,T0.n1,(by show 0<1000;decide),?_⟩;refine⟨_,rfl,_,rfl,p,C,dx,_,rfl,upd_same,T0.cl,T0.n2,Nat.lt_of_le_of_lt (putF_len _ _ _) (by show 0+1<1000;decide),?_⟩;rw[upd_upd];generalize hF:putF "weights" (V.ref d) (putF "many" (V.int m) [])=F2;have lF:F2.length<=2:=by
   rw[<-hF];exact Nat.le_trans (putF_len _ _ _) (Nat.succ_le_succ (putF_len _ _ _))
  have k3:∀b o,H2 b=some o->b≠p->upd H2 p (.ins C dx F2) b=some o:=λb o e n=>by rw[upd_ne n];exact e
  have tup3:∀{qs:List Addr}{us:List (List Int)},TupsH H2 qs us->TupsH (upd H2 p (.ins C dx F2)) qs us:=λ{qs us} h=>
   zip_paired (Paired.length h) λz hz=>⟨k3 _ _ (paired_zip h z hz).1 (ne_of (paired_zip h z hz).1 hp2 (by intro y;cases y)),(paired_zip h z hz).2⟩
  have hp3:upd H2 p (.ins C dx F2) p=some (.ins C dx F2):=upd_same;have hd3:=k3 d _ hd2 npd;have hq3:=k3 q _ hq2 npq;have hqs3:=tup3 hqsA;generalize upd H2 p (.ins C dx F2)=H3 at k3 hp3 hd3 hq3 hqs3 ⊢;refine⟨_,rfl,q,rfl,⟨_,SqL.of hq3⟩,λD hD=>?_⟩;refine turns_list (K:=K) (a:=q) (xs:=qs'.map V.ref) (λi ys σ H4=>∃(zs:List Addr)(e0 e1 e2:Option V),ys=zs.map V.ref/\σ=[e0,e1,e2,some (.ref d)]/\Same H3 H4/\H4 D=some (.lst ys) ∧
    TupsH H4 zs ((ks.take i).map λk=>k++[wt T k])) ⟨[],none,none,none,rfl,rfl,Same.new hD,upd_same,.nil⟩ ?_ ?_ ?_
  .rintro i ys σ H4 ⟨zs,e0,e1,e2,rfl,rfl,s4,hD4,hz⟩;refine⟨hD4,small1000 ?_,SqL.of (s4 q _ hq3)⟩;have:=Paired.length hz;rw[List.length_map,List.length_take] at this;rw[List.length_map];omega
  .rintro i x ys σ H4 hi ⟨zs,e0,e1,e2,rfl,rfl,s4,hD4,hz⟩;have hil:i<qs'.length:=by have:=(List.getElem?_eq_some_iff.mp hi).1;rw[List.length_map] at this;exact this
   obtain⟨r,rfl,er⟩:∃r,x=V.ref r/\qs'[i]?=some r:=by
    rw[List.getElem?_map] at hi;cases y:qs'[i]? with
    | none=>rw[y] at hi;cases hi
    | some r=>rw[y] at hi;exact⟨r,(Option.some.inj hi).symm,rfl⟩
   obtain⟨k,ek,hk,_⟩:=Sx.pair_at (i:=i) (a:=r) hqs3 er;obtain⟨t,ht,rfl⟩:=kin k (List.mem_of_getElem? ek);refine⟨r,_,rfl,SqT.of (s4 r _ hk),rfl,_,_,rfl,_,_,rfl,rfl,?_⟩;dsimp only;refine yes_of ?_;refine⟨_,rfl,_,rfl,_,rfl,_,rfl,_,rfl,(by show 2<=sizeLine;decide),λy hy=>?_⟩;have s5:Same H4 (upd H4 y (.tup [.int (Mt.lo t.1 t.2.1),.int (Mt.hi t.1 t.2.1)])):=Same.new hy;have hy5:upd H4 y (.tup [.int (Mt.lo t.1 t.2.1),.int (Mt.hi t.1 t.2.1)]) y=some (.tup ((kk t).map kV)):=upd_same;have hd5:=s5 d _ (s4 d _ hd3);refine⟨d,.int (wt T (Mt.key t)),rfl,?_,(by show 3<=sizeLine;decide),λz hz'=>?_⟩
   .have g:=DGet.t (k:=kk t) hd5 hy5;rw[wt_val ht] at g;exact g
   have s6:=s5.trans (Same.new (o:=.tup [.int (Mt.lo t.1 t.2.1),.int (Mt.hi t.1 t.2.1),.int (wt T (Mt.key t))]) hz');have hD6:=s6 D _ hD4;have hz6:upd (upd H4 y (.tup [.int (Mt.lo t.1 t.2.1),.int (Mt.hi t.1 t.2.1)])) z (.tup [.int (Mt.lo t.1 t.2.1),.int (Mt.hi t.1 t.2.1),.int (wt T (Mt.key t))]) z=some (.tup [.int (Mt.lo t.1 t.2.1),.int (Mt.hi t.1 t.2.1),.int (wt T (Mt.key t))]):=upd_same;refine⟨hD6,Nxt.mk (by rw[List.length_map];exact hil) ⟨zs++[z],_,_,_,by rw[List.map_append];rfl,rfl,λb o e=>?_,upd_same,?_⟩⟩
   .rw[upd_ne (ne_of_none e hD)];exact s6 b o (s4 b o e)
   .have nt:∀{qs:List Addr}{us:List (List Int)}{L:List V},TupsH H4 qs us->TupsH (upd (upd (upd H4 y (.tup [.int (Mt.lo t.1 t.2.1),.int (Mt.hi t.1 t.2.1)])) z (.tup [.int (Mt.lo t.1 t.2.1),.int (Mt.hi t.1 t.2.1),.int (wt T (Mt.key t))])) D (.lst L)) qs us:=λ{qs us L} h=>
     zip_paired (Paired.length h) λg hg=>⟨by rw[upd_ne (ne_of (paired_zip h g hg).1 hD4 (by intro y;cases y))];exact s6 _ _ (paired_zip h g hg).1,(paired_zip h g hg).2⟩
    rw[List.take_succ,ek,List.map_append];refine paired_snoc (nt hz) ⟨?_,λz=>by cases z⟩;rw[upd_ne (ne_of hz6 hD6 (by intro y;cases y))];exact hz6
  .rintro ys σ H4 ⟨zs,e0,e1,e2,rfl,rfl,s4,hD4,hz⟩;rw[List.length_map,lq,List.take_length] at hz;have lz:=Paired.length hz;rw[List.length_map] at lz;have hp4:=s4 p _ hp3;have npD:D≠p:=ne_of hD4 hp4 (by intro z;cases z);refine⟨_,rfl,p,C,dx,_,rfl,hp4,T0.cl,T0.n3,(by omega),?_⟩;generalize hF3:putF "ties_sorted" (V.ref D) F2=F3;have lF3:F3.length<=3:=by
    rw[<-hF3];exact Nat.le_trans (putF_len _ _ _) (Nat.succ_le_succ lF)
   have k5:∀b o,H4 b=some o->b≠p->upd H4 p (.ins C dx F3) b=some o:=λb o e n=>by rw[upd_ne n];exact e
   have hq5:=k5 q _ (s4 q _ hq3) npq;have hqs4:=TupsH.same s4 hqs3;have tup5:∀{qs:List Addr}{us:List (List Int)},TupsH H4 qs us->TupsH (upd H4 p (.ins C dx F3)) qs us:=λ{qs us} h=>
    zip_paired (Paired.length h) λz hz=>⟨k5 _ _ (paired_zip h z hz).1 (ne_of (paired_zip h z hz).1 hp4 (by intro y;cases y)),(paired_zip h z hz).2⟩
   have hp5:upd H4 p (.ins C dx F3) p=some (.ins C dx F3):=upd_same;have hD5:=k5 D _ hD4 npD;have hqs5:=tup5 hqs4;have hz5:=tup5 hz;refine⟨_,rfl,_,rfl,m,q,qs',ks,rfl,by omega,by omega,SqL.of hq5,hqs5,by omega,λk hk=>?_,λn H6 s6 nb6=>?_⟩
   .obtain⟨t,ht,rfl⟩:=kin k hk;obtain⟨r1,r2,r3⟩:=Mt.key_range (hnb t ht);exact⟨_,_,rfl,r1,r2,r3⟩
   .have hp6:=s6 p _ hp5;have hd6:=s6 d _ (k5 d _ (s4 d _ hd3) npd);refine⟨_,rfl,p,C,dx,_,rfl,hp6,T0.cl,T0.n4,(by omega),?_⟩;have k7:∀(fs:List (Str×V)) b o,H6 b=some o->b≠p->upd H6 p (.ins C dx fs) b=some o:=λfs b o e n=>by rw[upd_ne n];exact e
    have old:∀b,b≠p->upd H4 p (.ins C dx F3) b=none->H b=none:=λb nb q=>by
     cases e:H b with
     | none=>rfl
     | some o=>
      have:=k5 b o (s4 b o (k3 b o (s02 b o e) nb)) nb;rw[q] at this;cases this
    have fD:H D=none:=by
     cases e:H D with
     | none=>rfl
     | some o=>
      have:=k3 D o (s02 D o e) npD;rw[hD] at this;cases this
    refine hG _ ks (λb o e n=>?_) ⟨⟨dx,d,D,n,_,zs,upd_same,?_,?_,?_,?_,⟨?_,?_,?_,?_⟩,k7 _ d _ hd6 npd,k7 _ D _ (s6 D _ hD5) npD,?_,nb6.at' (λb xs _ e=>k7 _ b _ e (ne_of e hp6 (by intro z;cases z))) (λb xs q e=>old b (ne_of e hp6 (by intro z;cases z)) q),by omega,fD⟩,hperm,hS.ord,by omega,by omega,sg⟩
    .exact k7 _ b o (s6 b o (k5 b o (s4 b o (k3 b o (s02 b o e) n)) n)) n
    .rw[lookup_putF,if_neg (by decide +kernel),<-hF3,lookup_putF,if_neg (by decide +kernel),<-hF,lookup_putF,if_neg (by decide +kernel),lookup_putF,if_pos rfl]
    .rw[lookup_putF,if_neg (by decide +kernel),<-hF3,lookup_putF,if_neg (by decide +kernel),<-hF,lookup_putF,if_pos rfl]
    .rw[lookup_putF,if_neg (by decide +kernel),<-hF3,lookup_putF,if_pos rfl]
    .rw[lookup_putF,if_pos rfl]
    iterate 4
     .rw[lookup_putF,if_neg (by decide +kernel),<-hF3,lookup_putF,if_neg (by decide +kernel),<-hF,lookup_putF,if_neg (by decide +kernel),lookup_putF,if_neg (by decide +kernel)];rfl
    .exact zip_paired (Paired.length hz5) λz hz=>⟨k7 _ _ _ (s6 _ _ (paired_zip hz5 z hz).1) (ne_of (s6 _ _ (paired_zip hz5 z hz).1) hp6 (by intro y;cases y)),(paired_zip hz5 z hz).2⟩
def tis(T:List Mt.Tri)(ks:List (List Int)):List (List Int):=ks.map λk=>k++[wt T k]
def spTies(C:Addr):Sp:=λvs H Q _=>∃(p:Addr)(m:Int)(T:List Mt.Tri)(ks:List (List Int)),vs=[.ref p]/\WebAt C H p m T ks/\∀(q:Addr)(qs:List Addr),H q=none->TupsH H qs (tis T ks)->Q (.ref q) (upd H q (.lst (qs.map V.ref)))
def spTied(C:Addr):Sp:=λvs H Q _=>∃(p:Addr)(m:Int)(T:List Mt.Tri)(ks:List (List Int))(a:Int),vs=[.ref p,.int a]/\WebAt C H p m T ks/\0<=a/\a<m ∧
 ∀q:Addr,H q=none->Q (.ref q) (upd H q (.lst ((nbM ks a).map V.int)))
def wtV(T:List Mt.Tri)(a b:Int):V:=(valV (wd T) ([Mt.lo a b,Mt.hi a b].map Sum.inl)).getD .non
def spWeight(C:Addr):Sp:=λvs H Q _=>∃(p:Addr)(m:Int)(T:List Mt.Tri)(ks:List (List Int))(a b:Int),vs=[.ref p,.int a,.int b]/\WebAt C H p m T ks/\∀H',Same H H'->Q (wtV T a b) H'
theorem scWeight:FnScope ["self","a","b"] ["self","a","b"] (defScope sWeight):=⟨rfl,rfl,rfl,by decide +kernel,rfl,by decide +kernel,by decide +kernel⟩
theorem ok_weight{f fO C:Addr}{fd fdO:FuncData}(F:Fun K "weight" "Web.weight" sWeight f fd)(T0:TxtW K mg C)
  (GO:FnOk P w K mg base CX0 1 fO fdO ["a","b"] spOrd) (mO:mg "ordered"=some (.ref fO)) (kO:PySem.W.keepIn K (.ref fO)=true) (bO:Binds K fdO ["a","b"] []):FnOk P w K mg base CX0 2 f fd ["self","a","b"] (spWeight C):=by
 refine F.ok scWeight (λvs H Q E h=>?_) (λcdv A outer s H vs Q E hr h=>?_)
 .obtain⟨p,m,T,ks,a,b,rfl,_⟩:=h;rfl
 .obtain⟨p,m,T,ks,a,b,rfl,W,hQ⟩:=h;have hu:=hu_of hr;obtain⟨dx,d,l,n,fs,qs,h1,h2,h3,h4,h5,h6,h7,_⟩:=W.ex;refine⟨_,pss_one (ps_ret (pe_dget1 hu (pe_fld (pv 0) rfl) (pe_call GO (hr.mono (by decide)) rfl mO kO bO .nil pass0 (pa_cons (pv 1) (pa_cons (pv 2) pa_nil))) ⟨rfl,rfl,rfl,rfl⟩)),?_⟩;refine⟨_,rfl,p,C,dx,_,_,rfl,h1,T0.cl,T0.n2,h3,d,rfl,.inr ⟨_,Rd.of h7⟩,_,rfl,_,rfl,a,b,rfl,λq hq=>?_⟩;have s1:Same H (upd H q (.tup [.int (Mt.lo a b),.int (Mt.hi a b)])):=Same.new hq;exact⟨_,DGet.t (k:=[Mt.lo a b,Mt.hi a b].map Sum.inl) (s1 d _ h7) upd_same,hQ _ s1⟩
end
end K26
namespace Mt
structure Dt(m:Int)(T:List Tri):Prop where
 nd:(T.map key).Nodup
 at_:∀t∈T,0<=t.1/\t.1<t.2.1/\t.2.1<m
theorem key_of{t:Tri}(h:t.1<t.2.1):key t=[t.1,t.2.1]:=by
 unfold key lo hi;rw[if_neg (by omega),if_pos (by omega)]
end Mt
namespace K26
open PySem L2 PyProof.Rows
theorem Dt.put{m:Int}{T:List Mt.Tri}(h:Mt.Dt m T){a b w:Int}(h0:0<=a)(h1:a<b)(h2:b<m):∃T',putK (wd T) ([a,b].map Sum.inl) (.int w)=wd T'/\Mt.Dt m T'/\(∀k,k∈T'.map Mt.key↔k∈T.map Mt.key\/k=[a,b])/\T'.length<=T.length+1:=by
 have ek:Mt.key (a,b,w)=[a,b]:=Mt.key_of (t:=(a,b,w)) h1;have kk':kk (a,b,w)=[a,b].map Sum.inl:=by unfold kk;rw[ek]
 have es:=wd_some T (a,b,w);rw[kk'] at es;by_cases c:((T.map Mt.key).any λk=>decide (k=Mt.key (a,b,w)))=true
 .have hin:[a,b]∈T.map Mt.key:=by
   obtain⟨k,hk,e⟩:=List.any_eq_true.mp c;rw[<-ek,<-of_decide_eq_true e];exact hk
  have kt:∀t∈T,(kk t=[a,b].map Sum.inl↔Mt.key t=[a,b]):=λt _=>⟨λe=>inl_inj e,λe=>by unfold kk;rw[e]⟩;have km:(T.map λt=>if Mt.key t=[a,b] then (t.1,t.2.1,w) else t).map Mt.key=T.map Mt.key:=by
   rw[List.map_map];refine List.map_congr_left λt _=>?_;show Mt.key (if Mt.key t=[a,b] then (t.1,t.2.1,w) else t)=Mt.key t
   split<;>rfl
  refine⟨T.map λt=>if Mt.key t=[a,b] then (t.1,t.2.1,w) else t,?_,⟨by rw[km];exact h.nd,λt ht=>?_⟩,λk=>?_,by rw[List.length_map];exact Nat.le_succ _⟩
  .unfold putK;rw[valV_any,es,if_pos c];unfold wd;rw[List.map_map,List.map_map];refine List.map_congr_left λt ht=>?_;show(if kk t=[a,b].map Sum.inl then (kk t,V.int w) else (kk t,V.int t.2.2))=(kk (if Mt.key t=[a,b] then (t.1,t.2.1,w) else t),V.int (if Mt.key t=[a,b] then (t.1,t.2.1,w) else t).2.2);by_cases e:Mt.key t=[a,b]
   .rw[if_pos ((kt t ht).mpr e),if_pos e];rfl
   .rw[if_neg λz=>e ((kt t ht).mp z),if_neg e]
  .obtain⟨u,hu,rfl⟩:=List.mem_map.mp ht;have:=h.at_ u hu
   split<;>exact this
  .rw[km];exact⟨.inl,λz=>z.elim id λe=>e ▸ hin⟩
 .have hno:[a,b]∉T.map Mt.key:=λz=>c (List.any_eq_true.mpr ⟨_,z,decide_eq_true ek.symm⟩);have vn:valV (wd T) ([a,b].map Sum.inl)=none:=by
   cases q:valV (wd T) ([a,b].map Sum.inl) with
   | none=>rfl
   | some v=>rw[q] at es;exact absurd es.symm c
  refine⟨T++[(a,b,w)],?_,⟨?_,λt ht=>?_⟩,λk=>?_,by rw[List.length_append];exact Nat.le_refl _⟩
  .rw[putK_new _ vn,<-kk'];unfold wd;rw[List.map_append];rfl
  .rw[List.map_append,List.nodup_append];refine⟨h.nd,by simp,λx hx y hy=>?_⟩;rw[List.map_cons,List.map_nil,List.mem_singleton,ek] at hy;subst hy;exact λz=>hno (z ▸ hx)
  .rcases List.mem_append.mp ht with ht|ht
   .exact h.at_ t ht
   .rw[List.mem_singleton] at ht;subst ht;exact⟨h0,h1,h2⟩
  .rw[List.map_append,List.mem_append,List.map_cons,List.map_nil,List.mem_singleton,ek]
section
variable{P:Program}{w:World}{K:W.Frag}{mg:Str->Option Value}{base:Heap}
def spTie:Sp:=λvs H Q _=>∃a b:Int,vs=[.int a,.int b]/\∀p,H p=none->Q (.ref p) (upd H p (.tup ((Bt.tie a b).map V.int)))
theorem scTie:FnScope ["_law_a","_law_b"] ["_law_a","_law_b"] (defScope sTie):=⟨rfl,rfl,rfl,by decide +kernel,rfl,by decide +kernel,by decide +kernel⟩
theorem ok_tie{f:Addr}{fd:FuncData}(F:Fun K "_law_tie" "_law_tie" sTie f fd)(gmin:mg "min"=none)(gmax:mg "max"=none):FnOk P w K mg base CX0 1 f fd ["_law_a","_law_b"] spTie:=by
 refine F.ok scTie (λvs H Q E h=>?_) (λcdv A outer s H vs Q E hr h=>?_)
 .obtain⟨a,b,rfl,_⟩:=h;rfl
 .obtain ⟨a,b,rfl,h⟩:=h;refine⟨_,pss_one (ps_ret (pe_tup (pa_cons (pe_callB (call_min2 rfl) (by rfl) gmin boot_min (pa_cons (pv 0) (pa_cons (pv 1) pa_nil)))
   (pa_cons (pe_callB (call_max2 rfl) (by rfl) gmax boot_max (pa_cons (pv 0) (pa_cons (pv 1) pa_nil))) pa_nil)))),?_⟩
  exact⟨_,rfl,_,rfl,a,b,rfl,_,rfl,_,rfl,a,b,rfl,(by show 2<=sizeLine;decide),λp hp=>h p hp⟩
def spCell(K:W.Frag):Sp:=λvs H Q _=>∃(a:Addr)(ns:List Int)(k:Int),vs=[.ref a,.int k]/\0<=k/\SqL K H a (ns.map V.int)/\∀n:Int,Q (.int n) H
theorem scCell:FnScope ["_law_script","_law_k"] ["_law_script","_law_k"] (defScope sCell):=⟨rfl,rfl,rfl,by decide +kernel,rfl,by decide +kernel,by decide +kernel⟩
theorem ok_cell{f:Addr}{fd:FuncData}(F:Fun K "_law_cell_at" "_law_cell_at" sCell f fd)(glen:mg "len"=none):FnOk P w K mg base CX0 1 f fd ["_law_script","_law_k"] (spCell K):=by
 refine F.ok scCell (λvs H Q E h=>?_) (λcdv A outer s H vs Q E hr h=>?_)
 .obtain⟨a,ns,k,rfl,_⟩:=h;rfl
 .obtain⟨a,ns,k,rfl,k0,hS,hQ⟩:=h;refine⟨_,pss_cons (ps_if (pt_cmpR op_lt (pv 1) (pe_callB call_len_seq (by rfl) glen PySem.boot_len (pa_cons (pv 0) pa_nil)) (nomark _)) (pss_one (ps_ret (pe_ix ix_list (pv 0) (pv 1) (λ_ _=>rfl)))) pss_nil) (pss_one (ps_ret pe_int)),?_⟩;refine⟨_,rfl,_,rfl,a,_,rfl,.inl hS,_,_,rfl,rfl,_,rfl,?_⟩;refine ite2 (λc=>?_) (λc=>hQ 0);have c:=of_decide_eq_true c;rw[List.length_map] at c;obtain⟨v,_,hv⟩:=pick2 (xs:=ns) k0 c;exact⟨_,rfl,_,rfl,a,_,_,V.int v,rfl,rfl,hS,hv,hQ _⟩
def spOrder(K:W.Frag):Sp:=λvs H Q _=>∃(a:Addr)(m:Int)(ns:List Int),vs=[.ref a,.int m]/\SqL K H a (ns.map V.int)/\0<=m/\m<=24 ∧
 ∀(l:Addr)(t:List Int)(H':Hp),H l=none->Same H H'->H' l=some (.lst (t.map V.int))->t.Perm (upto m.toNat)->Q (.ref l) H'
abbrev nmO:List Str:=["_law_script","_law_many","_law_order_here","_law_k","_law_number"]
theorem scOrder:FnScope nmO ["_law_script","_law_many"] (defScope sOrder):=⟨rfl,rfl,rfl,by decide +kernel,rfl,by decide +kernel,by decide +kernel⟩
theorem ok_order{f fC:Addr}{fd fdC:FuncData}(F:Fun K "_law_order" "_law_order" sOrder f fd)(grange:mg "range"=none)
  (GC:FnOk P w K mg base CX0 1 fC fdC ["_law_script","_law_k"] (spCell K)) (mC:mg "_law_cell_at"=some (.ref fC)) (kC:PySem.W.keepIn K (.ref fC)=true) (bC:Binds K fdC ["_law_script","_law_k"] []) :
  FnOk P w K mg base CX0 2 f fd ["_law_script","_law_many"] (spOrder K):=by
 refine F.ok scOrder (λvs H Q E h=>?_) (λcdv A outer s H vs Q E hr h=>?_)
 .obtain⟨a,m,ns,rfl,_⟩:=h;rfl
 .obtain ⟨a,m,ns,rfl,hS,m0,m1,hQ⟩:=h;refine⟨_,pss_cons (ps_set (i:=2) scOrder.nd rfl (Or.inl rfl) (pe_lst pa_nil))
   (pss_cons (ps_for PassesOwn.never rfl (pi_range1 rfl grange (pa_cons (pv 1) pa_nil)) (pg_name (i:=3) scOrder.nd rfl (Or.inl rfl))
    (pss_cons (ps_set (i:=4) scOrder.nd rfl (Or.inl rfl) (pe_op op_mod (pe_op op_mul (pe_op op_add (pe_op op_add (pe_call GC hr rfl mC kC bC .nil pass0 (pa_cons (pv 0) (pa_cons (pe_op op_add (pv 3) pe_int) pa_nil))) (pe_op op_mul pe_int (pv 3))) pe_int) pe_int) pe_int))
    (pss_one (ps_expr (pe_bm PySem.F.plainAttrs_list PySem.F.slot_list_insert PySem.F.type_list_insert mt_insert (pv 2) (pa_cons (pe_op op_mod (pv 4) (pe_op op_add (pv 3) pe_int)) (pa_cons (pv 3) pa_nil)))))))
   (pss_one (ps_ret (pv 2)))),?_⟩
  refine⟨Nat.zero_le _,λl hl=>?_⟩;have s0:Same H (upd H l (.lst [])):=Same.new hl;refine⟨_,rfl,m,rfl,by omega,by omega,for_range (lo:=0) (n:=m.toNat) (λi σ H2=>∃(t:List Int)(e3 e4:Option V),σ=[some (.ref a),some (.int m),some (.ref l),e3,e4]/\Same H H2/\H2 l=some (.lst (t.map V.int))/\t.Perm (upto i)/\i<=m.toNat)
   ⟨[],none,none,rfl,s0,upd_same,List.Perm.refl _,Nat.zero_le _⟩ ?_ ?_⟩
  .rintro i σ H2 hi ⟨t,e3,e4,rfl,s2,h2,hp,li⟩;have lt:=hp.length_eq;rw[upto_len] at lt;refine⟨_,rfl,_,rfl,_,_,rfl,rfl,a,ns,_,rfl,by omega,s2.seq hS,λn=>⟨_,rfl,_,_,rfl,rfl,.inl ⟨by decide,by decide⟩,_,_,rfl,rfl,_,_,rfl,rfl,_,_,rfl,rfl,.inr ⟨by decide,by decide⟩,_,_,rfl,rfl,(by show(0:Int)<2147483647;decide),?_⟩⟩;trivial;generalize (n+7*(0+(i:Int))+3)*48271 % 2147483647=nu;refine⟨_,rfl,.inl ⟨rfl,_,SqL.of h2⟩,_,rfl,_,rfl,_,_,rfl,rfl,_,_,rfl,rfl,(by show(0:Int)<0+(i:Int)+1;omega),_,rfl,l,_,_,_,rfl,rfl,h2,Int.emod_nonneg _ (by omega),?_,?_,?_⟩
   .rw[List.length_map,lt];have:=Int.emod_lt_of_pos nu (show 0<0+(i:Int)+1 by omega);omega
   .rw[List.length_map];omega
   .refine ⟨t.take (nu % (0+(i:Int)+1)).toNat++(0+(i:Int))::t.drop (nu % (0+(i:Int)+1)).toNat,_,_,rfl,λc o e=>?_,?_,?_,hi⟩
    .rw[upd_ne (ne_of_none e hl)];exact s2 c o e
    .rw[upd_same,List.map_append,List.map_cons,List.map_take,List.map_drop]
    .rw[upto_succ,Int.zero_add];refine List.perm_middle.trans ?_;rw[List.take_append_drop];exact(List.Perm.cons _ hp).trans (List.perm_append_singleton _ _).symm
  .rintro σ H2 ⟨t,e3,e4,rfl,s2,h2,hp,li⟩;exact⟨_,rfl,hQ l t H2 hl s2 h2 hp⟩
def spDrawn:Sp:=λvs H Q _=>∃c f m:Int,vs=[.int c,.int f,.int m]/\-(2 ^ 64)<f/\f<2 ^ 64/\0<m/\∀n:Int,0<=n->n<m->Q (.int n) H
theorem scDrawn:FnScope ["_law_cell","_law_factor","_law_many","_law_number"] ["_law_cell","_law_factor","_law_many"] (defScope sDrawn):=⟨rfl,rfl,rfl,by decide +kernel,rfl,by decide +kernel,by decide +kernel⟩
theorem ok_drawn{f:Addr}{fd:FuncData}(F:Fun K "_law_drawn" "_law_drawn" sDrawn f fd):FnOk P w K mg base CX0 1 f fd ["_law_cell","_law_factor","_law_many"] spDrawn:=by
 refine F.ok scDrawn (λvs H Q E h=>?_) (λcdv A outer s H vs Q E hr h=>?_)
 .obtain⟨c,g,m,rfl,_⟩:=h;rfl
 .obtain⟨c,g,m,rfl,g0,g1,m0,hQ⟩:=h;refine⟨_,pss_cons (ps_set (i:=3) scDrawn.nd rfl (Or.inl rfl) (pe_op op_mod (pe_op op_mul (pe_op op_add (pv 0) pe_int) (pv 1)) pe_int)) (pss_one (ps_ret (pe_op op_mod (pe_op op_mod (pe_op op_mul (pv 3) (pv 3)) pe_int) (pv 2)))),?_⟩;refine⟨_,rfl,_,_,rfl,rfl,_,rfl,_,_,rfl,rfl,.inr ⟨g0,g1⟩,_,_,rfl,rfl,(by show(0:Int)<2147483629;decide),?_⟩;trivial;have n0:=Int.emod_nonneg ((c+11)*g) (show(2147483629:Int)≠0 by decide);have n1:=Int.emod_lt_of_pos ((c+11)*g) (show(0:Int)<2147483629 by decide);generalize (c+11)*g % 2147483629=n at n0 n1 ⊢;refine⟨_,rfl,_,rfl,_,_,rfl,rfl,.inl ⟨by omega,by omega⟩,_,_,rfl,rfl,(by show(0:Int)<1000003;decide),_,rfl,_,_,rfl,rfl,m0,?_⟩;exact hQ _ (Int.emod_nonneg _ (by omega)) (Int.emod_lt_of_pos _ m0)
def spLw:Sp:=λvs H Q _=>∃c:Int,vs=[.int c]/\∀n:Int,Q (.int n) H
theorem scLw:FnScope ["_law_cell"] ["_law_cell"] (defScope sLw):=⟨rfl,rfl,rfl,by decide +kernel,rfl,by decide +kernel,by decide +kernel⟩
theorem ok_lw{f:Addr}{fd:FuncData}(F:Fun K "_law_weight" "_law_weight" sLw f fd):FnOk P w K mg base CX0 1 f fd ["_law_cell"] spLw:=by
 refine F.ok scLw (λvs H Q E h=>?_) (λcdv A outer s H vs Q E hr h=>?_)
 .obtain⟨c,rfl,_⟩:=h;rfl
 .obtain ⟨c,rfl,hQ⟩:=h;refine⟨_,pss_cons (ps_if (pt_cmpR op_eq (pe_op op_mod (pv 0) pe_int) pe_int (nomark _)) (pss_one (ps_ret (pe_op op_sub (pe_op op_mod (pe_op op_fdiv (pv 0) pe_int) (pe_op op_sub (pe_op op_mul pe_int (pe_op op_pow pe_int pe_int)) pe_int)) (pe_op op_sub (pe_op op_pow pe_int pe_int) pe_int)))) pss_nil)
   (pss_cons (ps_if (pt_cmpR op_eq (pe_op op_mod (pv 0) pe_int) pe_int (nomark _)) (pss_one (ps_ret (pe_op op_sub (pe_op op_mod (pe_op op_fdiv (pv 0) pe_int) pe_int) pe_int))) pss_nil)
   (pss_one (ps_ret (pe_op op_sub (pe_op op_mod (pe_op op_fdiv (pv 0) pe_int) pe_int) (pe_op op_pow pe_int pe_int))))),?_⟩
  refine⟨_,rfl,_,_,rfl,rfl,(by show(0:Int)<3;decide),rfl,_,rfl,?_⟩;refine ite2 (λ_=>?_) (λ_=>?_)
  .exact⟨_,rfl,_,_,rfl,rfl,⟨by decide,by decide⟩,_,_,rfl,rfl,⟨by decide,by decide,by decide⟩,_,_,rfl,rfl,.inl ⟨by decide,by decide⟩,_,_,rfl,rfl,_,_,rfl,rfl,(by show(0:Int)<2*10 ^ (60:Int).toNat-1;decide),_,_,rfl,rfl,⟨by decide,by decide,by decide⟩,_,_,rfl,rfl,_,_,rfl,rfl,hQ _⟩
  refine⟨_,rfl,_,_,rfl,rfl,(by show(0:Int)<3;decide),rfl,_,rfl,?_⟩;refine ite2 (λ_=>?_) (λ_=>?_)
  .exact⟨_,rfl,_,_,rfl,rfl,⟨by decide,by decide⟩,_,_,rfl,rfl,(by show(0:Int)<9;decide),_,_,rfl,rfl,hQ _⟩
  .exact⟨_,rfl,_,_,rfl,rfl,⟨by decide,by decide⟩,_,_,rfl,rfl,(by show(0:Int)<2000000001;decide),_,_,rfl,rfl,⟨by decide,by decide,by decide⟩,_,_,rfl,rfl,hQ _⟩
end
end K26
namespace L2
open PySem PySem.Spec PyProof.Rows
theorem paired_app{α β:Type}{F:α->β->Prop}:∀{l l':List α}{m m':List β},Paired F l m->Paired F l' m'->Paired F (l++l') (m++m')
 | _,_,_,_,.nil,h=>h
 | _,_,_,_,.cons h t,g=>.cons h (paired_app t g)
theorem paired_rev{α β:Type}{F:α->β->Prop}:∀{l:List α}{m:List β},Paired F l m->Paired F l.reverse m.reverse
 | _,_,.nil=>.nil
 | _,_,.cons h t=>by
  rw[List.reverse_cons,List.reverse_cons];exact paired_app (paired_rev t) (.cons h .nil)
end L2
namespace K26
open PySem L2 PyProof.Rows
section
variable{P:Program}{w:World}{K:W.Frag}{mg:Str->Option Value}{base:Heap}
def spListed:Sp:=λvs H Q _=>∃(d:Addr)(m wy:Int)(T:List Mt.Tri),vs=[.ref d,.int wy]/\H d=some (.dT (wd T))/\Mt.Dt m T/\T.length<=280 ∧
 ∀(l:Addr)(rs:List Addr)(U:List Mt.Tri)(o:Obj)(H':Hp),(∀b u,H b=some u->b≠d->H' b=some u)->H' d=some (.frz o (.dT (wd T)))->H' l=some (.lst (rs.map V.ref))->TupsH H' rs (U.map Mt.tri)->(U.map Mt.row).Perm (T.map Mt.row)->Mt.scan m U []=.good->Q (.ref l) H'
abbrev nmI:List Str:=["_law_ties","_law_way","_law_found","_law_a","_law_b"]
theorem scListed:FnScope nmI ["_law_ties","_law_way"] (defScope sListed):=⟨rfl,rfl,rfl,by decide +kernel,rfl,by decide +kernel,by decide +kernel⟩
theorem rows_keys{U T:List Mt.Tri}(h:(U.map Mt.row).Perm (T.map Mt.row)):(U.map Mt.key).Perm (T.map Mt.key):=by
 have e:∀l:List Mt.Tri,(l.map Mt.row).map (λr=>r.take 2)=l.map Mt.key:=λl=>by
  rw[List.map_map];exact List.map_congr_left λt _=>rfl
 have:=h.map (λr=>r.take 2)
 rwa [e,e] at this
def tOne:TS:=λD σ H=>∃(d r y:Addr)(o:Obj)(T:List Mt.Tri)(t:Mt.Tri)(wy:Int)(xs:List V),σ[0]?=some (some (.ref d))/\σ[1]?=some (some (.int wy))/\σ[2]?=some (some (.ref r))/\σ[3]?=some (some (.int t.1))/\σ[4]?=some (some (.int t.2.1))/\t∈T/\(T.map Mt.key).Nodup/\t.1<t.2.1 ∧
 H d=some (.frz o (.dT (wd T)))/\H r=some (.lst xs)/\xs.length<900/\∀(z:Addr)(u:Mt.Tri)(H':Hp),(∀c v,H c=some v->c≠r->H' c=some v)->H' r=some (.lst (xs++[.ref z]))->H' z=some (.tup ((Mt.tri u).map V.int))->Mt.row u=Mt.row t->(u.1=t.1/\u.2.1=t.2.1\/u.1=t.2.1/\u.2.1=t.1)->D.nx σ H'
theorem ok_listed{f:Addr}{fd:FuncData}(F:Fun K "_law_listed" "_law_listed" sListed f fd):FnOk P w K mg base CX0 1 f fd ["_law_ties","_law_way"] spListed:=by
 refine F.ok scListed (λvs H Q E h=>?_) (λcdv A outer s H vs Q E hr h=>?_)
 .obtain⟨d,m,wy,T,rfl,_⟩:=h;rfl
 .obtain ⟨d,m,wy,T,rfl,hd,hT,lT,hQ⟩:=h;have hu:=hu_of hr;refine'⟨_,pss_cons ?s0 (pss_cons (ps_for ?qa ?qb ?qc ?qd (pss_one (PS.imp (t':=tOne) (ps_if ?c0 (pss_one ?c1) (pss_one ?c2)) ?i1))) (pss_one ?s2)),?_⟩
  case s0=>exact ps_set (i:=2) scListed.nd rfl (Or.inl rfl) (pe_lst pa_nil)
  case qa=>exact PassesOwn.never
  case qb=>exact rfl
  case qc=>exact pi_dict (pv 0)
  case qd=>exact pg_tup rfl (pgs_cons (pg_name (i:=3) scListed.nd rfl (Or.inl rfl)) (pgs_cons (pg_name (i:=4) scListed.nd rfl (Or.inl rfl)) pgs_nil))
  case c0=>exact pt_cmpR op_eq (pe_op op_mod (pe_op op_add (pe_op op_add (pe_op op_mul pe_int (pv 3)) (pv 4)) (pv 1)) pe_int) pe_int (nomark _)
  case c1=>exact ps_expr (pe_bm PySem.F.plainAttrs_list PySem.F.slot_list_append PySem.F.type_list_append mt_append (pv 2) (pa_cons (pe_tup (pa_cons (pv 3) (pa_cons (pv 4) (pa_cons (pe_dget hu (pv 0) (pe_tup (pa_cons (pv 3) (pa_cons (pv 4) pa_nil))) (λ_ _=>rfl)) pa_nil)))) pa_nil))
  case c2=>exact ps_expr (pe_bm PySem.F.plainAttrs_list PySem.F.slot_list_append PySem.F.type_list_append mt_append (pv 2) (pa_cons (pe_tup (pa_cons (pv 4) (pa_cons (pv 3) (pa_cons (pe_dget hu (pv 0) (pe_tup (pa_cons (pv 3) (pa_cons (pv 4) pa_nil))) (λ_ _=>rfl)) pa_nil)))) pa_nil))
  case s2=>exact ps_ret (pe_ix ix_list (pe_lst (pa_cons (pv 2) (pa_cons (pe_rev (pv 2) (pe_un un_neg pe_int)) pa_nil))) (pe_op op_mod (pv 1) pe_int) (λ_ _=>rfl))
  case i1=>
   rintro D σ H ⟨d,r,y,o,T,t,wy,xs,e0,e1,e2,e3,e4,ht,nd,tlt,hd,hr,lx,h⟩;have ek:Mt.key t=[t.1,t.2.1]:=Mt.key_of tlt;have dg:∀(H':Hp)(q:Addr),H' d=some (.frz o (.dT (wd T)))->H' q=some (.tup [.int t.1,.int t.2.1])->DGet H' d (.ref q) (some (.int t.2.2)):=λH' q e1 e2=>by
    refine .inr ⟨wd T,kk t,q,.inr ⟨o,e1⟩,rfl,?_,(wt_of nd t ht).symm⟩;unfold kk;rw[ek];exact e2
   have fin:∀(u:Mt.Tri)(q z:Addr),H q=none->Mt.row u=Mt.row t->(u.1=t.1/\u.2.1=t.2.1\/u.1=t.2.1/\u.2.1=t.1)->upd H q (.tup [.int t.1,.int t.2.1]) z=none->D.nx σ (upd (upd (upd H q (.tup [.int t.1,.int t.2.1])) z (.tup ((Mt.tri u).map V.int))) r (.lst (xs++[.ref z]))):=λu q z hq er ee hz=>by
    have s1:Same H (upd H q (.tup [.int t.1,.int t.2.1])):=Same.new hq;have s2:=s1.trans (Same.new (o:=.tup ((Mt.tri u).map V.int)) hz);have nrz:r≠z:=ne_of_none (s1 r _ hr) hz;refine h z u _ (λc v e n=>?_) upd_same ?_ er ee
    .rw[upd_ne n];exact s2 c v e
    .rw[upd_ne nrz.symm];exact upd_same
   refine⟨_,e3,_,_,rfl,rfl,.inl ⟨by decide,by decide⟩,_,e4,_,_,rfl,rfl,_,e1,_,_,rfl,rfl,_,_,rfl,rfl,(by show(0:Int)<2;decide),rfl,_,rfl,?_⟩;refine ite2 (λ_=>?_) (λ_=>?_)
   .refine⟨_,e2,.inl ⟨rfl,_,SqL.of hr⟩,_,e3,_,e4,_,e0,_,e3,_,e4,(by show 2<=sizeLine;decide),λq hq=>?_⟩;have s1:Same H (upd H q (.tup [.int t.1,.int t.2.1])):=Same.new hq;refine⟨d,.int t.2.2,rfl,dg _ q (s1 d _ hd) upd_same,(by show 3<=sizeLine;decide),λz hz=>?_⟩;have nrz:r≠z:=ne_of_none (s1 r _ hr) hz;refine⟨r,xs,_,rfl,rfl,(by rw[upd_ne nrz];exact s1 r _ hr),small1000 (by omega),?_⟩;exact fin t q z hq rfl (.inl ⟨rfl,rfl⟩) hz
   .refine⟨_,e2,.inl ⟨rfl,_,SqL.of hr⟩,_,e4,_,e3,_,e0,_,e3,_,e4,(by show 2<=sizeLine;decide),λq hq=>?_⟩;have s1:Same H (upd H q (.tup [.int t.1,.int t.2.1])):=Same.new hq;refine⟨d,.int t.2.2,rfl,dg _ q (s1 d _ hd) upd_same,(by show 3<=sizeLine;decide),λz hz=>?_⟩;have nrz:r≠z:=ne_of_none (s1 r _ hr) hz;refine⟨r,xs,_,rfl,rfl,(by rw[upd_ne nrz];exact s1 r _ hr),small1000 (by omega),?_⟩;refine fin (t.2.1,t.1,t.2.2) q z hq ?_ (.inr ⟨rfl,rfl⟩) hz;unfold Mt.row Mt.key;show[Mt.lo t.2.1 t.1,Mt.hi t.2.1 t.1]++_=_;rw[lo_comm,hi_comm]
  refine⟨Nat.zero_le _,λr hr0=>?_⟩;have s1:Same H (upd H r (.lst [])):=Same.new hr0;have nrd:r≠d:=(ne_of_none hd hr0).symm;have hr1:upd H r (.lst []) r=some (.lst []):=upd_same;trivial;generalize upd H r (.lst [])=H1 at s1 hr1 ⊢;have hd1:=s1 d _ hd;refine⟨_,rfl,d,wd T,T.map Mt.key,rfl,hd1,?_,λt ht=>?_,λo rs hrs=>?_⟩
  .unfold wd;rw[List.map_map,List.map_map];rfl
  .obtain⟨u,_,rfl⟩:=List.mem_map.mp ht;exact λz=>by cases z
  have lrs:=Paired.length hrs;rw[List.length_map] at lrs;have k2:∀b u,H b=some u->b≠d->upd H1 d (.frz o (.dT (wd T))) b=some u:=λb u e n=>by rw[upd_ne n];exact s1 b u e
  have hr2:upd H1 d (.frz o (.dT (wd T))) r=some (.lst []):=by rw[upd_ne nrd];exact hr1
  have hd2:upd H1 d (.frz o (.dT (wd T))) d=some (.frz o (.dT (wd T))):=upd_same;generalize upd H1 d (.frz o (.dT (wd T)))=H2 at hrs k2 hr2 hd2 ⊢;refine for_dict (rs:=rs) (λi σ H3=>∃(fs:List Addr)(U:List Mt.Tri)(e3 e4:Option V),σ=[some (.ref d),some (.int wy),some (.ref r),e3,e4]/\(∀b u,H b=some u->b≠d->H3 b=some u)/\H3 d=some (.frz o (.dT (wd T)))/\H3 r=some (.lst (fs.map V.ref))/\TupsH H3 rs (T.map Mt.key)/\TupsH H3 fs (U.map Mt.tri)/\U.map Mt.row=(T.take i).map Mt.row/\(∀u∈U,¬Mt.bad m u.1 u.2.1)/\U.length=i/\i<=T.length)
   ⟨[],[],none,none,rfl,k2,hd2,hr2,hrs,.nil,rfl,λu hu=>(by cases hu),rfl,Nat.zero_le _⟩ (λi σ H3 _ ⟨_,_,_,_,_,_,hd3,_⟩=>hd3) ?_ ?_
  .rintro i y σ H3 hi ⟨fs,U,e3,e4,rfl,k3,hd3,hr3,hrs3,hU,er,nb,lU,li⟩;obtain⟨kx,ekx,hy,_⟩:=Sx.pair_at (i:=i) (a:=y) hrs3 hi;rw[List.getElem?_map] at ekx;obtain⟨t,et,rfl⟩:∃t,T[i]?=some t/\Mt.key t=kx:=by
    cases z:T[i]? with
    | none=>rw[z] at ekx;cases ekx
    | some u=>rw[z] at ekx;exact⟨u,rfl,Option.some.inj ekx⟩
   have hin:=List.mem_of_getElem? et;obtain⟨t0,t1,t2⟩:=hT.at_ t hin;rw[Mt.key_of t1] at hy;have hil:i<T.length:=(List.getElem?_eq_some_iff.mp et).1;have lfs:=Paired.length hU;rw[List.length_map] at lfs;refine⟨y,_,rfl,SqT.of hy,rfl,_,_,rfl,_,_,rfl,rfl,?_⟩;refine⟨d,r,y,o,T,t,wy,_,rfl,rfl,rfl,rfl,rfl,hin,hT.nd,t1,hd3,hr3,by rw[List.length_map];omega,λz u H4 k4 hr4 hz4 eru eu=>?_⟩;refine⟨fs++[z],U++[u],_,_,rfl,λb v e n=>k4 b v (k3 b v e n) (ne_of_none e hr0),k4 d _ hd3 nrd.symm,by rw[hr4,List.map_append];rfl,TupsH.at' hrs3 λb xs e=>k4 b _ e (ne_of e hr3 (by intro z;cases z)),?_,?_,λv hv=>?_,by rw[List.length_append,lU];rfl,hil⟩
   .rw[List.map_append];exact paired_snoc (TupsH.at' hU λb xs e=>k4 b _ e (ne_of e hr3 (by intro z;cases z))) ⟨hz4,λz=>by cases z⟩
   .rw[List.map_append,er,List.take_succ,et,List.map_append];show _++[Mt.row u]=_++[Mt.row t];rw[eru]
   .rcases List.mem_append.mp hv with hv|hv
    .exact nb v hv
    .rw[List.mem_singleton] at hv;subst hv;unfold Mt.bad;omega
  .rintro σ H3 ⟨fs,U,e3,e4,rfl,k3,hd3,hr3,hrs3,hU,er,nb,lU,li⟩;rw[lrs,List.take_length] at er;have lfs:=Paired.length hU;rw[List.length_map] at lfs;have hk:(U.map Mt.key).Nodup:=((rows_keys (List.Perm.of_eq er)).nodup_iff).mpr hT.nd;refine⟨_,rfl,_,rfl,_,rfl,rfl,r,_,rfl,SqL.of hr3,λr2 hr2'=>?_⟩;rw[<-List.map_reverse];have s4:Same H3 (upd H3 r2 (.lst (fs.reverse.map V.ref))):=Same.new hr2';have hr24:upd H3 r2 (.lst (fs.reverse.map V.ref)) r2=some (.lst (fs.reverse.map V.ref)):=upd_same;generalize upd H3 r2 (.lst (fs.reverse.map V.ref))=H4 at s4 hr24 ⊢;refine⟨(by show 2<=sizeLine;decide),λl hl=>?_⟩;have s5:Same H4 (upd H4 l (.lst ([r,r2].map V.ref))):=Same.new hl;have s35:=s4.trans s5;have hU5:=TupsH.same s35 hU;have w0:=Int.emod_nonneg wy (show(2:Int)≠0 by decide);have w1:=Int.emod_lt_of_pos wy (show(0:Int)<2 by decide);have ew:wy % 2=0\/wy % 2=1:=by omega
   have kk5:∀b u,H b=some u->b≠d->upd H4 l (.lst ([r,r2].map V.ref)) b=some u:=λb u e n=>s35 b u (k3 b u e n);rcases ew with ew|ew
   .refine⟨_,rfl,_,_,rfl,rfl,(by show(0:Int)<2;decide),l,_,_,.ref r,rfl,rfl,SqL.of upd_same,by rw[ew];rfl,?_⟩;exact hQ r fs U o _ kk5 (s35 d _ hd3) (s35 r _ hr3) hU5 (List.Perm.of_eq er) (Mt.scan_ok (by simpa using hk) nb)
   .refine ⟨_,rfl,_,_,rfl,rfl,(by show(0:Int)<2;decide),l,_,_,.ref r2,rfl,rfl,SqL.of upd_same,by rw[ew];rfl,?_⟩;refine hQ r2 fs.reverse U.reverse o _ kk5 (s35 d _ hd3) (s5 r2 _ hr24) ?_ ?_ (Mt.scan_ok ?_ λu hu=>nb u (List.mem_reverse.mp hu))
    .rw[List.map_reverse];exact paired_rev hU5
    .rw[List.map_reverse];exact(List.reverse_perm _).trans (List.Perm.of_eq er)
    .rw[List.map_reverse,List.nil_append];exact(List.reverse_perm _).nodup_iff.mpr hk
end
theorem iteNN'{a b:V}{A B:Prop}(n:a≠b)(h:A):if (!decide (a=b))=true then A else B:=by
 rw[decide_eq_false n,Bool.not_false,if_pos rfl];exact h
section
variable{P:Program}{w:World}{K:W.Frag}{mg:Str->Option Value}{base:Heap}
def spLends:Sp:=λvs H Q _=>∃c m:Int,vs=[.int c,.int m]/\0<m/\m<=24/\∀(p:Addr)(a b r:Int),H p=none->0<=a->a<m->0<=b->b<m->Q (.ref p) (upd H p (.tup [.int a,.int b,.int r]))
abbrev nmE:List Str:=["_law_cell","_law_many","_law_rest"]
theorem scLends:FnScope nmE ["_law_cell","_law_many"] (defScope sLends):=⟨rfl,rfl,rfl,by decide +kernel,rfl,by decide +kernel,by decide +kernel⟩
theorem ok_lends{f fD:Addr}{fd fdD:FuncData}(F:Fun K "_law_ends" "_law_ends" sLends f fd)
  (GD:FnOk P w K mg base CX0 1 fD fdD ["_law_cell","_law_factor","_law_many"] spDrawn) (mD:mg "_law_drawn"=some (.ref fD)) (kD:PySem.W.keepIn K (.ref fD)=true) (bD:Binds K fdD ["_law_cell","_law_factor","_law_many"] []):FnOk P w K mg base CX0 2 f fd ["_law_cell","_law_many"] spLends:=by
 refine F.ok scLends (λvs H Q E h=>?_) (λcdv A outer s H vs Q E hr h=>?_)
 .obtain⟨c,m,rfl,_⟩:=h;rfl
 .obtain ⟨c,m,rfl,m0,m1,hQ⟩:=h;refine'⟨_,pss_cons (ps_if ?c0 (pss_cons ?b0 (pss_one ?b1)) pss_nil) (pss_one ?s1),?_⟩
  case c0=>exact(pw_and (pt_cmpR op_eq (pe_op op_mod (pv 0) pe_int) pe_int (nomark _)) (pw_and1 (pt_cmpR op_gt (pv 0) (pe_op op_mul (pe_op op_mul pe_int (pv 1)) (pv 1)) (nomark _)))).pt
  case b0=>exact ps_set (i:=2) scLends.nd rfl (Or.inl rfl) (pe_op op_fdiv (pv 0) pe_int)
  case b1=>exact ps_ret (pe_tup (pa_cons (pe_op op_mod (pv 2) (pv 1)) (pa_cons (pe_op op_mod (pe_op op_fdiv (pv 2) (pv 1)) (pv 1)) (pa_cons (pe_op op_fdiv (pe_op op_fdiv (pv 2) (pv 1)) (pv 1)) pa_nil))))
  case s1=>exact ps_ret (pe_tup (pa_cons (pe_call GD hr (by rfl) mD kD bD .nil pass0 (pa_cons (pv 0) (pa_cons pe_int (pa_cons (pv 1) pa_nil)))) (pa_cons (pe_call GD hr (by rfl) mD kD bD .nil pass0 (pa_cons (pv 0) (pa_cons pe_int (pa_cons (pv 1) pa_nil)))) (pa_cons (pv 0) pa_nil))))
  rw[show L2.start nmE [V.int c,.int m]=[some (.int c),some (.int m),none] from rfl];have plain:(tRet (tTup (tCons (tCall spDrawn [] E0 (tCons (tVar 0) (tCons (tC (V.int 69621)) (tCons (tVar 1) tNil)))) (tCons (tCall spDrawn [] E0 (tCons (tVar 0) (tCons (tC (V.int 16807)) (tCons (tVar 1) tNil)))) (tCons (tVar 0) tNil))))) {nx:=λ_ H'=>Q .non H',rt:=Q} [some (.int c),some (.int m),none] H:=by
   refine⟨_,rfl,_,rfl,c,_,m,rfl,by decide,by decide,m0,λa a0 a1=>⟨_,rfl,_,rfl,c,_,m,rfl,by decide,by decide,m0,λb b0 b1=>⟨_,rfl,(by show 3<=sizeLine;decide),λp hp=>?_⟩⟩⟩;exact hQ p a b c hp a0 a1 b0 b1
  refine⟨_,rfl,_,_,rfl,rfl,(by show(0:Int)<2;decide),rfl,_,rfl,?_⟩;refine ite2 (λ_=>?_) (λ_=>iteF plain);refine⟨_,rfl,_,rfl,_,_,rfl,rfl,.inl ⟨by decide,by decide⟩,_,rfl,_,_,rfl,rfl,.inr ⟨by omega,by omega⟩,_,_,rfl,rfl,_,rfl,?_⟩;refine ite2 (λ_=>?_) (λ_=>plain);refine⟨_,rfl,_,_,rfl,rfl,⟨by decide,by decide⟩,?_⟩;trivial;refine⟨_,rfl,_,rfl,_,_,rfl,rfl,m0,_,rfl,_,rfl,_,_,rfl,rfl,⟨m0,by omega⟩,_,rfl,_,_,rfl,rfl,m0,_,rfl,_,rfl,_,_,rfl,rfl,⟨m0,by omega⟩,_,rfl,_,_,rfl,rfl,⟨m0,by omega⟩,(by show 3<=sizeLine;decide),λp hp=>?_⟩;exact hQ p _ _ _ hp (Int.emod_nonneg _ (by omega)) (Int.emod_lt_of_pos _ m0) (Int.emod_nonneg _ (by omega)) (Int.emod_lt_of_pos _ m0)
def spMore(K:W.Frag):Sp:=λvs H Q _=>∃(d a:Addr)(m:Int)(ns:List Int)(T:List Mt.Tri),vs=[.ref d,.ref a,.int m]/\H d=some (.dT (wd T))/\SqL K H a (ns.map V.int)/\ns.length<=63/\0<m/\m<=24/\Mt.Dt m T/\T.length<=200 ∧
 ∀(T':List Mt.Tri)(H':Hp),(∀b o,H b=some o->b≠d->H' b=some o)->H' d=some (.dT (wd T'))->Mt.Dt m T'->(∀k∈T.map Mt.key,k∈T'.map Mt.key)->T'.length<=T.length+63->Q .non H'
abbrev nmM:List Str:=["_law_ties","_law_script","_law_many","_law_cell","_law_a","_law_b","_law_rest"]
theorem scMore:FnScope nmM ["_law_ties","_law_script","_law_many"] (defScope sMore):=⟨rfl,rfl,rfl,by decide +kernel,rfl,by decide +kernel,by decide +kernel⟩
theorem ok_more{f fT fL fW:Addr}{fd fdT fdL fdW:FuncData}(F:Fun K "_law_more" "_law_more" sMore f fd)
  (GT:FnOk P w K mg base CX0 1 fT fdT ["_law_a","_law_b"] spTie) (mT:mg "_law_tie"=some (.ref fT)) (kT:PySem.W.keepIn K (.ref fT)=true) (bT:Binds K fdT ["_law_a","_law_b"] [])
  (GL:FnOk P w K mg base CX0 2 fL fdL ["_law_cell","_law_many"] spLends) (mL:mg "_law_ends"=some (.ref fL)) (kL:PySem.W.keepIn K (.ref fL)=true) (bL:Binds K fdL ["_law_cell","_law_many"] [])
  (GW:FnOk P w K mg base CX0 1 fW fdW ["_law_cell"] spLw) (mW:mg "_law_weight"=some (.ref fW)) (kW:PySem.W.keepIn K (.ref fW)=true) (bW:Binds K fdW ["_law_cell"] []) :
  FnOk P w K mg base CX0 3 f fd ["_law_ties","_law_script","_law_many"] (spMore K):=by
 refine F.ok scMore (λvs H Q E h=>?_) (λcdv A outer s H vs Q E hr h=>?_)
 .obtain⟨d,a,m,ns,T,rfl,_⟩:=h;rfl
 .obtain ⟨d,a,m,ns,T,rfl,hd,hS,hns,m0,m24,hT,lT,hQ⟩:=h;have hu:=hu_of hr;have hr1:Room 1 (cxOf CX0 P w K mg base nmM "_law_more" (defScope sMore) f cdv A outer s H E).nox.A:=hr.mono (by decide);refine'⟨_,pss_one (ps_for ?qa ?qb ?qc ?qd ?qe),?_⟩
  case qa=>exact PassesOwn.never
  case qb=>exact rfl
  case qc=>exact pi_list (pe_slice sl_list (pv 1) (po_some pe_int) (po_some pe_int))
  case qd=>exact pg_name (i:=3) scMore.nd rfl (Or.inl rfl)
  case qe=>
   refine' pss_cons ?e0 (pss_one ?e1)
   case e0=>exact ps_asg (pe_call GL hr (by rfl) mL kL bL .nil pass0 (pa_cons (pv 3) (pa_cons (pv 2) pa_nil))) (pg_tup (n:=3) rfl (pgs_cons (pg_name (i:=4) scMore.nd rfl (Or.inl rfl)) (pgs_cons (pg_name (i:=5) scMore.nd rfl (Or.inl rfl)) (pgs_cons (pg_name (i:=6) scMore.nd rfl (Or.inl rfl)) pgs_nil))))
   case e1=>exact ps_if (pw_and (pt_cmpR op_ne (pv 4) (pv 5) (nomark _)) (pw_and1 (pt_cmp (pc_dnotin hu (pe_call GT hr1 (by rfl) mT kT bT .nil pass0 (pa_cons (pv 4) (pa_cons (pv 5) pa_nil))) (pv 0)) (by with_unfolding_all rfl)))).pt (pss_one (ps_dput hu (pv 0) (pe_call GT hr1 (by rfl) mT kT bT .nil pass0 (pa_cons (pv 4) (pa_cons (pv 5) pa_nil))) (pe_call GW hr1 (by rfl) mW kW bW .nil pass0 (pa_cons (pv 6) pa_nil)) rfl)) pss_nil
  refine⟨_,rfl,_,rfl,_,rfl,a,_,rfl,hS,λl hl=>?_⟩;have lc:(cutV (ns.map V.int) (some 1) (some 120)).length<=63:=by
   have:=cutV_length (ns.map V.int) (some 1) (some 120);rw[List.length_map] at this;omega
  have hci:=cut_int ns (some 1) (some 120);generalize cutV (ns.map V.int) (some 1) (some 120)=cut at lc hci ⊢;have s0:Same H (upd H l (.lst cut)):=Same.new hl;have nld:l≠d:=(ne_of_none hd hl).symm;refine⟨l,rfl,⟨_,SqL.of upd_same⟩,for_list (K:=K) (a:=l) (xs:=cut)
   (λi σ H2=>∃(T':List Mt.Tri)(e3 e4 e5 e6:Option V),σ=[some (.ref d),some (.ref a),some (.int m),e3,e4,e5,e6]/\(∀b o,H b=some o->b≠d->H2 b=some o)/\H2 l=some (.lst cut)/\H2 d=some (.dT (wd T'))/\Mt.Dt m T'/\(∀k∈T.map Mt.key,k∈T'.map Mt.key)/\T'.length<=T.length+i)
   ⟨T,none,none,none,none,rfl,λb o e _=>s0 b o e,upd_same,s0 d _ hd,hT,λk hk=>hk,Nat.le_refl _⟩ (λi σ H2 _ h2=>by obtain⟨_,_,_,_,_,_,_,hl2,_⟩:=h2;exact SqL.of hl2) ?_ ?_⟩
  .rintro i x σ H2 hi ⟨T',e3,e4,e5,e6,rfl,k2,hl2,hd2,hT2,sub,lT2⟩;have hil:i<63:=Nat.lt_of_lt_of_le (List.getElem?_eq_some_iff.mp hi).1 lc;obtain⟨z,rfl⟩:=hci i x hi;trivial;refine⟨_,rfl,_,rfl,z,m,rfl,m0,m24,λp a1 b1 r1 np a0 a1' b0 b1'=>?_⟩;have s3:Same H2 (upd H2 p (.tup [.int a1,.int b1,.int r1])):=Same.new np;have hp3:upd H2 p (.tup [.int a1,.int b1,.int r1]) p=some (.tup [.int a1,.int b1,.int r1]):=upd_same;generalize upd H2 p (.tup [.int a1,.int b1,.int r1])=H3 at s3 hp3 ⊢;refine⟨p,_,rfl,SqT.of hp3,rfl,_,_,rfl,_,_,rfl,_,_,rfl,rfl,?_⟩;trivial;have hd3:=s3 d _ hd2;have hl3:=s3 l _ hl2;have k3:∀b o,H b=some o->b≠d->H3 b=some o:=λb o e n=>s3 b o (k2 b o e n);refine⟨_,rfl,_,rfl,rfl,_,rfl,?_⟩;by_cases nab:a1=b1
   .exact iteNS (congrArg V.int nab) (iteF ⟨T',_,_,_,_,rfl,k3,hl3,hd3,hT2,sub,by omega⟩)
   refine iteNN' (λz=>nab (by injection z)) ?_;refine⟨_,rfl,_,rfl,a1,b1,rfl,λy hy=>?_⟩;have s4:Same H3 (upd H3 y (.tup ((Bt.tie a1 b1).map V.int))):=Same.new hy;have hy4:upd H3 y (.tup ((Bt.tie a1 b1).map V.int)) y=some (.tup ((Bt.tie a1 b1).map V.int)):=upd_same;generalize upd H3 y (.tup ((Bt.tie a1 b1).map V.int))=H4 at s4 hy4 ⊢;have hd4:=s4 d _ hd3;have hl4:=s4 l _ hl3;have k4:∀b o,H b=some o->b≠d->H4 b=some o:=λb o e n=>s4 b o (k3 b o e n);refine⟨_,rfl,d,_,rfl,DGet.t (k:=[Mt.lo a1 b1,Mt.hi a1 b1].map Sum.inl) hd4 hy4,_,rfl,?_⟩;refine ite2 (λ_=>?_) (λ_=>⟨T',_,_,_,_,rfl,k4,hl4,hd4,hT2,sub,by omega⟩);have r:=Mt.key_range (m:=m) (t:=(a1,b1,0)) (by unfold Mt.bad;show ¬(a1<0\/m<=a1\/b1<0\/m<=b1\/a1=b1);omega);refine⟨_,rfl,r1,rfl,λn=>⟨_,rfl,_,rfl,_,rfl,a1,b1,rfl,λy2 hy2=>?_⟩⟩;have s5:Same H4 (upd H4 y2 (.tup ((Bt.tie a1 b1).map V.int))):=Same.new hy2;have hy5:upd H4 y2 (.tup ((Bt.tie a1 b1).map V.int)) y2=some (.tup ((Bt.tie a1 b1).map V.int)):=upd_same;generalize upd H4 y2 (.tup ((Bt.tie a1 b1).map V.int))=H5 at s5 hy5 ⊢;refine⟨d,_,rfl,DPut.t (k:=[Mt.lo a1 b1,Mt.hi a1 b1].map Sum.inl) (s5 d _ hd4) hy5 (small1000 (by unfold wd;rw[List.length_map];omega)),?_⟩;obtain⟨T2,ep,hT2',hk2,l2⟩:=Dt.put hT2 (w:=n) r.1 r.2.1 r.2.2;rw[show putK (wd T') ([Mt.lo a1 b1,Mt.hi a1 b1].map Sum.inl) (.int n)=wd T2 from ep];refine⟨T2,_,_,_,_,rfl,λb o e nb=>?_,?_,upd_same,hT2',λk hk=>(hk2 k).mpr (.inl (sub k hk)),by omega⟩
   .rw[upd_ne nb];exact s5 b o (k4 b o e nb)
   .rw[upd_ne nld];exact s5 l _ hl4
  .rintro σ H2 ⟨T',e3,e4,e5,e6,rfl,k2,hl2,hd2,hT2,sub,lT2⟩;exact hQ T' H2 k2 hd2 hT2 sub (by omega)
end
end K26
namespace L2
open PySem PySem.Spec PyProof.Rows
def IsC(Ks ts:List (List Int)):Prop:=ts.Pairwise (λa b=>HT.lexLt b a=false)/\(∀t∈ts,t∈Ks)/\ts.flatten.Nodup
def metd(xs:List Int):List (Key×V):=xs.map λx=>(Sum.inl x,V.bl true)
theorem met_some(xs:List Int)(a:Int):(valV (metd xs) (Sum.inl a)).isSome=decide (a∈xs):=by
 rw[<-valV_any];unfold metd;rw[List.any_map,Bool.eq_iff_iff,decide_eq_true_iff,List.any_eq_true];constructor
 .rintro⟨x,hx,e⟩;have e:(Sum.inl x:Key)=Sum.inl a:=of_decide_eq_true e;injection e with e
  exact e ▸ hx
 .exact λh=>⟨a,h,decide_eq_true rfl⟩
theorem met_snoc{xs:List Int}{a:Int}(h:a∉xs):putK (metd xs) (Sum.inl a) (.bl true)=metd (xs++[a]):=by
 have:valV (metd xs) (Sum.inl a)=none:=by
  have:=met_some xs a;rw[decide_eq_false h] at this;cases q:valV (metd xs) (Sum.inl a) with
  | none=>rfl
  | some v=>rw[q] at this;cases this
 rw[putK_new _ this];unfold metd;rw[List.map_append];rfl
theorem flat_split{ts:List (List Int)}{i:Nat}{a b:Int}(e:ts[i]?=some [a,b]):ts.flatten=(ts.take i).flatten++a::b::(ts.drop (i+1)).flatten/\(ts.take (i+1)).flatten=(ts.take i).flatten++[a,b]:=by
 obtain⟨hi,ei⟩:=List.getElem?_eq_some_iff.mp e;constructor
 .conv=>lhs;rw[<-List.take_append_drop i ts,List.drop_eq_getElem_cons hi,ei]
  simp
 .rw[List.take_succ,e];simp
end L2
namespace K26
open PySem L2 PyProof.Rows
section
variable{P:Program}{w:World}{K:W.Frag}{mg:Str->Option Value}{base:Heap}
theorem wd_int{T:List Mt.Tri}{k:List Key}{v:V}(h:valV (wd T) k=some v):∃z,v=.int z:=by
 unfold valV at h;cases q:(wd T).find? λkv=>decide (kv.1=k) with
 | none=>rw[q] at h;cases h
 | some p=>
  rw[q] at h;obtain⟨u,_,eu⟩:=List.mem_map.mp (List.mem_of_find?_eq_some q);rw[<-eu] at h;exact⟨_,(Option.some.inj h).symm⟩
theorem wtV_non{T:List Mt.Tri}{a b:Int}:wtV T a b=.non↔¬[Mt.lo a b,Mt.hi a b]∈T.map Mt.key:=by
 have e:=wd_some T (a,b,0);unfold wtV;show(valV (wd T) (kk (a,b,0))).getD .non=.non↔¬Mt.key (a,b,0)∈T.map Mt.key;cases q:valV (wd T) (kk (a,b,0)) with
 | none=>
  rw[q] at e;refine⟨λ_ h=>?_,λ_=>rfl⟩;have:((T.map Mt.key).any λk=>decide (k=Mt.key (a,b,0)))=true:=List.any_eq_true.mpr ⟨_,h,decide_eq_true rfl⟩;rw[this] at e;cases e
 | some v=>
  rw[q] at e;obtain⟨z,rfl⟩:=wd_int q;obtain⟨k,hk,ek⟩:=List.any_eq_true.mp e.symm;have ek:=of_decide_eq_true ek;subst ek;exact⟨λz=>(by cases z),λh=>absurd hk h⟩
theorem key_pair{m:Int}{T:List Mt.Tri}(sg:Mt.scan m T []=.good){a b:Int}(h:[a,b]∈T.map Mt.key):0<=a/\a<b/\b<m:=by
 obtain⟨t,ht,e⟩:=List.mem_map.mp h;have:=Mt.key_range ((Mt.scan_good sg List.nodup_nil).2 t ht);unfold Mt.key at e;injection e with e1 e2
 injection e2 with e2 _
 rw[e1,e2] at this;exact this
theorem lohi{a b:Int}(h:a<b):[Mt.lo a b,Mt.hi a b]=[a,b]:=by
 unfold Mt.lo Mt.hi;rw[if_neg (by omega),if_pos (by omega)]
def spIs(C:Addr):Sp:=λvs H Q _=>∃(x q:Addr)(m:Int)(T:List Mt.Tri)(ks:List (List Int))(qs:List Addr)(ts:List (List Int)),vs=[.ref x,.ref q]/\WebAt C H x m T ks/\H q=some (.lst (qs.map V.ref))/\TupsH H qs ts/\Two ts/\ts.length<=200 ∧
 ∀(b:Bool)(H':Hp),(b=true↔IsC (T.map Mt.key) ts)->Same H H'->Q (.bl b) H'
abbrev nmIs:List Str:=["web","pairs","met","a","b"]
theorem scIs:FnScope nmIs ["web","pairs"] (defScope sIs):=⟨rfl,rfl,rfl,by decide +kernel,rfl,by decide +kernel,by decide +kernel⟩
theorem ok_is{f fG C:Addr}{fd fdG:FuncData}(F:Fun K "is_choice" "is_choice" sIs f fd)(T0:TxtW K mg C)
  (mG:Meth K C "weight" fG) (GG:FnOk P w K mg base CX0 2 fG fdG ["self","a","b"] (spWeight C)) (bG:Binds K fdG ["self","a","b"] []) :
  FnOk P w K mg base CX0 3 f fd ["web","pairs"] (spIs C):=by
 refine F.ok scIs (λvs H Q E h=>?_) (λcdv A outer s H vs Q E hr h=>?_)
 .obtain⟨x,q,m,T,ks,qs,ts,rfl,_⟩:=h;rfl
 .obtain ⟨x,q,m,T,ks,qs,ts,rfl,W,hq,hT,h2,lt,hQ⟩:=h;have hu:=hu_of hr;have lqs:=Paired.length hT;refine⟨_,pss_cons (ps_if (pt_cmpR (op_neLT hu) (pv 1) (pe_callB call_sortedLB (by rfl) T0.srt boot_sorted (pa_cons (pv 1) pa_nil)) (nomark _)) (pss_one (ps_ret pe_bl)) pss_nil)
   (pss_cons (ps_set (i:=2) scIs.nd rfl (Or.inl rfl) pe_dnewK)
   (pss_cons (ps_for PassesOwn.never rfl (pi_list (pv 1)) (pg_tup rfl (pgs_cons (pg_name (i:=3) scIs.nd rfl (Or.inl rfl)) (pgs_cons (pg_name (i:=4) scIs.nd rfl (Or.inl rfl)) pgs_nil)))
    (pss_cons (ps_if (pw_or (pt_cmpR op_ge (pv 3) (pv 4) (nomark _)) (pw_or1 (pt_cmp (pc_isN (pe_meth (pv 0) T0.cl mG GG hr bG .nil pass0 (pa_cons (pv 3) (pa_cons (pv 4) pa_nil))))))).pt (pss_one (ps_ret pe_bl)) pss_nil)
    (pss_cons (ps_if (pw_or (pt_cmp (pc_din hu (pv 3) (pv 2))) (pw_or1 (pt_cmp (pc_din hu (pv 4) (pv 2))))).pt (pss_one (ps_ret pe_bl)) pss_nil)
    (pss_cons (ps_dput hu (pv 2) (pv 3) pe_bl rfl)
    (pss_one (ps_dput hu (pv 2) (pv 4) pe_bl rfl))))))
   (pss_one (ps_ret pe_bl)))),?_⟩
  refine⟨_,rfl,_,rfl,q,qs,ts,rfl,SqL.of hq,by omega,hT,λqs' ts' l hS hl=>?_⟩;obtain⟨hqs',hperm,_⟩:=hT.sorted hS;have s1:Same H (upd H l (.lst (qs'.map V.ref))):=Same.new hl;refine⟨q,l,qs,qs',ts,ts',rfl,rfl,SqL.of (s1 q _ hq),SqL.of upd_same,TupsH.same s1 hT,TupsH.same s1 hqs',_,rfl,?_⟩;generalize upd H l (.lst (qs'.map V.ref))=H1 at s1 ⊢;by_cases ee:ts=ts'
  case neg=>
   rw[decide_eq_false ee];refine iteT (hQ false H1 ⟨λz=>(by cases z),λz=>?_⟩ s1);exact absurd (Mt.sorted_eq hperm hS.ord z.1).symm ee
  rw[decide_eq_true ee];refine iteF ?_;subst ee;intro d hd;have s2:Same H (upd H1 d (.dK [])):=s1.trans (Same.new hd);have hdH:H d=none:=s1.free hd;refine⟨_,rfl,q,rfl,⟨_,SqL.of (s2 q _ hq)⟩,for_list (K:=K) (a:=q) (xs:=qs.map V.ref)
   (λi σ H3=>∃(e3 e4:Option V),σ=[some (.ref x),some (.ref q),some (.ref d),e3,e4]/\Same H H3/\H3 d=some (.dK (metd (ts.take i).flatten))/\(∀t∈ts.take i,t∈T.map Mt.key)/\((ts.take i).flatten).Nodup/\(ts.take i).flatten.length<=2*i)
   ⟨none,none,rfl,s2,upd_same,λt ht=>(by cases ht),List.nodup_nil,Nat.le_refl _⟩ (λi σ H3 _ ⟨_,_,_,s3,_⟩=>SqL.of (s3 q _ hq)) ?_ ?_⟩
  .rintro i y σ H3 hi ⟨e3,e4,rfl,s3,hd3,hk,hn,ln⟩;obtain⟨r,t,rfl,et,hr3⟩:=tup_at (TupsH.same s3 hT) hi;obtain⟨a,b,rfl⟩:=h2 t (List.mem_of_getElem? et);have hil:i<ts.length:=(List.getElem?_eq_some_iff.mp et).1;obtain⟨f1,f2⟩:=flat_split et;have no:¬[a,b]∈T.map Mt.key->¬IsC (T.map Mt.key) ts:=λz y=>z (y.2.1 _ (List.mem_of_getElem? et));refine⟨r,_,rfl,SqT.of hr3,rfl,_,_,rfl,_,_,rfl,rfl,?_⟩;refine⟨_,rfl,_,rfl,_,_,rfl,rfl,_,rfl,?_⟩;refine ite2 (λc=>iteT (hQ false H3 ⟨λz=>(by cases z),λz=>(no (λk=>?_) z).elim⟩ s3)) (λc=>?_)
   .have:=key_pair W.ok k;have c:=of_decide_eq_true c;omega
   have cab:a<b:=by
    have:=of_decide_eq_false (Bool.not_eq_true _ ▸ c);omega
   obtain⟨dx,_,_,_,fs,_,w1,_,_,_,_,w6,_⟩:=(W.same s3).ex;refine⟨_,rfl,x,dx,fs,rfl,w1,w6.2.2.1,_,rfl,_,rfl,x,m,T,ks,a,b,rfl,W.same s3,λH4 s4=>⟨_,rfl,?_⟩⟩;refine ite2 (λc2=>hQ false H4 ⟨λz=>(by cases z),λz=>(no ?_ z).elim⟩ (s3.trans s4)) (λc2=>?_)
   .have:=wtV_non.mp (of_decide_eq_true c2)
    rwa [lohi cab] at this
   have kin:[a,b]∈T.map Mt.key:=by
    have:=λz=>of_decide_eq_false (Bool.not_eq_true _ ▸ c2) (wtV_non.mpr z);rw[lohi cab] at this;exact Classical.byContradiction this
   have s34:=s3.trans s4;have hd4:=s4 d _ hd3;refine⟨_,rfl,_,rfl,d,_,rfl,DGet.k (k:=.inl a) hd4,_,rfl,?_⟩;rw[met_some];refine ite2 (λc3=>iteT (hQ false H4 ⟨λz=>(by cases z),λz=>?_⟩ s34)) (λc3=>?_)
   .have y:=z.2.2;rw[f1,List.nodup_append] at y;exact(y.2.2 a (of_decide_eq_true c3) a (.head _) rfl).elim
   refine⟨_,rfl,_,rfl,d,_,rfl,DGet.k (k:=.inl b) hd4,_,rfl,?_⟩;rw[met_some];refine ite2 (λc4=>hQ false H4 ⟨λz=>(by cases z),λz=>?_⟩ s34) (λc4=>?_)
   .have y:=z.2.2;rw[f1,List.nodup_append] at y;exact(y.2.2 b (of_decide_eq_true c4) b (.tail _ (.head _)) rfl).elim
   have na:a∉(ts.take i).flatten:=λz=>c3 (decide_eq_true z);have nb:b∉(ts.take i).flatten:=λz=>c4 (decide_eq_true z);have nb':b∉(ts.take i).flatten++[a]:=λz=>by
    rcases List.mem_append.mp z with z|z
    .exact nb z
    .rw[List.mem_singleton] at z;omega
   have lm:∀zs:List Int,(metd zs).length=zs.length:=λzs=>by unfold metd;rw[List.length_map]
   refine⟨_,rfl,_,rfl,d,_,rfl,DPut.k (k:=.inl a) hd4 (small1000 (by rw[lm];omega)),?_⟩;rw[met_snoc na];refine⟨_,rfl,_,rfl,d,_,rfl,DPut.k (k:=.inl b) upd_same (small1000 (by rw[lm,List.length_append];show _+1<=_;omega)),?_⟩;rw[met_snoc nb',upd_upd];refine⟨_,_,rfl,λc o e=>?_,?_,λu hu=>?_,?_,?_⟩
   .rw[upd_ne (ne_of_none e hdH)];exact s34 c o e
   .rw[f2,upd_same,List.append_assoc];rfl
   .rw [List.take_succ,et] at hu;rcases List.mem_append.mp hu with hu|hu
    .exact hk u hu
    .have:u=[a,b]:=by simpa using hu
     rw[this];exact kin
   .rw [f2,List.nodup_append];refine⟨hn,by simp;omega,λu hu v hv=>?_⟩;rcases List.mem_cons.mp hv with rfl|hv
    .exact λz=>na (z ▸ hu)
    .rw[List.mem_singleton] at hv;subst hv;exact λz=>nb (z ▸ hu)
   .rw[f2,List.length_append];show _+2<=_;omega
  .rintro σ H3 ⟨e3,e4,rfl,s3,hd3,hk,hn,ln⟩;rw[List.length_map,lqs,List.take_length] at hk hn;exact hQ true H3 ⟨λ_=>⟨hS.ord,hk,hn⟩,λ_=>rfl⟩ s3
end
theorem wd_has{T:List Mt.Tri}{k:List Int}:(valV (wd T) (k.map Sum.inl)).isSome=true↔k∈T.map Mt.key:=by
 unfold valV;rw[Option.isSome_map,List.find?_isSome];unfold wd;constructor
 .rintro⟨kv,hkv,e⟩;obtain⟨t,ht,rfl⟩:=List.mem_map.mp hkv;have:Mt.key t=k:=inl_inj (of_decide_eq_true e);exact List.mem_map.mpr ⟨t,ht,this⟩
 .intro h;obtain⟨t,ht,rfl⟩:=List.mem_map.mp h;exact⟨_,List.mem_map.mpr ⟨t,ht,rfl⟩,decide_eq_true rfl⟩
section
variable{P:Program}{w:World}{K:W.Frag}{mg:Str->Option Value}{base:Heap}
def spLis:Sp:=λvs H Q _=>∃(d q:Addr)(o:Obj)(T:List Mt.Tri)(qs:List Addr)(ts:List (List Int)),vs=[.ref d,.ref q]/\H d=some (.frz o (.dT (wd T)))/\H q=some (.lst (qs.map V.ref))/\TupsH H qs ts/\(∀t∈ts,t∈T.map Mt.key)/\ts.flatten.Nodup/\ts.length<=100/\∀H',Same H H'->Q (.bl true) H'
abbrev nmJ:List Str:=["_law_ties","_law_pairs","_law_used","_law_a","_law_b"]
theorem scLis:FnScope nmJ ["_law_ties","_law_pairs"] (defScope sLis):=⟨rfl,rfl,rfl,by decide +kernel,rfl,by decide +kernel,by decide +kernel⟩
theorem ok_lis{f:Addr}{fd:FuncData}(F:Fun K "_law_is_choice" "_law_is_choice" sLis f fd):FnOk P w K mg base CX0 1 f fd ["_law_ties","_law_pairs"] spLis:=by
 refine F.ok scLis (λvs H Q E h=>?_) (λcdv A outer s H vs Q E hr h=>?_)
 .obtain⟨d,q,o,T,qs,ts,rfl,_⟩:=h;rfl
 .obtain ⟨d,q,o,T,qs,ts,rfl,hd,hq,hT,hk,nd,lt,hQ⟩:=h;have hu:=hu_of hr;refine'⟨_,pss_cons ?s0 (pss_cons (ps_for PassesOwn.never rfl (pi_list (pv 1)) ?qd (pss_cons (ps_if ?c0 (pss_one (ps_ret pe_bl)) pss_nil) (pss_cons ?d0 (pss_one ?d1)))) (pss_one (ps_ret pe_bl))),?_⟩
  case s0=>exact ps_set (i:=2) scLis.nd rfl (Or.inl rfl) (pe_lst pa_nil)
  case qd=>exact pg_tup rfl (pgs_cons (pg_name (i:=3) scLis.nd rfl (Or.inl rfl)) (pgs_cons (pg_name (i:=4) scLis.nd rfl (Or.inl rfl)) pgs_nil))
  case c0=>exact(pw_or (pt_cmp (pc_dnotin hu (pe_tup (pa_cons (pv 3) (pa_cons (pv 4) pa_nil))) (pv 0)) (by with_unfolding_all rfl)) (pw_or (pt_cmpR op_in_seq (pv 3) (pv 2) (by with_unfolding_all rfl)) (pw_or1 (pt_cmpR op_in_seq (pv 4) (pv 2) (by with_unfolding_all rfl))))).pt
  case d0=>exact ps_expr (pe_bm PySem.F.plainAttrs_list PySem.F.slot_list_append PySem.F.type_list_append mt_append (pv 2) (pa_cons (pv 3) pa_nil))
  case d1=>exact ps_expr (pe_bm PySem.F.plainAttrs_list PySem.F.slot_list_append PySem.F.type_list_append mt_append (pv 2) (pa_cons (pv 4) pa_nil))
  rw[show L2.start nmJ [V.ref d,.ref q]=[some (.ref d),some (.ref q),none,none,none] from rfl];have lr:=Paired.length hT;refine⟨Nat.zero_le _,λu nu=>?_⟩;have s1:Same H (upd H u (.lst [])):=Same.new nu;have hu1:upd H u (.lst []) u=some (.lst []):=upd_same;trivial;generalize upd H u (.lst [])=H1 at s1 hu1 ⊢;refine⟨_,rfl,q,rfl,⟨_,SqL.of (s1 q _ hq)⟩,for_list (K:=K) (a:=q) (xs:=qs.map V.ref)
   (λi σ H3=>∃(e3 e4:Option V),σ=[some (.ref d),some (.ref q),some (.ref u),e3,e4]/\Same H H3/\H3 u=some (.lst (((ts.take i).flatten).map V.int))/\(ts.take i).flatten.length=2*i)
   ⟨none,none,rfl,s1,hu1,rfl⟩ (λi σ H3 _ h3=>by obtain⟨_,_,_,s3,_⟩:=h3;exact SqL.of (s3 q _ hq)) ?_ ?_⟩
  .rintro i x σ H3 hi ⟨e3,e4,rfl,s3,hu3,lf⟩;obtain⟨r,t,rfl,et,hr0⟩:=tup_at hT hi;have hil:i<ts.length:=(List.getElem?_eq_some_iff.mp et).1;have htk:=hk t (List.mem_of_getElem? et);obtain⟨a,b,rfl⟩:∃a b,t=[a,b]:=by
    obtain⟨v,_,rfl⟩:=List.mem_map.mp htk;exact⟨_,_,rfl⟩
   obtain⟨ef,et1⟩:=flat_split et;rw[ef,List.nodup_append] at nd;obtain⟨n1,n2,n3⟩:=nd;have na:a∉(ts.take i).flatten:=λz=>n3 a z a (.head _) rfl;have nb:b∉(ts.take i).flatten:=λz=>n3 b z b (.tail _ (.head _)) rfl;refine⟨r,_,rfl,SqT.of (s3 r _ hr0),rfl,_,_,rfl,_,_,rfl,rfl,?_⟩;trivial;refine⟨_,rfl,_,rfl,(by show 2<=sizeLine;decide),λp np=>?_⟩;have s4:Same H3 (upd H3 p (.tup [.int a,.int b])):=Same.new np;have hp4:upd H3 p (.tup [.int a,.int b]) p=some (.tup (([a,b].map Sum.inl).map kV)):=upd_same;generalize upd H3 p (.tup [.int a,.int b])=H4 at s4 hp4 ⊢;have hu4:=s4 u _ hu3;have hd4:=s4 d _ (s3 d _ hd);refine⟨_,rfl,d,_,rfl,.inr ⟨wd T,[a,b].map Sum.inl,p,.inr ⟨o,hd4⟩,rfl,hp4,rfl⟩,_,rfl,?_⟩;rw[wd_has.mpr htk];refine iteF ?_;refine⟨_,rfl,_,rfl,u,_,rfl,.inl (SqL.of hu4),rfl,flat_ints _,_,rfl,?_⟩;rw[if_neg Bool.false_ne_true,inV_ints,decide_eq_false na];refine iteF ?_;refine⟨_,rfl,_,rfl,u,_,rfl,.inl (SqL.of hu4),rfl,flat_ints _,_,rfl,?_⟩;rw[if_neg Bool.false_ne_true,inV_ints,decide_eq_false nb];refine iteF ?_
   try dsimp only
   refine⟨_,rfl,.inl ⟨rfl,_,SqL.of hu4⟩,_,rfl,u,_,_,rfl,rfl,hu4,small1000 (by rw[List.length_map];omega),?_⟩;refine⟨_,rfl,.inl ⟨rfl,_,SqL.of upd_same⟩,_,rfl,u,_,_,rfl,rfl,upd_same,small1000 (by rw[List.length_append,List.length_map,List.length_singleton];omega),?_⟩;rw[upd_upd];refine⟨_,_,rfl,λc v e=>by rw[upd_ne (ne_of_none e nu)];exact s4 c v (s3 c v e),?_,?_⟩
   .rw[upd_same,et1,List.map_append,List.append_assoc];rfl
   .rw[et1,List.length_append,lf];show _+2=2*(_+1);omega
  .rintro σ H3 ⟨e3,e4,rfl,s3,hu3,lf⟩;exact hQ H3 s3
end
end K26
namespace L2
open PySem PySem.Spec PyProof.Rows
theorem op_inTK{X:Cx}(K:W.Frag)(h:X.K=K)(hu:X.A.units+1<cLine):OpR X (compareOp .In) (λx y H Q=>∃b t p rs ts,x=.ref b/\H b=some (.tup (t.map V.int))/\y=.ref p/\SqL K H p (rs.map V.ref)/\TupsH H rs ts/\Q (.bl (ts.any λu=>decide (u=t))) H):=by subst h;exact op_inT hu
def Ord2(ts:List (List Int)):Prop:=∀t∈ts,∃a b:Int,t=[a,b]/\a<=b
theorem lo_le(a b:Int):Mt.lo a b<=Mt.hi a b:=by unfold Mt.lo Mt.hi;split<;>split<;>omega
theorem alg_ord(t:List Int):Ord2 (alg t):=λk hk=>by
 obtain⟨i,hi,e⟩:=List.getElem_of_mem hk;rw[alg_len] at hi;have:=alg_get t i (by omega);rw[List.getElem?_eq_getElem (by rw[alg_len];omega)] at this;have:=Option.some.inj this;exact⟨_,_,e ▸ this,lo_le _ _⟩
theorem lohi_of{a b:Int}(h:a<=b):[Mt.lo a b,Mt.hi a b]=[a,b]:=by
 unfold Mt.lo Mt.hi;rw[if_neg (by omega)];by_cases c:b>a
 .rw[if_pos c]
 .rw[if_neg c,show a=b by omega]
end L2
namespace K26
open PySem L2 PyProof.Rows
section
variable{P:Program}{w:World}{K:W.Frag}{mg:Str->Option Value}{base:Heap}
def spAlong(K:W.Frag):Sp:=λvs H Q _=>∃(p:Addr)(t:List Int),vs=[.ref p]/\SqL K H p (t.map V.int)/\t.length<=200/\∀(l:Addr)(zs:List Addr)(H':Hp),H l=none->Same H H'->H' l=some (.lst (zs.map V.ref))->TupsH H' zs (alg t)->Q (.ref l) H'
theorem scAlong:FnScope ["points"] ["points"] (defScope sAlong):=⟨rfl,rfl,rfl,by decide +kernel,rfl,by decide +kernel,by decide +kernel⟩
theorem nd_ab:([".0","a","b"]:List Str).Nodup:=by decide +kernel
theorem ok_along{f fO:Addr}{fd fdO:FuncData}(F:Fun K "ties_along" "ties_along" sAlong f fd)(gzip:mg "zip"=none)
  (GO:FnOk P w K mg base CX0 1 fO fdO ["a","b"] spOrd) (mO:mg "ordered"=some (.ref fO)) (kO:PySem.W.keepIn K (.ref fO)=true) (bO:Binds K fdO ["a","b"] []):FnOk P w K mg base CX0 2 f fd ["points"] (spAlong K):=by
 refine F.ok scAlong (λvs H Q E h=>?_) (λcdv A outer s H vs Q E hr h=>?_)
 .obtain⟨p,t,rfl,_⟩:=h;rfl
 .obtain ⟨p,t,rfl,hp,lt,hQ⟩:=h;refine'⟨_,pss_one (ps_ret ?cc),?_⟩
  case cc=>exact pe_comp (g:=gTup K 2 (gCons (gName 1) (gCons (gName 2) gNil))) (own:=[".0","a","b"]) (cl:=[]) (caps:=[]) (js:=[]) rfl (caps0 rfl rfl (by decide +kernel) (by decide +kernel)) (pi_zip (by rfl) gzip (pa_cons (pv 0) (pa_cons (pe_slice sl_list (pv 0) (po_some pe_int) po_none) pa_nil))) (λpins C s H1 fp=>pg_tup (n:=2) rfl (pgs_cons (pg_name (i:=1) nd_ab rfl (Or.inl rfl)) (pgs_cons (pg_name (i:=2) nd_ab rfl (Or.inl rfl)) pgs_nil))) (λpins C s H1 fp=>pts_nil) (λpins C s H1 fp=>pe_call GO hr rfl mO kO bO .nil pass0 (pa_cons (pv 1) (pa_cons (pv 2) pa_nil)))
  refine⟨_,rfl,_,rfl,_,rfl,p,_,rfl,hp,λl1 h1=>?_⟩;rw[cut_map,cutA_drop _ (by decide)];have s1:Same H (upd H l1 (.lst ((t.drop (1:Int).toNat).map V.int))):=Same.new h1;have hl1:upd H l1 (.lst ((t.drop (1:Int).toNat).map V.int)) l1=some (.lst ((t.drop 1).map V.int)):=upd_same;generalize upd H l1 (.lst ((t.drop (1:Int).toNat).map V.int))=H1 at s1 hl1 ⊢;refine⟨p,l1,rfl,⟨_,s1.seq hp⟩,⟨_,SqL.of hl1⟩,λD hD=>?_⟩;refine turns_zip (K:=K) (xs:=t.map V.int) (ys:=(t.drop 1).map V.int) (n:=t.length-1) (λi ys σ H2=>∃(zs:List Addr)(e0 e1 e2:Option V),ys=zs.map V.ref/\i<=t.length-1/\σ=[e0,e1,e2]/\Same H1 H2/\H2 D=some (.lst ys)/\TupsH H2 zs ((alg t).take i)) (by rw[List.length_map];omega) (by rw[List.length_map,List.length_drop];exact Nat.le_refl _) (.inr (by rw[List.length_map,List.length_drop];exact Nat.le_refl _)) ⟨[],none,none,none,rfl,Nat.zero_le _,rfl,Same.new hD,upd_same,.nil⟩ ?_ ?_ ?_
  .rintro i ys σ H2 ⟨zs,e0,e1,e2,rfl,li,rfl,s2,h2,hz⟩;refine⟨h2,small1000 ?_,s2.seq (s1.seq hp),SqL.of (s2 l1 _ hl1)⟩;have:=Paired.length hz;rw[List.length_take,alg_len] at this;rw[List.length_map];omega
  .rintro i x y q ys σ H2 hx hy hi ⟨zs,e0,e1,e2,rfl,li,rfl,s2,h2,hz⟩ hq;obtain⟨a,rfl,ea⟩:=map_int_at hx;obtain⟨b,rfl,eb⟩:=map_int_at hy;rw[List.getElem?_drop] at eb;have ga:t.getD i 0=a:=by simp[ea]
   have gb:t.getD (i+1) 0=b:=by rw[Nat.add_comm] at eb;simp[eb]
   have gp:=alg_get t i (by omega);rw[ga,gb] at gp;have s3:Same H2 (upd H2 q (.tup [.int a,.int b])):=Same.new hq;refine⟨q,_,rfl,SqT.of upd_same,rfl,_,_,rfl,_,_,rfl,rfl,?_⟩;dsimp only;refine yes_of ?_;refine⟨_,rfl,_,rfl,a,b,rfl,λy hy'=>?_⟩;have s4:=s3.trans (Same.new (o:=.tup [.int (Mt.lo a b),.int (Mt.hi a b)]) hy');have h4:=s4 D _ h2;have nDy:D≠y:=ne_of_none (s3 D _ h2) hy';refine⟨h4,Nxt.mk hi ⟨zs++[y],_,_,_,by rw[List.map_append];rfl,hi,rfl,λc o e=>?_,upd_same,?_⟩⟩
   .rw[upd_ne (ne_of_none e hD)];exact s4 c o (s2 c o e)
   .rw[List.take_succ,gp];refine paired_snoc (TupsH.at' hz λc xs e=>?_) ⟨?_,λz=>by cases z⟩
    .rw[upd_ne (ne_of e h2 (by intro z;cases z))];exact s4 c _ e
    .rw[upd_ne nDy.symm];exact upd_same
  .rintro ys σ0 H2 ⟨zs,e0,e1,e2,rfl,li,rfl,s2,h2,hz⟩;rw[<-alg_len,List.take_length] at hz;exact hQ D zs H2 (s1.free hD) (s1.trans s2) h2 hz
def spTwice(K:W.Frag):Sp:=λvs H Q _=>∃(p:Addr)(t:List Int),vs=[.ref p]/\SqL K H p (t.map V.int)/\t.length<=200/\∀b:Bool,(b=true↔t.Nodup)->Q (.bl b) H
theorem scTwice:FnScope ["points"] ["points"] (defScope sTwice):=⟨rfl,rfl,rfl,by decide +kernel,rfl,by decide +kernel,by decide +kernel⟩
theorem ok_twice{f:Addr}{fd:FuncData}(F:Fun K "none_twice" "none_twice" sTwice f fd)(glen:mg "len"=none)(gset:mg "set"=none):FnOk P w K mg base CX0 1 f fd ["points"] (spTwice K):=by
 refine F.ok scTwice (λvs H Q E h=>?_) (λcdv A outer s H vs Q E hr h=>?_)
 .obtain⟨p,t,rfl,_⟩:=h;rfl
 .obtain ⟨p,t,rfl,hp,lt,hQ⟩:=h;refine⟨_,pss_one (ps_ret (pe_cmpR op_eq (pe_lenSet (by rfl) glen (by rfl) gset rfl (pa_cons (pv 0) pa_nil)) (pe_callB call_len_seq (by rfl) glen PySem.boot_len (pa_cons (pv 0) pa_nil)) (nomark _))),?_⟩;refine⟨_,rfl,p,t,rfl,hp,by omega,_,rfl,p,_,rfl,.inl hp,rfl,?_⟩;refine hQ _ ⟨λz=>?_,λz=>decide_eq_true ?_⟩
  .have e:=of_decide_eq_true z;injection e with e
   rw[List.length_map] at e;exact unlike_len.mp (by omega)
  .rw[unlike_len.mpr z,List.length_map]
def spTiedA(C:Addr)(K:W.Frag):Sp:=λvs H Q _=>∃(x q:Addr)(m:Int)(T:List Mt.Tri)(ks:List (List Int))(qs:List Addr)(ts:List (List Int)),vs=[.ref x,.ref q]/\WebAt C H x m T ks/\H q=some (.lst (qs.map V.ref))/\TupsH H qs ts/\Ord2 ts/\ts.length<=200 ∧
 ∀(b:Bool)(H':Hp),(b=true↔∀t∈ts,t∈T.map Mt.key)->Same H H'->Q (.bl b) H'
abbrev nmA:List Str:=["web","ties"]
theorem scTiedA:FnScope nmA ["web","ties"] (defScope sTiedA):=⟨rfl,rfl,rfl,by decide +kernel,rfl,by decide +kernel,by decide +kernel⟩
abbrev XA(P:Program)(w:World)(K:W.Frag)(mg:Str->Option Value)(base:Heap)(f:Addr)(cdv:Value)(A:Around)(outer:List Env)(s:Shared)(H:Hp)(E:XK):Cx:=(cxOf CX0 P w K mg base nmA "all_tied" (defScope sTiedA) f cdv A outer s H E).nox
def compA:Scope:={kind:=.function,names:=[(Str.ofString ".0",.local),(Str.ofString "a",.local),(Str.ofString "b",.local),(Str.ofString "web",.free)],isGenerator:=false,isCoroutine:=false,more:=[]}
theorem nd_compA:([".0","a","b","web"]:List Str).Nodup:=by decide +kernel
theorem capsA{f:Addr}{cdv:Value}{A:Around}{outer:List Env}{s:Shared}{H:Hp}{E:XK}:Caps (XA P w K mg base f cdv A outer s H E) compA [(Str.ofString "web",s.heap.objs.size+1)] [".0","a","b"] ["web"] [0]:=by
 have e1:(XA P w K mg base f cdv A outer s H E).env.cells=[(Str.ofString "web",s.heap.objs.size+1)]:=by rfl
 have e2:(relabel compA (XA P w K mg base f cdv A outer s H E).env).names=[(Str.ofString ".0",.local),(Str.ofString "a",.local),(Str.ofString "b",.local),(Str.ofString "web",.cell)]:=by rfl
 refine⟨rfl,λx c h=>?_,rfl,by decide +kernel,by decide +kernel,λx hx=>?_,rfl,λi x e=>?_⟩
 .have hx:(x=Str.ofString "web"/\c=s.heap.objs.size+1):=by
   have:=PySem.mem_of_lookup h;simpa using this
  obtain⟨rfl,rfl⟩:=hx;rw[e1];rfl
 .rw [e2] at hx;have hx:x=Str.ofString "web":=by
   rcases hx with hx|hx
   all_goals
    have:=PySem.mem_of_lookup hx;simpa using this
  subst hx;exact⟨_,rfl⟩
 .match i,e with
  | 0,e=>
   cases(Option.some.inj e);exact⟨0,rfl,rfl,rfl,rfl,by rw[e2];rfl⟩
  | n+1,e=>cases e
def tdB(T:List Mt.Tri)(t:List Int):Bool:=!decide (wtV T (t.getD 0 0) (t.getD 1 0)=.non)
theorem tdB_iff{T:List Mt.Tri}{a b:Int}(h:a<=b):tdB T [a,b]=true↔[a,b]∈T.map Mt.key:=by
 unfold tdB;rw[Bool.not_eq_true',decide_eq_false_iff_not];show ¬wtV T a b=.non↔_;rw[wtV_non,lohi_of h,Classical.not_not]
theorem ok_tiedA{f fG C:Addr}{fd fdG:FuncData}(F:Fun K "all_tied" "all_tied" sTiedA f fd)(T0:TxtW K mg C)(gall:mg "all"=none)
  (mG:Meth K C "weight" fG) (GG:FnOk P w K mg base CX0 2 fG fdG ["self","a","b"] (spWeight C)) (bG:Binds K fdG ["self","a","b"] []):FnOk P w K mg base CX0 3 f fd ["web","ties"] (spTiedA C K):=by
 refine F.ok scTiedA (λvs H Q E h=>?_) (λcdv A outer s H vs Q E hr h=>?_)
 .obtain⟨x,q,m,T,ks,qs,ts,rfl,_⟩:=h;rfl
 .obtain ⟨x,q,m,T,ks,qs,ts,rfl,W,hq,hT,h2,lt,hQ⟩:=h;have lqs:=Paired.length hT;refine'⟨_,pss_one (ps_ret (pe_callB (call_allB rfl) (by rfl) gall bt_all (pa_cons ?cc pa_nil))),?_⟩
  case cc=>exact pe_comp (g:=gTup K 2 (gCons (gName 1) (gCons (gName 2) gNil))) (own:=[".0","a","b"]) (caps:=["web"]) (js:=[0]) rfl capsA (pi_list (pv 1)) (λpins C s H1 fp=>pg_tup (n:=2) rfl (pgs_cons (pg_name (i:=1) nd_compA rfl (Or.inl rfl) (Or.inr rfl)) (pgs_cons (pg_name (i:=2) nd_compA rfl (Or.inl rfl) (Or.inr rfl)) pgs_nil))) (λpins C s H1 fp=>pts_nil) (λpins C s H1 fp=>pe_cmp (pc_notN (pe_meth (pv 3) T0.cl mG GG hr bG .nil pass0 (pa_cons (pv 1) (pa_cons (pv 2) pa_nil)))))
  refine⟨_,rfl,q,rfl,⟨_,SqL.of hq⟩,λD hD=>?_⟩;refine turns_list (K:=K) (a:=q) (xs:=qs.map V.ref) (λi ys σ H2=>∃(e0 e1 e2:Option V),ys=((ts.take i).map (tdB T)).map V.bl/\σ=[e0,e1,e2,some (.ref x)]/\Same H H2/\H2 D=some (.lst ys)) ⟨none,none,none,rfl,rfl,Same.new hD,upd_same⟩ ?_ ?_ ?_
  .rintro i ys σ H2 ⟨e0,e1,e2,rfl,rfl,s2,h2'⟩;refine⟨h2',small1000 ?_,SqL.of (s2 q _ hq)⟩;rw[List.length_map,List.length_map,List.length_take];omega
  .rintro i y ys σ H2 hi ⟨e0,e1,e2,rfl,rfl,s2,h2'⟩;have hil:i<(qs.map V.ref).length:=(List.getElem?_eq_some_iff.mp hi).1;obtain⟨r,t,rfl,et,hr2⟩:=tup_at (TupsH.same s2 hT) hi;obtain⟨a,b,rfl,hab⟩:=h2 t (List.mem_of_getElem? et);refine⟨r,_,rfl,SqT.of hr2,rfl,_,_,rfl,_,_,rfl,rfl,?_⟩;dsimp only;refine yes_of ?_;obtain⟨dx,_,_,_,fs,_,w1,_,_,_,_,w6,_⟩:=(W.same s2).ex;refine⟨_,rfl,x,dx,fs,rfl,w1,w6.2.2.1,_,rfl,_,rfl,x,m,T,ks,a,b,rfl,W.same s2,λH3 s3=>?_⟩;have h3:=s3 D _ h2';refine⟨h3,Nxt.mk hil ⟨_,_,_,?_,rfl,λc o e=>?_,upd_same⟩⟩
   .rw[List.take_succ,et,List.map_append,List.map_append];rfl
   .rw[upd_ne (ne_of_none e hD)];exact s3 c o (s2 c o e)
  .rintro ys σ H2 ⟨e0,e1,e2,rfl,rfl,s2,h2'⟩;rw[List.length_map,lqs,List.take_length] at h2';refine⟨D,_,rfl,SqL.of h2',hQ _ H2 ?_ s2⟩;rw[List.all_map,List.all_eq_true];constructor
   .intro z t ht;obtain⟨a,b,rfl,hab⟩:=h2 t ht;exact(tdB_iff hab).mp (z _ ht)
   .intro z t ht;obtain⟨a,b,rfl,hab⟩:=h2 t ht;exact(tdB_iff hab).mpr (z _ ht)
def spTurn(K:W.Frag):Sp:=λvs H Q _=>∃(p q:Addr)(rs qs:List Addr)(ps ts:List (List Int)),vs=[.ref p,.ref q]/\H p=some (.lst (rs.map V.ref))/\H q=some (.lst (qs.map V.ref))/\TupsH H rs ps/\TupsH H qs ts/\ts.length<=200 ∧
 ∀H',Same H H'->Q (.bl (altB (ts.map λk=>decide (k∈ps)))) H'
abbrev nmU:List Str:=["pairs","ties","taken"]
theorem scTurn:FnScope nmU ["pairs","ties"] (defScope sTurn):=⟨rfl,rfl,rfl,by decide +kernel,rfl,by decide +kernel,by decide +kernel⟩
abbrev XU(P:Program)(w:World)(K:W.Frag)(mg:Str->Option Value)(base:Heap)(f:Addr)(cdv:Value)(A:Around)(outer:List Env)(s:Shared)(H:Hp)(E:XK):Cx:=(cxOf CX0 P w K mg base nmU "in_turn" (defScope sTurn) f cdv A outer s H E).nox
def compU:Scope:={kind:=.function,names:=[(Str.ofString ".0",.local),(Str.ofString "tie",.local),(Str.ofString "pairs",.free)],isGenerator:=false,isCoroutine:=false,more:=[]}
theorem nd_compU:([".0","tie","pairs"]:List Str).Nodup:=by decide +kernel
theorem capsU{f:Addr}{cdv:Value}{A:Around}{outer:List Env}{s:Shared}{H:Hp}{E:XK}:Caps (XU P w K mg base f cdv A outer s H E) compU [(Str.ofString "pairs",s.heap.objs.size+1)] [".0","tie"] ["pairs"] [0]:=by
 have e1:(XU P w K mg base f cdv A outer s H E).env.cells=[(Str.ofString "pairs",s.heap.objs.size+1)]:=by rfl
 have e2:(relabel compU (XU P w K mg base f cdv A outer s H E).env).names=[(Str.ofString ".0",.local),(Str.ofString "tie",.local),(Str.ofString "pairs",.cell)]:=by rfl
 refine⟨rfl,λx c h=>?_,rfl,by decide +kernel,by decide +kernel,λx hx=>?_,rfl,λi x e=>?_⟩
 .have hx:(x=Str.ofString "pairs"/\c=s.heap.objs.size+1):=by
   have:=PySem.mem_of_lookup h;simpa using this
  obtain⟨rfl,rfl⟩:=hx;rw[e1];rfl
 .rw [e2] at hx;have hx:x=Str.ofString "pairs":=by
   rcases hx with hx|hx
   all_goals
    have:=PySem.mem_of_lookup hx;simpa using this
  subst hx;exact⟨_,rfl⟩
 .match i,e with
  | 0,e=>
   cases(Option.some.inj e);exact⟨0,rfl,rfl,rfl,rfl,by rw[e2];rfl⟩
  | n+1,e=>cases e
theorem nd_fs:([".0","first","second"]:List Str).Nodup:=by decide +kernel
theorem map_bl_at{xs:List Bool}{i:Nat}{v:V}(h:(xs.map V.bl)[i]?=some v):∃z,v=.bl z/\xs[i]?=some z:=by
 rw[List.getElem?_map] at h;cases e:xs[i]? with
 | none=>rw[e] at h;cases h
 | some z=>rw[e] at h;exact⟨z,(Option.some.inj h).symm,rfl⟩
theorem vals_bl_drop(xs:List Bool)(n:Nat):cutV (xs.map V.bl) (some (n:Int)) none=(xs.drop n).map V.bl:=by
 rw[cut_map,cutA_drop _ (by omega)];rfl
def difB:List Bool->List Bool
 | a::b::r=>(!decide (V.bl a=V.bl b))::difB (b::r)
 | _=>[]
theorem difB_len:∀l:List Bool,(difB l).length=l.length-1
 | []=>rfl
 | [_]=>by simp[difB]
 | a::b::r=>by
  show(difB (b::r)).length+1=_;rw[difB_len (b::r)];simp
theorem difB_get:∀(l:List Bool)(i:Nat)(a b:Bool),l[i]?=some a->l[i+1]?=some b->(difB l)[i]?=some (!decide (V.bl a=V.bl b))
 | [],i,_,_,h,_=>by simp at h
 | [_],i,_,_,_,h=>by simp at h
 | x::y::r,0,a,b,h1,h2=>by
  simp at h1 h2;subst h1 h2;rfl
 | x::y::r,i+1,a,b,h1,h2=>difB_get (y::r) i a b (by simpa using h1) (by simpa using h2)
theorem difB_all:∀l:List Bool,(difB l).all id=altB l
 | []=>rfl
 | [_]=>rfl
 | a::b::r=>by
  show((!decide (V.bl a=V.bl b))&&(difB (b::r)).all id)=((!decide (a=b))&&altB (b::r));rw[difB_all (b::r)]
  congr 2
  rw[Bool.eq_iff_iff,decide_eq_true_iff,decide_eq_true_iff];exact⟨λz=>by injection z,λz=>by rw[z]⟩
theorem ok_turn{f:Addr}{fd:FuncData}(F:Fun K "in_turn" "in_turn" sTurn f fd)(gall:mg "all"=none)(gzip:mg "zip"=none):FnOk P w K mg base CX0 1 f fd ["pairs","ties"] (spTurn K):=by
 refine F.ok scTurn (λvs H Q E h=>?_) (λcdv A outer s H vs Q E hr h=>?_)
 .obtain⟨p,q,rs,qs,ps,ts,rfl,_⟩:=h;rfl
 .obtain ⟨p,q,rs,qs,ps,ts,rfl,hp,hq,hP,hT,lt,hQ⟩:=h;have hu:=hu_of hr;have lqs:=Paired.length hT;refine'⟨_,pss_cons ?s0 (pss_one (ps_ret (pe_callB (call_allB rfl) (by rfl) gall bt_all (pa_cons ?cc pa_nil)))),?_⟩
  case s0=>exact ps_comp (i:=2) (g:=gName 1) (own:=[".0","tie"]) (caps:=["pairs"]) (js:=[0]) rfl capsU (pi_list (pv 1)) (λpins C s H1 fp=>pg_name (i:=1) nd_compU rfl (Or.inl rfl) (Or.inr rfl)) (λpins C s H1 fp=>pts_nil) (λpins C s H1 fp=>pe_cmpR (op_inTK K rfl hu) (pv 1) (pv 2) (by with_unfolding_all rfl)) scTurn.nd rfl rfl rfl
  case cc=>exact pe_comp (g:=gTup K 2 (gCons (gName 1) (gCons (gName 2) gNil))) (own:=[".0","first","second"]) (cl:=[]) (caps:=[]) (js:=[]) rfl (caps0 rfl rfl (by decide +kernel) (by decide +kernel)) (pi_zip (by rfl) gzip (pa_cons (pv 2) (pa_cons (pe_slice sl_list (pv 2) (po_some pe_int) po_none) pa_nil))) (λpins C s H1 fp=>pg_tup (n:=2) rfl (pgs_cons (pg_name (i:=1) nd_fs rfl (Or.inl rfl)) (pgs_cons (pg_name (i:=2) nd_fs rfl (Or.inl rfl)) pgs_nil))) (λpins C s H1 fp=>pts_nil) (λpins C s H1 fp=>pe_cmpR op_ne (pv 1) (pv 2) (nomark _))
  refine⟨_,rfl,q,rfl,⟨_,SqL.of hq⟩,λD hD=>?_⟩;refine turns_list (K:=K) (a:=q) (xs:=qs.map V.ref) (λi ys σ H2=>∃(e0 e1:Option V),ys=((ts.take i).map λk=>decide (k∈ps)).map V.bl/\σ=[e0,e1,some (.ref p)]/\Same H H2/\H2 D=some (.lst ys)) ⟨none,none,rfl,rfl,Same.new hD,upd_same⟩ ?_ ?_ ?_
  .rintro i ys σ H2 ⟨e0,e1,rfl,rfl,s2,h2'⟩;refine⟨h2',small1000 ?_,SqL.of (s2 q _ hq)⟩;rw[List.length_map,List.length_map,List.length_take];omega
  .rintro i y ys σ H2 hi ⟨e0,e1,rfl,rfl,s2,h2'⟩;have hil:i<(qs.map V.ref).length:=(List.getElem?_eq_some_iff.mp hi).1;obtain⟨r,t,rfl,et,hr2⟩:=tup_at (TupsH.same s2 hT) hi;unfold gName;dsimp only;refine yes_of ?_;refine⟨_,rfl,_,rfl,r,t,p,rs,ps,rfl,hr2,rfl,SqL.of (s2 p _ hp),TupsH.same s2 hP,h2',Nxt.mk hil ⟨_,_,?_,rfl,λc o e=>?_,upd_same⟩⟩
   .rw[List.take_succ,et,List.map_append,List.map_append,any_mem];rfl
   .rw[upd_ne (ne_of_none e hD)];exact s2 c o e
  .rintro ys σ H2 ⟨e0,e1,rfl,rfl,s2,h2'⟩;rw[List.length_map,lqs,List.take_length] at h2';generalize hbs:(ts.map λk=>decide (k∈ps))=bs at h2' hQ ⊢;have lbs:bs.length=ts.length:=by rw[<-hbs,List.length_map]
   refine⟨_,rfl,_,rfl,_,rfl,D,_,rfl,SqL.of h2',λl1 h1=>?_⟩;rw[show(1:Int)=((1:Nat):Int) from rfl,vals_bl_drop];have s3:Same H2 (upd H2 l1 (.lst ((bs.drop 1).map V.bl))):=Same.new h1;have hl1:upd H2 l1 (.lst ((bs.drop 1).map V.bl)) l1=some (.lst ((bs.drop 1).map V.bl)):=upd_same;generalize upd H2 l1 (.lst ((bs.drop 1).map V.bl))=H3 at s3 hl1 ⊢;have hD3:=s3 D _ h2';refine⟨D,l1,rfl,⟨_,SqL.of hD3⟩,⟨_,SqL.of hl1⟩,λD2 hD2=>?_⟩;refine turns_zip (K:=K) (xs:=bs.map V.bl) (ys:=(bs.drop 1).map V.bl) (n:=bs.length-1) (λi ys σ H4=>∃(e0 e1 e2:Option V),ys=((difB bs).take i).map V.bl/\i<=bs.length-1/\σ=[e0,e1,e2]/\Same H3 H4/\H4 D2=some (.lst ys)) (by rw[List.length_map];omega) (by rw[List.length_map,List.length_drop];exact Nat.le_refl _) (.inr (by rw[List.length_map,List.length_drop];exact Nat.le_refl _)) ⟨none,none,none,rfl,Nat.zero_le _,rfl,Same.new hD2,upd_same⟩ ?_ ?_ ?_
   .rintro i ys σ H4 ⟨e0,e1,e2,rfl,li,rfl,s4,h4⟩;refine⟨h4,small1000 ?_,SqL.of (s4 D _ hD3),SqL.of (s4 l1 _ hl1)⟩;rw[List.length_map,List.length_take,difB_len];omega
   .rintro i x y t ys σ H4 hx hy hi ⟨e0,e1,e2,rfl,li,rfl,s4,h4⟩ ht;obtain⟨a,rfl,ea⟩:=map_bl_at hx;obtain⟨b,rfl,eb⟩:=map_bl_at hy;rw[List.getElem?_drop,Nat.add_comm] at eb;have gp:=difB_get bs i a b ea eb;have s5:Same H4 (upd H4 t (.tup [.bl a,.bl b])):=Same.new ht;refine⟨t,_,rfl,SqT.of upd_same,rfl,_,_,rfl,_,_,rfl,rfl,?_⟩;dsimp only;refine yes_of ?_;refine⟨_,rfl,_,rfl,rfl,s5 D2 _ h4,Nxt.mk hi ⟨_,_,_,?_,hi,rfl,λc o e=>?_,upd_same⟩⟩
    .rw[List.take_succ,gp,List.map_append];rfl
    .rw[upd_ne (ne_of_none e hD2)];exact s5 c o (s4 c o e)
   .rintro ys σ0 H4 ⟨e0,e1,e2,rfl,li,rfl,s4,h4⟩;rw[<-difB_len,List.take_length] at h4;refine⟨D2,_,rfl,SqL.of h4,?_⟩;rw[difB_all];exact hQ H4 (s2.trans (s3.trans s4))
def spPart:Sp:=λvs H Q _=>∃(q:Addr)(qs:List Addr)(ps:List (List Int)),vs=[.ref q]/\H q=some (.lst (qs.map V.ref))/\TupsH H qs ps/\Two ps/\ps.length<=200/\∀d H',H d=none->Same H H'->H' d=some (.dK (prtP ps))->Q (.ref d) H'
theorem scPart:FnScope ["pairs","partners","a","b"] ["pairs"] (defScope sPart):=⟨rfl,rfl,rfl,by decide +kernel,rfl,by decide +kernel,by decide +kernel⟩
theorem ok_part{f:Addr}{fd:FuncData}(F:Fun K "partners_of" "partners_of" sPart f fd):FnOk P w K mg base CX0 1 f fd ["pairs"] spPart:=by
 refine F.ok scPart (λvs H Q E h=>?_) (λcdv A outer s H vs Q E hr h=>?_)
 .obtain⟨q,qs,ps,rfl,_⟩:=h;rfl
 .obtain ⟨q,qs,ps,rfl,hq,hT,h2,lU,hQ⟩:=h;have hu:=hu_of hr;have lqs:=Paired.length hT;refine⟨_,pss_cons (ps_set (i:=1) scPart.nd rfl (Or.inl rfl) pe_dnewK)
   (pss_cons (ps_for PassesOwn.never rfl (pi_list (pv 0)) (pg_tup rfl (pgs_cons (pg_name (i:=2) scPart.nd rfl (Or.inl rfl)) (pgs_cons (pg_name (i:=3) scPart.nd rfl (Or.inl rfl)) pgs_nil)))
    (pss_cons (ps_dput hu (pv 1) (pv 2) (pv 3) rfl) (pss_one (ps_dput hu (pv 1) (pv 3) (pv 2) rfl))))
   (pss_one (ps_ret (pv 1)))),?_⟩
  intro d hd;have s0:Same H (upd H d (.dK [])):=Same.new hd;refine⟨_,rfl,q,rfl,⟨_,SqL.of (s0 q _ hq)⟩,for_list (K:=K) (a:=q) (xs:=qs.map V.ref)
   (λi σ H3=>∃(e2 e3:Option V),σ=[some (.ref q),some (.ref d),e2,e3]/\Same H H3/\H3 d=some (.dK (prtP (ps.take i))))
   ⟨none,none,rfl,s0,upd_same⟩ (λi σ H3 _ ⟨_,_,_,s3,_⟩=>SqL.of (s3 q _ hq)) ?_ ?_⟩
  .rintro i y σ H3 hi ⟨e2,e3,rfl,s3,hd3⟩;obtain⟨r,t,rfl,et,hr3⟩:=tup_at (TupsH.same s3 hT) hi;obtain⟨a,b,rfl⟩:=h2 t (List.mem_of_getElem? et);have hil:i<ps.length:=(List.getElem?_eq_some_iff.mp et).1;refine⟨r,_,rfl,SqT.of hr3,rfl,_,_,rfl,_,_,rfl,rfl,?_⟩;have lp:=prtP_len (ps.take i);rw[List.length_take] at lp;have lp2:=putK_length (prtP (ps.take i)) (.inl a) (.int b);refine⟨_,rfl,_,rfl,_,rfl,d,_,rfl,DPut.k (k:=.inl a) hd3 (small1000 (by omega)),?_⟩;refine⟨_,rfl,_,rfl,_,rfl,d,_,rfl,DPut.k (k:=.inl b) upd_same (small1000 (by omega)),?_⟩;rw[upd_upd];refine⟨_,_,rfl,λc o e=>?_,?_⟩
   .rw[upd_ne (ne_of_none e hd)];exact s3 c o e
   .rw[upd_same,List.take_succ,et];exact congrArg some (congrArg HO.dK (prtP_snoc _ a b).symm)
  .rintro σ H3 ⟨e2,e3,rfl,s3,hd3⟩;rw[List.length_map,lqs,List.take_length] at hd3;exact⟨_,rfl,hQ d H3 hd s3 hd3⟩
def spPner:Sp:=λvs H Q _=>∃(q:Addr)(qs:List Addr)(ps:List (List Int))(a:Int),vs=[.ref q,.int a]/\H q=some (.lst (qs.map V.ref))/\TupsH H qs ps/\Two ps/\ps.length<=200/\∀H',Same H H'->Q ((valV (prtP ps) (.inl a)).getD .non) H'
theorem scPner:FnScope ["pairs","a"] ["pairs","a"] (defScope sPner):=⟨rfl,rfl,rfl,by decide +kernel,rfl,by decide +kernel,by decide +kernel⟩
theorem ok_pner{f fP:Addr}{fd fdP:FuncData}(F:Fun K "partner" "partner" sPner f fd)
  (GP:FnOk P w K mg base CX0 1 fP fdP ["pairs"] spPart) (mP:mg "partners_of"=some (.ref fP)) (kP:PySem.W.keepIn K (.ref fP)=true) (bP:Binds K fdP ["pairs"] []):FnOk P w K mg base CX0 2 f fd ["pairs","a"] spPner:=by
 refine F.ok scPner (λvs H Q E h=>?_) (λcdv A outer s H vs Q E hr h=>?_)
 .obtain⟨q,qs,ps,a,rfl,_⟩:=h;rfl
 .obtain⟨q,qs,ps,a,rfl,hq,hT,h2,lU,hQ⟩:=h;have hu:=hu_of hr;refine⟨_,pss_one (ps_ret (pe_dget1 hu (pe_call GP hr rfl mP kP bP .nil pass0 (pa_cons (pv 0) pa_nil)) (pv 1) ⟨rfl,rfl,rfl,rfl⟩)),?_⟩;refine⟨_,rfl,q,qs,ps,rfl,hq,hT,h2,lU,λd H1 hd s1 hd1=>⟨d,rfl,.inl ⟨_,Rd.of hd1⟩,_,rfl,_,DGet.k (k:=.inl a) hd1,hQ _ s1⟩⟩
def spFit:Sp:=λvs H Q _=>∃(q r:Addr)(qs:List Addr)(ps:List (List Int))(a:Int)(k:List Int),vs=[.ref q,.int a,.ref r]/\H q=some (.lst (qs.map V.ref))/\TupsH H qs ps/\Two ps/\ps.length<=200/\H r=some (.tup (k.map V.int))/\∀(b:Bool)(H':Hp),(b=true↔fitP ps a k)->Same H H'->Q (.bl b) H'
theorem scFit:FnScope ["pairs","end","tie"] ["pairs","end","tie"] (defScope sFit):=⟨rfl,rfl,rfl,by decide +kernel,rfl,by decide +kernel,by decide +kernel⟩
theorem ok_fit{f fP:Addr}{fd fdP:FuncData}(F:Fun K "fit_end" "fit_end" sFit f fd)
  (GP:FnOk P w K mg base CX0 2 fP fdP ["pairs","a"] spPner) (mP:mg "partner"=some (.ref fP)) (kP:PySem.W.keepIn K (.ref fP)=true) (bP:Binds K fdP ["pairs","a"] []):FnOk P w K mg base CX0 3 f fd ["pairs","end","tie"] spFit:=by
 refine F.ok scFit (λvs H Q E h=>?_) (λcdv A outer s H vs Q E hr h=>?_)
 .obtain⟨q,r,qs,ps,a,k,rfl,_⟩:=h;rfl
 .obtain ⟨q,r,qs,ps,a,k,rfl,hq,hT,h2,lp,hk,hQ⟩:=h;have hu:=hu_of hr;refine⟨_,pss_one (ps_ret (pe_or (pe_cmpR (op_inT hu) (pv 2) (pv 0) (by with_unfolding_all rfl)) (pe_one (pe_cmp (pc_isN (pe_call GP hr rfl mP kP bP .nil pass0 (pa_cons (pv 0) (pa_cons (pv 1) pa_nil)))))))),?_⟩;refine⟨_,rfl,_,rfl,r,k,q,qs,ps,rfl,hk,rfl,SqL.of hq,hT,_,rfl,?_⟩;rw[any_mem];refine ite2 (λc=>hQ true H ⟨λ_=>.inl (of_decide_eq_true c),λ_=>rfl⟩ (Same.refl _)) (λc=>?_);refine⟨_,rfl,_,rfl,q,qs,ps,a,rfl,hq,hT,h2,lp,λH1 s1=>hQ _ H1 ?_ s1⟩;have c:¬k∈ps:=λz=>c (decide_eq_true z);rw[decide_eq_true_iff];have pn:=prtP_none a ps h2;constructor
  .intro z;refine .inr (pn.mp ?_);cases e:valV (prtP ps) (.inl a) with
   | none=>rfl
   | some v=>
    obtain⟨y,rfl⟩:=prtP_int ps _ _ e;rw[e] at z;cases z
  .rintro(z|z)
   .exact absurd z c
   .rw[pn.mpr z];rfl
def spTurns(C:Addr):Sp:=λvs H Q _=>∃(x q p:Addr)(m:Int)(T:List Mt.Tri)(ks:List (List Int))(qs:List Addr)(ps:List (List Int))(t:List Int),vs=[.ref x,.ref q,.ref p]/\WebAt C H x m T ks/\H q=some (.lst (qs.map V.ref))/\TupsH H qs ps/\Two ps/\ps.length<=200/\H p=some (.lst (t.map V.int))/\t.length<=200 ∧
 ∀(b:Bool)(H':Hp),(b=true↔IsRow (T.map Mt.key) ps t)->Same H H'->Q (.bl b) H'
abbrev nmS:List Str:=["web","pairs","row","ties"]
theorem scTurns:FnScope nmS ["web","pairs","row"] (defScope sTurns):=⟨rfl,rfl,rfl,by decide +kernel,rfl,by decide +kernel,by decide +kernel⟩
theorem atI_last{α:Type}{xs:List α}{v:α}(h:0<xs.length)(e:xs[xs.length-1]?=some v):atI xs (-1)=some v:=by
 have h1:ixN xs.length (-1)=some (xs.length-1):=by
  unfold ixN;rw[if_neg (by decide)]
  first
   | (rw[if_pos (by omega)];congr 1;omega)
   | (split<;>simp_all<;>omega)
 unfold atI;rw[h1];exact e
theorem ok_turns{f f1 f2 f3 f4 f5 C:Addr}{fd fd1 fd2 fd3 fd4 fd5:FuncData}(F:Fun K "turns" "turns" sTurns f fd)(glen:mg "len"=none)
  (G1:FnOk P w K mg base CX0 1 f1 fd1 ["points"] (spTwice K)) (m1:mg "none_twice"=some (.ref f1)) (k1:PySem.W.keepIn K (.ref f1)=true) (b1:Binds K fd1 ["points"] [])
  (G2:FnOk P w K mg base CX0 2 f2 fd2 ["points"] (spAlong K)) (m2:mg "ties_along"=some (.ref f2)) (k2:PySem.W.keepIn K (.ref f2)=true) (b2:Binds K fd2 ["points"] [])
  (G3:FnOk P w K mg base CX0 3 f3 fd3 ["web","ties"] (spTiedA C K)) (m3:mg "all_tied"=some (.ref f3)) (k3:PySem.W.keepIn K (.ref f3)=true) (b3:Binds K fd3 ["web","ties"] [])
  (G4:FnOk P w K mg base CX0 1 f4 fd4 ["pairs","ties"] (spTurn K)) (m4:mg "in_turn"=some (.ref f4)) (k4:PySem.W.keepIn K (.ref f4)=true) (b4:Binds K fd4 ["pairs","ties"] [])
  (G5:FnOk P w K mg base CX0 3 f5 fd5 ["pairs","end","tie"] spFit) (m5:mg "fit_end"=some (.ref f5)) (k5:PySem.W.keepIn K (.ref f5)=true) (b5:Binds K fd5 ["pairs","end","tie"] []) :
  FnOk P w K mg base CX0 4 f fd ["web","pairs","row"] (spTurns C):=by
 refine F.ok scTurns (λvs H Q E h=>?_) (λcdv A outer s H vs Q E hr h=>?_)
 .obtain⟨x,q,p,m,T,ks,qs,ps,t,rfl,_⟩:=h;rfl
 .obtain ⟨x,q,p,m,T,ks,qs,ps,t,rfl,W,hq,hP,h2,lp,hp,lt,hQ⟩:=h;have hr1:Room 1 _:=hr.mono (by decide);have hr2:Room 2 _:=hr.mono (by decide);refine'⟨_,pss_cons ?s0 (pss_cons ?s1 (pss_cons ?s2 (pss_one ?s3))),?_⟩
  case s0=>exact ps_if (pw_or (pt_cmpR op_lt (pe_callB call_len_seq (by rfl) glen PySem.boot_len (pa_cons (pv 2) pa_nil)) pe_int (nomark _)) (pw_or1 (pt_not (pt_val (pe_call G1 hr1 (by rfl) m1 k1 b1 .nil pass0 (pa_cons (pv 2) pa_nil)))))).pt (pss_one (ps_ret pe_bl)) pss_nil
  case s1=>exact ps_set (i:=3) scTurns.nd rfl (Or.inl rfl) (pe_call G2 hr2 rfl m2 k2 b2 .nil pass0 (pa_cons (pv 2) pa_nil))
  case s2=>exact ps_if (pw_or (pt_not (pt_val (pe_call G3 hr (by rfl) m3 k3 b3 .nil pass0 (pa_cons (pv 0) (pa_cons (pv 3) pa_nil))))) (pw_or1 (pt_not (pt_val (pe_call G4 hr1 (by rfl) m4 k4 b4 .nil pass0 (pa_cons (pv 1) (pa_cons (pv 3) pa_nil))))))).pt (pss_one (ps_ret pe_bl)) pss_nil
  case s3=>exact ps_ret (pe_and (pe_call G5 hr (by rfl) m5 k5 b5 .nil pass0 (pa_cons (pv 1) (pa_cons (pe_ix ix_list (pv 2) pe_int (λ_ _=>rfl)) (pa_cons (pe_ix ix_list (pv 3) pe_int (λ_ _=>rfl)) pa_nil)))) (pe_one (pe_call G5 hr (by rfl) m5 k5 b5 .nil pass0 (pa_cons (pv 1) (pa_cons (pe_ix ix_list (pv 2) (pe_un un_neg pe_int) (λ_ _=>rfl)) (pa_cons (pe_ix ix_list (pv 3) (pe_un un_neg pe_int) (λ_ _=>rfl)) pa_nil))))))
  have no:∀H',Same H H'->¬IsRow (T.map Mt.key) ps t->Q (.bl false) H':=λH' s' z=>hQ false H' ⟨λy=>(by cases y),λy=>absurd y z⟩ s';refine⟨_,rfl,p,_,rfl,.inl (SqL.of hp),_,_,rfl,rfl,_,rfl,?_⟩;refine ite2 (λc=>iteT (no H (Same.refl _) λz=>?_)) (λc=>?_)
  .have:=of_decide_eq_true c;rw[List.length_map] at this;have:=z.1;omega
  have l2:2<=t.length:=by
   have:=of_decide_eq_false (Bool.not_eq_true _ ▸ c);rw[List.length_map] at this;omega
  refine⟨_,rfl,p,t,rfl,SqL.of hp,lt,λbn ibn=>⟨_,rfl,?_⟩⟩;cases bn with
  | false=>exact iteT (no H (Same.refl _) λz=>absurd (ibn.mpr z.2.1) (by simp))
  | true=>
   refine iteF ?_;have hn:t.Nodup:=ibn.mp rfl;refine⟨_,rfl,p,t,rfl,SqL.of hp,lt,λl zs H1 hl s1 h1 hz=>?_⟩;trivial;have la:=alg_len t;have lz:=Paired.length hz;refine⟨_,rfl,_,rfl,x,l,m,T,ks,zs,alg t,rfl,W.same s1,h1,hz,alg_ord t,by omega,λba H2 iba s2=>⟨_,rfl,?_⟩⟩;have s02:=s1.trans s2;cases ba with
   | false=>exact iteT (no H2 s02 λz=>absurd (iba.mpr z.2.2.1) (by simp))
   | true=>
    refine iteF ?_;have ht:=iba.mp rfl;refine⟨_,rfl,_,rfl,q,l,qs,zs,ps,alg t,rfl,s02 q _ hq,s2 l _ h1,TupsH.same s02 hP,TupsH.same s2 hz,by omega,λH3 s3=>⟨_,rfl,?_⟩⟩;have s03:=s02.trans s3;cases ea:altB ((alg t).map λk=>decide (k∈ps)) with
    | false=>exact iteT (no H3 s03 λz=>absurd z.2.2.2.1 (by rw[ea];simp))
    | true=>
     refine iteF ?_;have hp3:=s03 p _ hp;have hl3:=(s2.trans s3) l _ h1;have hz3:=TupsH.same (s2.trans s3) hz;have a0:=atI_get' (xs:=t) (z:=0) (k:=0) rfl (by omega);obtain⟨r0,e0⟩:∃r,zs[0]?=some r:=⟨zs[0]'(by omega),by simp⟩;obtain⟨k0,ek0,hk0,_⟩:=Sx.pair_at (i:=0) (a:=r0) hz3 e0;have b0:atI (zs.map V.ref) 0=some (.ref r0):=atI_nat (j:=0) (by rw[List.getElem?_map,e0];rfl);have g0:(alg t).getD 0 []=k0:=by simp[ek0]
     refine⟨_,rfl,_,rfl,p,_,_,_,rfl,rfl,SqL.of hp3,a0,_,rfl,l,_,_,_,rfl,rfl,SqL.of hl3,b0,q,r0,qs,ps,_,k0,rfl,s03 q _ hq,TupsH.same s03 hP,h2,lp,hk0,λbf H4 ibf s4=>⟨_,rfl,?_⟩⟩;have s04:=s03.trans s4;cases bf with
     | false=>exact iteF (no H4 s04 λz=>absurd (ibf.mpr (by have:=z.2.2.2.2.1;rw[g0] at this;exact this)) (by simp))
     | true=>
      refine iteT ?_;obtain⟨rl,el⟩:∃r,zs[zs.length-1]?=some r:=⟨zs[zs.length-1]'(by omega),by simp⟩;have hz4:=TupsH.same s4 hz3;obtain⟨kl,ekl,hkl,_⟩:=Sx.pair_at (i:=zs.length-1) (a:=rl) hz4 el;have al:atI (t.map V.int) (-1)=some (.int (t.getD (t.length-1) 0)):=by
       refine atI_last (by rw[List.length_map];omega) ?_;rw[List.length_map,List.getElem?_map];have:t[t.length-1]?=some (t[t.length-1]'(by omega)):=by simp
       rw[this];show some (V.int _)=some (V.int _);simp[List.getD,this]
      have bl:atI (zs.map V.ref) (-1)=some (.ref rl):=by
       refine atI_last (by rw[List.length_map];omega) ?_;rw[List.length_map,List.getElem?_map,el];rfl
      have gl:(alg t).getD (t.length-2) []=kl:=by
       rw[show t.length-2=zs.length-1 by omega];simp[ekl]
      refine⟨_,rfl,_,rfl,_,rfl,p,_,_,_,rfl,rfl,SqL.of (s4 p _ hp3),al,_,rfl,_,rfl,l,_,_,_,rfl,rfl,SqL.of (s4 l _ hl3),bl,q,rl,qs,ps,_,kl,rfl,s04 q _ hq,TupsH.same s04 hP,h2,lp,hkl,λbg H5 ibg s5=>hQ bg H5 ?_ (s04.trans s5)⟩;have f0:fitP ps (t.getD 0 0) ((alg t).getD 0 []):=by rw[g0];exact ibf.mp rfl
      constructor
      .intro z;exact⟨l2,hn,ht,ea,f0,by rw[gl];exact ibg.mp z⟩
      .intro z;have:=z.2.2.2.2.2;rw[gl] at this;exact ibg.mpr this
def spAround:Sp:=λvs H Q _=>∃(p:Addr)(t:List Int),vs=[.ref p]/\H p=some (.lst (t.map V.int))/\t.length<=100/\∀(l:Addr)(zs:List Addr)(H':Hp),H l=none->Same H H'->H' l=some (.lst (zs.map V.ref))->TupsH H' zs (rng t)->Q (.ref l) H'
theorem scAround:FnScope ["ring"] ["ring"] (defScope sAround):=⟨rfl,rfl,rfl,by decide +kernel,rfl,by decide +kernel,by decide +kernel⟩
theorem ok_around{f f1:Addr}{fd fd1:FuncData}(F:Fun K "ties_around" "ties_around" sAround f fd)
  (G1:FnOk P w K mg base CX0 2 f1 fd1 ["points"] (spAlong K)) (m1:mg "ties_along"=some (.ref f1)) (k1:PySem.W.keepIn K (.ref f1)=true) (b1:Binds K fd1 ["points"] []):FnOk P w K mg base CX0 3 f fd ["ring"] spAround:=by
 refine F.ok scAround (λvs H Q E h=>?_) (λcdv A outer s H vs Q E hr h=>?_)
 .obtain⟨p,t,rfl,_⟩:=h;rfl
 .obtain⟨p,t,rfl,hp,lt,hQ⟩:=h;refine⟨_,pss_one (ps_ret (pe_call G1 hr (by rfl) m1 k1 b1 .nil pass0 (pa_cons (pe_op op_cat (pv 0) (pe_slice sl_list (pv 0) po_none (po_some pe_int))) pa_nil))),?_⟩;refine⟨_,rfl,_,rfl,_,rfl,p,_,rfl,SqL.of hp,λl1 h1=>?_⟩;rw[cut_map,cutA_take _ (by decide)];have s1:Same H (upd H l1 (.lst ((t.take (1:Int).toNat).map V.int))):=Same.new h1;refine⟨p,l1,_,_,rfl,rfl,s1 p _ hp,upd_same,Nat.le_of_lt (small1000 (by rw[List.length_map,List.length_map,List.length_take];omega)),λl2 h2=>?_⟩;rw[<-List.map_append];have s2:=s1.trans (Same.new (o:=.lst ((t++t.take (1:Int).toNat).map V.int)) h2);refine⟨l2,t++t.take 1,rfl,SqL.of upd_same,by rw[List.length_append,List.length_take];omega,λl zs H3 hl s3 h3 hz=>?_⟩;exact hQ l zs H3 (s2.free hl) (s2.trans s3) h3 hz
def spTurnsR(C:Addr):Sp:=λvs H Q _=>∃(x q p:Addr)(m:Int)(T:List Mt.Tri)(ks:List (List Int))(qs:List Addr)(ps:List (List Int))(t:List Int),vs=[.ref x,.ref q,.ref p]/\WebAt C H x m T ks/\H q=some (.lst (qs.map V.ref))/\TupsH H qs ps/\H p=some (.lst (t.map V.int))/\t.length<=100 ∧
 ∀(b:Bool)(H':Hp),(b=true↔IsRing (T.map Mt.key) ps t)->Same H H'->Q (.bl b) H'
abbrev nmSR:List Str:=["web","pairs","ring","ties"]
theorem scTurnsR:FnScope nmSR ["web","pairs","ring"] (defScope sTurnsR):=⟨rfl,rfl,rfl,by decide +kernel,rfl,by decide +kernel,by decide +kernel⟩
theorem ok_turnsR{f f1 f2 f3 f4 C:Addr}{fd fd1 fd2 fd3 fd4:FuncData}(F:Fun K "turns_ring" "turns_ring" sTurnsR f fd)(glen:mg "len"=none)
  (G1:FnOk P w K mg base CX0 1 f1 fd1 ["points"] (spTwice K)) (m1:mg "none_twice"=some (.ref f1)) (k1:PySem.W.keepIn K (.ref f1)=true) (b1:Binds K fd1 ["points"] [])
  (G2:FnOk P w K mg base CX0 3 f2 fd2 ["ring"] spAround) (m2:mg "ties_around"=some (.ref f2)) (k2:PySem.W.keepIn K (.ref f2)=true) (b2:Binds K fd2 ["ring"] [])
  (G3:FnOk P w K mg base CX0 3 f3 fd3 ["web","ties"] (spTiedA C K)) (m3:mg "all_tied"=some (.ref f3)) (k3:PySem.W.keepIn K (.ref f3)=true) (b3:Binds K fd3 ["web","ties"] [])
  (G4:FnOk P w K mg base CX0 1 f4 fd4 ["pairs","ties"] (spTurn K)) (m4:mg "in_turn"=some (.ref f4)) (k4:PySem.W.keepIn K (.ref f4)=true) (b4:Binds K fd4 ["pairs","ties"] []) :
  FnOk P w K mg base CX0 4 f fd ["web","pairs","ring"] (spTurnsR C):=by
 refine F.ok scTurnsR (λvs H Q E h=>?_) (λcdv A outer s H vs Q E hr h=>?_)
 .obtain⟨x,q,p,m,T,ks,qs,ps,t,rfl,_⟩:=h;rfl
 .obtain ⟨x,q,p,m,T,ks,qs,ps,t,rfl,W,hq,hP,hp,lt,hQ⟩:=h;have hr1:Room 1 _:=hr.mono (by decide);refine'⟨_,pss_cons ?s0 (pss_cons ?s1 (pss_one ?s2)),?_⟩
  case s0=>exact ps_if (pw_or (pt_cmpR op_lt (pe_callB call_len_seq (by rfl) glen PySem.boot_len (pa_cons (pv 2) pa_nil)) pe_int (nomark _)) (pw_or (pt_cmpR op_eq (pe_op op_mod (pe_callB call_len_seq (by rfl) glen PySem.boot_len (pa_cons (pv 2) pa_nil)) pe_int) pe_int (nomark _)) (pw_or1 (pt_not (pt_val (pe_call G1 hr1 (by rfl) m1 k1 b1 .nil pass0 (pa_cons (pv 2) pa_nil))))))).pt (pss_one (ps_ret pe_bl)) pss_nil
  case s1=>exact ps_set (i:=3) scTurnsR.nd rfl (Or.inl rfl) (pe_call G2 hr rfl m2 k2 b2 .nil pass0 (pa_cons (pv 2) pa_nil))
  case s2=>exact ps_ret (pe_and (pe_call G3 hr (by rfl) m3 k3 b3 .nil pass0 (pa_cons (pv 0) (pa_cons (pv 3) pa_nil))) (pe_one (pe_call G4 hr1 (by rfl) m4 k4 b4 .nil pass0 (pa_cons (pv 1) (pa_cons (pv 3) pa_nil)))))
  have no:∀H',Same H H'->¬IsRing (T.map Mt.key) ps t->Q (.bl false) H':=λH' s' z=>hQ false H' ⟨λy=>(by cases y),λy=>absurd y z⟩ s';refine⟨_,rfl,p,_,rfl,.inl (SqL.of hp),_,_,rfl,rfl,_,rfl,?_⟩;refine ite2 (λc=>iteT (no H (Same.refl _) λz=>?_)) (λc=>?_)
  .have:=of_decide_eq_true c;rw[List.length_map] at this;have:=z.1;omega
  have l4:4<=t.length:=by
   have:=of_decide_eq_false (Bool.not_eq_true _ ▸ c);rw[List.length_map] at this;omega
  refine⟨_,rfl,p,_,rfl,.inl (SqL.of hp),_,_,rfl,rfl,(by show(0:Int)<2;decide),rfl,_,rfl,?_⟩;refine ite2 (λc=>iteT (no H (Same.refl _) λz=>?_)) (λc=>?_)
  .have e:=of_decide_eq_true c;injection e with e
   rw[List.length_map] at e;have:=z.2.1;omega
  have ev:t.length % 2=0:=by
   have e:¬((t.length:Int) % 2=1):=λz=>of_decide_eq_false (Bool.not_eq_true _ ▸ c) (by rw[List.length_map];exact congrArg V.int z);omega
  refine⟨_,rfl,p,t,rfl,SqL.of hp,by omega,λbn ibn=>⟨_,rfl,?_⟩⟩;cases bn with
  | false=>exact iteT (no H (Same.refl _) λz=>absurd (ibn.mpr z.2.2.1) (by simp))
  | true=>
   refine iteF ?_;have hn:t.Nodup:=ibn.mp rfl;refine⟨_,rfl,p,t,rfl,hp,lt,λl zs H1 hl s1 h1 hz=>?_⟩;trivial;have la:=rng_len (t:=t) (by omega);refine⟨_,rfl,_,rfl,x,l,m,T,ks,zs,rng t,rfl,W.same s1,h1,hz,alg_ord _,by omega,λba H2 iba s2=>⟨_,rfl,?_⟩⟩;have s02:=s1.trans s2;cases ba with
   | false=>exact iteF (no H2 s02 λz=>absurd (iba.mpr z.2.2.2.1) (by simp))
   | true=>
    refine iteT ?_;have ht:=iba.mp rfl;refine⟨_,rfl,_,rfl,q,l,qs,zs,ps,rng t,rfl,s02 q _ hq,s2 l _ h1,TupsH.same s02 hP,TupsH.same s2 hz,by omega,λH3 s3=>hQ _ H3 ?_ (s02.trans s3)⟩;exact⟨λz=>⟨l4,ev,hn,ht,z⟩,λz=>z.2.2.2.2⟩
def outI(t u:List Int):List Int:=t.filter λx=>!decide (x∈u)
def spOnly:Sp:=λvs H Q _=>∃a b:Addr,vs=[.ref a,.ref b] ∧
  ((∃t u:List Int,H a=some (.lst (t.map V.int))/\H b=some (.lst (u.map V.int))/\t.length<=900/\∀l H',H l=none->Same H H'->H' l=some (.lst ((outI t u).map V.int))->Q (.ref l) H') ∨
   ∃(rs qs:List Addr)(ts us:List (List Int)),H a=some (.lst (rs.map V.ref))/\H b=some (.lst (qs.map V.ref))/\TupsH H rs ts/\TupsH H qs us/\ts.length<=900/\∀l zs H',H l=none->Same H H'->H' l=some (.lst (zs.map V.ref))->TupsH H' zs (Bt.onl ts us)->Q (.ref l) H')
theorem scOnly:FnScope ["one","other"] ["one","other"] (defScope sOnly):=⟨rfl,rfl,rfl,by decide +kernel,rfl,by decide +kernel,by decide +kernel⟩
abbrev XO(P:Program)(w:World)(K:W.Frag)(mg:Str->Option Value)(base:Heap)(f:Addr)(cdv:Value)(A:Around)(outer:List Env)(s:Shared)(H:Hp)(E:XK):Cx:=(cxOf CX0 P w K mg base ["one","other"] "only_in" (defScope sOnly) f cdv A outer s H E).nox
def compO:Scope:={kind:=.function,names:=[(Str.ofString ".0",.local),(Str.ofString "tie",.local),(Str.ofString "other",.free)],isGenerator:=false,isCoroutine:=false,more:=[]}
theorem nd_compO:([".0","tie","other"]:List Str).Nodup:=by decide +kernel
theorem capsO{f:Addr}{cdv:Value}{A:Around}{outer:List Env}{s:Shared}{H:Hp}{E:XK}:Caps (XO P w K mg base f cdv A outer s H E) compO [(Str.ofString "other",s.heap.objs.size+1)] [".0","tie"] ["other"] [1]:=by
 have e1:(XO P w K mg base f cdv A outer s H E).env.cells=[(Str.ofString "other",s.heap.objs.size+1)]:=by rfl
 have e2:(relabel compO (XO P w K mg base f cdv A outer s H E).env).names=[(Str.ofString ".0",.local),(Str.ofString "tie",.local),(Str.ofString "other",.cell)]:=by rfl
 refine⟨rfl,λx c h=>?_,rfl,by decide +kernel,by decide +kernel,λx hx=>?_,rfl,λi x e=>?_⟩
 .have hx:(x=Str.ofString "other"/\c=s.heap.objs.size+1):=by
   have:=PySem.mem_of_lookup h;simpa using this
  obtain⟨rfl,rfl⟩:=hx;rw[e1];rfl
 .rw [e2] at hx;have hx:x=Str.ofString "other":=by
   rcases hx with hx|hx
   all_goals
    have:=PySem.mem_of_lookup hx;simpa using this
  subst hx;exact⟨_,rfl⟩
 .match i,e with
  | 0,e=>
   cases(Option.some.inj e);exact⟨1,rfl,rfl,rfl,rfl,by rw[e2];rfl⟩
  | n+1,e=>cases e
theorem ok_only{f:Addr}{fd:FuncData}(F:Fun K "only_in" "only_in" sOnly f fd):FnOk P w K mg base CX0 1 f fd ["one","other"] spOnly:=by
 refine F.ok scOnly (λvs H Q E h=>?_) (λcdv A outer s H vs Q E hr h=>?_)
 .obtain⟨a,b,rfl,_⟩:=h;rfl
 .obtain ⟨a,b,rfl,h⟩:=h;have hu:=hu_of hr;refine'⟨_,pss_one (ps_ret ?cc),?_⟩
  case cc=>exact pe_comp (g:=gName 1) (own:=[".0","tie"]) (caps:=["other"]) (js:=[1]) rfl capsO (pi_list (pv 0)) (λpins C s H1 fp=>pg_name (i:=1) nd_compO rfl (Or.inl rfl) (Or.inr rfl)) (λpins C s H1 fp=>pts_one (pt_cmpR ((op_notInSK K rfl).or (op_notInTK K rfl hu)) (pv 1) (pv 2) (by with_unfolding_all rfl))) (λpins C s H1 fp=>pv 1)
  rcases h with⟨t,u,ha,hb,lt,hQ⟩|⟨rs,qs,ts,us,ha,hb,hT,hU,lt,hQ⟩
  .refine ⟨_,rfl,a,rfl,⟨_,SqL.of ha⟩,λD hD=>?_⟩;refine turns_list (K:=K) (a:=a) (xs:=t.map V.int) (λi ys σ H5=>∃(e0 e1:Option V),ys=(outI (t.take i) u).map V.int/\σ=[e0,e1,some (.ref b)]/\Same H H5/\H5 D=some (.lst ys)) ⟨none,none,rfl,rfl,Same.new' hD,upd_same⟩ ?_ ?_ ?_
   .rintro i ys σ H5 ⟨e0,e1,rfl,rfl,s5,h5⟩;refine⟨h5,small1000 ?_,SqL.of (s5 a _ ha)⟩;have:=List.length_filter_le (λx=>!decide (x∈u)) (t.take i);rw[List.length_take] at this;rw[List.length_map];unfold outI;omega
   .rintro i x ys σ H5 hi ⟨e0,e1,rfl,rfl,s5,h5⟩;have hil:i<(t.map V.int).length:=(List.getElem?_eq_some_iff.mp hi).1;obtain⟨y,rfl,ey⟩:=map_int_at hi;have ef:outI (t.take (i+1)) u=outI (t.take i) u++outI [y] u:=by
     unfold outI;rw[List.take_succ,ey,List.filter_append];rfl
    unfold gName;dsimp only;refine⟨_,rfl,_,rfl,.inl ⟨b,_,rfl,.inl (SqL.of (s5 b _ hb)),rfl,flat_ints u,_,rfl,?_⟩⟩;rw[if_pos rfl,inV_ints];refine ite2 (λc=>?_) (λc=>?_)
    .rw[show outI [y] u=[y] by unfold outI;rw[List.filter_cons,if_pos c];rfl] at ef;refine⟨_,rfl,h5,Nxt.mk hil ⟨_,_,by rw[ef,List.map_append];rfl,rfl,λb o e=>?_,upd_same⟩⟩;rw[upd_ne (ne_of_none e hD)];exact s5 b o e
    .rw[show outI [y] u=[] by unfold outI;rw[List.filter_cons,if_neg c];rfl,List.append_nil] at ef;exact Nxt.mk hil ⟨_,_,by rw[ef],rfl,s5,h5⟩
   .rintro ys σ0 H5 ⟨e0,e1,rfl,rfl,s5,h5⟩;rw[List.length_map,List.take_length] at h5;exact hQ D H5 hD s5 h5
  .have lq:=Paired.length hT;refine⟨_,rfl,a,rfl,⟨_,SqL.of ha⟩,λD hD=>?_⟩;refine turns_list (K:=K) (a:=a) (xs:=rs.map V.ref) (λi ys σ H5=>∃(zs:List Addr)(e0 e1:Option V),ys=zs.map V.ref/\σ=[e0,e1,some (.ref b)]/\Same H H5/\H5 D=some (.lst ys)/\TupsH H5 zs (Bt.onl (ts.take i) us)) ⟨[],none,none,rfl,rfl,Same.new' hD,upd_same,.nil⟩ ?_ ?_ ?_
   .rintro i ys σ H5 ⟨zs,e0,e1,rfl,rfl,s5,h5,hz⟩;refine⟨h5,small1000 ?_,SqL.of (s5 a _ ha)⟩;have h1:=Paired.length hz;have:=List.length_filter_le (λx=>!decide (x∈us)) (ts.take i);rw[List.length_take] at this;rw[List.length_map,h1];unfold Bt.onl;omega
   .rintro i x ys σ H5 hi ⟨zs,e0,e1,rfl,rfl,s5,h5,hz⟩;have hil:i<(rs.map V.ref).length:=(List.getElem?_eq_some_iff.mp hi).1;obtain⟨r,y,rfl,ey,hr5,ny⟩:=tie_at (TupsH.sm hT s5) hi;have ef:Bt.onl (ts.take (i+1)) us=Bt.onl (ts.take i) us++Bt.onl [y] us:=by
     unfold Bt.onl;rw[List.take_succ,ey,List.filter_append];rfl
    unfold gName;dsimp only;refine⟨_,rfl,_,rfl,.inr ⟨r,y,b,qs,us,rfl,hr5,rfl,SqL.of (s5 b _ hb),TupsH.sm hU s5,_,rfl,?_⟩⟩;rw[any_mem];refine ite2 (λc=>?_) (λc=>?_)
    .rw [show Bt.onl [y] us=[y] by unfold Bt.onl;rw[List.filter_cons,if_pos c];rfl] at ef;refine⟨_,rfl,h5,Nxt.mk hil ⟨zs++[r],_,_,by rw[List.map_append];rfl,rfl,λb o e=>?_,upd_same,?_⟩⟩
     .rw[upd_ne (ne_of_none e hD)];exact s5 b o e
     .rw[ef];refine TupsH.tu (paired_snoc hz ⟨hr5,ny⟩) λb xs e=>?_;rw[upd_ne (λz=>by subst z;rw[h5] at e;cases e)];exact e
    .rw[show Bt.onl [y] us=[] by unfold Bt.onl;rw[List.filter_cons,if_neg c];rfl,List.append_nil] at ef;exact Nxt.mk hil ⟨zs,_,_,rfl,rfl,s5,h5,by rw[ef];exact hz⟩
   .rintro ys σ0 H5 ⟨zs,e0,e1,rfl,rfl,s5,h5,hz⟩;rw[List.length_map,lq,List.take_length] at hz;exact hQ D zs H5 hD s5 h5 hz
def spNby:Sp:=λvs H Q _=>∃(p:Addr)(rs:List Addr)(D:List (List Int)),vs=[.ref p]/\H p=some (.lst (rs.map V.ref))/\TupsH H rs D/\(∀t∈D,Bt.Tie t)/\D.length<=100 ∧
 ∀dn kvs H',Same H H'->NbS H' H dn (Bt.dir D) kvs->Q (.ref dn) H'
abbrev nmB:List Str:=["ties","neighbours","a","b"]
theorem scNby:FnScope nmB ["ties"] (defScope sNby):=⟨rfl,rfl,rfl,by decide +kernel,rfl,by decide +kernel,by decide +kernel⟩
abbrev XB(P:Program)(w:World)(K:W.Frag)(mg:Str->Option Value)(base:Heap)(f:Addr)(cdv:Value)(A:Around)(outer:List Env)(s:Shared)(H:Hp)(E:XK):Cx:=(cxOf CX0 P w K mg base nmB "neighbours_by" (defScope sNby) f cdv A outer s H E).nox
def tPut(H0:Hp)(i j:Nat):TS:=λD σ H=>∃(dn:Addr)(E:List (Int×Int))(kvs:List (Key×V))(x y:Int),σ[1]?=some (some (.ref dn))/\σ[i]?=some (some (.int x))/\σ[j]?=some (some (.int y))/\Same H0 H/\NbS H H0 dn E kvs/\E.length<=300 ∧
 ∀kvs' H',Same H0 H'->NbS H' H0 dn (E++[(x,y)]) kvs'->D.nx σ H'
theorem put_ok{H0 H:Hp}{dn:Addr}{E:List (Int×Int)}{kvs:List (Key×V)}{x y:Int}{σ:L2.St}{D:Ends}(s0:Same H0 H)(N:NbS H H0 dn E kvs)(lE:E.length<=300)(k:∀kvs' H',Same H0 H'->NbS H' H0 dn (E++[(x,y)]) kvs'->D.nx σ H'){l:Addr}(hl:H l=none) :
  (∀v,valV kvs (.inl x)=some v->∃a,v=.ref a/\∃xs,upd H l (.lst []) a=some (.lst xs)/\xs.length<=900/\D.nx σ (upd (upd H l (.lst [])) a (.lst (xs++[.int y])))) ∧
  (valV kvs (.inl x)=none->D.nx σ (upd (upd (upd H l (.lst [])) dn (.dK (putK kvs (.inl x) (.ref l)))) l (.lst [.int y]))):=by
 have s1:Same H (upd H l (.lst [])):=Same.new' hl;refine⟨λv e=>?_,λe=>?_⟩
 .obtain ⟨a,rfl,ha,h0,na⟩:=N.at_ x v e;refine⟨a,rfl,_,s1 a _ ha,?_,?_⟩
  .rw [List.length_map];have:(Bt.nbE E x).length<=E.length:=by
    unfold Bt.nbE;rw[List.length_map];exact List.length_filter_le _ _
   omega
  .refine k kvs _ (λb o q=>?_) (NbS.there (N.same s1) e);rw[upd_ne (ne_of_none q h0)];exact s1 b o (s0 b o q)
 .have hl0:=s0.free hl;refine k _ _ (λb o q=>?_) (N.new e hl hl0);have n1:=ne_of_none q hl0;rw[upd_ne n1,upd_ne (ne_of_none q N.h0),upd_ne n1];exact s0 b o q
theorem ok_nby{f:Addr}{fd:FuncData}(F:Fun K "neighbours_by" "neighbours_by" sNby f fd):FnOk P w K mg base CX0 1 f fd ["ties"] spNby:=by
 refine F.ok scNby (λvs H Q E h=>?_) (λcdv A outer s H vs Q E hr h=>?_)
 .obtain⟨p,rs,D,rfl,_⟩:=h;rfl
 .obtain ⟨p,rs,T,rfl,hp,hT,tD,lD,hQ⟩:=h;have lq:=Paired.length hT;refine'⟨_,pss_cons (ps_set (i:=1) scNby.nd rfl (Or.inl rfl) pe_dnewK) (pss_cons (ps_for ?qa ?qb ?qc ?qd (pss_cons ?b0 (pss_one ?b1))) (pss_one (ps_ret (pv 1)))),?_⟩
  case qa=>exact PassesOwn.never
  case qb=>exact rfl
  case qc=>exact pi_list (pv 0)
  case qd=>exact pg_tup rfl (pgs_cons (pg_name (i:=2) scNby.nd rfl (Or.inl rfl)) (pgs_cons (pg_name (i:=3) scNby.nd rfl (Or.inl rfl)) pgs_nil))
  case b0=>
   refine' PS.imp (t':=tPut H 2 3) (ps_expr (pe_bm PySem.F.plainAttrs_list PySem.F.slot_list_append PySem.F.type_list_append mt_append (pe_bm PySem.F.plainAttrs_dict PySem.F.slot_dict_setdefault PySem.F.type_dict_setdefault mt_setdef (pv 1) (pa_cons (pv 2) (pa_cons (pe_lst pa_nil) pa_nil))) (pa_cons (pv 3) pa_nil))) ?_;rintro D σ H1 ⟨dn,E,kvs,x,y,e1,e2,e3,s0,N,lE,k⟩;have ln:=N.len;refine⟨_,e1,.inr (.inr (.inl ⟨rfl,.inl ⟨kvs,N.hd⟩⟩)),_,e2,Nat.zero_le _,λl hl=>?_⟩;have s1:Same H1 (upd H1 l (.lst [])):=Same.new' hl;obtain⟨k1,k2⟩:=put_ok s0 N lE k hl;refine⟨dn,kvs,.inl x,.ref l,rfl,rfl,s1 dn _ N.hd,small1000 (by omega),λv e=>?_,λe=>?_⟩
   .obtain⟨a,rfl,xs,hx,lx,kk⟩:=k1 v e;exact⟨.inl ⟨rfl,_,SqL.of hx⟩,_,e3,a,xs,_,rfl,rfl,hx,small1000 (by omega),kk⟩
   .have nl:dn≠l:=ne_of_none N.hd hl;have hx:upd (upd H1 l (.lst [])) dn (.dK (putK kvs (.inl x) (.ref l))) l=some (.lst []):=by rw[upd_ne (Ne.symm nl),upd_same]
    exact⟨.inl ⟨rfl,_,SqL.of hx⟩,_,e3,l,[],_,rfl,rfl,hx,small1000 (Nat.zero_le _),k2 e⟩
  case b1=>
   refine' PS.imp (t':=tPut H 3 2) (ps_expr (pe_bm PySem.F.plainAttrs_list PySem.F.slot_list_append PySem.F.type_list_append mt_append (pe_bm PySem.F.plainAttrs_dict PySem.F.slot_dict_setdefault PySem.F.type_dict_setdefault mt_setdef (pv 1) (pa_cons (pv 3) (pa_cons (pe_lst pa_nil) pa_nil))) (pa_cons (pv 2) pa_nil))) ?_;rintro D σ H1 ⟨dn,E,kvs,x,y,e1,e2,e3,s0,N,lE,k⟩;have ln:=N.len;refine⟨_,e1,.inr (.inr (.inl ⟨rfl,.inl ⟨kvs,N.hd⟩⟩)),_,e2,Nat.zero_le _,λl hl=>?_⟩;have s1:Same H1 (upd H1 l (.lst [])):=Same.new' hl;obtain⟨k1,k2⟩:=put_ok s0 N lE k hl;refine⟨dn,kvs,.inl x,.ref l,rfl,rfl,s1 dn _ N.hd,small1000 (by omega),λv e=>?_,λe=>?_⟩
   .obtain⟨a,rfl,xs,hx,lx,kk⟩:=k1 v e;exact⟨.inl ⟨rfl,_,SqL.of hx⟩,_,e3,a,xs,_,rfl,rfl,hx,small1000 (by omega),kk⟩
   .have nl:dn≠l:=ne_of_none N.hd hl;have hx:upd (upd H1 l (.lst [])) dn (.dK (putK kvs (.inl x) (.ref l))) l=some (.lst []):=by rw[upd_ne (Ne.symm nl),upd_same]
    exact⟨.inl ⟨rfl,_,SqL.of hx⟩,_,e3,l,[],_,rfl,rfl,hx,small1000 (Nat.zero_le _),k2 e⟩
  intro dn hdn;have s1:Same H (upd H dn (.dK [])):=Same.new' hdn;have N0:NbS (upd H dn (.dK [])) H dn [] []:=⟨upd_same,⟨[],rfl⟩,List.nodup_nil,λp v e=>(nomatch e),λp q a e=>(nomatch e),λp=>⟨λ_=>rfl,λ_=>rfl⟩,Nat.le_refl _,hdn⟩;generalize upd H dn (.dK [])=H1 at s1 N0 ⊢;refine⟨_,rfl,p,rfl,⟨_,SqL.of (s1 p _ hp)⟩,for_list (K:=K) (a:=p) (xs:=rs.map V.ref)
   (λi σ H2=>∃(kvs:List (Key×V))(e2 e3:Option V),σ=[some (.ref p),some (.ref dn),e2,e3]/\Same H H2/\NbS H2 H dn (Bt.dir (T.take i)) kvs)
   ⟨[],none,none,rfl,s1,N0⟩ (λi σ H2 _ ⟨_,_,_,_,s2,_⟩=>SqL.of (s2 p _ hp)) ?_ ?_⟩
  .rintro i x σ H2 hi ⟨kvs,e2,e3,rfl,s2,N⟩;obtain⟨r,t,rfl,et,hr2,_⟩:=tie_at (TupsH.sm hT s2) hi;obtain⟨a,b,rfl,hab⟩:=tD t (List.mem_of_getElem? et);have ed:Bt.dir (T.take (i+1))=Bt.dir (T.take i)++[(a,b)]++[(b,a)]:=by
    unfold Bt.dir;rw[List.take_succ,et,List.flatMap_append,List.append_assoc];rfl
   have le:(Bt.dir (T.take i)).length<=200:=by
    have key:∀L:List (List Int),(Bt.dir L).length<=2*L.length:=by
     intro L
     induction L with
     | nil=>exact Nat.le_refl _
     | cons u L ih=>
      rw[Bt.dir_cons,List.length_append,List.length_cons];have:(Bt.dir1 u).length<=2:=by unfold Bt.dir1;split<;>simp
      omega
    have:=key (T.take i);rw[List.length_take] at this;omega
   refine⟨r,_,rfl,SqT.of hr2,rfl,_,_,rfl,_,_,rfl,rfl,?_⟩;dsimp only[List.set_cons_succ,List.set_cons_zero];refine⟨dn,_,kvs,a,b,rfl,rfl,rfl,s2,N,by omega,λkvs2 H3 s3 N3=>?_⟩;refine⟨dn,_,kvs2,b,a,rfl,rfl,rfl,s3,N3,by rw[List.length_append];show _+1<=_;omega,λkvs3 H4 s4 N4=>?_⟩;exact⟨kvs3,_,_,rfl,s4,by rw[ed];exact N4⟩
  .rintro σ H2 ⟨kvs,e2,e3,rfl,s2,N⟩;rw[List.length_map,lq,List.take_length] at N;exact⟨_,rfl,hQ dn kvs H2 s2 N⟩
end
theorem big_ok{n:Nat}(h:n<=100000):n<sizeLine:=Nat.lt_of_le_of_lt h (by decide)
structure Way(D:List (List Int))(s:Int)(pts ah:List Int):Prop where
 h0:pts[0]?=some s
 nd:pts.Nodup
 ch:∀(i:Nat)(x y:Int),pts[i]?=some x->pts[i+1]?=some y->y∈Bt.nb D x
 ne:∀p∈pts,Bt.nb D p≠[]
 ah:(pts=[s]/\ah=(Bt.nb D s).take 1)\/(2<=pts.length/\(Bt.nb D s)[0]?=pts[1]?/\∃x,pts[pts.length-1]?=some x/\ah=outI (Bt.nb D x) pts)
theorem Way.start{D:List (List Int)}{s:Int}(h:Bt.nb D s≠[]):Way D s [s] ((Bt.nb D s).take 1):=
 ⟨rfl,by simp,λi x y h1 h2=>by simp at h2,λp hp=>by rw[List.mem_singleton] at hp;exact hp ▸ h,.inl ⟨rfl,rfl⟩⟩
theorem mem_outI{t u:List Int}{x:Int}:x∈outI t u↔x∈t/\x∉u:=by
 unfold outI;rw[List.mem_filter];simp
theorem Way.step{D:List (List Int)}(tD:∀t∈D,Bt.Tie t){s:Int}{pts rest:List Int}{x:Int}(h:Way D s pts (x::rest)):Way D s (pts++[x]) (outI (Bt.nb D x) (pts++[x])):=by
 have hl:0<pts.length:=by
  have:=h.h0;obtain⟨a,_⟩:=List.getElem?_eq_some_iff.mp this;exact a
 obtain ⟨z,ez,hz,nz,h1⟩:∃z,pts[pts.length-1]?=some z/\x∈Bt.nb D z/\x∉pts/\(Bt.nb D s)[0]?=(pts++[x])[1]?:=by
  rcases h.ah with⟨e,ea⟩|⟨l2,e1,z,ez,ea⟩
  .have hx:x∈Bt.nb D s:=List.mem_of_mem_take (ea ▸ List.Mem.head _);subst e;refine⟨s,rfl,hx,λw=>?_,?_⟩
   .rw[List.mem_singleton] at w;exact((Bt.mem_nb tD).mp hx).1 w.symm
   .cases q:Bt.nb D s with
    | nil=>rw[q] at hx;cases hx
    | cons a r=>
     rw[q] at ea;have:x=a:=by simpa using congrArg List.head? ea
     rw[this];rfl
  .have hx:x∈outI (Bt.nb D z) pts:=ea ▸ List.Mem.head _;obtain⟨a,b⟩:=mem_outI.mp hx;exact⟨z,ez,a,b,by rw[e1,List.getElem?_append_left (by omega)]⟩
 refine⟨by rw[List.getElem?_append_left hl];exact h.h0,?_,λi a b ha hb=>?_,λp hp=>?_,.inr ⟨by rw[List.length_append];show 2<=_+1;omega,h1,x,?_,rfl⟩⟩
 .rw[List.nodup_append];refine⟨h.nd,by simp,λa ha b hb w=>?_⟩;rw[List.mem_singleton] at hb;exact nz (hb ▸ w ▸ ha)
 .have li:i+1<pts.length+1:=by
   obtain⟨w,_⟩:=List.getElem?_eq_some_iff.mp hb;rw[List.length_append] at w;exact w
  rw[List.getElem?_append_left (by omega)] at ha;by_cases c:i+1<pts.length
  .rw[List.getElem?_append_left c] at hb;exact h.ch i a b ha hb
  .have:i=pts.length-1:=by omega
   subst this;rw[ez] at ha;cases ha;rw[List.getElem?_append_right (by omega)] at hb;rw[show pts.length-1+1-pts.length=0 by omega] at hb;cases hb;exact hz
 .rcases List.mem_append.mp hp with w|w
  .exact h.ne p w
  .rw[List.mem_singleton] at w;subst w;intro q;have:=Bt.nb_symm tD hz;rw[q] at this;cases this
 .rw[List.getElem?_append_right (by rw[List.length_append];show _<=_+1-1;omega),List.length_append];show[x][pts.length+1-1-pts.length]?=_;rw[show pts.length+1-1-pts.length=0 by omega];rfl
theorem Way.done{D:List (List Int)}{s:Int}{pts:List Int}(h:Way D s pts []):Bt.Walked D s pts:=by
 rcases h.ah with⟨e,ea⟩|⟨l2,e1,z,ez,ea⟩
 .exfalso;have:=h.ne s (by rw[e];exact .head _);cases q:Bt.nb D s with
  | nil=>exact this q
  | cons a r=>rw[q] at ea;cases ea
 .refine ⟨l2,h.h0,e1,h.nd,h.ch,λx ex q hq=>?_⟩;rw[ez] at ex;cases ex;by_cases c:q∈pts
  .exact c
  .have:q∈outI (Bt.nb D z) pts:=mem_outI.mpr ⟨hq,c⟩;rw[<-ea] at this;cases this
theorem dir_len:∀L:List (List Int),(Bt.dir L).length<=2*L.length
 | []=>Nat.le_refl _
 | u::L=>by
  rw[Bt.dir_cons,List.length_append,List.length_cons];have h1:(Bt.dir1 u).length<=2:=by unfold Bt.dir1;split<;>simp
  have h2:=dir_len L;omega
theorem key_len{H H0:Hp}{dn:Addr}{D:List (List Int)}{kvs:List (Key×V)}(N:NbS H H0 dn (Bt.dir D) kvs){pts:List Int}(nd:pts.Nodup)(ne:∀p∈pts,Bt.nb D p≠[]):pts.length<=2*D.length:=by
 have h1:(pts.map (Sum.inl:Int->Key)).Nodup:=List.Pairwise.map (Sum.inl:Int->Key) (λa b (h:a≠b) w=>h (by injection w)) nd;have h2:(pts.map (Sum.inl:Int->Key)) ⊆ kvs.map (·.1):=λk hk=>by
  obtain⟨p,hp,rfl⟩:=List.mem_map.mp hk;cases q:valV kvs (.inl p) with
  | none=>exact absurd ((N.iff p).mp q) (ne p hp)
  | some v=>exact valV_in q
 have h3:=h1.length_le_of_subset h2;rw[List.length_map,List.length_map] at h3;have h4:=N.len;have h5:=dir_len D;omega
section
variable{P:Program}{w:World}{K:W.Frag}{mg:Str->Option Value}{base:Heap}
def spFoll:Sp:=λvs H Q _=>∃(dn:Addr)(s:Int)(H0:Hp)(D:List (List Int))(kvs:List (Key×V)),vs=[.ref dn,.int s]/\NbS H H0 dn (Bt.dir D) kvs/\(∀t∈D,Bt.Tie t)/\D.length<=100/\Bt.nb D s≠[] ∧
 ∀l pts H',H l=none->Same H H'->H' l=some (.lst (pts.map V.int))->Bt.Walked D s pts->pts.length<=200->Q (.ref l) H'
abbrev nmF:List Str:=["neighbours","start","points","ahead"]
theorem scFoll:FnScope nmF ["neighbours","start"] (defScope sFoll):=⟨rfl,rfl,rfl,by decide +kernel,rfl,by decide +kernel,by decide +kernel⟩
abbrev XF(P:Program)(w:World)(K:W.Frag)(mg:Str->Option Value)(base:Heap)(f:Addr)(cdv:Value)(A:Around)(outer:List Env)(s:Shared)(H:Hp)(E:XK):Cx:=(cxOf CX0 P w K mg base nmF "followed" (defScope sFoll) f cdv A outer s H E).nox
theorem ok_foll{f fO:Addr}{fd fdO:FuncData}(F:Fun K "followed" "followed" sFoll f fd)
  (GO:FnOk P w K mg base CX0 1 fO fdO ["one","other"] spOnly) (mO:mg "only_in"=some (.ref fO)) (kO:PySem.W.keepIn K (.ref fO)=true) (bO:Binds K fdO ["one","other"] []):FnOk P w K mg base CX0 2 f fd ["neighbours","start"] spFoll:=by
 refine F.ok scFoll (λvs H Q E h=>?_) (λcdv A outer s H vs Q E hr h=>?_)
 .obtain⟨dn,z,H0,D,kvs,rfl,_⟩:=h;rfl
 .obtain ⟨dn,z,H0,D,kvs,rfl,N,tD,lD,nz,hQ⟩:=h;have hu:=hu_of hr;refine'⟨_,pss_cons ?s0 (pss_cons ?s1 (pss_cons (ps_while ?wa ?wc (pss_cons ?b0 (pss_one ?b1))) (pss_one (ps_ret (pv 2))))),?_⟩
  case s0=>exact ps_set (i:=2) scFoll.nd rfl (Or.inl rfl) (pe_lst (pa_cons (pv 1) pa_nil))
  case s1=>exact ps_set (i:=3) scFoll.nd rfl (Or.inl rfl) (pe_slice sl_list (pe_dget hu (pv 0) (pv 1) (λ_ _=>rfl)) po_none (po_some pe_int))
  case wa=>exact PassesOwn.never
  case wc=>exact pt_truth (pv 3) (λ_=>rfl)
  case b0=>exact ps_expr (pe_bm PySem.F.plainAttrs_list PySem.F.slot_list_append PySem.F.type_list_append mt_append (pv 2) (pa_cons (pe_ix ix_list (pv 3) pe_int (λ_ _=>rfl)) pa_nil))
  case b1=>exact ps_set (i:=3) scFoll.nd rfl (Or.inl rfl) (pe_call GO hr rfl mO kO bO .nil pass0 (pa_cons (pe_dget hu (pv 0) (pe_ix ix_list (pv 3) pe_int (λ_ _=>rfl)) (λ_ _=>rfl)) (pa_cons (pv 2) pa_nil)))
  refine⟨_,rfl,(by show 1<=sizeLine;decide),λlp hlp=>?_⟩;have s1:Same H (upd H lp (.lst [.int z])):=Same.new' hlp;have hp1:upd H lp (.lst [.int z]) lp=some (.lst ([z].map V.int)):=upd_same;generalize upd H lp (.lst [.int z])=H1 at s1 hp1 ⊢;obtain⟨a,hg,ha⟩:=(N.same s1).get nz;trivial;refine⟨_,rfl,_,rfl,dn,.ref a,rfl,hg,_,rfl,a,_,rfl,SqL.of ha,λla hla=>?_⟩;rw[cut_map,cutA_take _ (by decide)];have s2:Same H1 (upd H1 la (.lst (((Bt.nbE (Bt.dir D) z).take (1:Int).toNat).map V.int))):=Same.new' hla;have ha2:upd H1 la (.lst (((Bt.nbE (Bt.dir D) z).take (1:Int).toNat).map V.int)) la=some (.lst (((Bt.nb D z).take 1).map V.int)):=upd_same;have nla:la≠lp:=λq=>by rw[q,hp1] at hla;cases hla
  generalize upd H1 la (.lst (((Bt.nbE (Bt.dir D) z).take (1:Int).toNat).map V.int))=H2 at s2 ha2 ⊢;have s02:=s1.trans s2;trivial;refine⟨λm σ H3=>∃(la:Addr)(pts ah:List Int),σ=[some (.ref dn),some (.int z),some (.ref lp),some (.ref la)]/\Same H H3/\H3 lp=some (.lst (pts.map V.int))/\H3 la=some (.lst (ah.map V.int))/\la≠lp/\Way D z pts ah/\m+pts.length=300,⟨299,la,[z],_,rfl,s02,s2 lp _ hp1,ha2,nla,Way.start nz,rfl⟩,?_⟩;rintro m σ H3 ⟨la,pts,ah,rfl,s3,hp3,ha3,nl3,wy,hm⟩;have lpt:=key_len N wy.nd wy.ne;refine⟨_,rfl,_,.inl ⟨_,SqL.of ha3,rfl⟩,?_⟩;cases ah with
  | nil=>
   rw[show(!(([]:List Int).map V.int).isEmpty)=false from rfl];refine iteF ?_;exact⟨_,rfl,hQ lp pts H3 hlp s3 hp3 wy.done (by omega)⟩
  | cons x rest=>
   rw[show(!((x::rest).map V.int).isEmpty)=true from rfl];refine iteT ?_;have wy':=wy.step tD;have g0:atI ((x::rest).map V.int) 0=some (.int x):=atI_get' (k:=0) rfl (by simp);have nx:Bt.nb D x≠[]:=wy'.ne x (List.mem_append_right _ (.head _));refine⟨λσ H4=>∃(la:Addr)(ah:List Int),σ=[some (.ref dn),some (.int z),some (.ref lp),some (.ref la)]/\Same H H4/\H4 lp=some (.lst ((pts++[x]).map V.int))/\H4 la=some (.lst (ah.map V.int))/\la≠lp/\Way D z (pts++[x]) ah,λσ' H' ⟨la,ah,e,q1,q2,q3,q4,q5⟩=>⟨m-1,by omega,la,_,ah,e,q1,q2,q3,q4,q5,by rw[List.length_append];show _+(_+1)=_;omega⟩,?_⟩;refine⟨_,rfl,.inl ⟨rfl,_,SqL.of hp3⟩,_,rfl,la,_,_,_,rfl,rfl,SqL.of ha3,g0,lp,_,_,rfl,rfl,hp3,small1000 (by rw[List.length_map];omega),?_⟩;have s4:Same H (upd H3 lp (.lst (pts.map V.int++[.int x]))):=λb o e=>by rw[upd_ne (ne_of_none e hlp)];exact s3 b o e
   have hp4:upd H3 lp (.lst (pts.map V.int++[.int x])) lp=some (.lst ((pts++[x]).map V.int)):=by rw[upd_same,List.map_append];rfl
   have ha4:upd H3 lp (.lst (pts.map V.int++[.int x])) la=some (.lst ((x::rest).map V.int)):=by rw[upd_ne nl3];exact ha3
   generalize upd H3 lp (.lst (pts.map V.int++[.int x]))=H4 at s4 hp4 ha4 ⊢;obtain⟨a,hg,ha⟩:=(N.same s4).get nx;have ln:(Bt.nbE (Bt.dir D) x).length<=200:=by
    have h1:(Bt.nbE (Bt.dir D) x).length<=(Bt.dir D).length:=by
     unfold Bt.nbE;rw[List.length_map];exact List.length_filter_le _ _
    have h2:=dir_len D;omega
   refine⟨_,rfl,_,rfl,la,_,_,_,rfl,rfl,SqL.of ha4,g0,dn,.ref a,rfl,hg,_,rfl,a,lp,rfl,.inl ⟨_,_,ha,hp4,by omega,λl2 H5 hl2 s5 h5=>?_⟩⟩;exact⟨l2,_,rfl,s4.trans s5,s5 lp _ hp4,h5,(λq=>by rw[q,hp4] at hl2;cases hl2),wy'⟩
end
def wrd(r:Bool):Str:=if r=true then "row" else "ring"
def FH(H0 H:Hp)(f:Addr)(k:Bool×List Int):Prop:=∃m,H f=some (.tup [.str (wrd k.1),.ref m])/\H m=some (.lst (k.2.map V.int))/\H0 m=none
abbrev FsH(H0 H:Hp)(fs:List Addr)(F:List (Bool×List Int)):Prop:=Paired (FH H0 H) fs F
theorem FsH.same{H0 H H':Hp}{fs:List Addr}{F:List (Bool×List Int)}(h:FsH H0 H fs F)(z:Same H H'):FsH H0 H' fs F:=paired_imp (λ_ _ ⟨m,h1,h2,h3⟩=>⟨m,z _ _ h1,z _ _ h2,h3⟩) h
theorem FsH.kp{H0 H H':Hp}(k:Kp H H'):∀{fs:List Addr}{F:List (Bool×List Int)},FsH H0 H fs F->(∀j∈F,j.2≠[])->FsH H0 H' fs F
 | _,_,.nil,_=>.nil
 | _,_,.cons ⟨m,h1,h2,h3⟩ r,n=>.cons ⟨m,k.1 _ _ h1,k.2 _ _ (n _ (.head _)) h2,h3⟩ (FsH.kp k r λt ht=>n t (.tail _ ht))
theorem whole_ne{D:List (List Int)}{k:Bool×List Int}(h:Bt.Whole D k):k.2≠[]:=λz=>by
 have:=h.len;rw[z] at this
 split at this<;>exact absurd this (by decide)
structure Met(H:Hp)(dm:Addr)(kv:List (Key×V))(M:List Int):Prop where
 hd:H dm=some (.dK kv)
 iff:∀p:Int,(valV kv (.inl p)).isSome=decide (p∈M)
 len:kv.length<=M.length
section
variable{P:Program}{w:World}{K:W.Frag}{mg:Str->Option Value}{base:Heap}
def spBetw:Sp:=λvs H Q _=>∃(a b:Addr)(rs qs:List Addr)(O T:List (List Int)),vs=[.ref a,.ref b]/\H a=some (.lst (rs.map V.ref))/\H b=some (.lst (qs.map V.ref))/\TupsH H rs O/\TupsH H qs T/\Bt.Mat O/\Bt.Mat T/\O.length<=15/\T.length<=15 ∧
 ∀l fs F H',H l=none->Same H H'->H' l=some (.lst (fs.map V.ref))->FsH H H' fs F->Bt.Found (Bt.dif O T) F->(F.flatMap Bt.alg).Perm (Bt.dif O T)->F.length<=200->Q (.ref l) H'
abbrev nmW:List Str:=["one","other","neighbours","point","ends","found","met","start","points"]
theorem scBetw:FnScope nmW ["one","other"] (defScope sBetw):=⟨rfl,rfl,rfl,by decide +kernel,rfl,by decide +kernel,by decide +kernel⟩
abbrev XW(P:Program)(w:World)(K:W.Frag)(mg:Str->Option Value)(base:Heap)(f:Addr)(cdv:Value)(A:Around)(outer:List Env)(s:Shared)(H:Hp)(E:XK):Cx:=(cxOf CX0 P w K mg base nmW "between" (defScope sBetw) f cdv A outer s H E).nox
def compW:Scope:={kind:=.function,names:=[(Str.ofString ".0",.local),(Str.ofString "point",.local),(Str.ofString "len",.globalImplicit),(Str.ofString "neighbours",.free)],isGenerator:=false,isCoroutine:=false,more:=[]}
theorem nd_compW:([".0","point","neighbours"]:List Str).Nodup:=by decide +kernel
theorem capsW{f:Addr}{cdv:Value}{A:Around}{outer:List Env}{s:Shared}{H:Hp}{E:XK}:Caps (XW P w K mg base f cdv A outer s H E) compW [(Str.ofString "neighbours",s.heap.objs.size+1)] [".0","point"] ["neighbours"] [2]:=by
 have e1:(XW P w K mg base f cdv A outer s H E).env.cells=[(Str.ofString "neighbours",s.heap.objs.size+1)]:=by rfl
 have e2:(relabel compW (XW P w K mg base f cdv A outer s H E).env).names=[(Str.ofString ".0",.local),(Str.ofString "point",.local),(Str.ofString "len",.globalImplicit),(Str.ofString "neighbours",.cell)]:=by rfl
 refine⟨rfl,λx c h=>?_,rfl,by decide +kernel,by decide +kernel,λx hx=>?_,rfl,λi x e=>?_⟩
 .have hx:(x=Str.ofString "neighbours"/\c=s.heap.objs.size+1):=by
   have:=PySem.mem_of_lookup h;simpa using this
  obtain⟨rfl,rfl⟩:=hx;rw[e1];rfl
 .rw [e2] at hx;have hx:x=Str.ofString "neighbours":=by
   rcases hx with hx|hx
   all_goals
    have:=PySem.mem_of_lookup hx;simpa using this
  subst hx;exact⟨_,rfl⟩
 .match i,e with
  | 0,e=>
   cases(Option.some.inj e);exact⟨2,rfl,rfl,rfl,rfl,by rw[e2];rfl⟩
  | n+1,e=>cases e
abbrev betwAt(i:Nat):Stmt:=(defBody sBetw).getD i (.Pass ⟨0,0,0,0⟩)
section
variable{f:Addr}{cdv:Value}{A:Around}{outer:List Env}{s:Shared}{H:Hp}{E:XK}
def tEnds:TS:=λD σ H=>∃(dn:Addr)(H0:Hp)(T:List (List Int))(kvs:List (Key×V)),σ[2]?=some (some (.ref dn))/\NbS H H0 dn (Bt.dir T) kvs/\T.length<=30 ∧
 ∀(l:Addr)(es:List Int)(H':Hp),Same H H'->H' l=some (.lst (es.map V.int))->es.length<=60->(∀p,p∈es↔(Bt.nb T p).length=1)->D.nx (σ.set 4 (some (.ref l))) H'
theorem keys_of{H H0:Hp}{dn:Addr}{T:List (List Int)}{kvs:List (Key×V)}(N:NbS H H0 dn (Bt.dir T) kvs){ks:List Int}(e:kvs.map (·.1)=ks.map Sum.inl):ks.length<=2*T.length/\∀p,p∈ks↔Bt.nb T p≠[]:=by
 have l1:ks.length=kvs.length:=by have:=congrArg List.length e;rw[List.length_map,List.length_map] at this;exact this.symm
 have l2:=N.len;have l3:=dir_len T;refine⟨by omega,λp=>?_⟩;have i1:p∈ks↔(Sum.inl p:Key)∈kvs.map (·.1):=by
  rw[e,List.mem_map];exact⟨λh=>⟨p,h,rfl⟩,λ⟨q,h,z⟩=>by injection z with z;exact z ▸ h⟩
 rw[i1];constructor
 .intro h z;exact valV_not ((N.iff p).mpr z) h
 .intro h;cases q:valV kvs (.inl p) with
  | none=>exact absurd ((N.iff p).mp q) h
  | some v=>exact valV_in q
theorem ok_endsB(gsrt:mg "sorted"=none)(glen:mg "len"=none)(hr:Room 2 (A.deeper (envOfC "between" (defScope sBetw) s.heap.objs.size f cdv))):PS (XW P w K mg base f cdv A outer s H E) (betwAt 1) tEnds:=by
 have hu:=hu_of hr;refine' PS.imp (t':=tEnds) (ps_comp (i:=4) (g:=gName 1) (own:=[".0","point"]) (caps:=["neighbours"]) (js:=[2]) rfl capsW (pi_list (pe_callB (call_sortedDI rfl) (by rfl) gsrt boot_sorted (pa_cons (pv 2) pa_nil))) (λpins C s H1 fp=>pg_name (i:=1) nd_compW rfl (Or.inl rfl) (Or.inr rfl)) (λpins C s H1 fp=>pts_one (pt_cmpR op_eq (pe_callB (call_lenK K rfl) (by rfl) glen PySem.boot_len (pa_cons (pe_dget hu (pv 2) (pv 1) (λ_ _=>rfl)) pa_nil)) pe_int (nomark _))) (λpins C s H1 fp=>pv 1) scBetw.nd rfl rfl rfl) ?_;rintro D σ H1 ⟨dn,H0,T,kvs,e2,N,lT,k⟩;obtain⟨ks,ek⟩:=N.ks;obtain⟨lk,mk⟩:=keys_of N ek;refine⟨_,e2,dn,kvs,ks,rfl,N.hd,ek,by omega,λt p hp _ hf=>?_⟩;have s1:Same H1 (upd H1 p (.lst (t.map V.int))):=Same.new' hf;have hp1:upd H1 p (.lst (t.map V.int)) p=some (.lst (t.map V.int)):=upd_same;generalize upd H1 p (.lst (t.map V.int))=H2 at s1 hp1 ⊢;have lt:t.length<=60:=by rw[hp.length_eq];omega
 refine⟨p,rfl,⟨_,SqL.of hp1⟩,λD2 hD=>?_⟩;have eC:σC ([".0","point"]:List Str).length [2] σ=[none,none,some (.ref dn)]:=by
  show[none,none,(σ[2]?).getD none]=_;rw[e2];rfl
 rw[eC];have N2:=N.same s1;refine turns_list (K:=K) (a:=p) (xs:=t.map V.int) (λi ys σ H5=>∃(e0 e1:Option V),ys=((t.take i).filter λq=>decide ((Bt.nb T q).length=1)).map V.int/\σ=[e0,e1,some (.ref dn)]/\Same H2 H5/\H5 D2=some (.lst ys)) ⟨none,none,rfl,rfl,Same.new' hD,upd_same⟩ ?_ ?_ ?_
 .rintro i ys σ H5 ⟨e0,e1,rfl,rfl,s5,h5⟩;refine⟨h5,small1000 ?_,SqL.of (s5 p _ hp1)⟩;have:=List.length_filter_le (λq=>decide ((Bt.nb T q).length=1)) (t.take i);rw[List.length_take] at this;rw[List.length_map];omega
 .rintro i x ys σ H5 hi ⟨e0,e1,rfl,rfl,s5,h5⟩;have hil:i<(t.map V.int).length:=(List.getElem?_eq_some_iff.mp hi).1;obtain⟨y,rfl,ey⟩:=map_int_at hi;have hy:Bt.nb T y≠[]:=(mk y).mp (hp.mem_iff.mp (List.mem_of_getElem? ey));obtain⟨a,hg,ha⟩:=(N2.same s5).get hy;have ef:(t.take (i+1)).filter (λq=>decide ((Bt.nb T q).length=1))=(t.take i).filter (λq=>decide ((Bt.nb T q).length=1))++[y].filter λq=>decide ((Bt.nb T q).length=1):=by
   rw[List.take_succ,ey,List.filter_append];rfl
  unfold gName;dsimp only;refine⟨_,rfl,_,rfl,dn,.ref a,rfl,hg,a,_,rfl,.inl (SqL.of ha),rfl,_,rfl,?_⟩;refine ite2 (λc=>?_) (λc=>?_)
  .have c1:(Bt.nb T y).length=1:=by
    have:=of_decide_eq_true c;injection this with this
    rw[List.length_map] at this;show(Bt.nbE (Bt.dir T) y).length=1;omega
   rw[show[y].filter (λq=>decide ((Bt.nb T q).length=1))=[y] by simp[c1]] at ef;refine⟨_,rfl,h5,Nxt.mk hil ⟨_,_,by rw[ef,List.map_append];rfl,rfl,λb o e=>?_,upd_same⟩⟩;rw[upd_ne (ne_of_none e hD)];exact s5 b o e
  .have c1:¬(Bt.nb T y).length=1:=λz=>c (by
    rw[decide_eq_true_iff,List.length_map]
    congr 1
    have z:(Bt.nbE (Bt.dir T) y).length=1:=z;omega)
   rw[show[y].filter (λq=>decide ((Bt.nb T q).length=1))=[] by simp[c1],List.append_nil] at ef;exact Nxt.mk hil ⟨_,_,by rw[ef],rfl,s5,h5⟩
 .rintro ys σ0 H5 ⟨e0,e1,rfl,rfl,s5,h5⟩;rw[List.length_map,List.take_length] at h5;refine k D2 _ H5 (s1.trans s5) h5 (Nat.le_trans (List.length_filter_le _ _) lt) λq=>?_;rw[List.mem_filter,decide_eq_true_iff];refine⟨λh=>h.2,λh=>⟨hp.mem_iff.mpr ((mk q).mpr λz=>?_),h⟩⟩;rw[z] at h;cases h
def tMet:TS:=λD σ H=>∃(dm lp:Addr)(kv:List (Key×V))(M pts:List Int),σ[6]?=some (some (.ref dm))/\σ[8]?=some (some (.ref lp))/\8<σ.length/\H lp=some (.lst (pts.map V.int))/\Met H dm kv M/\M.length+pts.length<=100000 ∧
 ∀(e3:Option V)(kv':List (Key×V))(H':Hp),(∀b o,b≠dm->H b=some o->H' b=some o)->Met H' dm kv' (M++pts)->D.nx (σ.set 3 e3) H'
theorem set3_get{σ:L2.St}{e:Option V}{i:Nat}(h:i≠3):(σ.set 3 e)[i]?=σ[i]?:=by
 rw[List.getElem?_set];rw[if_neg (Ne.symm h)]
end
section
variable{f:Addr}{cdv:Value}{A:Around}{outer:List Env}{s:Shared}{H:Hp}{E:XK}
theorem met_ok{H:Hp}{dm lp:Addr}{kv:List (Key×V)}{M pts:List Int}{σ:L2.St}{D:Ends}{e3:Option V}(i3:σ[3]?=some e3)(i6:σ[6]?=some (some (.ref dm)))(hp:H lp=some (.lst (pts.map V.int)))(hM:Met H dm kv M)(ln:M.length+pts.length<=100000)
  (k:∀(e3:Option V)(kv':List (Key×V))(H':Hp),(∀b o,b≠dm->H b=some o->H' b=some o)->Met H' dm kv' (M++pts)->D.nx (σ.set 3 e3) H') {tb:TS}
  (htb:∀(D:Ends)(σ:L2.St)(H:Hp)(y:Int)(dm:Addr)(kv:List (Key×V)),σ[3]?=some (some (.int y))->σ[6]?=some (some (.ref dm))->H dm=some (.dK kv)->kv.length<sizeLine->D.nx σ (upd H dm (.dK (putK kv (.inl y) (.bl true))))->tb D σ H) :
  ∃W:Nat->Nat->L2.St->Hp->Prop,(∃m,W 0 m σ H)/\∀i m σ H,W i m σ H →
   ((Itl K lp).stop i H/\D.nx σ H)\/((Itl K lp).go i H/\∃N:L2.St->Hp->Prop,(∀σ' H',N σ' H'->∃m',m'<m/\W (i+1) m' σ' H')/\∀x H',(Itl K lp).yld i H x H'->gName 3 x σ H' λσ2 H2=>tb {D with nx:=N,ct:=N,bk:=D.nx} σ2 H2):=by
 have nd:lp≠dm:=λz=>by rw[z,hM.hd] at hp;cases hp
 have l3:3<σ.length:=(List.getElem?_eq_some_iff.mp i3).1;refine for_list (K:=K) (a:=lp) (xs:=pts.map V.int) (λi σ' H2=>∃(e3:Option V)(kv:List (Key×V)),σ'=σ.set 3 e3/\(∀b o,b≠dm->H b=some o->H2 b=some o)/\Met H2 dm kv (M++pts.take i))
  ⟨e3,kv,(set_self i3).symm,λ_ _ _ h=>h,by rw[List.take_zero,List.append_nil];exact hM⟩ (λi σ' H2 _ ⟨_,_,_,fr,_⟩=>SqL.of (fr lp _ nd hp)) ?_ ?_
 .rintro i x σ' H2 hi ⟨e,kv2,rfl,fr,m2⟩;obtain⟨y,rfl,ey⟩:=map_int_at hi;have hil:i<pts.length:=(List.getElem?_eq_some_iff.mp ey).1;unfold gName;rw[List.set_set];have lm:=m2.len;rw[List.length_append,List.length_take] at lm;refine htb _ _ _ y dm kv2 (by rw[List.getElem?_set,if_pos rfl,if_pos l3]) (by rw[set3_get (by decide)];exact i6) m2.hd (big_ok (by omega)) ⟨_,_,rfl,λb o nb hb=>?_,upd_same,λp=>?_,?_⟩
  .rw[upd_ne nb];exact fr b o nb hb
  .rw [valV_put,List.take_succ,ey];by_cases c:p=y
   .subst c;rw[if_pos rfl,Option.isSome_some]
    symm
    rw[decide_eq_true_iff];exact List.mem_append_right _ (List.mem_append_right _ (.head _))
   .rw [if_neg (λz=>c (by injection z)),m2.iff p];rw[Bool.eq_iff_iff,decide_eq_true_iff,decide_eq_true_iff];constructor
    .intro h;rcases List.mem_append.mp h with h|h
     .exact List.mem_append_left _ h
     .exact List.mem_append_right _ (List.mem_append_left _ h)
    .intro h;rcases List.mem_append.mp h with h|h
     .exact List.mem_append_left _ h
     .rcases List.mem_append.mp h with h|h
      .exact List.mem_append_right _ h
      .exact absurd (by simpa using h) c
  .have h1:=length_putK kv2 (Sum.inl y:Key) (V.bl true);rw[List.length_append,List.length_take];omega
 .rintro σ' H2 ⟨e,kv2,rfl,fr,m2⟩;rw[List.length_map,List.take_length] at m2;exact k e kv2 H2 fr m2
def tApp:TS:=λD σ H=>∃(dn lf lp:Addr)(H0:Hp)(T:List (List Int))(kvs:List (Key×V))(y:Int)(xs:List V),σ[2]?=some (some (.ref dn))/\σ[5]?=some (some (.ref lf))/\σ[7]?=some (some (.int y))/\σ[8]?=some (some (.ref lp))/\NbS H H0 dn (Bt.dir T) kvs/\Bt.nb T y≠[]/\H lf=some (.lst xs)/\xs.length<=900 ∧
 ∀q,H q=none->D.nx σ (upd (upd H q (.tup [.str (wrd (decide ((Bt.nb T y).length=1))),.ref lp])) lf (.lst (xs++[.ref q])))
def tMain:TS:=λD σ H=>∃(a b dn le lf dm:Addr)(H0 HB:Hp)(T:List (List Int))(c:List Int->Bool)(kvs:List (Key×V))(es:List Int)(e3 e7 e8:Option V),σ=[some (.ref a),some (.ref b),some (.ref dn),e3,some (.ref le),some (.ref lf),some (.ref dm),e7,e8] ∧
 NbS HB H0 dn (Bt.dir T) kvs/\Bt.Two T c/\T.length<=30/\HB le=some (.lst (es.map V.int))/\es.length<=60/\(∀p,p∈es↔(Bt.nb T p).length=1)/\HB lf=none/\HB dm=none/\lf≠dm/\Same HB H/\H lf=some (.lst [])/\H dm=some (.dK []) ∧
 ∀(e3 e7 e8:Option V)(fs:List Addr)(F:List (Bool×List Int))(H':Hp),Same HB H'->H' lf=some (.lst (fs.map V.ref))->FsH HB H' fs F->Bt.Found T F->(F.flatMap Bt.alg).Perm T->F.length<=200->D.nx [some (.ref a),some (.ref b),some (.ref dn),e3,some (.ref le),some (.ref lf),some (.ref dm),e7,e8] H'
theorem ok_main(gsrt:mg "sorted"=none)(glen:mg "len"=none){fF:Addr}{fdF:FuncData}
  (GF:FnOk P w K mg base CX0 2 fF fdF ["neighbours","start"] spFoll) (mF:mg "followed"=some (.ref fF)) (kF:PySem.W.keepIn K (.ref fF)=true) (bF:Binds K fdF ["neighbours","start"] [])
  (hr:Room 2 (A.deeper (envOfC "between" (defScope sBetw) s.heap.objs.size f cdv))):PS (XW P w K mg base f cdv A outer s H E) (betwAt 4) tMain:=by
 have hu:=hu_of hr;have hr2:Room 2 (XW P w K mg base f cdv A outer s H E).A:=hr;refine' PS.imp (t':=tMain) (ps_for ?qa ?qb ?qc ?qd (pss_one (ps_if ?qt (pss_cons ?b0 (pss_cons ?b1 (pss_one ?b2))) pss_nil))) ?_
 case qa=>exact PassesOwn.never
 case qb=>exact rfl
 case qc=>exact pi_list (pe_op op_cat (pv 4) (pe_callB (call_sortedDI rfl) (by rfl) gsrt boot_sorted (pa_cons (pv 2) pa_nil)))
 case qd=>exact pg_name (i:=7) scBetw.nd rfl (Or.inl rfl)
 case qt=>exact pt_cmp (pc_dnotin hu (pv 7) (pv 6)) (by with_unfolding_all rfl)
 case b0=>exact ps_set (i:=8) scBetw.nd rfl (Or.inl rfl) (pe_call GF hr2 (by rfl) mF kF bF .nil pass0 (pa_cons (pv 2) (pa_cons (pv 7) pa_nil)))
 case b1=>
  refine' PS.imp (t':=tMet) (ps_for ?ra ?rb ?rc ?rd (pss_one ?rr)) ?_
  case ra=>exact PassesOwn.never
  case rb=>exact rfl
  case rc=>exact pi_list (pv 8)
  case rd=>exact pg_name (i:=3) scBetw.nd rfl (Or.inl rfl)
  case rr=>exact ps_dput hu (pv 6) (pv 3) pe_bl rfl
  rintro D σ H1 ⟨dm,lp,kv,M,pts,i6,i8,l8,hp,hM,ln,k⟩;have i3:∃e3,σ[3]?=some e3:=⟨σ[3]'(by omega),by simp[show 3<σ.length by omega]⟩;obtain⟨e3,i3⟩:=i3;refine⟨_,i8,lp,rfl,⟨_,SqL.of hp⟩,met_ok i3 i6 hp hM ln k ?_⟩;intro D σ H y dm kv j3 j6 hd hl kk;exact⟨_,j6,_,j3,dm,_,rfl,DPut.k (k:=.inl y) hd hl,kk⟩
 case b2=>
  refine' PS.imp (t':=tApp) (ps_expr (pe_bm PySem.F.plainAttrs_list PySem.F.slot_list_append PySem.F.type_list_append mt_append (pv 5) (pa_cons (pe_tup (pa_cons (pe_ifExp (pt_cmpR op_eq (pe_callB call_len_seq (by rfl) glen PySem.boot_len (pa_cons (pe_dget hu (pv 2) (pv 7) (λ_ _=>rfl)) pa_nil)) pe_int (nomark _)) pe_str pe_str) (pa_cons (pv 8) pa_nil))) pa_nil))) ?_;rintro D σ H1 ⟨dn,lf,lp,H0,T,kvs,y,xs,i2,i5,i7,i8,N,ny,hf,lx,k⟩;obtain⟨a,hg,ha⟩:=N.get ny;refine⟨_,i5,.inl ⟨rfl,_,SqL.of hf⟩,_,i2,_,i7,dn,.ref a,rfl,hg,a,_,rfl,.inl (SqL.of ha),rfl,_,rfl,?_⟩;have eN:((Bt.nbE (Bt.dir T) y).map V.int).length=(Bt.nb T y).length:=List.length_map ..;rw[eN];refine ite2 (λc=>?_) (λc=>?_)
  .have c1:(Bt.nb T y).length=1:=by
    have:=of_decide_eq_true c;injection this with this
    omega
   rw[decide_eq_true c1] at k;refine⟨_,i8,(by show 2<=sizeLine;decide),λq hq=>?_⟩;have nq:lf≠q:=ne_of_none hf hq;exact⟨lf,xs,_,rfl,rfl,by rw[upd_ne nq];exact hf,small1000 (by omega),k q hq⟩
  .have c1:¬(Bt.nb T y).length=1:=λz=>c (by rw[z];rfl);rw[decide_eq_false c1] at k;refine⟨_,i8,(by show 2<=sizeLine;decide),λq hq=>?_⟩;have nq:lf≠q:=ne_of_none hf hq;exact⟨lf,xs,_,rfl,rfl,by rw[upd_ne nq];exact hf,small1000 (by omega),k q hq⟩
 rintro D σ H1 ⟨a,b,dn,le,lf,dm,H0,HB,T,c,kvs,es,e3,e7,e8,rfl,N,two,lT,hes,lE,mE,bf,bm,nfm,sB,hf,hm,k⟩;obtain⟨ks,ek⟩:=N.ks;obtain⟨lk,mk⟩:=keys_of N ek;refine⟨_,rfl,_,rfl,dn,kvs,ks,rfl,sB _ _ N.hd,ek,by omega,λt p pt _ hp=>?_⟩;have s1:Same H1 (upd H1 p (.lst (t.map V.int))):=Same.new' hp;have hp1:upd H1 p (.lst (t.map V.int)) p=some (.lst (t.map V.int)):=upd_same;generalize upd H1 p (.lst (t.map V.int))=H2 at s1 hp1 ⊢;have lt:t.length<=60:=by rw[pt.length_eq];omega
 have sB2:=sB.trans s1;refine⟨le,p,_,_,rfl,rfl,sB2 le _ hes,hp1,Nat.le_of_lt (small1000 (by rw[List.length_map,List.length_map];omega)),λls hls=>?_⟩;have s2:Same H2 (upd H2 ls (.lst (es.map V.int++t.map V.int))):=Same.new' hls;have hl2:upd H2 ls (.lst (es.map V.int++t.map V.int)) ls=some (.lst ((es++t).map V.int)):=by rw[upd_same,List.map_append]
 generalize upd H2 ls (.lst (es.map V.int++t.map V.int))=H3 at s2 hl2 ⊢;have sB3:=sB2.trans s2;have hf3:=(s1.trans s2) lf _ hf;have hm3:=(s1.trans s2) dm _ hm;have nlf:ls≠lf:=λz=>by rw[z] at hls;rw[s1 lf _ hf] at hls;cases hls
 have nlm:ls≠dm:=λz=>by rw[z] at hls;rw[s1 dm _ hm] at hls;cases hls
 have mS:∀y∈es++t,Bt.nb T y≠[]:=λy hy=>by
  rcases List.mem_append.mp hy with h|h
  .intro z;have:=(mE y).mp h;rw[z] at this;cases this
  .exact(mk y).mp (pt.mem_iff.mp h)
 refine⟨ls,rfl,⟨_,SqL.of hl2⟩,for_list (K:=K) (a:=ls) (xs:=(es++t).map V.int)
  (λi σ H4=>∃(e3 e7 e8:Option V)(fs:List Addr)(F:List (Bool×List Int))(kv:List (Key×V)),σ=[some (.ref a),some (.ref b),some (.ref dn),e3,some (.ref le),some (.ref lf),some (.ref dm),e7,e8]/\Same HB H4/\H4 ls=some (.lst ((es++t).map V.int))/\H4 lf=some (.lst (fs.map V.ref))/\FsH HB H4 fs F/\Met H4 dm kv (F.flatMap (·.2))/\Bt.Found T F ∧
   (∀q∈(es++t).take i,q∈F.flatMap (·.2))/\(F.flatMap (·.2)).length<=200*i/\F.length<=i)
  ⟨_,_,_,[],[],[],rfl,sB3,hl2,hf3,.nil,⟨hm3,λp=>rfl,Nat.le_refl _⟩,Bt.Found.nil,λq hq=>(nomatch hq),Nat.le_refl _,Nat.le_refl _⟩ (λi σ H4 _ ⟨_,_,_,_,_,_,_,_,h,_⟩=>SqL.of h) ?_ ?_⟩
 .rintro i x σ H4 hi ⟨e3,e7,e8,fs,F,kv,rfl,s4,hl4,hf4,hF,met,fnd,all,lM,lF⟩;obtain⟨y,rfl,ey⟩:=map_int_at hi;have hil:i<(es++t).length:=(List.getElem?_eq_some_iff.mp ey).1;have l120:(es++t).length<=120:=by rw[List.length_append];omega
  have my:y∈es++t:=List.mem_of_getElem? ey;have ny:=mS y my;unfold gName;dsimp only[List.set_cons_succ,List.set_cons_zero];have dg:DGet H4 dm (.int y) (valV kv (.inl y)):=DGet.k (k:=.inl y) met.hd;refine⟨_,rfl,_,rfl,dm,_,rfl,dg,_,rfl,?_⟩;rw[met.iff y];refine ite2 (λcy=>?_) (λcy=>?_)
  .have cy:y∉F.flatMap (·.2):=by simpa using cy
   refine⟨_,rfl,_,rfl,dn,y,H0,T,kvs,rfl,N.same s4,two.tie,by omega,ny,λlp pts H5 hlp s5 hp5 wk lpts=>?_⟩;trivial;have met5:Met H5 dm kv (F.flatMap (·.2)):=⟨s5 _ _ met.hd,met.iff,met.len⟩;refine⟨dm,lp,kv,F.flatMap (·.2),pts,rfl,rfl,by show 8<9;decide,hp5,met5,by omega,λe3' kv' H6 fr met6=>?_⟩;dsimp only[List.set_cons_succ,List.set_cons_zero];have s46:∀b o,b≠dm->H4 b=some o->H6 b=some o:=λb o nb e=>fr b o nb (s5 b o e);have sB6:Same HB H6:=λb o e=>s46 b o (ne_of_none e bm) (s4 b o e);have nlp:lp≠dm:=λz=>by rw[z,met.hd] at hlp;cases hlp
   have hf6:=s46 lf _ nfm hf4;have hp6:=fr lp _ nlp hp5;have apart:=fnd.apart two wk cy;have wh:Bt.Whole T (decide ((Bt.nb T y).length=1),pts):=by
    by_cases c1:(Bt.nb T y).length=1
    .rw[decide_eq_true c1];exact Bt.row_of two wk c1
    .rw [decide_eq_false c1];refine Bt.ring_of two wk c1 λq hq z=>?_;have qe:q∈es:=(mE q).mpr z;have ie:es.length<=i:=by
      rcases Nat.lt_or_ge i es.length with w|w
      .exfalso;rw[List.getElem?_append_left w] at ey;exact c1 ((mE y).mp (List.mem_of_getElem? ey))
      .exact w
     refine apart q hq (all q ?_);rw[List.take_append];exact List.mem_append_left _ (by rw[List.take_of_length_le ie];exact qe)
   have fnd':=fnd.snoc wh apart;have hne:∀j∈F++[(decide ((Bt.nb T y).length=1),pts)],j.2≠[]:=λj hj=>whole_ne (fnd'.wh j hj);have bl:HB lp=none:=s4.free hlp;have lfs:=Paired.length hF;refine⟨dn,lf,lp,H0,T,kvs,y,_,rfl,rfl,rfl,rfl,N.same sB6,ny,hf6,by rw[List.length_map];omega,λq hq=>?_⟩;have F6:FsH HB H6 fs F:=paired_imp (λf k ⟨m,h1,h2,h3⟩=>⟨m,s46 _ _ (λz=>by subst z;rw[met.hd] at h1;cases h1) h1,s46 _ _ (λz=>by subst z;rw[met.hd] at h2;cases h2) h2,h3⟩) hF;generalize decide ((Bt.nb T y).length=1)=r at fnd' hne wh;have s7:Same H6 (upd H6 q (.tup [.str (wrd r),.ref lp])):=Same.new' hq;have hq7:upd H6 q (.tup [.str (wrd r),.ref lp]) q=some (.tup [.str (wrd r),.ref lp]):=upd_same;generalize upd H6 q (.tup [.str (wrd r),.ref lp])=H7 at s7 hq7;have F7:FsH HB H7 (fs++[q]) (F++[(r,pts)]):=paired_snoc (FsH.same F6 s7) ⟨lp,hq7,s7 lp _ hp6,bl⟩;have hf7:=s7 lf _ hf6;have k8:Kp H7 (upd H7 lf (.lst (fs.map V.ref++[.ref q]))):=Kp.upd hf7;have eM:(F++[(r,pts)]).flatMap (·.2)=F.flatMap (·.2)++pts:=by simp
   refine⟨_,_,_,fs++[q],F++[(r,pts)],kv',rfl,λb o e=>?_,?_,by rw[upd_same,List.map_append];rfl,FsH.kp k8 F7 hne,⟨?_,?_,?_⟩,fnd',λp hp=>?_,?_,?_⟩
   .rw[upd_ne (ne_of_none e bf)];exact s7 b o (sB6 b o e)
   .rw[upd_ne nlf];exact s7 ls _ (s46 ls _ nlm hl4)
   .rw[upd_ne (Ne.symm nfm)];exact s7 dm _ met6.hd
   .rw[eM];exact met6.iff
   .rw[eM];exact met6.len
   .rw [eM];rw[List.take_succ,ey] at hp;rcases List.mem_append.mp hp with h|h
    .exact List.mem_append_left _ (all p h)
    .have:p=y:=by simpa using h
     subst this;exact List.mem_append_right _ (List.mem_of_getElem? wk.h0)
   .rw[eM,List.length_append];omega
   .rw[List.length_append];show _+1<=_;omega
  .have cy:y∈F.flatMap (·.2):=Decidable.byContradiction λh=>cy (by rw[decide_eq_false h];rfl);refine⟨_,_,_,fs,F,kv,rfl,s4,hl4,hf4,hF,met,fnd,λp hp=>?_,by omega,by omega⟩;rw[List.take_succ,ey] at hp;rcases List.mem_append.mp hp with h|h
   .exact all p h
   .have:p=y:=by simpa using h
    exact this ▸ cy
 .rintro σ H4 ⟨e3,e7,e8,fs,F,kv,rfl,s4,hl4,hf4,hF,met,fnd,all,lM,lF⟩;have l120:(es++t).length<=120:=by rw[List.length_append];omega
  rw[List.length_map] at lF all;rw[List.take_length] at all;refine k _ _ _ fs F H4 s4 hf4 hF fnd (fnd.perm two λp hp=>all p (List.mem_append_right _ (pt.mem_iff.mpr ((mk p).mpr hp)))) (by omega)
end
theorem dif_len(O T:List (List Int)):(Bt.dif O T).length<=O.length+T.length:=by
 unfold Bt.dif Bt.onl;rw[List.length_append];have h1:=List.length_filter_le (λt=>!decide (t∈T)) O;have h2:=List.length_filter_le (λt=>!decide (t∈O)) T;omega
theorem ok_betw{f fO fN fF:Addr}{fd fdO fdN fdF:FuncData}(F:Fun K "between" "between" sBetw f fd)(gsrt:mg "sorted"=none)(glen:mg "len"=none)
  (GO:FnOk P w K mg base CX0 1 fO fdO ["one","other"] spOnly) (mO:mg "only_in"=some (.ref fO)) (kO:PySem.W.keepIn K (.ref fO)=true) (bO:Binds K fdO ["one","other"] [])
  (GN:FnOk P w K mg base CX0 1 fN fdN ["ties"] spNby) (mN:mg "neighbours_by"=some (.ref fN)) (kN:PySem.W.keepIn K (.ref fN)=true) (bN:Binds K fdN ["ties"] [])
  (GF:FnOk P w K mg base CX0 2 fF fdF ["neighbours","start"] spFoll) (mF:mg "followed"=some (.ref fF)) (kF:PySem.W.keepIn K (.ref fF)=true) (bF:Binds K fdF ["neighbours","start"] []) :
  FnOk P w K mg base CX0 3 f fd ["one","other"] spBetw:=by
 refine F.ok scBetw (λvs H Q E h=>?_) (λcdv A outer s H vs Q E hr h=>?_)
 .obtain⟨a,b,rs,qs,O,T,rfl,_⟩:=h;rfl
 .obtain ⟨a,b,rs,qs,O,T,rfl,ha,hb,hO,hT,mO',mT',lO,lT,hQ⟩:=h;have hr1:Room 1 (XW P w K mg base f cdv A outer s H E).A:=hr.mono (by decide);refine'⟨_,pss_cons ?s0 (pss_cons (ok_endsB gsrt glen hr) (pss_cons ?s2 (pss_cons ?s3 (pss_cons (ok_main gsrt glen GF mF kF bF hr) (pss_one (ps_ret (pv 5))))))),?_⟩
  case s0=>exact ps_set (i:=2) scBetw.nd rfl (Or.inr rfl) (pe_call GN hr1 (by rfl) mN kN bN .nil pass0 (pa_cons (pe_op op_cat (pe_call GO hr1 (by rfl) mO kO bO .nil pass0 (pa_cons (pv 0) (pa_cons (pv 1) pa_nil))) (pe_call GO hr1 (by rfl) mO kO bO .nil pass0 (pa_cons (pv 1) (pa_cons (pv 0) pa_nil)))) pa_nil))
  case s2=>exact ps_set (i:=5) scBetw.nd rfl (Or.inl rfl) (pe_lst pa_nil)
  case s3=>exact ps_set (i:=6) scBetw.nd rfl (Or.inl rfl) pe_dnewK
  refine⟨_,rfl,_,rfl,a,b,rfl,.inr ⟨rs,qs,O,T,ha,hb,hO,hT,by omega,λl1 z1 H1 n1 s1 h1 t1=>?_⟩⟩;refine⟨_,rfl,_,rfl,b,a,rfl,.inr ⟨qs,rs,T,O,s1 _ _ hb,s1 _ _ ha,TupsH.sm hT s1,TupsH.sm hO s1,by omega,λl2 z2 H2 n2 s2 h2 t2=>?_⟩⟩;have q1:=Paired.length t1;have q2:=Paired.length t2;have dl:=dif_len O T;have dl':(Bt.dif O T).length=z1.length+z2.length:=by unfold Bt.dif;rw[List.length_append];omega
  refine⟨l1,l2,_,_,rfl,rfl,s2 _ _ h1,h2,Nat.le_of_lt (small1000 (by rw[List.length_map,List.length_map];omega)),λl3 n3=>?_⟩;have s3:Same H2 (upd H2 l3 (.lst (z1.map V.ref++z2.map V.ref))):=Same.new' n3;have h3:upd H2 l3 (.lst (z1.map V.ref++z2.map V.ref)) l3=some (.lst ((z1++z2).map V.ref)):=by rw[upd_same,List.map_append]
  generalize upd H2 l3 (.lst (z1.map V.ref++z2.map V.ref))=H3 at s3 h3 ⊢;have app:∀{a1:List Addr}{b1:List (List Int)},TupsH H3 a1 b1->TupsH H3 z2 (Bt.onl T O)->TupsH H3 (a1++z2) (b1++Bt.onl T O):=by
   intro a1 b1 h g
   induction h with
   | nil=>exact g
   | cons p _ ih=>exact .cons p ih
  have t3:TupsH H3 (z1++z2) (Bt.dif O T):=app (TupsH.sm t1 (s2.trans s3)) (TupsH.sm t2 s3);have two:=Bt.dif_two mO' mT';have s03:=s1.trans (s2.trans s3);refine⟨l3,_,_,rfl,h3,t3,two.tie,by omega,λdn kvs H4 s4 N=>?_⟩;trivial;refine⟨dn,H3,Bt.dif O T,kvs,rfl,N,by omega,λle es H5 s5 he le5 mE=>?_⟩;dsimp only[List.set_cons_succ,List.set_cons_zero];refine⟨Nat.zero_le _,λlf nf=>?_⟩;intro dm nm;have s6:Same H5 (upd H5 lf (.lst [])):=Same.new' nf;have s7:=s6.trans (Same.new' (o:=.dK []) nm);have nfm:lf≠dm:=ne_of_none (o:=.lst []) upd_same nm;have bm:H5 dm=none:=s6.free nm;have s05:=s03.trans (s4.trans s5);refine⟨a,b,dn,le,lf,dm,H3,H5,Bt.dif O T,_,kvs,es,_,_,_,rfl,N.same s5,two,by omega,he,le5,mE,nf,bm,nfm,s7,by rw[upd_ne nfm];exact upd_same,upd_same,λe3 e7 e8 fs F H8 s8 hf8 hF fnd pm lF=>?_⟩;refine⟨_,rfl,hQ lf fs F H8 (s05.free nf) (s05.trans s8) hf8 ?_ fnd pm lF⟩;exact paired_imp (λf k ⟨m,x1,x2,x3⟩=>⟨m,x1,x2,s05.free x3⟩) hF
theorem onlB_len(O T:List (List Int)):(Bt.onl O T).length<=O.length:=List.length_filter_le _ _
def spXch:Sp:=λvs H Q _=>∃(p q:Addr)(rs qs:List Addr)(ps ts:List (List Int)),vs=[.ref p,.ref q]/\H p=some (.lst (rs.map V.ref))/\H q=some (.lst (qs.map V.ref))/\TupsH H rs ps/\TupsH H qs ts/\ps.length<=200/\ts.length<=200 ∧
 ∀(l:Addr)(zs:List Addr)(us:List (List Int))(H':Hp),H l=none->Same H H'->H' l=some (.lst (zs.map V.ref))->TupsH H' zs us->us.Perm (Bt.dif ps ts)->(us.Pairwise λa b=>HT.lexLt b a=false)->Q (.ref l) H'
theorem scXch:FnScope ["pairs","ties"] ["pairs","ties"] (defScope sXch):=⟨rfl,rfl,rfl,by decide +kernel,rfl,by decide +kernel,by decide +kernel⟩
theorem ok_xch{f f1:Addr}{fd fd1:FuncData}(F:Fun K "exchanged_ties" "exchanged_ties" sXch f fd)(gsrt:mg "sorted"=none)
  (G1:FnOk P w K mg base CX0 1 f1 fd1 ["one","other"] spOnly) (m1:mg "only_in"=some (.ref f1)) (k1:PySem.W.keepIn K (.ref f1)=true) (b1:Binds K fd1 ["one","other"] []):FnOk P w K mg base CX0 2 f fd ["pairs","ties"] spXch:=by
 refine F.ok scXch (λvs H Q E h=>?_) (λcdv A outer s H vs Q E hr h=>?_)
 .obtain⟨p,q,rs,qs,ps,ts,rfl,_⟩:=h;rfl
 .obtain⟨p,q,rs,qs,ps,ts,rfl,hp,hq,hP,hT,lp,lt,hQ⟩:=h;refine⟨_,pss_one (ps_ret (pe_callB call_sortedLB (by rfl) gsrt boot_sorted (pa_cons (pe_op op_cat (pe_call G1 hr (by rfl) m1 k1 b1 .nil pass0 (pa_cons (pv 0) (pa_cons (pv 1) pa_nil))) (pe_call G1 hr (by rfl) m1 k1 b1 .nil pass0 (pa_cons (pv 1) (pa_cons (pv 0) pa_nil)))) pa_nil))),?_⟩;refine⟨_,rfl,_,rfl,p,q,rfl,.inr ⟨rs,qs,ps,ts,hp,hq,hP,hT,by omega,λl1 z1 H1 hl1 s1 h1 hz1=>?_⟩⟩;refine⟨_,rfl,_,rfl,q,p,rfl,.inr ⟨qs,rs,ts,ps,s1 q _ hq,s1 p _ hp,TupsH.same s1 hT,TupsH.same s1 hP,by omega,λl2 z2 H2 hl2 s2 h2 hz2=>?_⟩⟩;have lz1:=Paired.length hz1;have lz2:=Paired.length hz2;have o1:=onlB_len ps ts;have o2:=onlB_len ts ps;refine⟨l1,l2,_,_,rfl,rfl,s2 l1 _ h1,h2,Nat.le_of_lt (small1000 (by rw[List.length_map,List.length_map];omega)),λl3 hl3=>?_⟩;rw[<-List.map_append];have s3:=Same.new (o:=.lst ((z1++z2).map V.ref)) hl3;have hz3:TupsH (upd H2 l3 (.lst ((z1++z2).map V.ref))) (z1++z2) (Bt.dif ps ts):=paired_app (TupsH.same (s2.trans s3) hz1) (TupsH.same s3 hz2);refine⟨l3,z1++z2,Bt.dif ps ts,rfl,SqL.of upd_same,by rw[List.length_append];omega,hz3,λzs us l4 hS hl4=>?_⟩;obtain⟨hzs,hperm,_⟩:=hz3.sorted hS;have s4:=Same.new (o:=.lst (zs.map V.ref)) hl4;exact hQ l4 zs us _ ((s1.trans (s2.trans s3)).free hl4) (s1.trans (s2.trans (s3.trans s4))) upd_same (TupsH.same s4 hzs) hperm hS.ord
def spExch:Sp:=λvs H Q _=>∃(p q:Addr)(rs:List Addr)(ps:List (List Int))(t:List Int),vs=[.ref p,.ref q]/\H p=some (.lst (rs.map V.ref))/\H q=some (.lst (t.map V.int))/\TupsH H rs ps/\ps.length<=200/\t.length<=200 ∧
 ∀(l:Addr)(zs:List Addr)(us:List (List Int))(H':Hp),H l=none->Same H H'->H' l=some (.lst (zs.map V.ref))->TupsH H' zs us->us.Perm (Bt.dif ps (alg t))->(us.Pairwise λa b=>HT.lexLt b a=false)->Q (.ref l) H'
theorem scExch:FnScope ["pairs","row"] ["pairs","row"] (defScope sExch):=⟨rfl,rfl,rfl,by decide +kernel,rfl,by decide +kernel,by decide +kernel⟩
theorem ok_exch{f f1 f2:Addr}{fd fd1 fd2:FuncData}(F:Fun K "exchanged" "exchanged" sExch f fd)
  (G1:FnOk P w K mg base CX0 2 f1 fd1 ["pairs","ties"] spXch) (m1:mg "exchanged_ties"=some (.ref f1)) (k1:PySem.W.keepIn K (.ref f1)=true) (b1:Binds K fd1 ["pairs","ties"] [])
  (G2:FnOk P w K mg base CX0 2 f2 fd2 ["points"] (spAlong K)) (m2:mg "ties_along"=some (.ref f2)) (k2:PySem.W.keepIn K (.ref f2)=true) (b2:Binds K fd2 ["points"] []):FnOk P w K mg base CX0 3 f fd ["pairs","row"] spExch:=by
 refine F.ok scExch (λvs H Q E h=>?_) (λcdv A outer s H vs Q E hr h=>?_)
 .obtain⟨p,q,rs,ps,t,rfl,_⟩:=h;rfl
 .obtain⟨p,q,rs,ps,t,rfl,hp,hq,hP,lp,lt,hQ⟩:=h;refine⟨_,pss_one (ps_ret (pe_call G1 hr (by rfl) m1 k1 b1 .nil pass0 (pa_cons (pv 0) (pa_cons (pe_call G2 hr (by rfl) m2 k2 b2 .nil pass0 (pa_cons (pv 1) pa_nil)) pa_nil)))),?_⟩;refine⟨_,rfl,_,rfl,q,t,rfl,SqL.of hq,lt,λl1 z1 H1 hl1 s1 h1 hz1=>?_⟩;have la:=alg_len t;refine⟨p,l1,rs,z1,ps,alg t,rfl,s1 p _ hp,h1,TupsH.same s1 hP,hz1,lp,by omega,λl zs us H2 hl s2 h2 hz2 pm sm=>?_⟩;exact hQ l zs us H2 (s1.free hl) (s1.trans s2) h2 hz2 pm sm
def spExchR:Sp:=λvs H Q _=>∃(p q:Addr)(rs:List Addr)(ps:List (List Int))(t:List Int),vs=[.ref p,.ref q]/\H p=some (.lst (rs.map V.ref))/\H q=some (.lst (t.map V.int))/\TupsH H rs ps/\ps.length<=200/\0<t.length/\t.length<=100 ∧
 ∀(l:Addr)(zs:List Addr)(us:List (List Int))(H':Hp),H l=none->Same H H'->H' l=some (.lst (zs.map V.ref))->TupsH H' zs us->us.Perm (Bt.dif ps (rng t))->(us.Pairwise λa b=>HT.lexLt b a=false)->Q (.ref l) H'
theorem scExchR:FnScope ["pairs","ring"] ["pairs","ring"] (defScope sExchR):=⟨rfl,rfl,rfl,by decide +kernel,rfl,by decide +kernel,by decide +kernel⟩
theorem ok_exchR{f f1 f2:Addr}{fd fd1 fd2:FuncData}(F:Fun K "exchanged_ring" "exchanged_ring" sExchR f fd)
  (G1:FnOk P w K mg base CX0 2 f1 fd1 ["pairs","ties"] spXch) (m1:mg "exchanged_ties"=some (.ref f1)) (k1:PySem.W.keepIn K (.ref f1)=true) (b1:Binds K fd1 ["pairs","ties"] [])
  (G2:FnOk P w K mg base CX0 3 f2 fd2 ["ring"] spAround) (m2:mg "ties_around"=some (.ref f2)) (k2:PySem.W.keepIn K (.ref f2)=true) (b2:Binds K fd2 ["ring"] []):FnOk P w K mg base CX0 4 f fd ["pairs","ring"] spExchR:=by
 refine F.ok scExchR (λvs H Q E h=>?_) (λcdv A outer s H vs Q E hr h=>?_)
 .obtain⟨p,q,rs,ps,t,rfl,_⟩:=h;rfl
 .obtain⟨p,q,rs,ps,t,rfl,hp,hq,hP,lp,l0,lt,hQ⟩:=h;have hr2:Room 2 _:=hr.mono (by decide);refine⟨_,pss_one (ps_ret (pe_call G1 hr2 (by rfl) m1 k1 b1 .nil pass0 (pa_cons (pv 0) (pa_cons (pe_call G2 hr (by rfl) m2 k2 b2 .nil pass0 (pa_cons (pv 1) pa_nil)) pa_nil)))),?_⟩;refine⟨_,rfl,_,rfl,q,t,rfl,hq,lt,λl1 z1 H1 hl1 s1 h1 hz1=>?_⟩;have la:=rng_len l0;refine⟨p,l1,rs,z1,ps,rng t,rfl,s1 p _ hp,h1,TupsH.same s1 hP,hz1,lp,by omega,λl zs us H2 hl s2 h2 hz2 pm sm=>?_⟩;exact hQ l zs us H2 (s1.free hl) (s1.trans s2) h2 hz2 pm sm
def Pts(p:List Int)(i m:Nat)(A:List (List Int)):Prop:=∀x∈A.flatten,∃j,i<=j/\j<m/\p[j]?=some x
theorem Pts.more{p:List Int}{i m m':Nat}{A:List (List Int)}(h:Pts p i m A)(l:m<=m'):Pts p i m' A:=λx hx=>let ⟨j,h0,h1,h2⟩:=h x hx;⟨j,h0,by omega,h2⟩
theorem mat_nil:Bt.Mat []:=⟨λ_ h=>(nomatch h),List.nodup_nil⟩
theorem mat_snoc{A:List (List Int)}(h:Bt.Mat A){x y:Int}(n:x≠y)(hx:x∉A.flatten)(hy:y∉A.flatten):Bt.Mat (A++[Bt.tie x y]):=by
 refine⟨λt ht=>?_,?_⟩
 .rcases List.mem_append.mp ht with w|w
  .exact h.1 t w
  .rw[List.mem_singleton] at w;exact w ▸ Bt.Tie.tie n
 .rw [List.flatten_append,List.nodup_append];refine⟨h.2,?_,λa ha b hb w=>?_⟩
  .obtain⟨u,v,e,l⟩:=Bt.Tie.tie n;show([Bt.tie x y].flatten).Nodup;rw[e];simp;omega
  .have hb:b∈Bt.tie x y:=by simpa using hb
   rcases Bt.mem_tie.mp hb with q|q
   .exact hx (q ▸ w ▸ ha)
   .exact hy (q ▸ w ▸ ha)
theorem nd_at{p:List Int}(h:p.Nodup){i j:Nat}{x:Int}(h1:p[i]?=some x)(h2:p[j]?=some x):i=j:=by
 have h:=List.nodup_iff_pairwise_ne.mp h;rw[List.pairwise_iff_getElem] at h;obtain⟨a1,e1⟩:=List.getElem?_eq_some_iff.mp h1;obtain⟨a2,e2⟩:=List.getElem?_eq_some_iff.mp h2;rcases Nat.lt_trichotomy i j with q|q|q
 .exact absurd (e1.trans e2.symm) (h i j a1 a2 q)
 .exact q
 .exact absurd (e2.trans e1.symm) (h j i a2 a1 q)
theorem pts_snoc{p:List Int}(nd:p.Nodup){i m m':Nat}{A:List (List Int)}(hA:Bt.Mat A)(h:Pts p i m A){u v:Nat}{x y:Int}(eu:p[u]?=some x)(ev:p[v]?=some y)(nuv:u≠v)(hu:u<i\/m<=u)(hv:v<i\/m<=v){i':Nat}(iu:i'<=u)(iv:i'<=v)(ii:i'<=i)(mm:m<=m')(um:u<m')(vm:v<m') :
  Bt.Mat (A++[Bt.tie x y])/\Pts p i' m' (A++[Bt.tie x y]):=by
 have nx:x∉A.flatten:=λz=>by
  obtain⟨j,j0,j1,ej⟩:=h x z;have:=nd_at nd eu ej;omega
 have ny:y∉A.flatten:=λz=>by
  obtain⟨j,j0,j1,ej⟩:=h y z;have:=nd_at nd ev ej;omega
 refine⟨mat_snoc hA (λz=>nuv (by subst z;exact nd_at nd eu ev)) nx ny,λz hz=>?_⟩;rw[List.flatten_append] at hz;rcases List.mem_append.mp hz with w|w
 .obtain⟨j,j0,j1,ej⟩:=h z w;exact⟨j,by omega,by omega,ej⟩
 .have w:z∈Bt.tie x y:=by simpa using w
  rcases Bt.mem_tie.mp w with q|q
  .exact⟨u,iu,um,q ▸ eu⟩
  .exact⟨v,iv,vm,q ▸ ev⟩
structure Bo(H:Hp)(la lb:Addr)(rs qs:List Addr)(O T:List (List Int)):Prop where
 ha:H la=some (.lst (rs.map V.ref))
 hb:H lb=some (.lst (qs.map V.ref))
 hO:TupsH H rs O
 hT:TupsH H qs T
 ne:la≠lb
theorem Bo.same{H H':Hp}{la lb:Addr}{rs qs:List Addr}{O T:List (List Int)}(h:Bo H la lb rs qs O T)(z:Same H H'):Bo H' la lb rs qs O T:=⟨z _ _ h.ha,z _ _ h.hb,TupsH.sm h.hO z,TupsH.sm h.hT z,h.ne⟩
theorem Bo.swap{H:Hp}{la lb:Addr}{rs qs:List Addr}{O T:List (List Int)}(h:Bo H la lb rs qs O T):Bo H lb la qs rs T O:=⟨h.hb,h.ha,h.hT,h.hO,Ne.symm h.ne⟩
theorem Bo.app{H:Hp}{la lb q:Addr}{rs qs:List Addr}{O T:List (List Int)}(h:Bo H la lb rs qs O T){x y:Int}(hq:H q=none) :
  Bo (upd (upd H q (.tup ((Bt.tie x y).map V.int))) la (.lst (rs.map V.ref++[.ref q]))) la lb (rs++[q]) qs (O++[Bt.tie x y]) T:=by
 have h1:=h.same (Same.new' (o:=.tup ((Bt.tie x y).map V.int)) hq);have hq1:upd H q (.tup ((Bt.tie x y).map V.int)) q=some (.tup ((Bt.tie x y).map V.int)):=upd_same;generalize upd H q (.tup ((Bt.tie x y).map V.int))=H1 at h1 hq1 ⊢;have tu:∀b xs,H1 b=some (.tup xs)->upd H1 la (.lst (rs.map V.ref++[.ref q])) b=some (.tup xs):=λb xs e=>by
  rw[upd_ne (λz=>by subst z;rw[h1.ha] at e;cases e)];exact e
 refine⟨by rw[upd_same,List.map_append];rfl,by rw[upd_ne (Ne.symm h.ne)];exact h1.hb,TupsH.tu (paired_snoc h1.hO ⟨hq1,by unfold Bt.tie;simp⟩) tu,TupsH.tu h1.hT tu,h.ne⟩
theorem Bo.fr{H H0:Hp}{la lb q:Addr}{o1 o2:HO}(hq:H q=none)(fr:∀b o,b≠la->b≠lb->H0 b=some o->H b=some o):∀b o,b≠la->b≠lb->H0 b=some o->upd (upd H q o1) la o2 b=some o:=λb o n1 n2 e=>by
 have:=fr b o n1 n2 e;rw[upd_ne n1,upd_ne (ne_of_none this hq)];exact this
def spPiece:Sp:=λvs H Q _=>∃(la lb lp:Addr)(kd:Int)(rs qs:List Addr)(O T:List (List Int))(p:List Int),vs=[.ref la,.ref lb,.ref lp,.int kd]/\Bo H la lb rs qs O T/\H lp=some (.lst (p.map V.int))/\lp≠la/\lp≠lb/\p.Nodup/\p.length<=24/\O.length<=100/\T.length<=100/\0<=kd/\kd<=4 ∧
 ∀rs' qs' A B H',(∀b o,b≠la->b≠lb->H b=some o->H' b=some o)->Bo H' la lb rs' qs' (O++A) (T++B)->Bt.Mat A->Bt.Mat B->Pts p 0 p.length A->Pts p 0 p.length B->Q .non H'
abbrev nmP:List Str:=["_law_one","_law_other","_law_piece_here","_law_kind","_law_k"]
abbrev psP:List Str:=["_law_one","_law_other","_law_piece_here","_law_kind"]
theorem scPiece:FnScope nmP psP (defScope sPiece):=⟨rfl,rfl,rfl,by decide +kernel,rfl,by decide +kernel,by decide +kernel⟩
abbrev XP(P:Program)(w:World)(K:W.Frag)(mg:Str->Option Value)(base:Heap)(f:Addr)(cdv:Value)(A:Around)(outer:List Env)(s:Shared)(H:Hp)(E:XK):Cx:=(cxOf CX0 P w K mg base nmP "_law_piece" (defScope sPiece) f cdv A outer s H E).nox
abbrev pieceAt(i:Nat):Stmt:=(defBody sPiece).getD i (.Pass ⟨0,0,0,0⟩)
section
variable{f:Addr}{cdv:Value}{A:Around}{outer:List Env}{s:Shared}{H:Hp}{E:XK}
def tTurn:TS:=λD σ H=>∃(la lb lp:Addr)(kd:Int)(rs qs:List Addr)(O T:List (List Int))(p:List Int)(e4:Option V),σ=[some (.ref la),some (.ref lb),some (.ref lp),some (.int kd),e4]/\Bo H la lb rs qs O T/\H lp=some (.lst (p.map V.int))/\lp≠la/\lp≠lb/\p.Nodup/\2<=p.length/\p.length<=24/\O.length<=100/\T.length<=100/\0<=kd ∧
 ∀(e4:Option V) rs' qs' A B H',(∀b o,b≠la->b≠lb->H b=some o->H' b=some o)->Bo H' la lb rs' qs' (O++A) (T++B)->Bt.Mat A->Bt.Mat B->Pts p 0 p.length A->Pts p (if kd % 2=0 then 1 else 0) (p.length-((p.length:Int)-1+kd).toNat % 2) B->A.length<=24->B.length<=24->D.nx [some (.ref la),some (.ref lb),some (.ref lp),some (.int kd),e4] H'
theorem ok_turnP(grange:mg "range"=none)(glen:mg "len"=none){fT:Addr}{fdT:FuncData}(GT:FnOk P w K mg base CX0 1 fT fdT ["_law_a","_law_b"] spTie)(mT:mg "_law_tie"=some (.ref fT))(kT:PySem.W.keepIn K (.ref fT)=true)(bT:Binds K fdT ["_law_a","_law_b"] [])
  (hr:Room 1 (XP P w K mg base f cdv A outer s H E).A):PS (XP P w K mg base f cdv A outer s H E) (pieceAt 2) tTurn:=by
 refine' PS.imp (t':=tTurn) (ps_for ?qa ?qb ?qc ?qd (pss_one (ps_if ?qt (pss_one ?b0) (pss_one ?b1)))) ?_
 case qa=>exact PassesOwn.never
 case qb=>exact rfl
 case qc=>exact pi_range1 rfl grange (pa_cons (pe_op op_sub (pe_callB call_len_seq (by rfl) glen PySem.boot_len (pa_cons (pv 2) pa_nil)) pe_int) pa_nil)
 case qd=>exact pg_name (i:=4) scPiece.nd rfl (Or.inl rfl)
 case qt=>exact pt_cmpR op_eq (pe_op op_mod (pe_op op_add (pv 4) (pv 3)) pe_int) pe_int (nomark _)
 case b0=>exact ps_expr (pe_bm PySem.F.plainAttrs_list PySem.F.slot_list_append PySem.F.type_list_append mt_append (pv 0) (pa_cons (pe_call GT hr (by rfl) mT kT bT .nil pass0 (pa_cons (pe_ix ix_list (pv 2) (pv 4) (λ_ _=>rfl)) (pa_cons (pe_ix ix_list (pv 2) (pe_op op_add (pv 4) pe_int) (λ_ _=>rfl)) pa_nil))) pa_nil))
 case b1=>exact ps_expr (pe_bm PySem.F.plainAttrs_list PySem.F.slot_list_append PySem.F.type_list_append mt_append (pv 1) (pa_cons (pe_call GT hr (by rfl) mT kT bT .nil pass0 (pa_cons (pe_ix ix_list (pv 2) (pv 4) (λ_ _=>rfl)) (pa_cons (pe_ix ix_list (pv 2) (pe_op op_add (pv 4) pe_int) (λ_ _=>rfl)) pa_nil))) pa_nil))
 rintro D σ H1 ⟨la,lb,lp,kd,rs,qs,O,T,p,e4,rfl,bo,hp,na,nb,nd,l2,l24,lO,lT,k0,k⟩;refine⟨_,rfl,lp,_,rfl,.inl (SqL.of hp),_,_,rfl,rfl,_,rfl,by rw[List.length_map];omega,by rw[List.length_map];omega,?_⟩;rw[List.length_map];refine for_range (lo:=0) (n:=((p.length:Int)-1).toNat) (λi σ H2=>∃(e4:Option V)(rs' qs':List Addr)(A B:List (List Int)),σ=[some (.ref la),some (.ref lb),some (.ref lp),some (.int kd),e4]/\(∀b o,b≠la->b≠lb->H1 b=some o->H2 b=some o)/\Bo H2 la lb rs' qs' (O++A) (T++B)/\Bt.Mat A/\Bt.Mat B ∧
   Pts p 0 (i+((i:Int)+kd).toNat % 2) A/\Pts p (if kd % 2=0 then 1 else 0) (i+1-((i:Int)+kd).toNat % 2) B/\A.length<=i/\B.length<=i)
  ⟨_,rs,qs,[],[],rfl,λ_ _ _ _ h=>h,by rw[List.append_nil,List.append_nil];exact bo,mat_nil,mat_nil,λx hx=>(nomatch hx),λx hx=>(nomatch hx),Nat.le_refl _,Nat.le_refl _⟩ ?_ ?_
 .rintro i σ H2 hi ⟨e4,rs',qs',A,B,rfl,fr,b2,mA,mB,pA,pB,lA,lB⟩;have hp2:=fr lp _ na nb hp;obtain⟨x,ex⟩:∃x,p[i]?=some x:=⟨p[i]'(by omega),by simp⟩;obtain⟨y,ey⟩:∃y,p[i+1]?=some y:=⟨p[i+1]'(by omega),by simp⟩;have ga:atI (p.map V.int) (0+(i:Int))=some (.int x):=by
   have:=atI_get' (xs:=p) (z:=0+(i:Int)) (k:=i) (by omega) (by omega);rw[this];simp[ex]
  have gb:atI (p.map V.int) (0+(i:Int)+1)=some (.int y):=by
   have:=atI_get' (xs:=p) (z:=0+(i:Int)+1) (k:=i+1) (by omega) (by omega);rw[this];simp[ey]
  have lr:=Paired.length b2.hO;have lq:=Paired.length b2.hT;rw[List.length_append] at lr lq;unfold gName;dsimp only[List.set_cons_succ,List.set_cons_zero];refine⟨_,rfl,_,rfl,_,_,rfl,rfl,_,_,rfl,rfl,(by show(0:Int)<2;decide),rfl,_,rfl,?_⟩;refine ite2 (λc=>?_) (λc=>?_)
  .have c:(0+(i:Int)+kd) % 2=0:=by
    have:=of_decide_eq_true c;injection this
   have c0:((i:Int)+kd).toNat % 2=0:=by omega
   have c1:(((i+1:Nat):Int)+kd).toNat % 2=1:=by omega
   refine⟨_,rfl,.inl ⟨rfl,_,SqL.of b2.ha⟩,_,rfl,_,rfl,lp,_,_,_,rfl,rfl,SqL.of hp2,ga,_,rfl,_,rfl,_,_,rfl,rfl,lp,_,_,_,rfl,rfl,SqL.of hp2,gb,x,y,rfl,λq hq=>?_⟩;have b3:=b2.same (Same.new' (o:=.tup ((Bt.tie x y).map V.int)) hq);refine⟨la,_,_,rfl,rfl,b3.ha,small1000 (by rw[List.length_map];omega),?_⟩;obtain⟨m1,p1⟩:=pts_snoc (i':=0) (m':=i+2) nd mA pA ex ey (by omega) (.inr (by omega)) (.inr (by omega)) (by omega) (by omega) (by omega) (by omega) (by omega) (by omega);refine⟨_,rs'++[q],qs',A++[Bt.tie x y],B,rfl,Bo.fr hq fr,by rw[<-List.append_assoc];exact b2.app hq,m1,mB,p1.more (by omega),pB.more (by omega),by rw[List.length_append];show _+1<=_;omega,by omega⟩
  .have c:¬(0+(i:Int)+kd) % 2=0:=λz=>c (by rw[decide_eq_true_iff];exact congrArg V.int z);have c0:((i:Int)+kd).toNat % 2=1:=by omega
   have c1:(((i+1:Nat):Int)+kd).toNat % 2=0:=by omega
   have ev:kd % 2=0->1<=i:=λz=>by omega
   refine⟨_,rfl,.inl ⟨rfl,_,SqL.of b2.hb⟩,_,rfl,_,rfl,lp,_,_,_,rfl,rfl,SqL.of hp2,ga,_,rfl,_,rfl,_,_,rfl,rfl,lp,_,_,_,rfl,rfl,SqL.of hp2,gb,x,y,rfl,λq hq=>?_⟩;have b3:=b2.same (Same.new' (o:=.tup ((Bt.tie x y).map V.int)) hq);refine⟨lb,_,_,rfl,rfl,b3.hb,small1000 (by rw[List.length_map];omega),?_⟩;have ie:(if kd % 2=0 then 1 else 0)<=i:=by
    by_cases z:kd % 2=0
    .rw[if_pos z];exact ev z
    .rw[if_neg z];exact Nat.zero_le _
   obtain⟨m1,p1⟩:=pts_snoc (i':=if kd % 2=0 then 1 else 0) (m':=i+2) nd mB pB ex ey (by omega) (.inr (by omega)) (.inr (by omega)) ie (by omega) (Nat.le_refl _) (by omega) (by omega) (by omega);refine⟨_,rs',qs'++[q],A,B++[Bt.tie x y],rfl,λb o n1 n2 e=>Bo.fr (lb:=la) hq (λb o n1 n2 e=>fr b o n2 n1 e) b o n2 n1 e,by rw[<-List.append_assoc];exact(b2.swap.app hq).swap,mA,m1,pA.more (by omega),p1.more (by omega),by omega,by rw[List.length_append];show _+1<=_;omega⟩
 .rintro σ H2 ⟨e4,rs',qs',A,B,rfl,fr,b2,mA,mB,pA,pB,lA,lB⟩;refine k _ rs' qs' A B H2 fr b2 mA mB (pA.more (by omega)) (λx hx=>?_) (by omega) (by omega);obtain⟨j,j0,j1,ej⟩:=pB x hx;refine⟨j,j0,?_,ej⟩;have e:(((((p.length:Int)-1).toNat:Nat):Int)+kd).toNat % 2=((p.length:Int)-1+kd).toNat % 2:=by congr 2;omega
  omega
end
end
theorem atI_end{α:Type}{xs:List α}{v:α}(h:0<xs.length)(e:xs[xs.length-1]?=some v):atI xs (-1)=some v:=by
 have h1:ixN xs.length (-1)=some (xs.length-1):=by
  unfold ixN;rw[if_neg (by decide)]
  first
   | (rw[if_pos (by omega)];congr 1;omega)
   | (split<;>simp_all<;>omega)
 unfold atI;rw[h1];exact e
section
variable{P:Program}{w:World}{K:W.Frag}{mg:Str->Option Value}{base:Heap}
section
variable{f:Addr}{cdv:Value}{A:Around}{outer:List Env}{s:Shared}{H:Hp}{E:XK}
def tClose:TS:=λD σ H=>∃(la lb lp:Addr)(kd:Int)(rs qs:List Addr)(O T B:List (List Int))(p:List Int)(e4:Option V),σ=[some (.ref la),some (.ref lb),some (.ref lp),some (.int kd),e4]/\Bo H la lb rs qs O (T++B)/\H lp=some (.lst (p.map V.int))/\p.Nodup/\2<=p.length/\p.length<=24/\(T++B).length<=200/\Bt.Mat B/\Pts p (if kd % 2=0 then 1 else 0) (p.length-((p.length:Int)-1+kd).toNat % 2) B ∧
 ∀qs' B' H',(∀b o,b≠la->b≠lb->H b=some o->H' b=some o)->Bo H' la lb rs qs' O (T++B')->Bt.Mat B'->Pts p 0 p.length B'->D.nx σ H'
theorem ok_close(glen:mg "len"=none){fT:Addr}{fdT:FuncData}(GT:FnOk P w K mg base CX0 1 fT fdT ["_law_a","_law_b"] spTie)(mT:mg "_law_tie"=some (.ref fT))(kT:PySem.W.keepIn K (.ref fT)=true)(bT:Binds K fdT ["_law_a","_law_b"] [])
  (hr:Room 1 (XP P w K mg base f cdv A outer s H E).A):PS (XP P w K mg base f cdv A outer s H E) (pieceAt 3) tClose:=by
 refine' PS.imp (t':=tClose) (ps_if (pw_and (pt_cmpR op_eq (pv 3) pe_int (nomark _)) (pw_and (pt_cmpR op_eq (pe_op op_mod (pe_callB call_len_seq (by rfl) glen PySem.boot_len (pa_cons (pv 2) pa_nil)) pe_int) pe_int (nomark _)) (pw_and1 (pt_cmpR op_gt (pe_callB call_len_seq (by rfl) glen PySem.boot_len (pa_cons (pv 2) pa_nil)) pe_int (nomark _))))).pt (pss_one ?b0) pss_nil) ?_
 case b0=>exact ps_expr (pe_bm PySem.F.plainAttrs_list PySem.F.slot_list_append PySem.F.type_list_append mt_append (pv 1) (pa_cons (pe_call GT hr (by rfl) mT kT bT .nil pass0 (pa_cons (pe_ix ix_list (pv 2) pe_int (λ_ _=>rfl)) (pa_cons (pe_ix ix_list (pv 2) (pe_un un_neg pe_int) (λ_ _=>rfl)) pa_nil))) pa_nil))
 rintro D σ H1 ⟨la,lb,lp,kd,rs,qs,O,T,B,p,e4,rfl,bo,hp,nd,l2,l24,lT,mB,pB,k⟩;have pB0:Pts p 0 p.length B:=λx hx=>by
  obtain⟨j,j0,j1,ej⟩:=pB x hx;exact⟨j,Nat.zero_le _,by omega,ej⟩
 have stay:=k qs B H1 (λ_ _ _ _ h=>h) bo mB pB0;refine⟨_,rfl,rfl,_,rfl,?_⟩;refine ite2 (λc=>?_) (λ_=>iteF stay);have c:kd=2:=by
  have:=of_decide_eq_true c;injection this
 subst c;refine⟨_,rfl,lp,_,rfl,.inl (SqL.of hp),_,_,rfl,rfl,(by show(0:Int)<2;decide),rfl,_,rfl,?_⟩;rw[List.length_map];refine ite2 (λc=>?_) (λ_=>iteF stay);have c:(p.length:Int) % 2=0:=by
  have:=of_decide_eq_true c;injection this
 refine⟨_,rfl,lp,_,rfl,.inl (SqL.of hp),_,_,rfl,rfl,_,rfl,?_⟩;rw[List.length_map];refine ite2 (λc3=>?_) (λ_=>stay);have c3:(2:Int)<p.length:=of_decide_eq_true c3;obtain⟨x,ex⟩:∃x,p[0]?=some x:=⟨p[0]'(by omega),by simp⟩;obtain⟨y,ey⟩:∃y,p[p.length-1]?=some y:=⟨p[p.length-1]'(by omega),by simp⟩;have ga:atI (p.map V.int) 0=some (.int x):=by
  have:=atI_get' (xs:=p) (z:=0) (k:=0) (by omega) (by omega);rw[this];simp[ex]
 have gb:atI (p.map V.int) (-1)=some (.int y):=by
  exact atI_end (by rw[List.length_map];omega) (by rw[List.length_map,List.getElem?_map,ey];rfl)
 have lq:=Paired.length bo.hT;refine⟨_,rfl,.inl ⟨rfl,_,SqL.of bo.hb⟩,_,rfl,lp,_,_,_,rfl,rfl,SqL.of hp,ga,_,rfl,_,rfl,lp,_,_,_,rfl,rfl,SqL.of hp,gb,x,y,rfl,λq hq=>?_⟩;have b3:=bo.same (Same.new' (o:=.tup ((Bt.tie x y).map V.int)) hq);refine⟨lb,_,_,rfl,rfl,b3.hb,small1000 (by rw[List.length_map];omega),?_⟩;rw[if_pos (show(2:Int) % 2=0 by decide)] at pB;obtain⟨m1,p1⟩:=pts_snoc (i':=0) (m':=p.length) nd mB pB ex ey (by omega) (.inl (by omega)) (.inr (by omega)) (by omega) (by omega) (by omega) (by omega) (by omega) (by omega);exact k (qs++[q]) (B++[Bt.tie x y]) _ (λb o n1 n2 e=>Bo.fr (lb:=la) hq (λ_ _ _ _ h=>h) b o n2 n1 e) (by rw[<-List.append_assoc];exact(bo.swap.app hq).swap) m1 p1
end
theorem ok_piece{f fT:Addr}{fd fdT:FuncData}(F:Fun K "_law_piece" "_law_piece" sPiece f fd)(grange:mg "range"=none)(glen:mg "len"=none)
  (GT:FnOk P w K mg base CX0 1 fT fdT ["_law_a","_law_b"] spTie) (mT:mg "_law_tie"=some (.ref fT)) (kT:PySem.W.keepIn K (.ref fT)=true) (bT:Binds K fdT ["_law_a","_law_b"] []):FnOk P w K mg base CX0 2 f fd psP spPiece:=by
 refine F.ok scPiece (λvs H Q E h=>?_) (λcdv A outer s H vs Q E hr h=>?_)
 .obtain⟨la,lb,lp,kd,rs,qs,O,T,p,rfl,_⟩:=h;rfl
 .obtain ⟨la,lb,lp,kd,rs,qs,O,T,p,rfl,bo,hp,na,nb,nd,l24,lO,lT,k0,k4,hQ⟩:=h;have hr1:Room 1 (XP P w K mg base f cdv A outer s H E).A:=hr;refine'⟨_,pss_cons ?s0 (pss_cons ?s1 (pss_cons (ok_turnP grange glen GT mT kT bT hr1) (pss_one (ok_close glen GT mT kT bT hr1)))),?_⟩
  case s0=>exact ps_if (pw_or (pt_cmpR op_eq (pv 3) pe_int (nomark _)) (pw_or1 (pt_cmpR op_lt (pe_callB call_len_seq (by rfl) glen PySem.boot_len (pa_cons (pv 2) pa_nil)) pe_int (nomark _)))).pt (pss_one ps_retN) pss_nil
  case s1=>
   refine' ps_if (pt_cmpR op_eq (pv 3) pe_int (nomark _)) (pss_cons ?c0 (pss_cons ?c1 (pss_one ps_retN))) pss_nil
   case c0=>exact ps_expr (pe_bm PySem.F.plainAttrs_list PySem.F.slot_list_append PySem.F.type_list_append mt_append (pv 0) (pa_cons (pe_call GT hr1 (by rfl) mT kT bT .nil pass0 (pa_cons (pe_ix ix_list (pv 2) pe_int (λ_ _=>rfl)) (pa_cons (pe_ix ix_list (pv 2) pe_int (λ_ _=>rfl)) pa_nil))) pa_nil))
   case c1=>exact ps_expr (pe_bm PySem.F.plainAttrs_list PySem.F.slot_list_append PySem.F.type_list_append mt_append (pv 1) (pa_cons (pe_call GT hr1 (by rfl) mT kT bT .nil pass0 (pa_cons (pe_ix ix_list (pv 2) pe_int (λ_ _=>rfl)) (pa_cons (pe_ix ix_list (pv 2) pe_int (λ_ _=>rfl)) pa_nil))) pa_nil))
  have none_:=hQ rs qs [] [] H (λ_ _ _ _ h=>h) (by rw[List.append_nil,List.append_nil];exact bo) mat_nil mat_nil (λx hx=>(nomatch hx)) (λx hx=>(nomatch hx));refine⟨_,rfl,rfl,_,rfl,?_⟩;refine ite2 (λ_=>iteT none_) (λ_=>?_);refine⟨_,rfl,lp,_,rfl,.inl (SqL.of hp),_,_,rfl,rfl,_,rfl,?_⟩;rw[List.length_map];refine ite2 (λ_=>none_) (λc=>?_);have l2:2<=p.length:=by
   have:¬(p.length:Int)<2:=λz=>c (decide_eq_true z);omega
  refine⟨_,rfl,rfl,_,rfl,?_⟩;have lr:=Paired.length bo.hO;have lq:=Paired.length bo.hT;refine ite2 (λ_=>?_) (λ_=>?_)
  .obtain ⟨x,ex⟩:∃x,p[0]?=some x:=⟨p[0]'(by omega),by simp⟩;obtain⟨y,ey⟩:∃y,p[1]?=some y:=⟨p[1]'(by omega),by simp⟩;have ga:atI (p.map V.int) 0=some (.int x):=by
    have:=atI_get' (xs:=p) (z:=0) (k:=0) (by omega) (by omega);rw[this];simp[ex]
   have gb:atI (p.map V.int) 1=some (.int y):=by
    have:=atI_get' (xs:=p) (z:=1) (k:=1) (by omega) (by omega);rw[this];simp[ey]
   obtain⟨m1,p1⟩:=pts_snoc (A:=[]) (i:=0) (m:=0) (i':=0) (m':=p.length) nd mat_nil (λx hx=>(nomatch hx)) ex ey (by omega) (.inr (by omega)) (.inr (by omega)) (by omega) (by omega) (by omega) (by omega) (by omega) (by omega);refine⟨_,rfl,.inl ⟨rfl,_,SqL.of bo.ha⟩,_,rfl,lp,_,_,_,rfl,rfl,SqL.of hp,ga,_,rfl,lp,_,_,_,rfl,rfl,SqL.of hp,gb,x,y,rfl,λq hq=>?_⟩;have b3:=bo.same (Same.new' (o:=.tup ((Bt.tie x y).map V.int)) hq);refine⟨la,_,_,rfl,rfl,b3.ha,small1000 (by rw[List.length_map];omega),?_⟩;have b4:=bo.app (x:=x) (y:=y) hq;have fr4:=Bo.fr (la:=la) (lb:=lb) (H0:=H) (o1:=.tup ((Bt.tie x y).map V.int)) (o2:=.lst (rs.map V.ref++[.ref q])) hq λ_ _ _ _ h=>h;generalize upd (upd H q (.tup ((Bt.tie x y).map V.int))) la (.lst (rs.map V.ref++[.ref q]))=H4 at b4 fr4 ⊢;have hp4:=fr4 lp _ na nb hp;refine⟨_,rfl,.inl ⟨rfl,_,SqL.of b4.hb⟩,_,rfl,lp,_,_,_,rfl,rfl,SqL.of hp4,ga,_,rfl,lp,_,_,_,rfl,rfl,SqL.of hp4,gb,x,y,rfl,λq2 hq2=>?_⟩;have b5:=b4.same (Same.new' (o:=.tup ((Bt.tie x y).map V.int)) hq2);refine⟨lb,_,_,rfl,rfl,b5.hb,small1000 (by rw[List.length_map];omega),?_⟩;exact hQ _ _ [Bt.tie x y] [Bt.tie x y] _ (λb o n1 n2 e=>Bo.fr (lb:=la) hq2 (λb o n1 n2 e=>fr4 b o n2 n1 e) b o n2 n1 e) ((b4.swap.app hq2).swap) m1 m1 p1 p1
  .refine⟨la,lb,lp,kd,rs,qs,O,T,p,_,rfl,bo,hp,na,nb,nd,l2,l24,lO,lT,k0,λe4 rs' qs' A B H2 fr b2 mA mB pA pB lA lB=>?_⟩;refine⟨la,lb,lp,kd,rs',qs',O++A,T,B,p,e4,rfl,b2,fr lp _ na nb hp,nd,l2,l24,by rw[List.length_append];omega,mB,pB,λqs2 B' H3 fr3 b3 mB' pB'=>?_⟩;exact hQ rs' qs2 A B' H3 (λb o n1 n2 e=>fr3 b o n1 n2 (fr b o n1 n2 e)) b3 mA mB' pA pB'
theorem mat_len{O:List (List Int)}(h:Bt.Mat O):O.flatten.length=2*O.length:=by
 have h1:=h.1;clear h
 induction O with
 | nil=>rfl
 | cons t O ih=>
  rw[List.flatten_cons,List.length_append,ih λu hu=>h1 u (.tail _ hu)];obtain⟨a,b,rfl,_⟩:=h1 t (.head _);show 2+2*O.length=2*(O.length+1);omega
theorem mat_app{O A:List (List Int)}(hO:Bt.Mat O)(hA:Bt.Mat A)(d:∀x∈O.flatten,x∉A.flatten):Bt.Mat (O++A):=by
 refine⟨λt ht=>?_,?_⟩
 .rcases List.mem_append.mp ht with w|w
  .exact hO.1 t w
  .exact hA.1 t w
 .rw[List.flatten_append,List.nodup_append];exact⟨hO.2,hA.2,λa ha b hb w=>d a ha (w ▸ hb)⟩
def spTwo(K:W.Frag):Sp:=λvs H Q _=>∃(a l:Addr)(ns o:List Int),vs=[.ref a,.ref l]/\SqL K H a (ns.map V.int)/\H l=some (.lst (o.map V.int))/\o.Nodup/\o.length<=24 ∧
 ∀p l1 l2 rs qs O T H',Same H H'->H' p=some (.tup [.ref l1,.ref l2])->H' l1=some (.lst (rs.map V.ref))->H' l2=some (.lst (qs.map V.ref))->TupsH H' rs O->TupsH H' qs T->Bt.Mat O->Bt.Mat T->O.length<=12->T.length<=12->(∀x∈O.flatten,x∈o)->(∀x∈T.flatten,x∈o)->(O.Pairwise λa b=>HT.lexLt b a=false)->(T.Pairwise λa b=>HT.lexLt b a=false)->Q (.ref p) H'
abbrev nmT:List Str:=["_law_script","_law_order_here","_law_one","_law_other","_law_at","_law_k","_law_number","_law_size"]
theorem scTwo:FnScope nmT ["_law_script","_law_order_here"] (defScope sTwo):=⟨rfl,rfl,rfl,by decide +kernel,rfl,by decide +kernel,by decide +kernel⟩
abbrev XT(P:Program)(w:World)(K:W.Frag)(mg:Str->Option Value)(base:Heap)(f:Addr)(cdv:Value)(A:Around)(outer:List Env)(s:Shared)(H:Hp)(E:XK):Cx:=(cxOf CX0 P w K mg base nmT "_law_two" (defScope sTwo) f cdv A outer s H E).nox
theorem ok_two{f fC fP:Addr}{fd fdC fdP:FuncData}(F:Fun K "_law_two" "_law_two" sTwo f fd)(glen:mg "len"=none)(gsrt:mg "sorted"=none)
  (GC:FnOk P w K mg base CX0 1 fC fdC ["_law_script","_law_k"] (spCell K)) (mC:mg "_law_cell_at"=some (.ref fC)) (kC:PySem.W.keepIn K (.ref fC)=true) (bC:Binds K fdC ["_law_script","_law_k"] [])
  (GP:FnOk P w K mg base CX0 2 fP fdP psP spPiece) (mP:mg "_law_piece"=some (.ref fP)) (kP:PySem.W.keepIn K (.ref fP)=true) (bP:Binds K fdP psP []):FnOk P w K mg base CX0 3 f fd ["_law_script","_law_order_here"] (spTwo K):=by
 refine F.ok scTwo (λvs H Q E h=>?_) (λcdv A outer s H vs Q E hr h=>?_)
 .obtain⟨a,l,ns,o,rfl,_⟩:=h;rfl
 .obtain ⟨a,l,ns,o,rfl,hS,hl,nd,l24,hQ⟩:=h;have hr1:Room 1 (XT P w K mg base f cdv A outer s H E).A:=hr.mono (by decide);have hr2:Room 2 (XT P w K mg base f cdv A outer s H E).A:=hr;refine'⟨_,pss_cons ?s0 (pss_cons ?s1 (pss_cons ?s2 (pss_cons ?s3 (pss_cons (ps_while ?wa ?wc (pss_cons ?b0 (pss_cons ?b1 (pss_cons ?b2 (pss_cons ?b3 (pss_one ?b4)))))) (pss_one ?s5))))),?_⟩
  case s0=>exact ps_set (i:=2) scTwo.nd rfl (Or.inl rfl) (pe_lst pa_nil)
  case s1=>exact ps_set (i:=3) scTwo.nd rfl (Or.inl rfl) (pe_lst pa_nil)
  case s2=>exact ps_set (i:=4) scTwo.nd rfl (Or.inl rfl) pe_int
  case s3=>exact ps_set (i:=5) scTwo.nd rfl (Or.inl rfl) pe_int
  case wa=>exact PassesOwn.never
  case wc=>exact pt_cmpR op_lt (pv 4) (pe_callB call_len_seq (by rfl) glen PySem.boot_len (pa_cons (pv 1) pa_nil)) (nomark _)
  case b0=>exact ps_set (i:=6) scTwo.nd rfl (Or.inl rfl) (pe_op op_mod (pe_op op_mul (pe_op op_add (pe_call GC hr1 (by rfl) mC kC bC .nil pass0 (pa_cons (pv 0) (pa_cons (pv 5) pa_nil))) (pe_op op_mul pe_int (pv 5))) pe_int) pe_int)
  case b1=>exact ps_set (i:=7) scTwo.nd rfl (Or.inl rfl) (pe_op op_add pe_int (pe_op op_mod (pe_op op_fdiv (pv 6) pe_int) (pe_ix ix_list (pe_lst (pa_cons pe_int (pa_cons pe_int pa_nil))) (pe_op op_mod (pe_op op_fdiv (pv 6) pe_int) pe_int) (λ_ _=>rfl))))
  case b2=>exact ps_expr (pe_call GP hr2 (by rfl) mP kP bP .nil pass0 (pa_cons (pv 2) (pa_cons (pv 3) (pa_cons (pe_slice sl_list (pv 1) (po_some (pv 4)) (po_some (pe_op op_add (pv 4) (pv 7)))) (pa_cons (pe_op op_mod (pv 6) pe_int) pa_nil)))))
  case b3=>exact ps_set (i:=4) scTwo.nd rfl (Or.inl rfl) (pe_op op_add (pv 4) (pv 7))
  case b4=>exact ps_set (i:=5) scTwo.nd rfl (Or.inl rfl) (pe_op op_add (pv 5) pe_int)
  case s5=>exact ps_ret (pe_tup (pa_cons (pe_callB call_sortedL (by rfl) gsrt boot_sorted (pa_cons (pv 2) pa_nil)) (pa_cons (pe_callB call_sortedL (by rfl) gsrt boot_sorted (pa_cons (pv 3) pa_nil)) pa_nil)))
  refine⟨Nat.zero_le _,λla n1=>⟨Nat.zero_le _,λlb n2=>?_⟩⟩;have s1:Same H (upd H la (.lst [])):=Same.new' n1;have s2:=s1.trans (Same.new' (o:=.lst []) n2);have nab:la≠lb:=ne_of_none (o:=.lst []) upd_same n2;have nb0:H lb=none:=s1.free n2;have bo0:Bo (upd (upd H la (.lst [])) lb (.lst [])) la lb [] [] [] []:=⟨by rw[upd_ne nab];exact upd_same,upd_same,.nil,.nil,nab⟩;generalize upd (upd H la (.lst [])) lb (.lst [])=H1 at s2 bo0 ⊢;trivial;refine⟨λm σ H2=>∃(at_:Nat)(k:Int)(rs qs:List Addr)(O T:List (List Int))(e6 e7:Option V),σ=[some (.ref a),some (.ref l),some (.ref la),some (.ref lb),some (.int at_),some (.int k),e6,e7]/\Same H H2/\Bo H2 la lb rs qs O T/\Bt.Mat O/\Bt.Mat T/\(∀x∈O.flatten,x∈o.take at_)/\(∀x∈T.flatten,x∈o.take at_)/\0<=k/\m=o.length-at_,
   ⟨_,0,25,[],[],[],[],_,_,rfl,s2,bo0,mat_nil,mat_nil,λx hx=>(nomatch hx),λx hx=>(nomatch hx),by decide,rfl⟩,?_⟩
  rintro m σ H2 ⟨at_,k,rs,qs,O,T,e6,e7,rfl,s2,bo,mO,mT,iO,iT,k0,rfl⟩;have bnd:∀{Z:List (List Int)},Bt.Mat Z->(∀x∈Z.flatten,x∈o.take at_)->Z.length<=12:=λ{Z} hZ iZ=>by
   have h1:=hZ.2.length_le_of_subset iZ;rw[mat_len hZ,List.length_take] at h1;omega
  have lO:=bnd mO iO;have lT:=bnd mT iT;refine⟨_,rfl,_,rfl,l,_,rfl,.inl (SqL.of (s2 l _ hl)),_,_,rfl,rfl,_,rfl,?_⟩;rw[List.length_map];refine ite2 (λc=>?_) (λ_=>?_)
  .have c:(at_:Int)<o.length:=of_decide_eq_true c;refine⟨λσ H3=>∃(sz:Nat)(k:Int)(rs qs:List Addr)(O T:List (List Int))(e6 e7:Option V),1<=sz/\σ=[some (.ref a),some (.ref l),some (.ref la),some (.ref lb),some (.int ((at_:Int)+sz)),some (.int k),e6,e7]/\Same H H3/\Bo H3 la lb rs qs O T/\Bt.Mat O/\Bt.Mat T/\(∀x∈O.flatten,x∈o.take (at_+sz))/\(∀x∈T.flatten,x∈o.take (at_+sz))/\0<=k,
    λσ' H' ⟨sz,k,rs,qs,O,T,e6,e7,h1,e,q1,q2,q3,q4,q5,q6,q7⟩=>⟨_,by omega,at_+sz,k,rs,qs,O,T,e6,e7,e,q1,q2,q3,q4,q5,q6,q7,rfl⟩,?_⟩
   refine⟨_,rfl,_,rfl,a,ns,k,rfl,k0,s2.seq hS,λn=>⟨_,rfl,_,_,rfl,rfl,.inl ⟨by decide,by decide⟩,_,_,rfl,rfl,_,_,rfl,rfl,.inr ⟨by decide,by decide⟩,_,_,rfl,rfl,(by show(0:Int)<2147483629;decide),?_⟩⟩;trivial;have nu0:=Int.emod_nonneg ((n+5*k)*69621) (show(2147483629:Int)≠0 by decide);generalize (n+5*k)*69621 % 2147483629=nu at nu0 ⊢;refine⟨_,rfl,_,_,rfl,rfl,⟨by decide,by decide⟩,(by show 2<=sizeLine;decide),λl5 h5=>?_⟩;have s3:Same H2 (upd H2 l5 (.lst [.int 5,.int 24])):=Same.new' h5;have g5:upd H2 l5 (.lst [.int 5,.int 24]) l5=some (.lst [.int 5,.int 24]):=upd_same;generalize upd H2 l5 (.lst [.int 5,.int 24])=H3 at s3 g5 ⊢;obtain⟨md,gm,hm⟩:∃md:Int,atI [V.int 5,V.int 24] (nu / 120 % 2)=some (.int md)/\0<md:=by
    have b0:=Int.emod_nonneg (nu / 120) (show(2:Int)≠0 by decide);have b1:=Int.emod_lt_of_pos (nu / 120) (show(0:Int)<2 by decide);have:nu / 120 % 2=0\/nu / 120 % 2=1:=by omega
    rcases this with z|z
    .rw[z];exact⟨5,rfl,by decide⟩
    .rw[z];exact⟨24,rfl,by decide⟩
   refine⟨_,rfl,_,_,rfl,rfl,⟨by decide,by decide⟩,_,_,rfl,rfl,(by show(0:Int)<2;decide),l5,_,_,_,rfl,rfl,SqL.of g5,gm,_,_,rfl,rfl,hm,_,_,rfl,rfl,?_⟩;trivial;have sz0:=Int.emod_nonneg (nu / 5) (show md≠0 by omega);obtain⟨sz,es,h1⟩:∃sz:Nat,1+nu / 5 % md=(sz:Int)/\1<=sz:=⟨(1+nu / 5 % md).toNat,by omega,by omega⟩;rw[es];refine⟨_,rfl,_,rfl,_,rfl,_,rfl,_,rfl,_,rfl,_,rfl,_,_,rfl,rfl,_,rfl,l,_,rfl,SqL.of ((s2.trans s3) l _ hl),λlp hlp=>?_⟩;have ep:cutA o (some (at_:Int)) (some ((at_:Int)+sz))=(o.drop at_).take sz:=by
    unfold cutA;rw[show(some ((at_:Int)+sz):Option Int)=some (((at_+sz:Nat)):Int) by congr 1,HT.sIx_nat,HT.sIx_nat,Nat.min_eq_left (show at_<=o.length by omega)];rcases Nat.lt_or_ge (at_+sz) o.length with w|w
    .rw[Nat.min_eq_left (show at_+sz<=o.length by omega)];congr 1;omega
    .rw[Nat.min_eq_right w,List.take_of_length_le (by rw[List.length_drop];exact Nat.le_refl _),List.take_of_length_le (by rw[List.length_drop];omega)]
   rw[cut_map,ep];have bo3:=bo.same s3;have s4:Same H3 (upd H3 lp (.lst (((o.drop at_).take sz).map V.int))):=Same.new' hlp;have g4:upd H3 lp (.lst (((o.drop at_).take sz).map V.int)) lp=some (.lst (((o.drop at_).take sz).map V.int)):=upd_same;have na:lp≠la:=λz=>by rw[z,bo3.ha] at hlp;cases hlp
   have nb:lp≠lb:=λz=>by rw[z,bo3.hb] at hlp;cases hlp
   generalize upd H3 lp (.lst (((o.drop at_).take sz).map V.int))=H4 at s4 g4 ⊢;have pnd:((o.drop at_).take sz).Nodup:=(nd.sublist (List.drop_sublist _ _)).sublist (List.take_sublist _ _);have pl:((o.drop at_).take sz).length<=24:=by rw[List.length_take,List.length_drop];omega
   have kd0:=Int.emod_nonneg nu (show(5:Int)≠0 by decide);have kd1:=Int.emod_lt_of_pos nu (show(0:Int)<5 by decide);refine⟨_,rfl,_,_,rfl,rfl,(by show(0:Int)<5;decide),la,lb,lp,_,rs,qs,O,T,_,rfl,bo3.same s4,g4,na,nb,pnd,pl,by omega,by omega,kd0,by omega,λrs' qs' A B H5 fr b5 mA mB pA pB=>?_⟩;have s05:Same H H5:=λb o' e=>by
    refine fr b o' (ne_of_none e n1) (ne_of_none e nb0) (s4 b o' (s3 b o' (s2 b o' e)))
   have inp:∀{Z:List (List Int)},Pts ((o.drop at_).take sz) 0 ((o.drop at_).take sz).length Z->∀x∈Z.flatten,x∈(o.drop at_).take sz:=λh x hx=>by
    obtain⟨j,_,_,ej⟩:=h x hx;exact List.mem_of_getElem? ej
   have apart:∀x∈o.take at_,x∉(o.drop at_).take sz:=λx hx hy=>by
    have hn:=nd;rw[<-List.take_append_drop at_ o,List.nodup_append] at hn;exact hn.2.2 x hx x (List.mem_of_mem_take hy) rfl
   have sub1:∀x∈o.take at_,x∈o.take (at_+sz):=λx hx=>by
    rw[List.take_add];exact List.mem_append_left _ hx
   have sub2:∀x∈(o.drop at_).take sz,x∈o.take (at_+sz):=λx hx=>by
    rw[List.take_add];exact List.mem_append_right _ hx
   have un:∀{Y Z:List (List Int)},(∀x∈Y.flatten,x∈o.take at_)->Pts ((o.drop at_).take sz) 0 ((o.drop at_).take sz).length Z->∀x∈(Y++Z).flatten,x∈o.take (at_+sz):=λhY hZ x hx=>by
    rw[List.flatten_append] at hx;rcases List.mem_append.mp hx with w|w
    .exact sub1 x (hY x w)
    .exact sub2 x (inp hZ x w)
   refine⟨_,rfl,_,rfl,_,_,rfl,rfl,?_⟩;trivial;refine⟨_,rfl,_,_,rfl,rfl,?_⟩;exact⟨sz,k+1,rs',qs',O++A,T++B,_,_,h1,rfl,s05,b5,mat_app mO mA (λx hx hy=>apart x (iO x hx) (inp pA x hy)),mat_app mT mB (λx hx hy=>apart x (iT x hx) (inp pB x hy)),un iO pA,un iT pB,by omega⟩
  .have lr:=Paired.length bo.hO;have lq:=Paired.length bo.hT;refine⟨_,rfl,la,rs,O,rfl,SqL.of bo.ha,by omega,bo.hO,λrs' O' l1 S1 h1=>?_⟩;obtain⟨t1,p1,e1⟩:=bo.hO.sorted S1;have s3:Same H2 (upd H2 l1 (.lst (rs'.map V.ref))):=Same.new' h1;have g1:upd H2 l1 (.lst (rs'.map V.ref)) l1=some (.lst (rs'.map V.ref)):=upd_same;generalize upd H2 l1 (.lst (rs'.map V.ref))=H3 at s3 g1 ⊢;have b3:=bo.same s3;refine⟨_,rfl,lb,qs,T,rfl,SqL.of b3.hb,by omega,b3.hT,λqs' T' l2 S2 h2=>?_⟩;obtain⟨t2,p2,e2⟩:=b3.hT.sorted S2;have s4:Same H3 (upd H3 l2 (.lst (qs'.map V.ref))):=Same.new' h2;have g2:upd H3 l2 (.lst (qs'.map V.ref)) l2=some (.lst (qs'.map V.ref)):=upd_same;generalize upd H3 l2 (.lst (qs'.map V.ref))=H4 at s4 g2 ⊢;refine⟨(by show 2<=sizeLine;decide),λp hp=>?_⟩;have s5:=Same.new' (o:=.tup [.ref l1,.ref l2]) hp;exact hQ p l1 l2 rs' qs' O' T' _ (s2.trans (s3.trans (s4.trans s5))) upd_same ((s4.trans s5) _ _ g1) (s5 _ _ g2) (TupsH.sm t1 (s3.trans (s4.trans s5))) (TupsH.sm t2 (s4.trans s5)) (mO.perm p1) (mT.perm p2) (by rw[p1.length_eq];exact lO) (by rw[p2.length_eq];exact lT) (λx hx=>List.mem_of_mem_take (iO x (p1.flatten.mem_iff.mp hx))) (λx hx=>List.mem_of_mem_take (iT x (p2.flatten.mem_iff.mp hx))) S1.ord S2.ord
end
end K26
namespace Bt
theorem alo_alg:∀t:List Int,alo t=L2.alg t
 | []=>rfl
 | [_]=>by simp[alo,L2.alg]
 | a::b::r=>by
  show tie a b::alo (b::r)=[Mt.lo a b,Mt.hi a b]::L2.alg (b::r);rw[alo_alg (b::r)];rfl
theorem alg_row(t:List Int):alg (true,t)=L2.alg t:=by
 unfold alg;rw[if_pos rfl,List.append_nil];exact alo_alg t
theorem alg_ring{t:List Int}(h:0<t.length):alg (false,t)=L2.rng t:=by
 unfold alg L2.rng;rw[if_neg Bool.false_ne_true];obtain⟨i,z,rfl⟩:∃i z,t=i++[z]:=⟨t.dropLast,t.getLast (by intro e;rw[e] at h;cases h),(List.dropLast_concat_getLast _).symm⟩;obtain⟨x,r,e⟩:∃x r,i++[z]=x::r:=by
  cases i with
  | nil=>exact⟨_,_,rfl⟩
  | cons x r=>exact⟨_,_,rfl⟩
 have e1:(i++[z]).take 1=[x]:=by rw[e];rfl
 have e2:(i++[z]).getD 0 0=x:=by rw[e];rfl
 have e3:(i++[z]).getD ((i++[z]).length-1) 0=z:=by simp
 show alo (i++[z])++[tie ((i++[z]).getD 0 0) ((i++[z]).getD ((i++[z]).length-1) 0)]=_;rw[e1,e2,e3,List.append_assoc];show _=L2.alg (i++[z,x]);rw[L2.alg_snoc,alo_alg,tie_comm];rfl
theorem mat_of{O:List (List Int)}(h1:∀t∈O,Tie t)(h2:O.Nodup)(h3:∀t∈O,∀u∈O,∀p,p∈t->p∈u->t=u):Mat O:=by
 refine⟨h1,?_⟩
 induction O with
 | nil=>exact List.nodup_nil
 | cons v O ih=>
  obtain⟨n1,n2⟩:=List.nodup_cons.mp h2;rw[List.flatten_cons,List.nodup_append];refine⟨?_,ih (λt ht=>h1 t (.tail _ ht)) n2 λt ht u hu=>h3 t (.tail _ ht) u (.tail _ hu),λa ha b hb e=>?_⟩
  .obtain⟨a,b,rfl,l⟩:=h1 v (.head _);simp;omega
  .subst e;obtain⟨u,hu,hb⟩:=List.mem_flatten.mp hb;exact n1 (h3 v (.head _) u (.tail _ hu) a ha hb ▸ hu)
theorem Tie.at{t:List Int}(h:Tie t){p:Int}(hp:p∈t):∃q,p≠q/\t=Bt.tie p q:=by
 obtain⟨a,b,rfl,l⟩:=h;have:p=a\/p=b:=by simpa using hp
 rcases this with rfl|rfl
 .exact⟨b,by omega,(tie_lt l).symm⟩
 .exact⟨a,by omega,(tie_gt l).symm⟩
theorem mem_dif{O T:List (List Int)}{t:List Int}:t∈dif O T↔(t∈O/\t∉T)\/(t∈T/\t∉O):=by
 unfold dif;rw[List.mem_append,mem_onl,mem_onl]
structure St(C T:List (List Int))(R:List (Bool×List Int)):Prop where
 mC:Mat C
 mT:Mat T
 fd:Found (dif C T) R
 pm:(R.flatMap alg).Perm (dif C T)
theorem own{C T:List (List Int)}{k:Bool×List Int}(mC:Mat C)(mT:Mat T)(W:Whole (dif C T) k){f u:List Int}{p:Int}(hf:f∈alg k)(nf:f∉C)(hu:u∈C)(pf:p∈f)(pu:p∈u):u∈alg k:=by
 have fT:f∈T:=by
  rcases mem_dif.mp (W.inD f hf) with w|w
  .exact absurd w.1 nf
  .exact w.1
 have uT:u∉T:=λz=>nf (mT.one f fT u z p pf pu ▸ hu);obtain⟨x,y,e,hx,hy⟩:=W.pts f hf;have pk:p∈k.2:=by
  rw[e,mem_tie] at pf;rcases pf with rfl|rfl
  .exact hx
  .exact hy
 obtain⟨q,nq,rfl⟩:=(mC.1 u hu).at pu;exact(W.all p pk q ((mem_nb (dif_two mC mT).tie).mpr ⟨nq,mem_dif.mpr (.inl ⟨hu,uT⟩)⟩)).2
theorem St.next{C T:List (List Int)}{k:Bool×List Int}{R:List (Bool×List Int)}(h:St C T (k::R)){us:List (List Int)}(p:us.Perm (dif C (alg k))):St us T R/\∀t∈us,t∈C\/t∈T:=by
 have W:=h.fd.wh k (.head _);have mu:∀{t:List Int},t∈us↔(t∈C/\t∉alg k)\/(t∈alg k/\t∉C):=λ{t}=>p.mem_iff.trans mem_dif;have sub:∀t∈us,t∈C\/t∈T:=λt ht=>by
  rcases mu.mp ht with w|w
  .exact .inl w.1
  .rcases mem_dif.mp (W.inD t w.1) with v|v
   .exact .inl v.1
   .exact .inr v.1
 have two:=dif_two h.mC h.mT;have mus:Mat us:=by
  refine mat_of (λt ht=>?_) (p.nodup_iff.mpr ?_) λt ht u hu q hq hq'=>?_
  .rcases sub t ht with w|w
   .exact h.mC.1 t w
   .exact h.mT.1 t w
  .unfold dif;rw[List.nodup_append];refine⟨h.mC.nd.filter _,W.ndA.filter _,λa ha b hb e=>?_⟩;subst e;exact(mem_onl.mp hb).2 (mem_onl.mp ha).1
  .rcases mu.mp ht with w|w<;>rcases mu.mp hu with v|v
   .exact h.mC.one t w.1 u v.1 q hq hq'
   .exact absurd (own h.mC h.mT W v.1 v.2 w.1 hq' hq) w.2
   .exact absurd (own h.mC h.mT W w.1 w.2 v.1 hq hq') v.2
   .have inT:∀{x:List Int},x∈alg k->x∉C->x∈T:=λhx nx=>by
     rcases mem_dif.mp (W.inD _ hx) with z|z
     .exact absurd z.1 nx
     .exact z.1
    exact h.mT.one t (inT w.1 w.2) u (inT v.1 v.2) q hq hq'
 have md:∀{t:List Int},t∈dif us T↔t∈dif C T/\t∉alg k:=λ{t}=>by
  rw[mem_dif,mem_dif,mu];by_cases hA:t∈alg k
  .have:=mem_dif.mp (W.inD t hA);by_cases hC:t∈C<;>by_cases hT:t∈T<;>simp[hA,hC,hT] at this ⊢
  .by_cases hC:t∈C<;>by_cases hT:t∈T<;>simp[hA,hC,hT]
 have hA:=h.fd.ndA;rw[List.flatMap_cons,List.nodup_append] at hA;have hP:=h.fd.nd;rw[List.flatMap_cons,List.nodup_append] at hP;have two':=dif_two mus h.mT;refine⟨⟨mus,h.mT,⟨λj hj=>?_,hP.2.1,hA.2.1⟩,?_⟩,sub⟩
 .have Wj:=h.fd.wh j (.tail _ hj);refine⟨Wj.len,Wj.nd,Wj.ndA,λt ht=>md.mpr ⟨Wj.inD t ht,λz=>hA.2.2 t z t (List.mem_flatMap.mpr ⟨j,hj,ht⟩) rfl⟩,Wj.pts,λx hx q hq=>?_⟩;have hq:=(mem_nb two'.tie).mp hq;exact Wj.all x hx q ((mem_nb two.tie).mpr ⟨hq.1,(md.mp hq.2).1⟩)
 .rw [List.perm_ext_iff_of_nodup hA.2.1 two'.nd];intro t;rw[md,<-h.pm.mem_iff,List.flatMap_cons,List.mem_append];constructor
  .intro ht;exact⟨.inr ht,λz=>hA.2.2 t z t ht rfl⟩
  .rintro⟨w|w,n⟩
   .exact absurd w n
   .exact w
theorem lex_anti{a b:List Int}(ta:Tie a)(tb:Tie b)(h1:HT.lexLt b a=false)(h2:HT.lexLt a b=false):a=b:=by
 obtain⟨x,y,rfl,_⟩:=ta;obtain⟨z,w,rfl,_⟩:=tb;rw[HT.lexLt_cons] at h1 h2;by_cases e:x=z
 .subst e;rw[if_pos rfl,HT.lexLt_cons] at h1 h2;by_cases e:y=w
  .rw[e]
  .rw[if_neg (Ne.symm e)] at h1;rw[if_neg e] at h2;have h1:=of_decide_eq_false h1;have h2:=of_decide_eq_false h2;omega
 .rw[if_neg (Ne.symm e)] at h1;rw[if_neg e] at h2;have h1:=of_decide_eq_false h1;have h2:=of_decide_eq_false h2;omega
theorem sorted_eq{C T:List (List Int)}(mC:∀t∈C,Tie t)(p:C.Perm T)(sC:C.Pairwise λa b=>HT.lexLt b a=false)(sT:T.Pairwise λa b=>HT.lexLt b a=false):C=T:=by
 refine p.eq_of_pairwise (le:=λa b=>HT.lexLt b a=false) (λa b ha hb h1 h2=>?_) sC sT;exact lex_anti (mC a ha) (mC b (p.mem_iff.mpr hb)) h1 h2
theorem St.done{C T:List (List Int)}(h:St C T [])(sC:C.Pairwise λa b=>HT.lexLt b a=false)(sT:T.Pairwise λa b=>HT.lexLt b a=false):C=T:=by
 have e:dif C T=[]:=h.pm.symm.eq_nil;refine sorted_eq h.mC.1 ?_ sC sT;rw[List.perm_ext_iff_of_nodup h.mC.nd h.mT.nd];intro t;have:t∉dif C T:=by rw[e];exact λz=>nomatch z
 rw[mem_dif] at this;by_cases hC:t∈C<;>by_cases hT:t∈T<;>simp[hC,hT] at this ⊢
theorem St.perm{C T:List (List Int)}{R R':List (Bool×List Int)}(h:St C T R)(p:R'.Perm R):St C T R':=
 ⟨h.mC,h.mT,⟨λk hk=>h.fd.wh k (p.mem_iff.mp hk),(p.flatMap_right _).nodup_iff.mpr h.fd.nd,(p.flatMap_right _).nodup_iff.mpr h.fd.ndA⟩,(p.flatMap_right _).trans h.pm⟩
theorem alt_of{C T A:List (List Int)}(mC:Mat C)(mT:Mat T)(nd:A.Nodup)(inD:∀t∈A,t∈dif C T)(ch:∀i t u,A[i]?=some t->A[i+1]?=some u->∃p,p∈t/\p∈u):L2.altB (A.map λk=>decide (k∈C))=true:=by
 rw[L2.altB_iff];intro i a b ha hb;rw[List.getElem?_map] at ha hb;obtain⟨t,et,rfl⟩:=Option.map_eq_some_iff.mp ha;obtain⟨u,eu,rfl⟩:=Option.map_eq_some_iff.mp hb;obtain⟨p,p1,p2⟩:=ch i t u et eu;refine(dif_two mC mT).col t (inD t (List.mem_of_getElem? et)) u (inD u (List.mem_of_getElem? eu)) (λz=>?_) p p1 p2;subst z;have h:=List.nodup_iff_pairwise_ne.mp nd;rw[List.pairwise_iff_getElem] at h;obtain⟨l1,e1⟩:=List.getElem?_eq_some_iff.mp et;obtain⟨l2,e2⟩:=List.getElem?_eq_some_iff.mp eu;exact h i (i+1) l1 l2 (by omega) (e1.trans e2.symm)
theorem ch_alg(t:List Int):∀i u v,(L2.alg t)[i]?=some u->(L2.alg t)[i+1]?=some v->∃p,p∈u/\p∈v:=λi u v hu hv=>by
 obtain⟨l1,_⟩:=List.getElem?_eq_some_iff.mp hu;obtain⟨l2,_⟩:=List.getElem?_eq_some_iff.mp hv;rw[L2.alg_len] at l1 l2;rw[L2.alg_get t i (by omega)] at hu;rw[L2.alg_get t (i+1) (by omega)] at hv;cases hu;cases hv;exact⟨t.getD (i+1) 0,mem_tie.mpr (.inr rfl),mem_tie.mpr (.inl rfl)⟩
theorem fit_of{C T:List (List Int)}{t:List Int}(mC:Mat C)(mT:Mat T)(W:Whole (dif C T) (true,t)){x:Int}{f:List Int}(hf:f∈L2.alg t)(xf:x∈f)(un:∀u∈L2.alg t,x∈u->u=f):L2.fitP C x f:=by
 by_cases c:f∈C
 .exact .inl c
 .refine .inr λz=>?_;obtain⟨u,hu,xu⟩:=List.mem_flatten.mp z;have:=own mC mT W (by rw[alg_row];exact hf) c hu xf xu;rw[alg_row] at this;exact c (un u this xu ▸ hu)
theorem alg_at{t u:List Int}(h:u∈L2.alg t):∃i,i+1<t.length/\u=tie (t.getD i 0) (t.getD (i+1) 0):=by
 obtain⟨i,l,e⟩:=List.getElem_of_mem h;have l':=l;rw[L2.alg_len] at l';have g:=L2.alg_get t i (by omega);rw[List.getElem?_eq_getElem l,e] at g;exact⟨i,by omega,Option.some.inj g⟩
theorem St.row{C T:List (List Int)}{t:List Int}{R:List (Bool×List Int)}(h:St C T ((true,t)::R)){Ks:List (List Int)}(kC:∀u∈C,u∈Ks)(kT:∀u∈T,u∈Ks):L2.IsRow Ks C t:=by
 have W:=h.fd.wh _ (.head _);have ln:2<=t.length:=by have:=W.len;rw[if_pos rfl] at this;exact this
 have inD:∀u∈L2.alg t,u∈dif C T:=λu hu=>W.inD u (by rw[alg_row];exact hu);have nd:(L2.alg t).Nodup:=by have:=W.ndA;rw[alg_row] at this;exact this
 have la:=L2.alg_len t;have at0:(L2.alg t).getD 0 []=tie (t.getD 0 0) (t.getD 1 0):=by
  rw[List.getD_eq_getElem?_getD,L2.alg_get t 0 (by omega)];rfl
 have atl:(L2.alg t).getD (t.length-2) []=tie (t.getD (t.length-2) 0) (t.getD (t.length-1) 0):=by
  rw[List.getD_eq_getElem?_getD,L2.alg_get t (t.length-2) (by omega),show t.length-2+1=t.length-1 by omega];rfl
 have m0:tie (t.getD 0 0) (t.getD 1 0)∈L2.alg t:=List.mem_of_getElem? (L2.alg_get t 0 (by omega));have ml:tie (t.getD (t.length-2) 0) (t.getD (t.length-1) 0)∈L2.alg t:=by
  have:=List.mem_of_getElem? (L2.alg_get t (t.length-2) (by omega));rw[show t.length-2+1=t.length-1 by omega] at this;exact this
 refine⟨ln,W.nd,λu hu=>?_,alt_of h.mC h.mT nd inD (ch_alg t),?_,?_⟩
 .rcases mem_dif.mp (inD u hu) with w|w
  .exact kC u w.1
  .exact kT u w.1
 .rw [at0];refine fit_of h.mC h.mT W m0 (mem_tie.mpr (.inl rfl)) λu hu xu=>?_;obtain⟨i,li,rfl⟩:=alg_at hu;rcases mem_tie.mp xu with e|e
  .have:=L2.at_inj W.nd (show 0<t.length by omega) (show i<t.length by omega) e;subst this;rfl
  .have:=L2.at_inj W.nd (show 0<t.length by omega) (show i+1<t.length by omega) e;omega
 .rw [atl];refine fit_of h.mC h.mT W ml (mem_tie.mpr (.inr rfl)) λu hu xu=>?_;obtain⟨i,li,rfl⟩:=alg_at hu;rcases mem_tie.mp xu with e|e
  .have:=L2.at_inj W.nd (show t.length-1<t.length by omega) (show i<t.length by omega) e;omega
  .have:=L2.at_inj W.nd (show t.length-1<t.length by omega) (show i+1<t.length by omega) e;rw[show t.length-2=i by omega,show t.length-1=i+1 by omega]
theorem alt_par:∀{l:List Bool},L2.altB l=true->∀i a b,l[0]?=some a->l[i]?=some b->(a=b↔i % 2=0):=by
 intro l h i;rw[L2.altB_iff] at h
 induction i with
 | zero=>
  intro a b ha hb;rw[ha] at hb;cases hb;simp
 | succ i ih=>
  intro a b ha hb;obtain⟨li,_⟩:=List.getElem?_eq_some_iff.mp hb;obtain⟨c,hc⟩:∃c,l[i]?=some c:=⟨l[i],by simp⟩;have h1:=ih a c ha hc;have h2:=h i c b hc hb;by_cases z:i % 2=0
  .have:=h1.mpr z;subst this;constructor
   .intro w;exact absurd w h2
   .intro w;omega
  .have n1:a≠c:=λw=>z (h1.mp w);have:a=b:=by cases a<;>cases b<;>cases c<;>simp_all
   exact⟨λ_=>by omega,λ_=>this⟩
theorem St.ring{C T:List (List Int)}{t:List Int}{R:List (Bool×List Int)}(h:St C T ((false,t)::R)){Ks:List (List Int)}(kC:∀u∈C,u∈Ks)(kT:∀u∈T,u∈Ks):L2.IsRing Ks C t:=by
 have W:=h.fd.wh _ (.head _);have ln:4<=t.length:=by have:=W.len;rw[if_neg Bool.false_ne_true] at this;exact this
 have eR:=alg_ring (t:=t) (by omega);have inD:∀u∈L2.rng t,u∈dif C T:=λu hu=>W.inD u (by rw[eR];exact hu);have nd:(L2.rng t).Nodup:=by have:=W.ndA;rw[eR] at this;exact this
 have al:=alt_of h.mC h.mT nd inD (ch_alg (t++t.take 1));have lr:=L2.rng_len (t:=t) (by omega);refine⟨ln,?_,W.nd,λu hu=>?_,al⟩
 .have g0:=L2.rng_get (t:=t) (i:=0) (by omega);have g1:=L2.rng_get (t:=t) (i:=t.length-1) (by omega);have e0:L2.nxt t.length (t.length-1)=0:=by unfold L2.nxt;rw[if_neg (by omega)]
  rw[e0] at g1;have d:decide ([Mt.lo (t.getD 0 0) (t.getD (L2.nxt t.length 0) 0),Mt.hi (t.getD 0 0) (t.getD (L2.nxt t.length 0) 0)]∈C)≠decide ([Mt.lo (t.getD (t.length-1) 0) (t.getD 0 0),Mt.hi (t.getD (t.length-1) 0) (t.getD 0 0)]∈C):=by
   refine(dif_two h.mC h.mT).col _ (inD _ (List.mem_of_getElem? g0)) _ (inD _ (List.mem_of_getElem? g1)) (λz=>?_) (t.getD 0 0) (mem_tie.mpr (.inl rfl)) (mem_tie.mpr (.inr rfl));have hh:=List.nodup_iff_pairwise_ne.mp nd;rw[List.pairwise_iff_getElem] at hh;obtain⟨l1,e1⟩:=List.getElem?_eq_some_iff.mp g0;obtain⟨l2,e2⟩:=List.getElem?_eq_some_iff.mp g1;exact hh 0 (t.length-1) l1 l2 (by omega) (e1.trans (z.trans e2.symm))
  have:=alt_par al (t.length-1) _ _ (by rw[List.getElem?_map,g0];rfl) (by rw[List.getElem?_map,g1];rfl);by_cases z:t.length % 2=0
  .exact z
  .exact absurd (this.mpr (by omega)) d
 .rcases mem_dif.mp (inD u hu) with w|w
  .exact kC u w.1
  .exact kT u w.1
theorem flat_one:∀{F:List (Bool×List Int)},(F.flatMap (·.2)).Nodup->∀j∈F,∀k∈F,∀p,p∈j.2->p∈k.2->j=k
 | [],_,j,hj,_,_,_,_,_=>nomatch hj
 | v::F,h,j,hj,k,hk,p,hp,hq=>by
  rw[List.flatMap_cons,List.nodup_append] at h;rcases List.mem_cons.mp hj with e1|j2<;>rcases List.mem_cons.mp hk with e2|k2
  .rw[e1,e2]
  .rw[e1] at hp;exact absurd rfl (h.2.2 p hp p (List.mem_flatMap.mpr ⟨k,k2,hq⟩))
  .rw[e2] at hq;exact absurd rfl (h.2.2 p hq p (List.mem_flatMap.mpr ⟨j,j2,hp⟩))
  .exact flat_one h.2.1 j j2 k k2 p hp hq
theorem Whole.con{D:List (List Int)}(hD:∀t∈D,Tie t){k:Bool×List Int}(W:Whole D k){S:Int->Prop}(cl:∀p,S p->∀q∈nb D p,S q){x y:Int}(hx:x∈k.2)(sx:S x)(hy:y∈k.2):S y:=by
 have near:∀(i:Nat)(a b:Int),k.2[i]?=some a->k.2[i+1]?=some b->b∈nb D a:=λi a b ha hb=>by
  refine(mem_nb hD).mpr ⟨λz=>?_,W.inD _ (List.mem_append_left _ (alo_mem ha hb))⟩;subst z;obtain⟨l1,e1⟩:=List.getElem?_eq_some_iff.mp ha;obtain⟨l2,e2⟩:=List.getElem?_eq_some_iff.mp hb;have h:=List.nodup_iff_pairwise_ne.mp W.nd;rw[List.pairwise_iff_getElem] at h;exact h i (i+1) l1 l2 (by omega) (e1.trans e2.symm)
 obtain⟨z,ez⟩:∃z,k.2[0]?=some z:=by
  have:=List.length_pos_of_mem hx;exact⟨k.2[0],by simp[this]⟩
 have key:∀(i:Nat)(a:Int),k.2[i]?=some a->(S a↔S z):=by
  intro i
  induction i with
  | zero=>intro a ha;rw[ez] at ha;cases ha;exact Iff.rfl
  | succ i ih=>
   intro a ha;obtain⟨l,_⟩:=List.getElem?_eq_some_iff.mp ha;obtain⟨b,eb⟩:∃b,k.2[i]?=some b:=⟨k.2[i],by simp⟩;have n:=near i b a eb ha;exact Iff.trans ⟨λs=>cl a s b (nb_symm hD n),λs=>cl b s a n⟩ (ih b eb)
 obtain⟨i,li,ei⟩:=List.getElem_of_mem hx;obtain⟨j,lj,ej⟩:=List.getElem_of_mem hy;have a1:=key i x (by rw[<-ei];simp);have a2:=key j y (by rw[<-ej];simp);exact a2.mpr (a1.mp sx)
theorem heads_le:∀(F:List (Bool×List Int))(hs:List Int),hs.Nodup->(∀x∈hs,x∈F.flatMap (·.2))->(∀j∈F,∀x∈hs,∀y∈hs,x∈j.2->y∈j.2->x=y)->hs.length<=F.length
 | [],hs,_,h,_=>by
  cases hs with
  | nil=>exact Nat.le_refl _
  | cons x _=>exact nomatch h x (.head _)
 | j::F,hs,nd,h,o=>by
  by_cases c:∃x∈hs,x∈j.2
  .obtain ⟨x,hx,xj⟩:=c;have:=heads_le F (hs.erase x) (nd.erase x) (λy hy=>?_) λk hk a ha b hb=>o k (.tail _ hk) a (List.mem_of_mem_erase ha) b (List.mem_of_mem_erase hb)
   .rw[List.length_erase_of_mem hx] at this;show hs.length<=F.length+1;omega
   .have hy':=List.mem_of_mem_erase hy;have ne:y≠x:=λz=>by subst z;exact nd.not_mem_erase hy
    have:=h y hy';rw[List.flatMap_cons,List.mem_append] at this;rcases this with w|w
    .exact absurd (o j (.head _) y hy' x hx w xj) ne
    .exact w
  .have:=heads_le F hs nd (λy hy=>?_) λk hk=>o k (.tail _ hk)
   .show hs.length<=F.length+1;omega
   .have:=h y hy;rw[List.flatMap_cons,List.mem_append] at this;rcases this with w|w
    .exact absurd ⟨y,hy,w⟩ c
    .exact w
theorem count_le{D D':List (List Int)}{F F':List (Bool×List Int)}(hD:∀t∈D,Tie t)(hD':∀t∈D',Tie t)(h:Found D F)(h':Found D' F')(pm':(F'.flatMap alg).Perm D')(same:∀t,t∈D↔t∈D'):F.length<=F'.length:=by
 have snb:∀p q,q∈nb D p↔q∈nb D' p:=λp q=>by rw[mem_nb hD,mem_nb hD',same]
 have two:∀k∈F,2<=k.2.length:=λk hk=>by
  have:=(h.wh k hk).len
  split at this<;>omega
 have hin:∀k∈F,k.2.getD 0 0∈k.2:=λk hk=>by
  have:=two k hk;simp[show 0<k.2.length by omega]
 have:(F.map λk=>k.2.getD 0 0).length<=F'.length:=by
  refine heads_le F' _ ?_ (λx hx=>?_) λj hj x hx y hy xj yj=>?_
  .have hn:=h.nd;have:∀{G:List (Bool×List Int)},(∀k∈G,k.2.getD 0 0∈k.2)->(G.flatMap (·.2)).Nodup->(G.map λk=>k.2.getD 0 0).Nodup:=by
    intro G
    induction G with
    | nil=>intro _ _;exact List.nodup_nil
    | cons k G ih=>
     intro hh hn;rw[List.flatMap_cons,List.nodup_append] at hn;refine List.nodup_cons.mpr ⟨λz=>?_,ih (λj hj=>hh j (.tail _ hj)) hn.2.1⟩;obtain⟨j,hj,e⟩:=List.mem_map.mp z;exact hn.2.2 _ (hh k (.head _)) _ (List.mem_flatMap.mpr ⟨j,hj,hh j (.tail _ hj)⟩) e.symm
   exact this hin hn
  .obtain⟨k,hk,rfl⟩:=List.mem_map.mp hx;have l2:=two k hk;have e0:k.2[0]?=some (k.2.getD 0 0):=by simp[show 0<k.2.length by omega]
   have e1:k.2[0+1]?=some (k.2.getD 1 0):=by simp[show 1<k.2.length by omega]
   have tD:=(same _).mp ((h.wh k hk).inD _ (List.mem_append_left _ (alo_mem e0 e1)));obtain⟨j,hj,hm⟩:=List.mem_flatMap.mp (pm'.mem_iff.mpr tD);obtain⟨x,y,e,hx,hy⟩:=(h'.wh j hj).pts _ hm;refine List.mem_flatMap.mpr ⟨j,hj,?_⟩;rcases tie_inj e with w|w
   .rw[w.1];exact hx
   .rw[w.1];exact hy
  .obtain⟨k1,hk1,rfl⟩:=List.mem_map.mp hx;obtain⟨k2,hk2,rfl⟩:=List.mem_map.mp hy;have:=(h'.wh j hj).con hD' (S:=λp=>p∈k1.2) (λp hp q hq=>((h.wh k1 hk1).all p hp q ((snb p q).mpr hq)).1) xj (hin k1 hk1) yj;rw[flat_one h.nd k1 hk1 k2 hk2 _ this (hin k2 hk2)]
 rw[List.length_map] at this;exact this
theorem St.count{C T:List (List Int)}{R F:List (Bool×List Int)}(h:St C T R)(f:Found (dif C T) F)(p:(F.flatMap alg).Perm (dif C T)):F.length=R.length:=by
 have d:=(dif_two h.mC h.mT).tie;exact Nat.le_antisymm (count_le d d f h.fd h.pm λ_=>Iff.rfl) (count_le d d h.fd f p λ_=>Iff.rfl)
theorem dif_comm{C T:List (List Int)}{t:List Int}:t∈dif C T↔t∈dif T C:=by
 rw[mem_dif,mem_dif];exact or_comm
theorem St.bk0{C T:List (List Int)}{R F:List (Bool×List Int)}(h:St C T R)(g:St T C F):F.length=R.length:=by
 have d:=(dif_two h.mC h.mT).tie;have d':=(dif_two h.mT h.mC).tie;exact Nat.le_antisymm (count_le d' d g.fd h.fd h.pm λ_=>dif_comm) (count_le d d' h.fd g.fd g.pm λ_=>dif_comm)
end Bt
namespace K26
open PySem L2 PyProof.Rows
section
variable{P:Program}{w:World}{K:W.Frag}{mg:Str->Option Value}{base:Heap}{C:Addr}
def spStep(C:Addr):Sp:=λvs H Q _=>∃(x q g:Addr)(m:Int)(U:List Mt.Tri)(ks:List (List Int))(qs:List Addr)(ps:List (List Int))(H0:Hp)(k:Bool×List Int),vs=[.ref x,.ref q,.ref g]/\WebAt C H x m U ks/\H q=some (.lst (qs.map V.ref))/\TupsH H qs ps/\Two ps/\ps.length<=100/\FH H0 H g k/\0<k.2.length/\k.2.length<=100 ∧
 (if k.1=true then IsRow (U.map Mt.key) ps k.2 else IsRing (U.map Mt.key) ps k.2) ∧
 ∀(l:Addr)(zs:List Addr)(us:List (List Int))(H':Hp),H l=none->Same H H'->H' l=some (.lst (zs.map V.ref))->TupsH H' zs us->us.Perm (Bt.dif ps (Bt.alg k))->(us.Pairwise λa b=>HT.lexLt b a=false)->Q (.ref l) H'
abbrev nmSt:List Str:=["_law_web","_law_choice","_law_told"]
theorem scStep:FnScope nmSt nmSt (defScope sStep):=⟨rfl,rfl,rfl,by decide +kernel,rfl,by decide +kernel,by decide +kernel⟩
theorem wrd_row(r:Bool):decide (V.str (wrd r)=V.str "row")=r:=by cases r<;>decide +kernel
theorem ok_step{f f1 f2 f3 f4:Addr}{fd fd1 fd2 fd3 fd4:FuncData}(F:Fun K "_law_step" "_law_step" sStep f fd)
  (G1:FnOk P w K mg base CX0 4 f1 fd1 ["web","pairs","row"] (spTurns C)) (m1:mg "turns"=some (.ref f1)) (k1:PySem.W.keepIn K (.ref f1)=true) (b1:Binds K fd1 ["web","pairs","row"] [])
  (G2:FnOk P w K mg base CX0 3 f2 fd2 ["pairs","row"] spExch) (m2:mg "exchanged"=some (.ref f2)) (k2:PySem.W.keepIn K (.ref f2)=true) (b2:Binds K fd2 ["pairs","row"] [])
  (G3:FnOk P w K mg base CX0 4 f3 fd3 ["web","pairs","ring"] (spTurnsR C)) (m3:mg "turns_ring"=some (.ref f3)) (k3:PySem.W.keepIn K (.ref f3)=true) (b3:Binds K fd3 ["web","pairs","ring"] [])
  (G4:FnOk P w K mg base CX0 4 f4 fd4 ["pairs","ring"] spExchR) (m4:mg "exchanged_ring"=some (.ref f4)) (k4:PySem.W.keepIn K (.ref f4)=true) (b4:Binds K fd4 ["pairs","ring"] []):FnOk P w K mg base CX0 5 f fd nmSt (spStep C):=by
 refine F.ok scStep (λvs H Q E h=>?_) (λcdv A outer s H vs Q E hr h=>?_)
 .obtain⟨x,q,g,m,U,ks,qs,ps,H0,k,rfl,_⟩:=h;rfl
 .obtain ⟨x,q,g,m,U,ks,qs,ps,H0,⟨r,t⟩,rfl,hw,hq,hP,two,lp,⟨mm,hg,hm,_⟩,l0,lt,is,hQ⟩:=h;have hg:H g=some (.tup [.str (wrd r),.ref mm]):=hg;have hm:H mm=some (.lst (t.map V.int)):=hm;have l0:0<t.length:=l0;have lt:t.length<=100:=lt;have hr3:Room 3 (cxOf CX0 P w K mg base nmSt "_law_step" (defScope sStep) f cdv A outer s H E).nox.A:=hr.mono (by decide);have hr4:Room 4 (cxOf CX0 P w K mg base nmSt "_law_step" (defScope sStep) f cdv A outer s H E).nox.A:=hr;refine'⟨_,pss_cons ?s0 (pss_cons ?s1 (pss_one ?s2)),?_⟩
  case s0=>exact ps_if (pt_cmpR op_eq (pe_ix ix_tup (pv 2) pe_int (λ_ _=>rfl)) pe_str (nomark _)) (pss_cons (ps_if (pt_not (pt_val (pe_call G1 hr4 (by rfl) m1 k1 b1 .nil pass0 (pa_cons (pv 0) (pa_cons (pv 1) (pa_cons (pe_ix ix_tup (pv 2) pe_int (λ_ _=>rfl)) pa_nil)))))) (pss_one (ps_ret pe_non)) pss_nil) (pss_one (ps_ret (pe_call G2 hr3 (by rfl) m2 k2 b2 .nil pass0 (pa_cons (pv 1) (pa_cons (pe_ix ix_tup (pv 2) pe_int (λ_ _=>rfl)) pa_nil)))))) pss_nil
  case s1=>exact ps_if (pw_or (pt_cmpR op_ne (pe_ix ix_tup (pv 2) pe_int (λ_ _=>rfl)) pe_str (nomark _)) (pw_or1 (pt_not (pt_val (pe_call G3 hr4 (by rfl) m3 k3 b3 .nil pass0 (pa_cons (pv 0) (pa_cons (pv 1) (pa_cons (pe_ix ix_tup (pv 2) pe_int (λ_ _=>rfl)) pa_nil)))))))).pt (pss_one (ps_ret pe_non)) pss_nil
  case s2=>exact ps_ret (pe_call G4 hr4 (by rfl) m4 k4 b4 .nil pass0 (pa_cons (pv 1) (pa_cons (pe_ix ix_tup (pv 2) pe_int (λ_ _=>rfl)) pa_nil)))
  have g0:atI [V.str (wrd r),V.ref mm] 0=some (.str (wrd r)):=rfl;have g1:atI [V.str (wrd r),V.ref mm] 1=some (.ref mm):=rfl;refine⟨_,rfl,g,_,_,_,rfl,rfl,SqT.of hg,g0,rfl,_,rfl,?_⟩;rw[wrd_row];cases r with
  | true=>
   refine iteT ?_;have is:IsRow (U.map Mt.key) ps t:=is;refine⟨_,rfl,_,rfl,_,rfl,g,_,_,_,rfl,rfl,SqT.of hg,g1,x,q,mm,m,U,ks,qs,ps,t,rfl,hw,hq,hP,two,by omega,hm,by omega,λb H1 hb s1=>?_⟩;rw[hb.mpr is];refine⟨true,rfl,iteF ?_⟩;refine⟨_,rfl,_,rfl,g,_,_,_,rfl,rfl,SqT.of (s1 g _ hg),g1,q,mm,qs,ps,t,rfl,s1 q _ hq,s1 mm _ hm,TupsH.same s1 hP,by omega,by omega,λl zs us H2 nl s2 hl hz pm so=>?_⟩;exact hQ l zs us H2 (s1.free nl) (s1.trans s2) hl hz (by rw[Bt.alg_row];exact pm) so
  | false=>
   refine iteF ?_;have is:IsRing (U.map Mt.key) ps t:=is;refine⟨_,rfl,g,_,_,_,rfl,rfl,SqT.of hg,g0,rfl,_,rfl,?_⟩;refine iteF ?_;refine⟨_,rfl,_,rfl,_,rfl,g,_,_,_,rfl,rfl,SqT.of hg,g1,x,q,mm,m,U,ks,qs,ps,t,rfl,hw,hq,hP,hm,by omega,λb H1 hb s1=>?_⟩;rw[hb.mpr is];refine⟨true,rfl,iteF ?_⟩;refine⟨_,rfl,_,rfl,g,_,_,_,rfl,rfl,SqT.of (s1 g _ hg),g1,q,mm,qs,ps,t,rfl,s1 q _ hq,s1 mm _ hm,TupsH.same s1 hP,by omega,l0,by omega,λl zs us H2 nl s2 hl hz pm so=>?_⟩;exact hQ l zs us H2 (s1.free nl) (s1.trans s2) hl hz (by rw[Bt.alg_ring l0];exact pm) so
end
theorem mat_two{O:List (List Int)}(h:Bt.Mat O):Two O:=λt ht=>let ⟨a,b,e,_⟩:=h.1 t ht;⟨a,b,e⟩
theorem mat_12{O:List (List Int)}{pt:List Int}(h:Bt.Mat O)(i:∀x∈O.flatten,x∈pt)(l:pt.length<=24):O.length<=12:=by
 have h1:=h.2.length_le_of_subset i;rw[mat_len h] at h1;omega
theorem st_len{Cc T:List (List Int)}{k:Bool×List Int}{R:List (Bool×List Int)}(h:Bt.St Cc T (k::R))(l1:Cc.length<=12)(l2:T.length<=12):0<k.2.length/\k.2.length<=100:=by
 have W:=h.fd.wh k (.head _);have l:=h.pm.length_eq;rw[List.flatMap_cons,List.length_append] at l;have e1:(Bt.dif Cc T).length<=24:=by
  unfold Bt.dif;rw[List.length_append];have a1:=onlB_len Cc T;have a2:=onlB_len T Cc;omega
 have e2:k.2.length-1<=(Bt.alg k).length:=by
  unfold Bt.alg;rw[List.length_append,Bt.alo_len];omega
 have e3:=W.len
 split at e3<;>omega
structure Wk(C:Addr)(H:Hp)(Ks Kd:List (List Int))(pt:List Int)(T:List (List Int))(q:Addr)(R:List (Bool×List Int)):Prop where
 ex:∃(zs:List Addr)(Cc:List (List Int)),H q=some (.lst (zs.map V.ref))/\TupsH H zs Cc/\Bt.St Cc T R/\(Cc.Pairwise λa b=>HT.lexLt b a=false)/\(∀t∈Cc,t∈Ks/\t∈Kd)/\∀x∈Cc.flatten,x∈pt
section
variable{P:Program}{w:World}{K:W.Frag}{mg:Str->Option Value}{base:Heap}{C:Addr}
def spWalked(C:Addr):Sp:=λvs H Q _=>∃(x d q1 q2 lr:Addr)(m:Int)(U Td:List Mt.Tri)(ks:List (List Int))(o:Obj)(rs qs fs:List Addr)(O T:List (List Int))(H0:Hp)(R:List (Bool×List Int))(pt:List Int),vs=[.ref x,.ref d,.ref q1,.ref q2,.ref lr]/\WebAt C H x m U ks/\H d=some (.frz o (.dT (wd Td)))/\H q1=some (.lst (rs.map V.ref))/\H q2=some (.lst (qs.map V.ref))/\TupsH H rs O/\TupsH H qs T/\H lr=some (.lst (fs.map V.ref))/\FsH H0 H fs R/\Bt.St O T R ∧
 (O.Pairwise λa b=>HT.lexLt b a=false)/\(T.Pairwise λa b=>HT.lexLt b a=false)/\(∀t∈O,t∈U.map Mt.key/\t∈Td.map Mt.key)/\(∀t∈T,t∈U.map Mt.key/\t∈Td.map Mt.key)/\(∀z∈O.flatten,z∈pt)/\(∀z∈T.flatten,z∈pt)/\pt.length<=24/\∀H',Same H H'->Q (.bl true) H'
abbrev psWd:List Str:=["_law_web","_law_ties","_law_one","_law_other","_law_rows"]
abbrev nmWd:List Str:=["_law_web","_law_ties","_law_one","_law_other","_law_rows","_law_choice","_law_count","_law_told"]
theorem scWalked:FnScope nmWd psWd (defScope sWalked):=⟨rfl,rfl,rfl,by decide +kernel,rfl,by decide +kernel,by decide +kernel⟩
abbrev XWd(P:Program)(w:World)(K:W.Frag)(mg:Str->Option Value)(base:Heap)(f:Addr)(cdv:Value)(A:Around)(outer:List Env)(s:Shared)(H:Hp)(E:XK):Cx:=(cxOf CX0 P w K mg base nmWd "_law_walked" (defScope sWalked) f cdv A outer s H E).nox
theorem ok_walked{f f1 f2 f3 f4:Addr}{fd fd1 fd2 fd3 fd4:FuncData}(F:Fun K "_law_walked" "_law_walked" sWalked f fd)(glist:mg "list"=none)(glen:mg "len"=none)
  (G1:FnOk P w K mg base CX0 5 f1 fd1 nmSt (spStep C)) (m1:mg "_law_step"=some (.ref f1)) (k1:PySem.W.keepIn K (.ref f1)=true) (b1:Binds K fd1 nmSt [])
  (G2:FnOk P w K mg base CX0 3 f2 fd2 ["web","pairs"] (spIs C)) (m2:mg "is_choice"=some (.ref f2)) (k2:PySem.W.keepIn K (.ref f2)=true) (b2:Binds K fd2 ["web","pairs"] [])
  (G3:FnOk P w K mg base CX0 1 f3 fd3 ["_law_ties","_law_pairs"] spLis) (m3:mg "_law_is_choice"=some (.ref f3)) (k3:PySem.W.keepIn K (.ref f3)=true) (b3:Binds K fd3 ["_law_ties","_law_pairs"] [])
  (G4:FnOk P w K mg base CX0 3 f4 fd4 ["one","other"] spBetw) (m4:mg "between"=some (.ref f4)) (k4:PySem.W.keepIn K (.ref f4)=true) (b4:Binds K fd4 ["one","other"] []):FnOk P w K mg base CX0 6 f fd psWd (spWalked C):=by
 refine F.ok scWalked (λvs H Q E h=>?_) (λcdv A outer s H vs Q E hr h=>?_)
 .obtain⟨x,d,q1,q2,lr,m,U,Td,ks,o,rs,qs,fs,O,T,H0,R,pt,rfl,_⟩:=h;rfl
 .obtain ⟨x,d,q1,q2,lr,m,U,Td,ks,o,rs,qs,fs,O,T,H0,R,pt,rfl,hw,hd,h1,h2,hO,hT,hl,hF,st,sO,sT,kO,kT,iO,iT,l24,hQ⟩:=h;have hu1:(XWd P w K mg base f cdv A outer s H E).A.units+1<cLine:=by have:=hr.un;show(A.deeper _).units+1<cLine;omega
  have hr1:Room 1 (XWd P w K mg base f cdv A outer s H E).A:=hr.mono (by decide);have hr3:Room 3 (XWd P w K mg base f cdv A outer s H E).A:=hr.mono (by decide);have hr5:Room 5 (XWd P w K mg base f cdv A outer s H E).A:=hr;refine'⟨_,pss_cons ?s0 (pss_cons ?s1 (pss_cons (ps_for ?qa ?qb ?qc ?qd (pss_cons ?b0 (pss_cons ?b1 (pss_cons ?b2 (pss_one ?b3))))) (pss_one ?s3))),?_⟩
  case s0=>exact ps_set (i:=5) scWalked.nd rfl (Or.inl rfl) (pe_callTy call_list_of (by rfl) glist boot_list (pa_cons (pv 2) pa_nil))
  case s1=>exact ps_set (i:=6) scWalked.nd rfl (Or.inl rfl) (pe_callB call_len_seq (by rfl) glen PySem.boot_len (pa_cons (pv 4) pa_nil))
  case qa=>exact PassesOwn.never
  case qb=>exact rfl
  case qc=>exact pi_list (pv 4)
  case qd=>exact pg_name (i:=7) scWalked.nd rfl (Or.inl rfl)
  case b0=>exact ps_set (i:=5) scWalked.nd rfl (Or.inl rfl) (pe_call G1 hr5 (by rfl) m1 k1 b1 .nil pass0 (pa_cons (pv 0) (pa_cons (pv 5) (pa_cons (pv 7) pa_nil))))
  case b1=>exact ps_if (pw_or (pt_cmp (pc_isN (pv 5)) (by with_unfolding_all rfl)) (pw_or (pt_not (pt_val (pe_call G2 hr3 (by rfl) m2 k2 b2 .nil pass0 (pa_cons (pv 0) (pa_cons (pv 5) pa_nil))))) (pw_or1 (pt_not (pt_val (pe_call G3 hr1 (by rfl) m3 k3 b3 .nil pass0 (pa_cons (pv 1) (pa_cons (pv 5) pa_nil)))))))).pt (pss_one (ps_ret pe_bl)) pss_nil
  case b2=>exact ps_set (i:=6) scWalked.nd rfl (Or.inl rfl) (pe_op op_sub (pv 6) pe_int)
  case b3=>exact ps_if (pt_cmpR op_ne (pe_callB call_len_seq (by rfl) glen PySem.boot_len (pa_cons (pe_call G4 hr3 (by rfl) m4 k4 b4 .nil pass0 (pa_cons (pv 5) (pa_cons (pv 3) pa_nil))) pa_nil)) (pv 6) (nomark _)) (pss_one (ps_ret pe_bl)) pss_nil
  case s3=>exact ps_ret (pe_cmpR (op_eqLT hu1) (pv 5) (pv 3) (nomark _))
  rw[show L2.start nmWd [V.ref x,V.ref d,V.ref q1,V.ref q2,V.ref lr]=[some (.ref x),some (.ref d),some (.ref q1),some (.ref q2),some (.ref lr),none,none,none] from rfl];refine⟨_,rfl,q1,_,rfl,.inl (SqL.of h1),λq nq=>?_⟩;trivial;have sa:Same H (upd H q (.lst (rs.map V.ref))):=Same.new' nq;have gq:upd H q (.lst (rs.map V.ref)) q=some (.lst (rs.map V.ref)):=upd_same;generalize upd H q (.lst (rs.map V.ref))=H1 at sa gq ⊢;refine⟨_,rfl,lr,_,rfl,.inl (SqL.of (sa _ _ hl)),?_⟩;trivial;have lF:=Paired.length hF;refine⟨_,rfl,lr,rfl,⟨_,SqL.of (sa _ _ hl)⟩,for_list (K:=K) (a:=lr) (xs:=fs.map V.ref)
   (λi σ H2=>∃(q:Addr)(c:Int)(e7:Option V),σ=[some (.ref x),some (.ref d),some (.ref q1),some (.ref q2),some (.ref lr),some (.ref q),some (.int c),e7]/\c=(R.length:Int)-i/\Same H H2/\Wk C H2 (U.map Mt.key) (Td.map Mt.key) pt T q (R.drop i))
   ⟨q,_,none,rfl,?_,sa,⟨rs,O,gq,TupsH.same sa hO,st,sO,kO,iO⟩⟩ (λi σ H2 _ ⟨_,_,_,_,_,s2,_⟩=>SqL.of (s2 _ _ hl)) ?_ ?_⟩
  .rw[List.length_map,lF];simp
  .rintro i v σ H2 hi ⟨q,c,e7,rfl,ec,s2,⟨zs,Cc,hq,hz,st2,so,ki,ip⟩⟩;rw[List.getElem?_map] at hi;obtain⟨g,eg,rfl⟩:=Option.map_eq_some_iff.mp hi;obtain⟨k,ek,fh⟩:=Sx.pair_at (i:=i) (a:=g) hF eg;obtain⟨mm,g1,g2,g3⟩:=fh;have il:i<R.length:=(List.getElem?_eq_some_iff.mp ek).1;have ed:R.drop i=k::R.drop (i+1):=by
    rw[List.drop_eq_getElem_cons il]
    congr 1
    have:=List.getElem?_eq_getElem il;rw[ek] at this;exact(Option.some.inj this).symm
   rw[ed] at st2;have lC:=mat_12 st2.mC ip l24;have lT:=mat_12 st2.mT iT l24;obtain⟨lk0,lk⟩:=st_len st2 lC lT;trivial;refine⟨_,rfl,_,rfl,_,rfl,x,q,g,m,U,ks,zs,Cc,H0,k,rfl,hw.same s2,hq,hz,mat_two st2.mC,by omega,⟨mm,s2 _ _ g1,s2 _ _ g2,g3⟩,lk0,lk,?_,λl zs' us H3 nl s3 hl3 hz3 pm so3=>?_⟩
   .obtain⟨r,t⟩:=k;cases r with
    | true=>exact st2.row (λu hu=>(ki u hu).1) λu hu=>(kT u hu).1
    | false=>exact st2.ring (λu hu=>(ki u hu).1) λu hu=>(kT u hu).1
   trivial;obtain⟨st3,sub3⟩:=st2.next pm;have s03:=s2.trans s3;have ki3:∀t∈us,t∈U.map Mt.key/\t∈Td.map Mt.key:=λt ht=>(sub3 t ht).elim (ki t) (kT t);have ip3:∀z∈us.flatten,z∈pt:=λz hz=>by
    obtain⟨t,ht,zt⟩:=List.mem_flatten.mp hz;rcases sub3 t ht with w|w
    .exact ip z (List.mem_flatten.mpr ⟨t,w,zt⟩)
    .exact iT z (List.mem_flatten.mpr ⟨t,w,zt⟩)
   have l3:=mat_12 st3.mC ip3 l24;refine⟨_,rfl,_,rfl,iteF ?_⟩;refine⟨_,rfl,_,rfl,x,l,m,U,ks,zs',us,rfl,hw.same s03,hl3,hz3,mat_two st3.mC,by omega,λb H4 hb s4=>?_⟩;rw[hb.mpr ⟨so3,λt ht=>(ki3 t ht).1,st3.mC.2⟩];refine⟨true,rfl,iteF ?_⟩;refine⟨_,rfl,_,rfl,d,l,o,Td,zs',us,rfl,(s03.trans s4) _ _ hd,s4 _ _ hl3,TupsH.same s4 hz3,λt ht=>(ki3 t ht).2,st3.mC.2,by omega,λH5 s5=>⟨true,rfl,iteF ?_⟩⟩;refine⟨_,rfl,_,_,rfl,rfl,?_⟩;trivial;have s35:=s4.trans s5;have s05:=s03.trans s35;refine⟨_,rfl,_,rfl,l,q2,zs',qs,us,T,rfl,s35 _ _ hl3,s05 _ _ h2,TupsH.same s35 hz3,TupsH.same s05 hT,st3.mC,st3.mT,by omega,by omega,λlb bs B H6 nb s6 hb6 hB fB pB _=>?_⟩;have cnt:=st3.count fB pB;have lB:=Paired.length hB;refine⟨lb,_,rfl,.inl (SqL.of hb6),_,rfl,rfl,_,rfl,iteNS (congrArg V.int ?_) ?_⟩
   .rw[List.length_map,lB,cnt,List.length_drop];omega
   .exact⟨l,_,_,rfl,by omega,s05.trans s6,⟨zs',us,(s35.trans s6) _ _ hl3,TupsH.same (s35.trans s6) hz3,st3,so3,ki3,ip3⟩⟩
  .rintro σ H2 ⟨q,c,e7,rfl,ec,s2,⟨zs,Cc,hq,hz,st2,so,ki,ip⟩⟩;rw[List.length_map,lF,List.drop_length] at st2;have e:=st2.done so sT;refine⟨_,rfl,_,rfl,q,q2,zs,qs,Cc,T,rfl,rfl,SqL.of hq,SqL.of (s2 _ _ h2),hz,TupsH.same s2 hT,?_⟩;rw[decide_eq_true e];exact hQ H2 s2
end
end K26
namespace L2
open PySem PySem.Spec PyProof.Rows
theorem call_list_ofK{X:Cx}(K:W.Frag)(h:X.K=K):CallR X (.type "list") (λxs H Q=>∃(p:Addr)(ys:List V),xs=[V.ref p]/\(SqL K H p ys\/SqT K H p ys)/\∀l:Addr,H l=none->Q (.ref l) (upd H l (.lst ys))):=by subst h;exact call_list_of
def WdH(H:Hp)(a:Addr)(z:Str×List Int):Prop:=∃m,H a=some (.tup [.str z.1,.ref m])/\H m=some (.lst (z.2.map V.int))
section
variable{X:Cx}{pins:List (Addr×Obj)}{σ:St}{H:Hp}{s:Shared}
theorem Inv.eqWd(I:Inv X pins σ H s){A:Around}{q q':Addr}{z:Str×List Int}(h:WdH H q z)(h':WdH H q' z)(hu:A.units+1<cLine):SeqAt.EqAt A s (.ref q) (.ref q') true:=by
 obtain⟨m,h1,h2⟩:=h;obtain⟨m',h1',h2'⟩:=h';by_cases e:q=q'
 .subst e;exact SeqAt.EqAt.same _
 .obtain ⟨its,rv,ht,_⟩:=I.tuple (SqT.of h1);obtain⟨its',rv',ht',_⟩:=I.tuple (SqT.of h1');obtain⟨u1,u2,rfl,r1,r2⟩:=vals2 rv;obtain⟨w1,w2,rfl,p1,p2⟩:=vals2 rv';cases r2;cases p2;obtain⟨t1,rfl⟩:=r1;obtain⟨t2,rfl⟩:=p1;have:=SeqAt.RcAt.tuples (A:=A) (s:=s) (l:=q) (b:=q') (e:=λ_=>true) ht ht' (by omega) λj k1 k2=>by
   match j,k1,k2 with
   | 0,_,_=>
    have:SeqAt.EqAt A.in1 s (.str z.1 t1) (.str z.1 t2) (z.1==z.1):=SeqAt.EqAt.str_str _ _ _ _;rw[beq_self_eq_true] at this;exact this
   | 1,_,_=>
    have:=Sx.eqAt_ints (A:=A.in1) (I.lstI (SqL.of h2)) (I.lstI (SqL.of h2')) (by show A.units+1<cLine;omega);rw[decide_eq_true rfl] at this;exact this
   | n+2,k1,_=>exact absurd (show n+2<2 from k1) (by omega)
  exact SeqAt.EqAt.of_refs e this
theorem op_eqWds(hu:X.A.units+2<cLine):OpR X (compareOp .Eq) (λx y H Q=>∃(a b:Addr)(rs qs:List Addr)(zs:List (Str×List Int)),x=.ref a/\y=.ref b/\SqL X.K H a (rs.map V.ref)/\SqL X.K H b (qs.map V.ref)/\Paired (WdH H) rs zs/\Paired (WdH H) qs zs/\Q (.bl true) H):=by
 intro pins s σ H x y v w Q I rx ry h;obtain⟨a,b,rs,qs,ss,rfl,rfl,ha,hb,h,h',q⟩:=h;cases rx;cases ry;obtain⟨ia,ra,pa,_⟩:=I.list ha;obtain⟨ib,rb,pb,_⟩:=I.list hb;obtain rfl:=refs_of ra;obtain rfl:=refs_of rb;have l1:=Paired.length h;have l2:=Paired.length h';refine SeqAt.eq_listAt (e:=λ_=>true) pa.isList pb.isList (by simp[l1,l2]) (by omega) (λj k1 k2=>?_) ?_
 .have k1':j<rs.length:=by simpa using k1
  have k2':j<qs.length:=by simpa using k2
  obtain⟨z,ez,hz⟩:=Sx.pair_at (i:=j) (a:=rs[j]) h (by simp[k1']);obtain⟨z',ez',hz'⟩:=Sx.pair_at (i:=j) (a:=qs[j]) h' (by simp[k2']);rw[ez] at ez';cases ez';have:=I.eqWd (A:=X.A.in1) hz hz' (by show X.A.units+1+1<cLine;omega);simpa using this
 .rw[show((List.range (rs.map Value.ref).toArray.size).all λ_=>true)=true from List.all_eq_true.mpr λ_ _=>rfl];exact⟨.bl _,H,I,rfl,q⟩
end
end L2
namespace K26
open PySem L2 PyProof.Rows
section
variable{P:Program}{w:World}{K:W.Frag}{mg:Str->Option Value}{base:Heap}{C:Addr}
structure CallsL(P:Program)(w:World)(K:W.Frag)(mg:Str->Option Value)(base:Heap)(C:Addr):Prop where
 web:TxtW K mg C
 ini:∃fI fdI,Mk K C fI/\FnOk P w K mg base CX0 3 fI fdI ["self","many","ties"] (spInit C K)/\Binds K fdI ["self","many","ties"] []
 cel:∃f fd,mg "_law_cell_at"=some (.ref f)/\PySem.W.keepIn K (.ref f)=true/\FnOk P w K mg base CX0 1 f fd ["_law_script","_law_k"] (spCell K)/\Binds K fd ["_law_script","_law_k"] []
 ord:∃f fd,mg "_law_order"=some (.ref f)/\PySem.W.keepIn K (.ref f)=true/\FnOk P w K mg base CX0 2 f fd ["_law_script","_law_many"] (spOrder K)/\Binds K fd ["_law_script","_law_many"] []
 two:∃f fd,mg "_law_two"=some (.ref f)/\PySem.W.keepIn K (.ref f)=true/\FnOk P w K mg base CX0 3 f fd ["_law_script","_law_order_here"] (spTwo K)/\Binds K fd ["_law_script","_law_order_here"] []
 lw:∃f fd,mg "_law_weight"=some (.ref f)/\PySem.W.keepIn K (.ref f)=true/\FnOk P w K mg base CX0 1 f fd ["_law_cell"] spLw/\Binds K fd ["_law_cell"] []
 mor:∃f fd,mg "_law_more"=some (.ref f)/\PySem.W.keepIn K (.ref f)=true/\FnOk P w K mg base CX0 3 f fd ["_law_ties","_law_script","_law_many"] (spMore K)/\Binds K fd ["_law_ties","_law_script","_law_many"] []
 lis:∃f fd,mg "_law_listed"=some (.ref f)/\PySem.W.keepIn K (.ref f)=true/\FnOk P w K mg base CX0 1 f fd ["_law_ties","_law_way"] spListed/\Binds K fd ["_law_ties","_law_way"] []
 bet:∃f fd,mg "between"=some (.ref f)/\PySem.W.keepIn K (.ref f)=true/\FnOk P w K mg base CX0 3 f fd ["one","other"] spBetw/\Binds K fd ["one","other"] []
 wal:∃f fd,mg "_law_walked"=some (.ref f)/\PySem.W.keepIn K (.ref f)=true/\FnOk P w K mg base CX0 6 f fd psWd (spWalked C)/\Binds K fd psWd []
 glen:mg "len"=none
def spLaw(K:W.Frag):Sp:=λvs H Q _=>∃(a:Addr)(ns:List Int),vs=[.ref a]/\SqL K H a (ns.map V.int)/\ns.length<=63/\∀H',Q (.bl true) H'
abbrev nmL:List Str:=["_law_script","_law_head","_law_many","_law_one","_law_other","_law_ties","_law_tie_here","_law_web","_law_rows","_law_kept","_law_back"]
theorem scLaw:FnScope nmL ["_law_script"] (defScope sLaw):=⟨rfl,rfl,rfl,by decide +kernel,rfl,by decide +kernel,by decide +kernel⟩
abbrev XL(P:Program)(w:World)(K:W.Frag)(mg:Str->Option Value)(base:Heap)(f:Addr)(cdv:Value)(A:Around)(outer:List Env)(s:Shared)(H:Hp)(E:XK):Cx:=(cxOf CX0 P w K mg base nmL "law" (defScope sLaw) f cdv A outer s H E).nox
abbrev lawAt(i:Nat):Stmt:=(defBody sLaw).getD i (.Pass ⟨0,0,0,0⟩)
section
variable{f:Addr}{cdv:Value}{A:Around}{outer:List Env}{s:Shared}{H:Hp}{E:XK}
def tMany:TS:=λD σ H=>∃h n:Int,σ[1]?=some (some (.int h))/\σ[2]?=some (some (.int n))/\1<=n/\n<=24/\∀n':Int,1<=n'->n'<=24->D.nx (σ.set 2 (some (.int n'))) H
theorem ok_many:PS (XL P w K mg base f cdv A outer s H E) (lawAt 2) tMany:=by
 refine' PS.imp (t':=tMany) (ps_if (pt_cmpR op_eq (pe_op op_mod (pe_op op_fdiv (pv 1) pe_int) pe_int) pe_int (nomark _)) (pss_one (ps_set (i:=2) scLaw.nd rfl (Or.inl rfl) (pe_op op_add pe_int (pe_op op_mod (pe_op op_fdiv (pv 1) pe_int) pe_int)))) pss_nil) ?_;rintro D σ H1 ⟨h,n,e1,e2,n1,n2,k⟩;refine⟨_,e1,_,_,rfl,rfl,⟨by decide,by decide⟩,_,_,rfl,rfl,(by show(0:Int)<7;decide),rfl,_,rfl,?_⟩;refine ite2 (λ_=>?_) (λ_=>?_)
 .refine⟨_,e1,_,_,rfl,rfl,⟨by decide,by decide⟩,_,_,rfl,rfl,(by show(0:Int)<12;decide),_,_,rfl,rfl,?_⟩;have a0:=Int.emod_nonneg (h / 40000) (show(12:Int)≠0 by decide);have a1:=Int.emod_lt_of_pos (h / 40000) (show(0:Int)<12 by decide);exact k _ (by show 1<=13+h / 40000 % 12;omega) (by show 13+h / 40000 % 12<=24;omega)
 .have:=k n n1 n2;rw[set_self e2] at this;exact this
def tTies:TS:=λD σ H=>∃(h m:Int)(l p d:Addr)(zs ys:List Addr)(A P:List (List Int))(e11:Option V),σ[1]?=some (some (.int h))/\σ[3]?=some (some (.ref l))/\σ[4]?=some (some (.ref p))/\σ[5]?=some (some (.ref d))/\σ[6]?=some e11 ∧
 H l=some (.lst (zs.map V.ref))/\TupsH H zs A/\H p=some (.lst (ys.map V.ref))/\TupsH H ys P/\H d=some (.dT [])/\(∀k∈A++P,∃x y:Int,k=[x,y]/\0<=x/\x<y/\y<m)/\A.length<=60/\P.length<=60 ∧
 ∀(e:Option V)(T:List Mt.Tri)(H':Hp),(∀b o,H b=some o->b≠d->H' b=some o)->H' d=some (.dT (wd T))->Mt.Dt m T->(∀k∈A++P,k∈T.map Mt.key)->T.length<=120->D.nx (σ.set 6 e) H'
theorem ok_l5{f1:Addr}{fd1:FuncData}(hr1:Room 1 (XL P w K mg base f cdv A outer s H E).A)(hu:(XL P w K mg base f cdv A outer s H E).A.units+1<cLine)
  (G1:FnOk P w K mg base CX0 1 f1 fd1 ["_law_cell"] spLw) (m1:mg "_law_weight"=some (.ref f1)) (k1:PySem.W.keepIn K (.ref f1)=true) (b1:Binds K fd1 ["_law_cell"] []):PS (XL P w K mg base f cdv A outer s H E) (lawAt 5) tTies:=by
 refine' PS.imp (t':=tTies) (ps_for ?qa ?qb ?qc ?qd (pss_one ?qe)) ?_
 case qa=>exact PassesOwn.never
 case qb=>exact rfl
 case qc=>exact pi_list (pe_op op_cat (pv 3) (pv 4))
 case qd=>exact pg_name (i:=6) scLaw.nd rfl (Or.inl rfl)
 case qe=>exact ps_dput hu (pv 5) (pv 6) (pe_call G1 hr1 (by rfl) m1 k1 b1 .nil pass0 (pa_cons (pe_op op_add (pe_op op_fdiv (pv 1) pe_int) (pe_ix ix_tup (pv 6) pe_int (λ_ _=>rfl))) pa_nil)) rfl
 rintro D σ H1 ⟨h,m,l,p,d,zs,ys,A,P,e11,e1,e7,e8,e10,e11',hl,hz,hp,hy,hd,hk,lA,lP,k⟩;have lz:=Paired.length hz;have ly:=Paired.length hy;refine⟨_,e7,_,e8,l,p,_,_,rfl,rfl,hl,hp,Nat.le_of_lt (small1000 (by rw[List.length_map,List.length_map];omega)),λl2 hl2=>?_⟩;rw[<-List.map_append];have s1:Same H1 (upd H1 l2 (.lst ((zs++ys).map V.ref))):=Same.new hl2;have h2:upd H1 l2 (.lst ((zs++ys).map V.ref)) l2=some (.lst ((zs++ys).map V.ref)):=upd_same;have hT:TupsH (upd H1 l2 (.lst ((zs++ys).map V.ref))) (zs++ys) (A++P):=paired_app (TupsH.same s1 hz) (TupsH.same s1 hy);generalize upd H1 l2 (.lst ((zs++ys).map V.ref))=H2 at s1 h2 hT ⊢;have nld:l2≠d:=ne_of h2 (s1 d _ hd) (by intro z;cases z);have lT:=Paired.length hT;refine⟨l2,rfl,⟨_,SqL.of h2⟩,for_list (K:=K) (a:=l2) (xs:=(zs++ys).map V.ref)
  (λi σ' H3=>∃(e:Option V)(T:List Mt.Tri),σ'=σ.set 6 e/\(∀b o,H2 b=some o->b≠d->H3 b=some o)/\H3 d=some (.dT (wd T))/\Mt.Dt m T/\(∀k∈(A++P).take i,k∈T.map Mt.key)/\T.length<=i)
  ⟨e11,[],(set_self e11').symm,λb o e _=>e,s1 d _ hd,⟨List.nodup_nil,λt ht=>(by cases ht)⟩,λk hk=>(by cases hk),Nat.le_refl _⟩ (λi σ' H3 _ ⟨_,_,_,k3,_⟩=>SqL.of (k3 l2 _ h2 nld)) ?_ ?_⟩
 .rintro i x σ' H3 hi ⟨e,T,rfl,k3,hd3,hDt,sub,lT3⟩;obtain⟨r,t,rfl,et,hr'⟩:=tup_at hT hi;have hil:i<(A++P).length:=(List.getElem?_eq_some_iff.mp et).1;rw[List.length_append] at hil;obtain⟨x,y,rfl,x0,xy,ym⟩:=hk t (List.mem_of_getElem? et);have hr3:=k3 r _ hr' (ne_of hr' (s1 d _ hd) (by intro z;cases z));unfold gName;dsimp only;rw[List.set_set];have l11:=(List.getElem?_eq_some_iff.mp e11').1;refine⟨_,look e1 (by decide),_,_,rfl,rfl,⟨by decide,by decide⟩,_,by rw[List.getElem?_set_self l11],r,_,_,_,rfl,rfl,SqT.of hr3,(show _=some (V.int x) from rfl),_,_,rfl,rfl,_,rfl,λn=>⟨_,look e10 (by decide),_,by rw[List.getElem?_set_self l11],d,_,rfl,DPut.t (k:=[x,y].map Sum.inl) hd3 hr3 (small1000 (by unfold wd;rw[List.length_map];omega)),?_⟩⟩;obtain⟨T2,ep,hT2,hk2,l2'⟩:=Dt.put hDt (w:=n) x0 xy ym;rw[show putK (wd T) ([x,y].map Sum.inl) (.int n)=wd T2 from ep];refine⟨_,T2,rfl,λb o e nb=>?_,upd_same,hT2,λk hk'=>?_,by omega⟩
  .rw[upd_ne nb];exact k3 b o e nb
  .rw[List.take_succ,et] at hk';rcases List.mem_append.mp hk' with hk' | hk'
   .exact(hk2 k).mpr (.inl (sub k hk'))
   .exact(hk2 k).mpr (.inr (by simpa using hk'))
 .rintro σ' H3 ⟨e,T,rfl,k3,hd3,hDt,sub,lT3⟩;rw[List.length_map,lT,List.take_length] at sub;rw[List.length_map,lT,List.length_append] at lT3;exact k e T H3 (λb o e n=>k3 b o (s1 b o e) n) hd3 hDt sub (by omega)
def wds(F:List (Bool×List Int)):List (Str×List Int):=F.map λk=>(wrd k.1,k.2)
theorem fs_wds{H0 H:Hp}:∀{fs:List Addr}{F:List (Bool×List Int)},FsH H0 H fs F->Paired (WdH H) fs (wds F)
 | _,_,.nil=>.nil
 | _,_,.cons ⟨m,h1,h2,_⟩ r=>.cons ⟨m,h1,h2⟩ (fs_wds r)
theorem wds_same{H H':Hp}{fs:List Addr}{zs:List (Str×List Int)}(h:Paired (WdH H) fs zs)(z:Same H H'):Paired (WdH H') fs zs:=paired_imp (λ_ _ ⟨m,h1,h2⟩=>⟨m,z _ _ h1,z _ _ h2⟩) h
theorem nd_ownT:([".0","_law_told"]:List Str).Nodup:=by decide +kernel
def tKept:TS:=λD σ H=>∃(lr:Addr)(fs:List Addr)(zs:List (Str×List Int)),σ[8]?=some (some (.ref lr))/\H lr=some (.lst (fs.map V.ref))/\Paired (WdH H) fs zs/\fs.length<=200 ∧
 ∀(l:Addr)(gs:List Addr)(H':Hp),Same H H'->H' l=some (.lst (gs.map V.ref))->Paired (WdH H') gs zs->D.nx (σ.set 9 (some (.ref l))) H'
theorem ok_l9(glist:mg "list"=none):PS (XL P w K mg base f cdv A outer s H E) (lawAt 9) tKept:=by
 refine' PS.imp (t':=tKept) ?cc ?_
 case cc=>exact ps_comp (i:=9) (g:=gName 1) (own:=[".0","_law_told"]) (cl:=[]) (caps:=[]) (js:=[]) rfl (caps0 rfl rfl (by decide +kernel) (by decide +kernel)) (pi_list (pv 8)) (λpins C s H1 fp=>pg_name (i:=1) nd_ownT rfl (Or.inl rfl)) (λpins C s H1 fp=>pts_nil) (λpins C s H1 fp=>pe_tup (pa_cons (pe_ix (ix_tupK K rfl) (pv 1) pe_int (λ_ _=>rfl)) (pa_cons (pe_callTy (call_list_ofK K rfl) (by rfl) glist boot_list (pa_cons (pe_ix (ix_tupK K rfl) (pv 1) pe_int (λ_ _=>rfl)) pa_nil)) pa_nil))) scLaw.nd rfl rfl rfl
 rintro D0 σ H2 ⟨lr,fs,zs,e8,hl,hF,l200,kk⟩;have lF:=Paired.length hF;refine⟨_,e8,lr,rfl,⟨_,SqL.of hl⟩,λD hD=>?_⟩;refine turns_list (K:=K) (a:=lr) (xs:=fs.map V.ref) (λi ys σ H4=>∃(gs:List Addr)(e0 e1:Option V),ys=gs.map V.ref/\σ=[e0,e1]/\Same H2 H4/\H4 D=some (.lst ys)/\(∀H5,(∀b o,H4 b=some o->b≠D->H5 b=some o)->Paired (WdH H5) gs (zs.take i))/\gs.length<=200) ⟨[],none,none,rfl,rfl,Same.new hD,upd_same,λ_ _=>.nil,by decide⟩ ?_ ?_ ?_
 .rintro i ys σ H4 ⟨gs,e0,e1,rfl,rfl,s4,hD4,hz,lg⟩;refine⟨hD4,small1000 ?_,SqL.of (s4 lr _ hl)⟩;rw[List.length_map];omega
 .rintro i x0 ys σ H4 hi ⟨gs,e0,e1,rfl,rfl,s4,hD4,hz,lg⟩;have hil:i<fs.length:=by have:=(List.getElem?_eq_some_iff.mp hi).1;rw[List.length_map] at this;exact this
  rw[List.getElem?_map] at hi;obtain⟨r,er,rfl⟩:=Option.map_eq_some_iff.mp hi;obtain⟨⟨wd0,t⟩,eG,⟨mm,r1,r2⟩⟩:=Sx.pair_at (i:=i) (a:=r) hF er;have r1:H2 r=some (.tup [.str wd0,.ref mm]):=r1;have r2:H2 mm=some (.lst (t.map V.int)):=r2;unfold gName;refine yes_of ?_;refine⟨_,rfl,r,_,_,_,rfl,rfl,SqT.of (s4 r _ r1),(show atI [V.str wd0,V.ref mm] 0=some (.str wd0) from rfl),_,rfl,r,_,_,_,rfl,rfl,SqT.of (s4 r _ r1),(show atI [V.str wd0,V.ref mm] 1=some (.ref mm) from rfl),mm,_,rfl,.inl (SqL.of (s4 mm _ r2)),λq nq=>?_⟩;have s5:Same H4 (upd H4 q (.lst (t.map V.int))):=Same.new nq;have hq5:upd H4 q (.lst (t.map V.int)) q=some (.lst (t.map V.int)):=upd_same;have nqD:q≠D:=(ne_of_none hD4 nq).symm;generalize upd H4 q (.lst (t.map V.int))=H5 at s5 hq5 ⊢;refine⟨(by show 2<=sizeLine;decide),λp np=>?_⟩;have s6:Same H5 (upd H5 p (.tup [.str wd0,.ref q])):=Same.new np;have hp6:upd H5 p (.tup [.str wd0,.ref q]) p=some (.tup [.str wd0,.ref q]):=upd_same;have npD:p≠D:=(ne_of_none (s5 D _ hD4) np).symm;generalize upd H5 p (.tup [.str wd0,.ref q])=H6 at s6 hp6 ⊢;have s46:=s5.trans s6;refine⟨s46 D _ hD4,Nxt.mk (by rw[List.length_map];exact hil) ⟨gs++[p],_,_,by rw[List.map_append];rfl,rfl,λb o e=>?_,upd_same,λH7 f7=>?_,?_⟩⟩
  .rw[upd_ne (ne_of_none e hD)];exact s46 b o (s4 b o e)
  .rw[List.take_succ,eG];have f8:∀b o,H6 b=some o->b≠D->H7 b=some o:=λb o e n=>f7 b o (by rw[upd_ne n];exact e) n;exact paired_snoc (hz H7 λb o e n=>f8 b o (s46 b o e) n) ⟨q,f8 p _ hp6 npD,f8 q _ (s6 q _ hq5) nqD⟩
  .have:=Paired.length (hz H4 λ_ _ e _=>e);rw[List.length_take] at this;rw[List.length_append,List.length_singleton];omega
 .rintro ys σ0 H4 ⟨gs,e0,e1,rfl,rfl,s4,hD4,hz,_⟩;have:=hz H4 λ_ _ e _=>e;rw[List.length_map,lF,List.take_length] at this;exact kk D gs H4 s4 hD4 this
end
theorem ok_law{f:Addr}{fd:FuncData}(F:Fun K "law" "law" sLaw f fd)(G:CallsL P w K mg base C):FnOk P w K mg base CX0 7 f fd ["_law_script"] (spLaw K):=by
 obtain⟨fI,fdI,MI,GI,bI⟩:=G.ini;obtain⟨f1,fd1,m1,k1,G1,b1⟩:=G.cel;obtain⟨f2,fd2,m2,k2,G2,b2⟩:=G.ord;obtain⟨f3,fd3,m3,k3,G3,b3⟩:=G.two;obtain⟨f4,fd4,m4,k4,G4,b4⟩:=G.lw;obtain⟨f5,fd5,m5,k5,G5,b5⟩:=G.mor;obtain⟨f6,fd6,m6,k6,G6,b6⟩:=G.lis;obtain⟨f7,fd7,m7,k7,G7,b7⟩:=G.bet;obtain⟨f8,fd8,m8,k8,G8,b8⟩:=G.wal;refine F.ok scLaw (λvs H Q E h=>?_) (λcdv A outer s H vs Q E hr h=>?_)
 .obtain⟨a,ns,rfl,_⟩:=h;rfl
 .obtain ⟨a,ns,rfl,hS,hns,hQ⟩:=h;have hu2:(XL P w K mg base f cdv A outer s H E).A.units+2<cLine:=by have:=hr.un;show(A.deeper _).units+2<cLine;omega
  have hu1:(XL P w K mg base f cdv A outer s H E).A.units+1<cLine:=by omega
  have hr1:Room 1 (XL P w K mg base f cdv A outer s H E).A:=hr.mono (by decide);have hr2:Room 2 (XL P w K mg base f cdv A outer s H E).A:=hr.mono (by decide);have hr3:Room 3 (XL P w K mg base f cdv A outer s H E).A:=hr.mono (by decide);have hr4:Room 4 (XL P w K mg base f cdv A outer s H E).A:=hr.mono (by decide);have hr6:Room 6 (XL P w K mg base f cdv A outer s H E).A:=hr;refine'⟨_,pss_cons ?s0 (pss_cons ?s1 (pss_cons ok_many (pss_cons ?s3 (pss_cons ?s4 (pss_cons (ok_l5 hr1 hu1 G4 m4 k4 b4) (pss_cons ?s6 (pss_cons ?s7 (pss_cons ?s8 (pss_cons (ok_l9 G.web.lst) (pss_cons ?s10 (pss_cons ?s11 (pss_one ?s12)))))))))))),?_⟩
  case s0=>exact ps_set (i:=1) scLaw.nd rfl (Or.inl rfl) (pe_op op_mod (pe_op op_mul (pe_op op_add (pe_call G1 hr1 (by rfl) m1 k1 b1 .nil pass0 (pa_cons (pv 0) (pa_cons pe_int pa_nil))) pe_int) pe_int) pe_int)
  case s1=>exact ps_set (i:=2) scLaw.nd rfl (Or.inl rfl) (pe_op op_add pe_int (pe_op op_mod (pv 1) pe_int))
  case s3=>exact ps_asg (pe_call G3 hr3 (by rfl) m3 k3 b3 .nil pass0 (pa_cons (pv 0) (pa_cons (pe_call G2 hr2 (by rfl) m2 k2 b2 .nil pass0 (pa_cons (pv 0) (pa_cons (pv 2) pa_nil))) pa_nil))) (pg_tup rfl (pgs_cons (pg_name (i:=3) scLaw.nd rfl (Or.inl rfl)) (pgs_cons (pg_name (i:=4) scLaw.nd rfl (Or.inl rfl)) pgs_nil)))
  case s4=>exact ps_set (i:=5) scLaw.nd rfl (Or.inl rfl) pe_dnewT
  case s6=>exact ps_expr (pe_call G5 hr3 (by rfl) m5 k5 b5 .nil pass0 (pa_cons (pv 5) (pa_cons (pv 0) (pa_cons (pv 2) pa_nil))))
  case s7=>exact ps_set (i:=7) scLaw.nd rfl (Or.inl rfl) (pe_make MI GI hr4 rfl G.web.mgC bI .nil pass0 (pa_cons (pv 2) (pa_cons (pe_call G6 hr1 (by rfl) m6 k6 b6 .nil pass0 (pa_cons (pv 5) (pa_cons (pe_op op_fdiv (pv 1) pe_int) pa_nil))) pa_nil)))
  case s8=>exact ps_set (i:=8) scLaw.nd rfl (Or.inl rfl) (pe_call G7 hr3 (by rfl) m7 k7 b7 .nil pass0 (pa_cons (pe_callTy call_list_of (by rfl) G.web.lst boot_list (pa_cons (pv 3) pa_nil)) (pa_cons (pe_callTy call_list_of (by rfl) G.web.lst boot_list (pa_cons (pv 4) pa_nil)) pa_nil)))
  case s10=>exact ps_if (pw_or (pt_not (pt_val (pe_call G8 hr6 (by rfl) m8 k8 b8 .nil pass0 (pa_cons (pv 7) (pa_cons (pv 5) (pa_cons (pv 3) (pa_cons (pv 4) (pa_cons (pv 8) pa_nil)))))))) (pw_or1 (pt_not (pt_val (pe_call G8 hr6 (by rfl) m8 k8 b8 .nil pass0 (pa_cons (pv 7) (pa_cons (pv 5) (pa_cons (pv 3) (pa_cons (pv 4) (pa_cons (pe_rev (pv 8) (pe_un un_neg pe_int)) pa_nil)))))))))).pt (pss_one (ps_ret pe_bl)) pss_nil
  case s11=>exact ps_set (i:=10) scLaw.nd rfl (Or.inl rfl) (pe_call G7 hr3 (by rfl) m7 k7 b7 .nil pass0 (pa_cons (pe_callTy call_list_of (by rfl) G.web.lst boot_list (pa_cons (pv 4) pa_nil)) (pa_cons (pe_callTy call_list_of (by rfl) G.web.lst boot_list (pa_cons (pv 3) pa_nil)) pa_nil)))
  case s12=>exact ps_ret (pe_and (pe_call G8 hr6 (by rfl) m8 k8 b8 .nil pass0 (pa_cons (pv 7) (pa_cons (pv 5) (pa_cons (pv 4) (pa_cons (pv 3) (pa_cons (pv 10) pa_nil)))))) (pe_and (pe_cmpR (op_eqWds hu2) (pv 8) (pv 9) (nomark _)) (pe_one (pe_cmpR op_eq (pe_callB call_len_seq (by rfl) G.glen PySem.boot_len (pa_cons (pv 10) pa_nil)) (pe_callB call_len_seq (by rfl) G.glen PySem.boot_len (pa_cons (pv 8) pa_nil)) (nomark _)))))
  rw[show L2.start nmL [V.ref a]=some (.ref a)::List.replicate 10 none from rfl];refine⟨_,rfl,a,ns,_,rfl,by decide,hS,λc0=>⟨_,_,rfl,rfl,_,_,rfl,rfl,.inr ⟨by decide,by decide⟩,_,_,rfl,rfl,(by show(0:Int)<2147483647;decide),?_⟩⟩;dsimp only[gName,List.set_cons_succ,List.set_cons_zero,List.replicate];generalize (c0+7)*48271 % 2147483647=hd;refine⟨_,rfl,_,_,rfl,rfl,(by show(0:Int)<12;decide),_,_,rfl,rfl,?_⟩;have n0:=Int.emod_nonneg hd (show(12:Int)≠0 by decide);have n1:=Int.emod_lt_of_pos hd (show(0:Int)<12 by decide);trivial;refine⟨hd,1+hd % 12,rfl,rfl,by omega,by omega,λm q0 q1=>?_⟩;dsimp only[List.set_cons_succ,List.set_cons_zero];refine⟨_,rfl,_,rfl,_,rfl,a,m,ns,rfl,hS,by omega,q1,λlo o H1 _ s1 ho po=>?_⟩;have l24:o.length<=24:=by rw[po.length_eq,upto_len];omega
  refine⟨a,lo,ns,o,rfl,s1.seq hS,ho,po.nodup_iff.mpr (upto_nd _),l24,λp l1 l2 rs qs O T H2 s2 hp h1 h2 hO hT mO mT lO lT iO iT sO sT=>?_⟩;refine⟨p,_,rfl,SqT.of hp,rfl,_,_,rfl,_,_,rfl,rfl,?_⟩;trivial;have s02:=s1.trans s2;intro d nd;have s3:Same H2 (upd H2 d (.dT [])):=Same.new nd;have hd3:upd H2 d (.dT []) d=some (.dT []):=upd_same;trivial;generalize upd H2 d (.dT [])=H3 at s3 hd3 ⊢;have tOf:∀k∈O++T,∃x y:Int,k=[x,y]/\0<=x/\x<y/\y<m:=λk hk=>by
   have key:∀{B:List (List Int)},Bt.Mat B->(∀x∈B.flatten,x∈o)->k∈B->∃x y:Int,k=[x,y]/\0<=x/\x<y/\y<m:=λ{B} mB iB hB=>by
    obtain⟨x,y,rfl,lt⟩:=mB.1 k hB;have h1:=upto_mem.mp (po.mem_iff.mp (iB x (List.mem_flatten.mpr ⟨_,hB,.head _⟩)));have h2:=upto_mem.mp (po.mem_iff.mp (iB y (List.mem_flatten.mpr ⟨_,hB,.tail _ (.head _)⟩)));exact⟨x,y,rfl,h1.1,lt,by omega⟩
   rcases List.mem_append.mp hk with w|w
   .exact key mO iO w
   .exact key mT iT w
  refine⟨hd,m,l1,l2,d,rs,qs,O,T,_,rfl,rfl,rfl,rfl,rfl,s3 _ _ h1,TupsH.same s3 hO,s3 _ _ h2,TupsH.same s3 hT,hd3,tOf,by omega,by omega,λe6 T1 H4 fr4 hd4 hT1 sub1 lT1=>?_⟩;dsimp only[List.set_cons_succ,List.set_cons_zero];have s24:Same H2 H4:=λb o e=>fr4 b o (s3 b o e) (ne_of_none e nd);refine⟨_,rfl,_,rfl,_,rfl,d,a,m,ns,T1,rfl,hd4,(s02.trans s24).seq hS,hns,by omega,q1,hT1,by omega,λTd H5 fr5 hd5 hTd sub lTd=>?_⟩;have s25:Same H2 H5:=λb o e=>fr5 b o (s24 b o e) (ne_of_none e nd);refine⟨_,rfl,_,rfl,_,rfl,_,_,rfl,rfl,⟨by decide,by decide⟩,d,m,_,Td,rfl,hd5,hTd,by omega,λl ws U ob H6 fr6 hd6 hl hws er sg=>?_⟩;have s26:Same H2 H6:=λb u e=>fr6 b u (s25 b u e) (ne_of_none e nd);refine λx dx hx hdx ndx=>?_;have s7:Same H6 (upd (upd H6 dx (.own x)) x (.ins C dx [])):=λb o e=>by
   rw[upd_ne (ne_of_none e hx),upd_ne (ne_of_none e hdx)];exact e
  have lU:U.length=Td.length:=by have:=er.length_eq;rw[List.length_map,List.length_map] at this;exact this
  refine⟨x,m,l,dx,ws,U,rfl,upd_same,⟨SqL.of (s7 l _ hl),TupsH.same s7 hws⟩,by omega,by omega,sg,λH8 ks k8' W8=>⟨rfl,?_⟩⟩;trivial;have W:=W8.web;have s68:Same H6 H8:=λb o e=>k8' b o (s7 b o e) (ne_of_none e hx);have hd8:=s68 d _ hd6;have s28:=s26.trans s68;clear W8 k8' s7 hx hdx ndx;have h1:=s28 _ _ h1;have h2:=s28 _ _ h2;have hO:=TupsH.same s28 hO;have hT:=TupsH.same s28 hT;have pk:=rows_keys er;have inK:∀t∈O++T,t∈U.map Mt.key/\t∈Td.map Mt.key:=λt ht=>by
   have:=sub _ (sub1 t ht);exact⟨pk.mem_iff.mpr this,this⟩
  have kO:∀t∈O,t∈U.map Mt.key/\t∈Td.map Mt.key:=λt ht=>inK t (List.mem_append_left _ ht);have kT:∀t∈T,t∈U.map Mt.key/\t∈Td.map Mt.key:=λt ht=>inK t (List.mem_append_right _ ht);refine⟨_,rfl,l1,_,rfl,.inl (SqL.of h1),λc1 n1'=>?_⟩;have t1:Same H8 (upd H8 c1 (.lst (rs.map V.ref))):=Same.new n1';have g1:upd H8 c1 (.lst (rs.map V.ref)) c1=some (.lst (rs.map V.ref)):=upd_same;generalize upd H8 c1 (.lst (rs.map V.ref))=H9 at t1 g1 ⊢;refine⟨_,rfl,l2,_,rfl,.inl (SqL.of (t1 _ _ h2)),λc2 n2'=>?_⟩;have t2:Same H9 (upd H9 c2 (.lst (qs.map V.ref))):=Same.new n2';have g2:upd H9 c2 (.lst (qs.map V.ref)) c2=some (.lst (qs.map V.ref)):=upd_same;generalize upd H9 c2 (.lst (qs.map V.ref))=H10 at t2 g2 ⊢;have t12:=t1.trans t2;refine⟨c1,c2,rs,qs,O,T,rfl,t2 _ _ g1,g2,TupsH.same t12 hO,TupsH.same t12 hT,mO,mT,by omega,by omega,λlf fs R H11 _ t3 hf hF fnd pm lR=>?_⟩;trivial;have t13:=t12.trans t3;have st:Bt.St O T R:=⟨mO,mT,fnd,pm⟩;have lfs:=Paired.length hF;refine⟨lf,fs,wds R,rfl,hf,fs_wds hF,by omega,λlk gs H12 t4 hk hG=>?_⟩;dsimp only[List.set_cons_succ,List.set_cons_zero];have t14:=t13.trans t4;refine⟨_,rfl,_,rfl,_,rfl,_,rfl,_,rfl,x,d,l1,l2,lf,m,U,Td,ks,ob,rs,qs,fs,O,T,H10,R,o,rfl,W.same t14,t14 _ _ hd8,t14 _ _ h1,t14 _ _ h2,TupsH.same t14 hO,TupsH.same t14 hT,t4 _ _ hf,FsH.same hF t4,st,sO,sT,kO,kT,iO,iT,l24,λH13 t5=>⟨true,rfl,iteF ?_⟩⟩;have t15:=t14.trans t5;refine⟨_,rfl,_,rfl,_,rfl,_,rfl,_,rfl,_,rfl,rfl,lf,_,rfl,SqL.of ((t4.trans t5) _ _ hf),λlv nv=>?_⟩;have t6:Same H13 (upd H13 lv (.lst (fs.map V.ref).reverse)):=Same.new nv;have gv:upd H13 lv (.lst (fs.map V.ref).reverse) lv=some (.lst (fs.reverse.map V.ref)):=by rw[List.map_reverse];exact upd_same
  generalize upd H13 lv (.lst (fs.map V.ref).reverse)=H14 at t6 gv ⊢;have t16:=t15.trans t6;have t46:=t4.trans (t5.trans t6);refine⟨x,d,l1,l2,lv,m,U,Td,ks,ob,rs,qs,fs.reverse,O,T,H10,R.reverse,o,rfl,W.same t16,t16 _ _ hd8,t16 _ _ h1,t16 _ _ h2,TupsH.same t16 hO,TupsH.same t16 hT,gv,paired_rev (FsH.same hF t46),st.perm (List.reverse_perm R),sO,sT,kO,kT,iO,iT,l24,λH15 t7=>⟨true,rfl,iteF ?_⟩⟩;have t17:=t16.trans t7;have t47:=t46.trans t7;refine⟨_,rfl,l2,_,rfl,.inl (SqL.of (t17 _ _ h2)),λc3 n3'=>?_⟩;have t8:Same H15 (upd H15 c3 (.lst (qs.map V.ref))):=Same.new n3';have g3:upd H15 c3 (.lst (qs.map V.ref)) c3=some (.lst (qs.map V.ref)):=upd_same;generalize upd H15 c3 (.lst (qs.map V.ref))=H16 at t8 g3 ⊢;have t18:=t17.trans t8;refine⟨_,rfl,l1,_,rfl,.inl (SqL.of (t18 _ _ h1)),λc4 n4'=>?_⟩;have t9:Same H16 (upd H16 c4 (.lst (rs.map V.ref))):=Same.new n4';have g4:upd H16 c4 (.lst (rs.map V.ref)) c4=some (.lst (rs.map V.ref)):=upd_same;generalize upd H16 c4 (.lst (rs.map V.ref))=H17 at t9 g4 ⊢;have t19:=t18.trans t9;refine⟨c3,c4,qs,rs,T,O,rfl,t9 _ _ g3,g4,TupsH.same t19 hT,TupsH.same t19 hO,mT,mO,by omega,by omega,λlb bs B H18 _ t10 hb hB fndB pmB lB=>?_⟩;trivial;have t1a:=t19.trans t10;have st':Bt.St T O B:=⟨mT,mO,fndB,pmB⟩;have lbs:=Paired.length hB;refine⟨_,rfl,_,rfl,_,rfl,_,rfl,_,rfl,x,d,l2,l1,lb,m,U,Td,ks,ob,qs,rs,bs,T,O,H17,B,o,rfl,W.same t1a,t1a _ _ hd8,t1a _ _ h2,t1a _ _ h1,TupsH.same t1a hT,TupsH.same t1a hO,hb,hB,st',sT,sO,kT,kO,iT,iO,l24,λH19 t11=>⟨true,rfl,iteT ?_⟩⟩;have t4b:=t47.trans (t8.trans (t9.trans (t10.trans t11)));have t5b:=t5.trans (t6.trans (t7.trans (t8.trans (t9.trans (t10.trans t11)))));refine⟨_,rfl,_,rfl,lf,lk,fs,gs,wds R,rfl,rfl,SqL.of (t4b _ _ hf),SqL.of (t5b _ _ hk),wds_same (fs_wds hF) t4b,wds_same hG t5b,true,rfl,iteT ?_⟩;refine⟨_,rfl,lb,_,rfl,.inl (SqL.of (t11 _ _ hb)),_,rfl,lf,_,rfl,.inl (SqL.of (t4b _ _ hf)),rfl,?_⟩;have e:V.int ((bs.map V.ref).length:Int)=V.int ((fs.map V.ref).length:Int):=by
   rw[List.length_map,List.length_map,lbs,lfs,st.bk0 st']
  rw[decide_eq_true e];exact hQ _
end
def DefAt(K:W.Frag)(mg:Str->Option Value)(x:Str)(st:Stmt):Prop:=∃f fd,mg x=some (.ref f)/\Fun K x x st f fd
def MetAt(K:W.Frag)(C:Addr)(x q:Str)(st:Stmt):Prop:=∃f fd,Meth K C x f/\Fun K x q st f fd
theorem len0{us:List Value}(h:us.length=0):us=[]:=List.length_eq_zero_iff.mp h
theorem len1{us:List Value}(h:us.length=1):∃a0,us=[a0]:=by
 cases us with
 | nil=>exact absurd h (by decide)
 | cons a t=>exact⟨a,by rw[len0 (Nat.succ.inj h)]⟩
theorem len2{us:List Value}(h:us.length=2):∃a0 a1,us=[a0,a1]:=by
 cases us with
 | nil=>exact absurd h (Nat.succ_ne_zero _).symm
 | cons a t=>
  obtain⟨b0,e⟩:=len1 (Nat.succ.inj h);exact⟨a,b0,by rw[e]⟩
theorem len3{us:List Value}(h:us.length=3):∃a0 a1 a2,us=[a0,a1,a2]:=by
 cases us with
 | nil=>exact absurd h (Nat.succ_ne_zero _).symm
 | cons a t=>
  obtain⟨b0,b1,e⟩:=len2 (Nat.succ.inj h);exact⟨a,b0,b1,by rw[e]⟩
theorem len4{us:List Value}(h:us.length=4):∃a0 a1 a2 a3,us=[a0,a1,a2,a3]:=by
 cases us with
 | nil=>exact absurd h (Nat.succ_ne_zero _).symm
 | cons a t=>
  obtain⟨b0,b1,b2,e⟩:=len3 (Nat.succ.inj h);exact⟨a,b0,b1,b2,by rw[e]⟩
theorem len5{us:List Value}(h:us.length=5):∃a0 a1 a2 a3 a4,us=[a0,a1,a2,a3,a4]:=by
 cases us with
 | nil=>exact absurd h (Nat.succ_ne_zero _).symm
 | cons a t=>
  obtain⟨b0,b1,b2,b3,e⟩:=len4 (Nat.succ.inj h);exact⟨a,b0,b1,b2,b3,by rw[e]⟩
theorem calls_mk{P:Program}{w:World}{K:W.Frag}{mg:Str->Option Value}{base:Heap}{C:Addr}{u24:Value}(web:TxtW K mg C)(g24:mg "MOST_POINTS"=some u24)(r24:RelV (.int 24) u24)(mk:PySem.W.makesIn K C=true)(kc:PySem.W.keepIn K (.ref C)=true)
  (g_min:mg "min"=none) (g_max:mg "max"=none) (g_len:mg "len"=none) (g_range:mg "range"=none) (g_set:mg "set"=none) (g_all:mg "all"=none) (g_zip:mg "zip"=none)
  (d0:DefAt K mg "check_size" sSize) (d1:DefAt K mg "check_ends" sEnds) (d2:DefAt K mg "ordered" sOrd) (d3:DefAt K mg "weights_of" sWts) (d4:DefAt K mg "neighbours_of" sNb) (d5:DefAt K mg "partners_of" sPart) (d6:DefAt K mg "partner" sPner) (d7:DefAt K mg "is_choice" sIs) (d8:DefAt K mg "ties_along" sAlong) (d9:DefAt K mg "ties_around" sAround) (d10:DefAt K mg "none_twice" sTwice) (d11:DefAt K mg "all_tied" sTiedA) (d12:DefAt K mg "in_turn" sTurn) (d13:DefAt K mg "fit_end" sFit) (d14:DefAt K mg "turns" sTurns) (d15:DefAt K mg "turns_ring" sTurnsR) (d16:DefAt K mg "only_in" sOnly) (d17:DefAt K mg "exchanged_ties" sXch) (d18:DefAt K mg "exchanged" sExch) (d19:DefAt K mg "exchanged_ring" sExchR) (d20:DefAt K mg "neighbours_by" sNby) (d21:DefAt K mg "followed" sFoll) (d22:DefAt K mg "between" sBetw) (d23:DefAt K mg "_law_cell_at" sCell) (d24:DefAt K mg "_law_tie" sTie) (d25:DefAt K mg "_law_order" sOrder) (d26:DefAt K mg "_law_drawn" sDrawn) (d27:DefAt K mg "_law_weight" sLw) (d28:DefAt K mg "_law_ends" sLends) (d29:DefAt K mg "_law_more" sMore) (d30:DefAt K mg "_law_listed" sListed) (d31:DefAt K mg "_law_piece" sPiece) (d32:DefAt K mg "_law_two" sTwo) (d33:DefAt K mg "_law_step" sStep) (d34:DefAt K mg "_law_is_choice" sLis) (d35:DefAt K mg "_law_walked" sWalked)
  (mI:MetAt K C "__init__" "Web.__init__" sInit) (mG:MetAt K C "weight" "Web.weight" sWeight):CallsL P w K mg base C:=by
 obtain⟨f0,fd0,m0,F0⟩:=d0;obtain⟨f1,fd1,m1,F1⟩:=d1;obtain⟨f2,fd2,m2,F2⟩:=d2;obtain⟨f3,fd3,m3,F3⟩:=d3;obtain⟨f4,fd4,m4,F4⟩:=d4;obtain⟨f5,fd5,m5,F5⟩:=d5;obtain⟨f6,fd6,m6,F6⟩:=d6;obtain⟨f7,fd7,m7,F7⟩:=d7;obtain⟨f8,fd8,m8,F8⟩:=d8;obtain⟨f9,fd9,m9,F9⟩:=d9;obtain⟨f10,fd10,m10,F10⟩:=d10;obtain⟨f11,fd11,m11,F11⟩:=d11;obtain⟨f12,fd12,m12,F12⟩:=d12;obtain⟨f13,fd13,m13,F13⟩:=d13;obtain⟨f14,fd14,m14,F14⟩:=d14;obtain⟨f15,fd15,m15,F15⟩:=d15;obtain⟨f16,fd16,m16,F16⟩:=d16;obtain⟨f17,fd17,m17,F17⟩:=d17;obtain⟨f18,fd18,m18,F18⟩:=d18;obtain⟨f19,fd19,m19,F19⟩:=d19;obtain⟨f20,fd20,m20,F20⟩:=d20;obtain⟨f21,fd21,m21,F21⟩:=d21;obtain⟨f22,fd22,m22,F22⟩:=d22;obtain⟨f23,fd23,m23,F23⟩:=d23;obtain⟨f24,fd24,m24,F24⟩:=d24;obtain⟨f25,fd25,m25,F25⟩:=d25;obtain⟨f26,fd26,m26,F26⟩:=d26;obtain⟨f27,fd27,m27,F27⟩:=d27;obtain⟨f28,fd28,m28,F28⟩:=d28;obtain⟨f29,fd29,m29,F29⟩:=d29;obtain⟨f30,fd30,m30,F30⟩:=d30;obtain⟨f31,fd31,m31,F31⟩:=d31;obtain⟨f32,fd32,m32,F32⟩:=d32;obtain⟨f33,fd33,m33,F33⟩:=d33;obtain⟨f34,fd34,m34,F34⟩:=d34;obtain⟨f35,fd35,m35,F35⟩:=d35;obtain⟨fI,fdI,MI,FI⟩:=mI;obtain⟨fG,fdG,MG,FG⟩:=mG;have b0:=F0.binds (ps:=["many"]) λ_ _ _ _ _ _ us hl=>by obtain⟨a0,rfl⟩:=len1 hl;rfl
 have b1:=F1.binds (ps:=["many","a","b"]) λ_ _ _ _ _ _ us hl=>by obtain⟨a0,a1,a2,rfl⟩:=len3 hl;rfl
 have b2:=F2.binds (ps:=["a","b"]) λ_ _ _ _ _ _ us hl=>by obtain⟨a0,a1,rfl⟩:=len2 hl;rfl
 have b3:=F3.binds (ps:=["many","ties"]) λ_ _ _ _ _ _ us hl=>by obtain⟨a0,a1,rfl⟩:=len2 hl;rfl
 have b4:=F4.binds (ps:=["many","ends_sorted"]) λ_ _ _ _ _ _ us hl=>by obtain⟨a0,a1,rfl⟩:=len2 hl;rfl
 have b5:=F5.binds (ps:=["pairs"]) λ_ _ _ _ _ _ us hl=>by obtain⟨a0,rfl⟩:=len1 hl;rfl
 have b6:=F6.binds (ps:=["pairs","a"]) λ_ _ _ _ _ _ us hl=>by obtain⟨a0,a1,rfl⟩:=len2 hl;rfl
 have b7:=F7.binds (ps:=["web","pairs"]) λ_ _ _ _ _ _ us hl=>by obtain⟨a0,a1,rfl⟩:=len2 hl;rfl
 have b8:=F8.binds (ps:=["points"]) λ_ _ _ _ _ _ us hl=>by obtain⟨a0,rfl⟩:=len1 hl;rfl
 have b9:=F9.binds (ps:=["ring"]) λ_ _ _ _ _ _ us hl=>by obtain⟨a0,rfl⟩:=len1 hl;rfl
 have b10:=F10.binds (ps:=["points"]) λ_ _ _ _ _ _ us hl=>by obtain⟨a0,rfl⟩:=len1 hl;rfl
 have b11:=F11.binds (ps:=["web","ties"]) λ_ _ _ _ _ _ us hl=>by obtain⟨a0,a1,rfl⟩:=len2 hl;rfl
 have b12:=F12.binds (ps:=["pairs","ties"]) λ_ _ _ _ _ _ us hl=>by obtain⟨a0,a1,rfl⟩:=len2 hl;rfl
 have b13:=F13.binds (ps:=["pairs","end","tie"]) λ_ _ _ _ _ _ us hl=>by obtain⟨a0,a1,a2,rfl⟩:=len3 hl;rfl
 have b14:=F14.binds (ps:=["web","pairs","row"]) λ_ _ _ _ _ _ us hl=>by obtain⟨a0,a1,a2,rfl⟩:=len3 hl;rfl
 have b15:=F15.binds (ps:=["web","pairs","ring"]) λ_ _ _ _ _ _ us hl=>by obtain⟨a0,a1,a2,rfl⟩:=len3 hl;rfl
 have b16:=F16.binds (ps:=["one","other"]) λ_ _ _ _ _ _ us hl=>by obtain⟨a0,a1,rfl⟩:=len2 hl;rfl
 have b17:=F17.binds (ps:=["pairs","ties"]) λ_ _ _ _ _ _ us hl=>by obtain⟨a0,a1,rfl⟩:=len2 hl;rfl
 have b18:=F18.binds (ps:=["pairs","row"]) λ_ _ _ _ _ _ us hl=>by obtain⟨a0,a1,rfl⟩:=len2 hl;rfl
 have b19:=F19.binds (ps:=["pairs","ring"]) λ_ _ _ _ _ _ us hl=>by obtain⟨a0,a1,rfl⟩:=len2 hl;rfl
 have b20:=F20.binds (ps:=["ties"]) λ_ _ _ _ _ _ us hl=>by obtain⟨a0,rfl⟩:=len1 hl;rfl
 have b21:=F21.binds (ps:=["neighbours","start"]) λ_ _ _ _ _ _ us hl=>by obtain⟨a0,a1,rfl⟩:=len2 hl;rfl
 have b22:=F22.binds (ps:=["one","other"]) λ_ _ _ _ _ _ us hl=>by obtain⟨a0,a1,rfl⟩:=len2 hl;rfl
 have b23:=F23.binds (ps:=["_law_script","_law_k"]) λ_ _ _ _ _ _ us hl=>by obtain⟨a0,a1,rfl⟩:=len2 hl;rfl
 have b24:=F24.binds (ps:=["_law_a","_law_b"]) λ_ _ _ _ _ _ us hl=>by obtain⟨a0,a1,rfl⟩:=len2 hl;rfl
 have b25:=F25.binds (ps:=["_law_script","_law_many"]) λ_ _ _ _ _ _ us hl=>by obtain⟨a0,a1,rfl⟩:=len2 hl;rfl
 have b26:=F26.binds (ps:=["_law_cell","_law_factor","_law_many"]) λ_ _ _ _ _ _ us hl=>by obtain⟨a0,a1,a2,rfl⟩:=len3 hl;rfl
 have b27:=F27.binds (ps:=["_law_cell"]) λ_ _ _ _ _ _ us hl=>by obtain⟨a0,rfl⟩:=len1 hl;rfl
 have b28:=F28.binds (ps:=["_law_cell","_law_many"]) λ_ _ _ _ _ _ us hl=>by obtain⟨a0,a1,rfl⟩:=len2 hl;rfl
 have b29:=F29.binds (ps:=["_law_ties","_law_script","_law_many"]) λ_ _ _ _ _ _ us hl=>by obtain⟨a0,a1,a2,rfl⟩:=len3 hl;rfl
 have b30:=F30.binds (ps:=["_law_ties","_law_way"]) λ_ _ _ _ _ _ us hl=>by obtain⟨a0,a1,rfl⟩:=len2 hl;rfl
 have b31:=F31.binds (ps:=["_law_one","_law_other","_law_piece_here","_law_kind"]) λ_ _ _ _ _ _ us hl=>by obtain⟨a0,a1,a2,a3,rfl⟩:=len4 hl;rfl
 have b32:=F32.binds (ps:=["_law_script","_law_order_here"]) λ_ _ _ _ _ _ us hl=>by obtain⟨a0,a1,rfl⟩:=len2 hl;rfl
 have b33:=F33.binds (ps:=["_law_web","_law_choice","_law_told"]) λ_ _ _ _ _ _ us hl=>by obtain⟨a0,a1,a2,rfl⟩:=len3 hl;rfl
 have b34:=F34.binds (ps:=["_law_ties","_law_pairs"]) λ_ _ _ _ _ _ us hl=>by obtain⟨a0,a1,rfl⟩:=len2 hl;rfl
 have b35:=F35.binds (ps:=["_law_web","_law_ties","_law_one","_law_other","_law_rows"]) λ_ _ _ _ _ _ us hl=>by obtain⟨a0,a1,a2,a3,a4,rfl⟩:=len5 hl;rfl
 have bI:=FI.binds (ps:=["self","many","ties"]) λ_ _ _ _ _ _ us hl=>by obtain⟨a0,a1,a2,rfl⟩:=len3 hl;rfl
 have bG:=FG.binds (ps:=["self","a","b"]) λ_ _ _ _ _ _ us hl=>by obtain⟨a0,a1,a2,rfl⟩:=len3 hl;rfl
 have G0:=ok_size (P:=P) (w:=w) (mg:=mg) (base:=base) F0 g24 r24;have G1:=ok_ends (P:=P) (w:=w) (mg:=mg) (base:=base) F1;have G2:=ok_ord (P:=P) (w:=w) (mg:=mg) (base:=base) F2 g_min g_max;have G3:=ok_wts (P:=P) (w:=w) (mg:=mg) (base:=base) F3 G1 m1 F1.kp b1 G2 m2 F2.kp b2;have G4:=ok_nb (P:=P) (w:=w) (mg:=mg) (base:=base) F4 g_range;have GI:=ok_init (P:=P) (w:=w) (mg:=mg) (base:=base) FI web G0 m0 F0.kp b0 G3 m3 F3.kp b3 G4 m4 F4.kp b4;have GG:=ok_weight (P:=P) (w:=w) (mg:=mg) (base:=base) FG web G2 m2 F2.kp b2;have G5:=ok_part (P:=P) (w:=w) (mg:=mg) (base:=base) F5;have G6:=ok_pner (P:=P) (w:=w) (mg:=mg) (base:=base) F6 G5 m5 F5.kp b5;have G7:=ok_is (P:=P) (w:=w) (mg:=mg) (base:=base) F7 web MG GG bG;have G8:=ok_along (P:=P) (w:=w) (mg:=mg) (base:=base) F8 g_zip G2 m2 F2.kp b2;have G9:=ok_around (P:=P) (w:=w) (mg:=mg) (base:=base) F9 G8 m8 F8.kp b8;have G10:=ok_twice (P:=P) (w:=w) (mg:=mg) (base:=base) F10 g_len g_set;have G11:=ok_tiedA (P:=P) (w:=w) (mg:=mg) (base:=base) F11 web g_all MG GG bG;have G12:=ok_turn (P:=P) (w:=w) (mg:=mg) (base:=base) F12 g_all g_zip;have G13:=ok_fit (P:=P) (w:=w) (mg:=mg) (base:=base) F13 G6 m6 F6.kp b6;have G14:=ok_turns (P:=P) (w:=w) (mg:=mg) (base:=base) F14 g_len G10 m10 F10.kp b10 G8 m8 F8.kp b8 G11 m11 F11.kp b11 G12 m12 F12.kp b12 G13 m13 F13.kp b13;have G15:=ok_turnsR (P:=P) (w:=w) (mg:=mg) (base:=base) F15 g_len G10 m10 F10.kp b10 G9 m9 F9.kp b9 G11 m11 F11.kp b11 G12 m12 F12.kp b12;have G16:=ok_only (P:=P) (w:=w) (mg:=mg) (base:=base) F16;have G17:=ok_xch (P:=P) (w:=w) (mg:=mg) (base:=base) F17 web.srt G16 m16 F16.kp b16;have G18:=ok_exch (P:=P) (w:=w) (mg:=mg) (base:=base) F18 G17 m17 F17.kp b17 G8 m8 F8.kp b8;have G19:=ok_exchR (P:=P) (w:=w) (mg:=mg) (base:=base) F19 G17 m17 F17.kp b17 G9 m9 F9.kp b9;have G20:=ok_nby (P:=P) (w:=w) (mg:=mg) (base:=base) F20;have G21:=ok_foll (P:=P) (w:=w) (mg:=mg) (base:=base) F21 G16 m16 F16.kp b16;have G22:=ok_betw (P:=P) (w:=w) (mg:=mg) (base:=base) F22 web.srt g_len G16 m16 F16.kp b16 G20 m20 F20.kp b20 G21 m21 F21.kp b21;have G23:=ok_cell (P:=P) (w:=w) (mg:=mg) (base:=base) F23 g_len;have G24:=ok_tie (P:=P) (w:=w) (mg:=mg) (base:=base) F24 g_min g_max;have G25:=ok_order (P:=P) (w:=w) (mg:=mg) (base:=base) F25 g_range G23 m23 F23.kp b23;have G26:=ok_drawn (P:=P) (w:=w) (mg:=mg) (base:=base) F26;have G27:=ok_lw (P:=P) (w:=w) (mg:=mg) (base:=base) F27;have G28:=ok_lends (P:=P) (w:=w) (mg:=mg) (base:=base) F28 G26 m26 F26.kp b26;have G29:=ok_more (P:=P) (w:=w) (mg:=mg) (base:=base) F29 G24 m24 F24.kp b24 G28 m28 F28.kp b28 G27 m27 F27.kp b27;have G30:=ok_listed (P:=P) (w:=w) (mg:=mg) (base:=base) F30;have G34:=ok_lis (P:=P) (w:=w) (mg:=mg) (base:=base) F34;have G31:=ok_piece (P:=P) (w:=w) (mg:=mg) (base:=base) F31 g_range g_len G24 m24 F24.kp b24;have G32:=ok_two (P:=P) (w:=w) (mg:=mg) (base:=base) F32 g_len web.srt G23 m23 F23.kp b23 G31 m31 F31.kp b31;have G33:=ok_step (P:=P) (w:=w) (mg:=mg) (base:=base) F33 G14 m14 F14.kp b14 G18 m18 F18.kp b18 G15 m15 F15.kp b15 G19 m19 F19.kp b19;have G35:=ok_walked (P:=P) (w:=w) (mg:=mg) (base:=base) F35 web.lst g_len G33 m33 F33.kp b33 G7 m7 F7.kp b7 G34 m34 F34.kp b34 G22 m22 F22.kp b22;exact⟨web,⟨fI,fdI,⟨mk,MI.at_,MI.fn,kc⟩,GI,bI⟩,⟨f23,fd23,m23,F23.kp,G23,b23⟩,⟨f25,fd25,m25,F25.kp,G25,b25⟩,⟨f32,fd32,m32,F32.kp,G32,b32⟩,⟨f27,fd27,m27,F27.kp,G27,b27⟩,⟨f29,fd29,m29,F29.kp,G29,b29⟩,⟨f30,fd30,m30,F30.kp,G30,b30⟩,⟨f22,fd22,m22,F22.kp,G22,b22⟩,⟨f35,fd35,m35,F35.kp,G35,b35⟩,g_len⟩
theorem law_mk{P:Program}{w:World}{K:W.Frag}{mg:Str->Option Value}{C fa:Addr}(hmg:mg "law"=some (.ref fa))(d:DefAt K mg "law" sLaw)(G:∀base:Heap,CallsL P w K mg base C) :
  ∃fd:FuncData,(∀(s:Shared)(u:Value),BindsTo s fd ⟨[u],[]⟩ [("_law_script",u)])/\∀base:Heap,K.In base->base.Ns mainGlobals mg->FnOk P w K mg base CX0 7 fa fd ["_law_script"] (spLaw K):=by
 obtain⟨f,fd,m,F⟩:=d;cases hmg.symm.trans m;obtain⟨oc,od,kV,doc,pm,an,cdv,ct,osl,rfl,l,c⟩:=F.ex;exact⟨_,λs u=>.of_eq rfl,λbase _ _=>ok_law F (G base)⟩
theorem all_mk{P:Program}{w:World}{K:W.Frag}{mg:Str->Option Value}{h:Heap}{fa C:Addr}{t24:Tok}(X:K.In h)(G:h.Ns mainGlobals mg)(hmg:mg "law"=some (.ref fa))
  (aC:PySem.W.nsIn K mainGlobals "Web"=some (some (.ref C))) (a24:PySem.W.nsIn K mainGlobals "MOST_POINTS"=some (some (.int 24 t24))) (z0:PySem.W.nsIn K mainGlobals "min"=some none) (z1:PySem.W.nsIn K mainGlobals "max"=some none) (z2:PySem.W.nsIn K mainGlobals "len"=some none) (z3:PySem.W.nsIn K mainGlobals "range"=some none) (z4:PySem.W.nsIn K mainGlobals "set"=some none) (z5:PySem.W.nsIn K mainGlobals "all"=some none) (z6:PySem.W.nsIn K mainGlobals "zip"=some none) (zs:PySem.W.nsIn K mainGlobals "sorted"=some none) (zl:PySem.W.nsIn K mainGlobals "list"=some none) (cls:Cls K C) (mk:PySem.W.makesIn K C=true) (kc:PySem.W.keepIn K (.ref C)=true) (n1:PySem.W.findIn K (.ref C) "many"=some none) (n2:PySem.W.findIn K (.ref C) "weights"=some none) (n3:PySem.W.findIn K (.ref C) "ties_sorted"=some none) (n4:PySem.W.findIn K (.ref C) "neighbours"=some none)
  (d0:DefAt K mg "check_size" sSize) (d1:DefAt K mg "check_ends" sEnds) (d2:DefAt K mg "ordered" sOrd) (d3:DefAt K mg "weights_of" sWts) (d4:DefAt K mg "neighbours_of" sNb) (d5:DefAt K mg "partners_of" sPart) (d6:DefAt K mg "partner" sPner) (d7:DefAt K mg "is_choice" sIs) (d8:DefAt K mg "ties_along" sAlong) (d9:DefAt K mg "ties_around" sAround) (d10:DefAt K mg "none_twice" sTwice) (d11:DefAt K mg "all_tied" sTiedA) (d12:DefAt K mg "in_turn" sTurn) (d13:DefAt K mg "fit_end" sFit) (d14:DefAt K mg "turns" sTurns) (d15:DefAt K mg "turns_ring" sTurnsR) (d16:DefAt K mg "only_in" sOnly) (d17:DefAt K mg "exchanged_ties" sXch) (d18:DefAt K mg "exchanged" sExch) (d19:DefAt K mg "exchanged_ring" sExchR) (d20:DefAt K mg "neighbours_by" sNby) (d21:DefAt K mg "followed" sFoll) (d22:DefAt K mg "between" sBetw) (d23:DefAt K mg "_law_cell_at" sCell) (d24:DefAt K mg "_law_tie" sTie) (d25:DefAt K mg "_law_order" sOrder) (d26:DefAt K mg "_law_drawn" sDrawn) (d27:DefAt K mg "_law_weight" sLw) (d28:DefAt K mg "_law_ends" sLends) (d29:DefAt K mg "_law_more" sMore) (d30:DefAt K mg "_law_listed" sListed) (d31:DefAt K mg "_law_piece" sPiece) (d32:DefAt K mg "_law_two" sTwo) (d33:DefAt K mg "_law_step" sStep) (d34:DefAt K mg "_law_is_choice" sLis) (d35:DefAt K mg "_law_walked" sWalked)
  (mI:MetAt K C "__init__" "Web.__init__" sInit) (mG:MetAt K C "weight" "Web.weight" sWeight) (dL:DefAt K mg "law" sLaw) :
  ∃fd:FuncData,(∀(s:Shared)(u:Value),BindsTo s fd ⟨[u],[]⟩ [("_law_script",u)])/\∀base:Heap,K.In base->base.Ns mainGlobals mg->FnOk P w K mg base CX0 7 fa fd ["_law_script"] (spLaw K):=by
 have z:=λ{x:Str}(e:PySem.W.nsIn K mainGlobals x=some none)=>PySem.W.mg_none_of X G e;have q:=λ{x:Str}{v:Value}(e:PySem.W.nsIn K mainGlobals x=some (some v))=>PySem.W.mg_of X G e;refine law_mk (C:=C) hmg dL λbase=>?_;exact calls_mk ⟨cls,n1,n2,n3,n4,q aC,z zs,z zl⟩ (q a24) ⟨_,rfl⟩ mk kc (z z0) (z z1) (z z2) (z z3) (z z4) (z z5) (z z6)  d0 d1 d2 d3 d4 d5 d6 d7 d8 d9 d10 d11 d12 d13 d14 d15 d16 d17 d18 d19 d20 d21 d22 d23 d24 d25 d26 d27 d28 d29 d30 d31 d32 d33 d34 d35 mI mG
theorem walk{l:PySem.W.OpenLaw}{q:Program}{loose:List Str}{XP:(Str->Option Value)->Heap->Prop}{YP:World->Heap->Prop}{d:DefRec}{K:Params->PySem.W.Frag}(hn:l.most=some 63)(hdf:d.params.defaults=[])
  (hY:∀(w:World)(h:Heap),YP w h->(K w.params).In h)
  (F:∀(w:World)(mg:Str->Option Value)(fa:Addr)(h:Heap),(K w.params).In h->h.Ns mainGlobals mg->mg d.name=some (.ref fa) →
   ∃fd:FuncData,(∀(s:Shared)(u:Value),BindsTo s fd ⟨[u],[]⟩ [("_law_script",u)])/\∀base:Heap,(K w.params).In base->base.Ns mainGlobals mg->FnOk l.prog w (K w.params) mg base CX0 7 fa fd ["_law_script"] (spLaw (K w.params))) :
  PySem.W.WalkO q loose XP YP l.row.toRowW d [] (λf vs=>PySem.call f vs):=
 L2.walk_of (n:=63) (k:=7) (x:="_law_script") (CX:=λ_=>CX0) (sp:=λw=>spLaw (K w.params)) hn (by decide) hdf ⟨rfl,by decide,by decide⟩ hY F (λ_ _ a ns hl _ hS=>⟨a,ns,rfl,hS,hl,λ_=>rfl⟩) λ_ _ _ _ _ z=>z
theorem see_def{K:W.Frag}{mg:Str->Option Value}{h:Heap}{x:Str}{st:Stmt}(X:K.In h)(G:h.Ns mainGlobals mg)(e:defSee K x=funGood x x st):DefAt K mg x st:=by
 obtain⟨f,oc,od,an,osl,kV,doc,pm,cdv,ct,a,l,c,k⟩:=def_see e;exact⟨f,_,PySem.W.mg_of X G a,fun_mk l c k⟩
theorem see_met{K:W.Frag}{C:Addr}{x q:Str}{st:Stmt}(e:metSee K C x q=some (true,funGood x q st)):MetAt K C x q st:=by
 obtain⟨f,oc,od,an,osl,kV,doc,pm,cdv,ct,a,i,l,c,k⟩:=met_see e;exact⟨f,_,⟨a,i,k⟩,fun_mk l c k⟩
set_option maxRecDepth 100000 in
set_option maxHeartbeats 0 in
theorem callH:PySem.W.WalkX Qv [] (PySem.W.XL Qv []) seeH (λ_=>goodH) (PySem.Challenge.rw_pairsheath_k26_whole_from_one_choice_to.row).toRowW dL [] (λf vs=>PySem.call f vs):=by
 refine walkS λw s₀ y=>?_;obtain⟨hz,hk,hq,hd,hC⟩:=see_of y;obtain⟨C,aC,cls,mk,kc,hn,hm⟩:=cls_see hC;obtain⟨t0,a0⟩:=num_see (hk ("MOST_POINTS",24) (List.mem_of_getElem? (i:=0) rfl));refine walk (l:=PySem.Challenge.rw_pairsheath_k26_whole_from_one_choice_to) (K:=λ_=>fragH s₀.heap) rfl rfl (λw h Y=>Y) λw mg fa h KX G hmg=>?_;have z:=λ(i:Nat){x:Str}(e:zsH[i]?=some x)=>hz x (List.mem_of_getElem? e);have q:=λ(i:Nat){a b:String}{c:Bool}(e:qsH[i]?=some (a,b,c))=>hq (a,b,c) (List.mem_of_getElem? e);have n:=λ(i:Nat){x:Str}(e:noH[i]?=some x)=>hn x (List.mem_of_getElem? e);have d:=λ(i:Nat){x:Str}{st:Stmt}(e:dsH[i]?=some (x,st))=>see_def KX G (hd (x,st) (List.mem_of_getElem? e));have m:=λ(i:Nat){x q:Str}{st:Stmt}(e:msH[i]?=some (x,q,st))=>see_met (hm (x,q,st) (List.mem_of_getElem? e));exact all_mk KX G hmg aC a0 (z 0 rfl) (z 1 rfl) (z 2 rfl) (z 3 rfl) (z 4 rfl) (z 5 rfl) (z 6 rfl) (z 7 rfl) (z 8 rfl) ⟨cls.1,cls.2.1,cls.2.2.1,cls.2.2.2⟩ mk kc (n 0 rfl) (n 1 rfl) (n 2 rfl) (n 3 rfl) (d 0 rfl) (d 1 rfl) (d 2 rfl) (d 3 rfl) (d 4 rfl) (d 5 rfl) (d 6 rfl) (d 7 rfl) (d 8 rfl) (d 9 rfl) (d 10 rfl) (d 11 rfl) (d 12 rfl) (d 13 rfl) (d 14 rfl) (d 15 rfl) (d 16 rfl) (d 17 rfl) (d 18 rfl) (d 19 rfl) (d 20 rfl) (d 21 rfl) (d 22 rfl) (d 23 rfl) (d 24 rfl) (d 25 rfl) (d 26 rfl) (d 27 rfl) (d 28 rfl) (d 29 rfl) (d 30 rfl) (d 31 rfl) (d 32 rfl) (d 33 rfl) (d 34 rfl) (d 35 rfl) (m 0 rfl) (m 1 rfl) (d 36 rfl)
end K26
end
set_option Elab.async false
set_option linter.all false
set_option maxRecDepth 100000
set_option maxHeartbeats 4000000
open PySem PySem.W PyProof.Rows
set_option maxRecDepth 100000 in
set_option maxHeartbeats 0 in
theorem PySem.Challenge.cw_pairsheath_k26_whole_from_one_choice_to_holds : PySem.Challenge.rw_pairsheath_k26_whole_from_one_choice_to.Holds := by
 refine holds_law (by kernel_rfl) λsaid=>?_;refine holds_openX (q:=K26.Qv) (Xt:=K26.XtH) (d:=K26.dL) K26.leftH (λs e=>xl_of s (Bool.and_eq_true_iff.mp e).1) XL.keeps (by kernel_rfl) (by kernel_rfl) (by kernel_rfl) (λs e=>recFacts_of (Bool.and_eq_true_iff.mp e).2) (by kernel_rfl) said (by kernel_rfl) ⟨rfl,rfl,rfl,rfl,rfl,by decide +kernel⟩ ?hw K26.callH
 w_witness2
