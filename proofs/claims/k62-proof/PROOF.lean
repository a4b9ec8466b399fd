import PyProof.Rows.All
import Wide.All
import OpenK.AllK
import Wide.FinOn
import Lean
import PyProof.EqAt
import PyProof.EqKinds
import PyProof.TupleCall
import PySem.Challenge.RW_wishlots_k62_whole_any_table
set_option Elab.async false
set_option maxRecDepth 100000 in
set_option maxHeartbeats 0 in
theorem ko:PySem.W.OpenLaw.wellSaid PySem.Challenge.rw_wishlots_k62_whole_any_table=true:=by kernel_rfl
set_option Elab.async false
set_option linter.all false
set_option maxRecDepth 100000
namespace L2
open PySem PySem.Spec PyProof.Rows
abbrev Key:=Sum Int Str
def keyIs:Key->Value->Bool
 | .inl k,v=>Value.isInt k v
 | .inr x,v=>Value.isStrOf x v
def keyH(w:World):Key->Int
 | .inl k=>hashInt k
 | .inr x=>hashStr w x
theorem aX:∀{k:Key} {v:Value},keyIs k v=true->(∃i t,k=Sum.inl i/\v=Value.int i t)\/(∃x t,k=Sum.inr x/\v=Value.str x t)
 | .inl i,v,h=>by
  obtain⟨t,e⟩:=Value.isInt_shape (k:=i) (v:=v) h
  exact .inl ⟨i,t,rfl,e⟩
 | .inr x,v,h=>by
  obtain⟨t,e⟩:=Value.isStrOf_shape (x:=x) (v:=v) h
  exact .inr ⟨x,t,rfl,e⟩
theorem i8(i:Int)(t:Tok):keyIs (.inl i) (.int i t)=true:=by simp[keyIs,Value.isInt]
theorem ma(a b:Int):decide ((Sum.inl a:Key)=Sum.inl b)=(a==b):=by
 by_cases e:a=b
 ·subst e;simp
 ·have h:¬(Sum.inl a:Key)=Sum.inl b:=λq=>e (Sum.inl.inj q)
  rw[decide_eq_false h]
  exact(beq_eq_false_iff_ne.mpr e).symm
theorem mr(a b:Str):decide ((Sum.inr a:Key)=Sum.inr b)=decide (a=b):=by
 by_cases e:a=b
 ·subst e;simp
 ·have h:¬(Sum.inr a:Key)=Sum.inr b:=λq=>e (Sum.inr.inj q)
  rw[decide_eq_false h,decide_eq_false e]
theorem mq(a:Int)(b:Str):decide ((Sum.inl a:Key)=Sum.inr b)=false:=decide_eq_false (λq=>nomatch q)
theorem lW(a:Str)(b:Int):decide ((Sum.inr a:Key)=Sum.inl b)=false:=decide_eq_false (λq=>nomatch q)
def mixKind(prog:Program)(w:World):PySem.KeyKind prog w Key where
 is:=keyIs
 hash:=keyH w
 inj:=λv a b ha hb=>by
  rcases aX ha with⟨i,t,rfl,rfl⟩|⟨x,t,rfl,rfl⟩
  ·rcases aX hb with⟨j,u,rfl,e⟩|⟨y,u,rfl,e⟩
   ·injection e with e1 _;rw[e1]
   ·exact nomatch e
  ·rcases aX hb with⟨j,u,rfl,e⟩|⟨y,u,rfl,e⟩
   ·exact nomatch e
   ·injection e with e1 _;rw[e1]
 byValue:=λk v h=>by
  rcases aX h with⟨i,t,rfl,rfl⟩|⟨x,t,rfl,rfl⟩ <;> rfl
 pyHash:=λhv h=>by
  rcases aX hv with⟨i,t,rfl,rfl⟩|⟨x,t,rfl,rfl⟩
  ·exact wpAny_pyHash_int h
  ·exact wpAny_pyHash_str h
 eqBool:=λhu hv h=>by
  rcases aX hu with⟨i,t,rfl,rfl⟩|⟨x,t,rfl,rfl⟩
  ·rcases aX hv with⟨j,u,rfl,rfl⟩|⟨y,u,rfl,rfl⟩
   ·rw[ma]at h;exact wpAny_eqBool_int h
   ·rw[mq]at h;exact SeqAt.EqAt.int_str i t y u _ _ _ _ h
  ·rcases aX hv with⟨j,u,rfl,rfl⟩|⟨y,u,rfl,rfl⟩
   ·rw[lW]at h;exact SeqAt.EqAt.str_int x t j u _ _ _ _ h
   ·rw[mr]at h;exact wpAny_eqBool_str h
 «strs»:=λk x t v h=>by
  rcases aX h with⟨i,u,rfl,e⟩|⟨y,u,rfl,e⟩
  ·exact nomatch e
  ·injection e with e1 _
   subst e1
   cases v <;> rfl
theorem d8(prog:Program)(w:World)(i:Int)(t:Tok):(mixKind prog w).is (.inl i) (.int i t)=true:=i8 i t
end L2
namespace L2
open PySem PySem.Spec PyProof.Rows
inductive V where
 | non|bl (b:Bool)|int (i:Int)|str (x:Str)|byt (b:Array UInt8)|flt (b:UInt64)|ref (a:Addr)|ty (n:String)
 deriving DecidableEq
def RelV:V->Value->Prop
 | .non,u=>u=Value.none
 | .bl b,u=>u=Value.bool b
 | .int i,u=>∃t,u=Value.int i t
 | .str x,u=>∃t,u=Value.str x t
 | .byt b,u=>∃t,u=Value.bytes b t
 | .flt b,u=>∃t,u=Value.float b t
 | .ref a,u=>u=Value.ref a
 | .ty n,u=>u=Value.type n
abbrev Vals:List V->List Value->Prop:=Paired RelV
theorem Vals.length{xs:List V}{us:List Value}(r:Vals xs us):xs.length=us.length:=Paired.length r
theorem Vals.get:∀{xs:List V} {us:List Value} {i:Nat} {x:V},Vals xs us->xs[i]?=some x->∃u,us[i]?=some u/\RelV x u
 | _,_,_,_,.nil,e=>by simp at e
 | _,_,0,_,.cons r _,e=>by simp at e;subst e;exact⟨_,rfl,r⟩
 | _,_,i+1,x,.cons _ t,e=>by
  obtain⟨u,h1,h2⟩:=Vals.get (i:=i) (x:=x) t (by simpa using e)
  exact⟨u,by simpa using h1,h2⟩
theorem Vals.set{x:V}{u:Value}(r:RelV x u):∀{xs:List V} {us:List Value} (i:Nat),Vals xs us->Vals (xs.set i x) (us.set i u)
 | _,_,_,.nil=> .nil
 | _,_,0,.cons _ t=> .cons r t
 | _,_,i+1,.cons q t=> .cons q (Vals.set r i t)
theorem Vals.append:∀{xs ys:List V} {us ws:List Value},Vals xs us->Vals ys ws->Vals (xs++ys) (us++ws)
 | _,_,_,_,.nil,s=>s
 | _,_,_,_,.cons r t,s=> .cons r (Vals.append t s)
theorem Vals.take:∀{xs:List V} {us:List Value} (n:Nat),Vals xs us->Vals (xs.take n) (us.take n)
 | _,_,0,_=> .nil
 | _,_,_+1,.nil=> .nil
 | _,_,n+1,.cons r t=> .cons r (Vals.take n t)
theorem Vals.drop:∀{xs:List V} {us:List Value} (n:Nat),Vals xs us->Vals (xs.drop n) (us.drop n)
 | _,_,0,r=>r
 | _,_,_+1,.nil=> .nil
 | _,_,n+1,.cons _ t=>Vals.drop n t
def RelO:Option V->Option Value->Prop
 | some v,some u=>RelV v u
 | none,none=>True
 | _,_=>False
def KV{κ:Type}:List (κ×V)->List (κ×Value)->Prop:=Paired λ(p:κ×V) (q:κ×Value)=>p.1=q.1/\RelV p.2 q.2
def kV:Key->V
 | .inl i=> .int i
 | .inr x=> .str x
inductive HO where
 | lst (xs:List V)
 | tup (xs:List V)
 | dK (kvs:List (Key×V))|dT (kvs:List (List Key×V))
 | set (S:Int->Bool) (n:Nat)
 | ins (C dx:Addr) (fs:List (Str×V))
 | own (x:Addr)
 | xd (fs:List (Str×V))
 | met (f x:Addr)
 | rng (lo hi:Int)
 | frz (o:Obj) (u:HO)
 | tbl (ps:Array Value)
 | ext (φ:Heap->Prop)
abbrev Hp:=Addr->Option HO
def upd(H:Hp)(a:Addr)(o:HO):Hp:=λb=>if b=a then some o else H b
theorem af{H:Hp}{a:Addr}{o:HO}:upd H a o a=some o:=by unfold upd;rw[if_pos rfl]
theorem az{H:Hp}{a b:Addr}{o:HO}(h:b≠a):upd H a o b=H b:=by unfold upd;rw[if_neg h]
theorem lC{H:Hp}{a b:Addr}{o u:HO}(h:H a=some o)(h':H b=some u)(d:o≠u):a≠b:=by
 intro e;subst e;rw[h]at h';exact d (Option.some.inj h')
theorem aU{H:Hp}{a b:Addr}{o:HO}(h:H a=some o)(h':H b=none):a≠b:=by
 intro e;subst e;rw[h]at h';cases h'
section
variable(P:Program)(w:World)
def ObjOk(H:Hp)(h:Heap)(a:Addr):HO->Prop
 | .lst xs=>xs.length<=sizeLine/\∃(its:List Value) (n:Nat),Vals xs its/\h.get? a=some {cls:= .type "list",data:= .seq its.toArray n}
 | .tup xs=>xs.length<=sizeLine/\∃its:List Value,Vals xs its/\IsTup h a its.toArray
 | .dK kvs=>kvs.length<=sizeLine/\(a==sysModules)=false/\∃vs,KV kvs vs/\h.DictOf (mixKind P w) a vs
 | .dT kvs=>kvs.length<=sizeLine/\(a==sysModules)=false/\∃xs:List (List Key×Addr×Value),
   Paired (λ(p:List Key×V) (q:List Key×Addr×Value)=>p.1=q.1/\H q.2.1=some (.tup (p.1.map kV))/\RelV p.2 q.2.2) kvs xs/\
   ∃o es ep,h.get? a=some o/\o.ExactDict/\o.data = .dict es ep/\es.toList=xs.map (entryOfKey (tupleKind (mixKind P w)))/\(xs.map (·.1)).Nodup
 | .set S n=>h.SetOf (intKind P w) a S n
 | .ins C dx fs=>H dx=some (.own a)/\fs.length<=1000/\dx≠a/\h.get? a=some (PySem.W.instObj C dx)/\
   ∃mA,h.Ns1 dx mA/\(∀f,RelO (fs.lookup f) (mA f))/\PySem.Within mA (fs.map (·.1))
 | .own _=>∃o,h.get? a=some o
 | .xd fs=>∃mA,h.Ns1 a mA/\∀f,RelO (fs.lookup f) (mA f)
 | .rng lo hi=>∃t u v,h.get? a=some {cls:= .type "range",data:= .fields #[.int lo t,.int hi u,.int 1 v]}
 | .frz o u=>h.get? a=some o/\ObjOk H h a u
 | .tbl ps=>h.get? a=some {cls:= .none,data:= .fields ps}
 | .met f x=>h.get? a=some (PySem.W.methodObj (.ref f) (.ref x))
 | .ext φ=>φ h/\(∃o,h.get? a=some o)/\∀h1 h2:Heap,φ h1->(∀o,h1.get? a=some o->h2.get? a=some o)->φ h2
def HOk(H:Hp)(h:Heap):Prop:=∀a o,H a=some o->ObjOk P w H h a o
end
section
variable{P:Program}{w:World}{H H':Hp}{h h':Heap}{a:Addr}{o:HO}
theorem ObjOk.lt(x:ObjOk P w H h a o):a<h.objs.size:=by
 cases o with
 | lst xs=>obtain⟨_,_,_,_,e⟩:=x;exact Heap.lt_size e
 | tup xs=>obtain⟨_,_,_,p⟩:=x;exact p.lt
 | dK kvs=>obtain⟨_,_,_,_,o,_,_,e,_⟩:=x;exact Heap.lt_size e
 | dT kvs=>obtain⟨_,_,_,_,o,_,_,e,_⟩:=x;exact Heap.lt_size e
 | set S n=>obtain⟨o,_,_,_,e,_⟩:=x;exact Heap.lt_size e
 | ins C dx fs=>obtain⟨_,_,_,e,_⟩:=x;exact Heap.lt_size e
 | own y=>obtain⟨_,e⟩:=x;exact Heap.lt_size e
 | xd fs=>obtain⟨_,⟨_,_,_,e,_⟩,_⟩:=x;exact Heap.lt_size e
 | rng lo hi=>obtain⟨_,_,_,e⟩:=x;exact Heap.lt_size e
 | frz ob u=>obtain⟨e,_⟩:=x;exact Heap.lt_size e
 | tbl ps=>exact Heap.lt_size (show h.get? a=some _ from x)
 | met f y=>exact Heap.lt_size (show h.get? a=some _ from x)
 | ext φ=>obtain⟨_,⟨_,e⟩,_⟩:=x;exact Heap.lt_size e
theorem Paired.mapP{α β:Type}{F G:α->β->Prop}:∀{l₁:List α} {l₂:List β},Paired F l₁ l₂->(∀a b,F a b->G a b)->Paired G l₁ l₂
 | _,_,.nil,_=> .nil
 | _,_,.cons r t,f=> .cons (f _ _ r) (Paired.mapP t f)
theorem ObjOk.stay(x:ObjOk P w H h a o)(k:∀b u,(b=a\/H b=some (.own a))->h.get? b=some u->h'.get? b=some u)
  (ho:∀b,H b=some (.own a)->H' b=some (.own a))(ht:∀b xs,H b=some (.tup xs)->H' b=some (.tup xs)):ObjOk P w H' h' a o:=by
 induction o with
 | lst xs=>obtain⟨z,its,n,r,e⟩:=x;exact⟨z,its,n,r,k _ _ (.inl rfl) e⟩
 | tup xs=>obtain⟨z,its,r,ob,e,c⟩:=x;exact⟨z,its,r,ob,k _ _ (.inl rfl) e,c⟩
 | dK kvs=>obtain⟨z,y,vs,r,ob,es,ep,e,c⟩:=x;exact⟨z,y,vs,r,ob,es,ep,k _ _ (.inl rfl) e,c⟩
 | dT kvs=>
  obtain⟨z,y,xs,r,ob,es,ep,e,c⟩:=x
  exact⟨z,y,xs,Paired.mapP r λp q z=>⟨z.1,ht _ _ z.2.1,z.2.2⟩,ob,es,ep,k _ _ (.inl rfl) e,c⟩
 | set S n=>obtain⟨ob,es,ep,t,e,c⟩:=x;exact⟨ob,es,ep,t,k _ _ (.inl rfl) e,c⟩
 | ins C dx fs=>
  obtain⟨d,z,ne,e,mA,⟨od,es,ep,e2,c⟩,r⟩:=x
  exact⟨ho _ d,z,ne,k _ _ (.inl rfl) e,mA,⟨od,es,ep,k _ _ (.inr d) e2,c⟩,r⟩
 | own y=>obtain⟨ob,e⟩:=x;exact⟨ob,k _ _ (.inl rfl) e⟩
 | xd fs=>obtain⟨mA,⟨od,es,ep,e,c⟩,r⟩:=x;exact⟨mA,⟨od,es,ep,k _ _ (.inl rfl) e,c⟩,r⟩
 | rng lo hi=>obtain⟨t,u,v,e⟩:=x;exact⟨t,u,v,k _ _ (.inl rfl) e⟩
 | frz ob u ih=>obtain⟨e,q⟩:=x;exact⟨k _ _ (.inl rfl) e,ih q⟩
 | tbl ps=>
  have e:h.get? a=some {cls:= .none,data:= .fields ps}:=x
  show h'.get? a=some {cls:= .none,data:= .fields ps}
  exact k a _ (.inl rfl) e
 | met f y=>
  have e:h.get? a=some (PySem.W.methodObj (.ref f) (.ref y)):=x
  show h'.get? a=some (PySem.W.methodObj (.ref f) (.ref y))
  exact k a _ (.inl rfl) e
 | ext φ=>obtain⟨p,⟨o,e⟩,st⟩:=x;exact⟨st _ _ p λo q=>k _ _ (.inl rfl) q,⟨o,k _ _ (.inl rfl) e⟩,st⟩
theorem HOk.lt(x:HOk P w H h)(e:H a=some o):a<h.objs.size:=(x a o e).lt
theorem HOk.fresh(x:HOk P w H h)(e:h.objs.size<=a):H a=none:=by
 cases q:H a with
 | none=>rfl
 | some u=>exact absurd (Nat.lt_of_lt_of_le (x.lt q) e) (Nat.lt_irrefl _)
theorem HOk.kept(x:HOk P w H h)(k:∀b u,h.get? b=some u->h'.get? b=some u):HOk P w H h':=λa o e=>
 (x a o e).stay (λb u _ q=>k b u q) (λ_ q=>q) λ_ _ q=>q
theorem HOk.laid(x:HOk P w H h)(k:∀b u,h.get? b=some u->h'.get? b=some u)(hp:h.objs.size<=a)(new:ObjOk P w (upd H a o) h' a o):HOk P w (upd H a o) h':=λb u e=>by
 have hn:=x.fresh hp
 by_cases hb:b=a
 ·subst hb;rw[af]at e;cases e;exact new
 ·rw[az hb]at e
  exact(x b u e).stay (λc v _ q=>k c v q) (λc q=>by rw[az (aU q hn)];exact q) λc xs q=>by rw[az (aU q hn)];exact q
end
def Rd(H:Hp)(a:Addr)(u:HO):Prop:=H a=some u\/∃o,H a=some (.frz o u)
theorem Rd.ok{P:Program}{w:World}{H:Hp}{h:Heap}{a:Addr}{u:HO}(r:Rd H a u)(x:HOk P w H h):ObjOk P w H h a u:=by
 rcases r with r|⟨o,r⟩
 ·exact x a u r
 ·obtain⟨_,q⟩:=x a _ r
  exact q
def Mut:Option HO->Prop
 | some (.lst _)=>True
 | some (.dK _)=>True
 | some (.dT _)=>True
 | some (.set _ _)=>True
 | some (.ins _ _ _)=>True
 | some (.ext _)=>True
 | _=>False
section
variable{P:Program}{w:World}{H:Hp}{h h':Heap}{x e:Addr}{o':HO}
theorem HOk.write(ok:HOk P w H h)(mu:Mut (H x))(he:e=x\/H e=some (.own x))(k:∀b u,b≠e->h.get? b=some u->h'.get? b=some u)(heo:∃u,h'.get? e=some u)
  (new:ObjOk P w (upd H x o') h' x o'):HOk P w (upd H x o') h':=λb u q=>by
 have nown:∀c y,H c=some (.own y)->c≠x:=λc y r z=>by subst z;rw[r]at mu;exact mu
 have ntup:∀c xs,H c=some (.tup xs)->c≠x:=λc xs r z=>by subst z;rw[r]at mu;exact mu
 by_cases hb:b=x
 ·subst hb;rw[af]at q;cases q;exact new
 ·rw[az hb]at q
  by_cases hbe:b=e
  ·have q':H b=some (.own x):=by
    rcases he with z|z
    ·exact absurd (hbe.trans z) hb
    ·rw[hbe];exact z
   rw[q]at q';cases q'
   obtain⟨v,hv⟩:=heo
   exact⟨v,by rw[hbe];exact hv⟩
  ·refine(ok b u q).stay (λc v hc r=>k c v ?_ r) (λc r=>by rw[az (nown c b r)];exact r) λc xs r=>by rw[az (ntup c xs r)];exact r
   rcases hc with rfl|hc
   ·exact hbe
   ·rintro rfl
    rcases he with z|z
    ·exact nown c b hc z
    ·rw[hc]at z;cases z;exact hb rfl
end
structure Un(fs ex:List Addr)(H H':Hp)(h h':Heap):Prop where
 keep:∀b o,h.get? b=some o->H b=none->b∉fs->b∉ex->h'.get? b=some o
 slot:∀b o,h.get? b=some o->H b=none->b∈fs->b∉ex->∃sl,h'.get? b=some {o with slots:=sl}
 free:∀b o,h.get? b=some o->H b=none->b∉ex->H' b=none
 there:∀b o,h.get? b=some o->b∉ex->∃o',h'.get? b=some o'
 tups:∀b xs,H b=some (.tup xs)->H' b=some (.tup xs)
 frzs:∀b o u,H b=some (.frz o u)->H' b=some (.frz o u)
 tbls:∀b ps,H b=some (.tbl ps)->∃more,H' b=some (.tbl (ps++more))
section
variable{fs fs' ex ex':List Addr}{H H1 H2:Hp}{h h1 h2 h':Heap}{a x e:Addr}{o:HO}
theorem Un.any(u:Un fs ex H H1 h h1){b:Addr}{ob:Obj}(q:h.get? b=some ob)(n:H b=none)(hx:b∉ex):∃sl,h1.get? b=some {ob with slots:=sl}:=by
 by_cases hb:b∈fs
 ·exact u.slot b ob q n hb hx
 ·exact⟨ob.slots,u.keep b ob q n hb hx⟩
theorem Un.kept(k:∀b u,h.get? b=some u->h'.get? b=some u):Un fs ex H H h h':=
 ⟨λb ob q _ _ _=>k b ob q,λb ob q _ _ _=>⟨ob.slots,k b ob q⟩,λ_ _ _ n _=>n,λb ob q _=>⟨ob,k b ob q⟩,λ_ _ q=>q,λ_ _ _ q=>q,λ_ ps q=>⟨#[],by rw[q];simp⟩⟩
theorem Un.refl:Un fs ex H H h h:=Un.kept λ_ _ q=>q
theorem Un.laid(k:∀b u,h.get? b=some u->h'.get? b=some u)(hp:h.objs.size<=a)(hn:H a=none):Un fs ex H (upd H a o) h h' where
 keep:=λb u q _ _ _=>k b u q
 slot:=λb u q _ _ _=>⟨u.slots,k b u q⟩
 free:=λb u q n _=>by rw[az (Nat.ne_of_lt (Nat.lt_of_lt_of_le (Heap.lt_size q) hp))];exact n
 there:=λb u q _=>⟨u,k b u q⟩
 tups:=λb xs q=>by rw[az (aU q hn)];exact q
 frzs:=λb u xs q=>by rw[az (aU q hn)];exact q
 tbls:=λb ps q=>⟨#[],by rw[az (aU q hn),q];simp⟩
theorem Un.write(mu:Mut (H x))(he:e=x\/H e=some (.own x))(k:∀b u,b≠e->h.get? b=some u->h'.get? b=some u)(heo:∃u,h'.get? e=some u):Un fs ex H (upd H x o) h h':=by
 have hx:∀b,H b=none->b≠x:=λb n z=>by subst z;rw[n]at mu;exact mu
 have hb:∀b,H b=none->b≠e:=λb n z=>by
  subst z
  rcases he with r|r
  ·exact hx b n r
  ·rw[n]at r;cases r
 have hm:∀b u,H b=some u->¬Mut (some u)->b≠x:=λb u q nm z=>by subst z;rw[q]at mu;exact nm mu
 refine⟨λb u q n _ _=>k b u (hb b n) q,λb u q n _ _=>⟨u.slots,k b u (hb b n) q⟩,λb u q n _=>by rw[az (hx b n)];exact n,λb u q _=>?_,
  λb xs q=>by rw[az (hm b _ q λz=>z)];exact q,λb u xs q=>by rw[az (hm b _ q λz=>z)];exact q,λb ps q=>⟨#[],by rw[az (hm b _ q λz=>z),q];simp⟩⟩
 by_cases hbe:b=e
 ·subst hbe;exact heo
 ·exact⟨u,k b u hbe q⟩
end
def trk(h:Heap)(H:Hp):List Addr:=(List.range h.objs.size).filter λa=>(H a).isSome
def hidT(h:Heap)(H:Hp):Heap:=PySem.W.hideAll h (trk h H)
theorem jA(h:Heap)(H:Hp):(hidT h H).objs.size=h.objs.size:=PySem.W.hideAll_size _ _
theorem kb{h:Heap}{H:Hp}{b:Addr}{o:Obj}(e:h.get? b=some o)(n:H b=none):(hidT h H).get? b=some o:=
 PySem.W.hideAll_get _ e λhm=>by
  have q:(H b).isSome=true:=(List.mem_filter.mp hm).2
  rw[n]at q;simp at q
theorem lQ{h:Heap}{H:Hp}{b:Addr}{o:Obj}(e:(hidT h H).get? b=some o):h.get? b=some o/\H b=none:=by
 have e':h.get? b=some o:=PySem.W.of_hideAll (trk h H) e
 refine⟨e',?_⟩
 cases q:H b with
 | none=>rfl
 | some x=>
  have hm:b∈trk h H:=List.mem_filter.mpr ⟨List.mem_range.mpr (Heap.lt_size e'),by simp[q]⟩
  have z:(hidT h H).get? b=none:=PySem.W.hideAll_none (trk h H) hm
  rw[z]at e;cases e
def allNews(g h:Heap)(L:Addr):List (Addr×Obj):=(List.range h.objs.size).filterMap λa=>if a=L\/(g.get? a).isSome=true then none else(h.get? a).map λo=>(a,o)
def rest(g h:Heap)(L d:Addr):List (Addr×Obj):=(allNews g h L).filter λp=>decide (p.1≠d)
end L2
namespace L2
open PySem PySem.Spec PyProof.Rows
structure Mod(K:PySem.W.Frag)(mg:Str->Option Value)(base:Heap):Prop where
 kin:K.In base
 glob:base.Ns mainGlobals mg
 blt:∃mb,base.Ns builtinsNs mb/\∀x:Str,x≠"__name__"->mb x=bootBuiltins x
 nolimit:base.NoLimit
structure Cx where
 prog:Program
 w:World
 K:PySem.W.Frag
 mg:Str->Option Value
 base:Heap
 A:Around
 N:List Str
 s₀:Shared
 H₀:Hp
 env:Env
 outer:List Env
 stack:List Env
 ex:List Addr
 fn:Str->Bool
 calm:Bool
 pn:List (Addr×Obj)
 xe:Value->Shared->Prop
def frs(l:List Env):List Addr:=l.filterMap (·.frame)
abbrev Cx.fs(X:Cx):List Addr:=frs X.outer
def Vis(sc:Scope)(x:Str):Prop:=sc.names.lookup x=some .local\/sc.names.lookup x=some .cell\/sc.names.lookup x=some .free
def Loc(sc:Scope)(x:Str):Prop:=sc.names.lookup x=some .local\/sc.names.lookup x=some .cell
def Look(env:Env)(h:Heap)(m:Str->Option Value)(x:Str)(u:Value):Prop:=
 (env.kindOf x=some .local/\m x=some u)\/((env.kindOf x=some .cell\/env.kindOf x=some .free)/\∃c,env.cells.lookup x=some c/\h.IsCell c (some u))
structure Cx.Ok(X:Cx):Prop where
 mod:Mod X.K X.mg X.base
 kind:X.env.scope.kind = .function
 glob:X.env.globals=mainGlobals
 blt:X.env.builtins=builtinsNs
 above:X.s₀.heap.objs.size<=X.env.locals
 inj:∀x y c,X.env.cells.lookup x=some c->X.env.cells.lookup y=some c->x=y
 has:∀x,(X.env.kindOf x=some .cell\/X.env.kindOf x=some .free)->∃c,X.env.cells.lookup x=some c
 cab:∀x c,X.fn x=true->X.env.cells.lookup x=some c->X.s₀.heap.objs.size<=c
 hd:X.calm=true->X.A.handled=none
 frames:X.A.frames=some X.stack
 stk:X.stack=X.outer\/(X.stack=X.env::X.outer/\X.env.frame=some X.env.locals)
 exf:∀b∈X.ex,b≠X.env.locals/\∀x c,X.env.cells.lookup x=some c->c≠b
 bs:∀b o,X.base.get? b=some o->X.s₀.heap.get? b=some o/\X.H₀ b=none
 bsz:X.base.objs.size<=X.s₀.heap.objs.size
 noex:∀b o,X.base.get? b=some o->b∉X.ex
 exfs:∀b∈X.ex,b∉X.fs
 funs:X.s₀.heap.FunFrames X.base X.outer
 frf:∀b∈X.fs,X.H₀ b=none
structure Inv(X:Cx)(pins:List (Addr×Obj))(σ:List (Option V))(H:Hp)(s:Shared):Prop where
 ok:X.Ok
 os:s.os=X.s₀.os
 bare:AllBare s.gens
 base:Un X.fs X.ex X.H₀ H X.s₀.heap s.heap
 loc:∃m,s.heap.Ns X.env.locals m/\∀(i:Nat) (x:Str) (v:V),X.N[i]?=some x->σ[i]?=some (some v)->Vis X.env.scope x->∃u,RelV v u/\Look X.env s.heap m x u
 cell:∀x c,X.env.cells.lookup x=some c->∃v,s.heap.IsCell c v
 free:H X.env.locals=none
 freeC:∀x c,X.env.cells.lookup x=some c->H c=none
 pin:∀p∈X.pn++pins,s.heap.get? p.1=some p.2/\H p.1=none/\p.1≠X.env.locals/\p.1∉X.fs/\∀v,p.2.data≠ .cell v
 hok:HOk X.prog X.w H s.heap
 len:σ.length=X.N.length
section
variable{X:Cx}{pins:List (Addr×Obj)}{σ:List (Option V)}{H H':Hp}{s:Shared}{h':Heap}
theorem Cx.Ok.nofr(ok:X.Ok){b:Addr}{o:Obj}(e:X.base.get? b=some o):b∉X.fs:=λhb=>by
 have:=(ok.funs.mem hb).1
 rw[e]at this;cases this
theorem Inv.bs(I:Inv X pins σ H s):∀b o,X.base.get? b=some o->s.heap.get? b=some o/\H b=none:=λb o e=>
 ⟨I.base.keep b o (I.ok.bs b o e).1 (I.ok.bs b o e).2 (I.ok.nofr e) (I.ok.noex b o e),I.base.free b o (I.ok.bs b o e).1 (I.ok.bs b o e).2 (I.ok.noex b o e)⟩
theorem Inv.bk(I:Inv X pins σ H s):∀b o,X.base.get? b=some o->s.heap.get? b=some o:=λb o e=>(I.bs b o e).1
theorem Inv.mod(I:Inv X pins σ H s):Mod X.K X.mg X.base:=I.ok.mod
theorem Inv.kIn(I:Inv X pins σ H s):X.K.In s.heap:=I.ok.mod.kin.keeps I.bk
theorem Inv.fr(I:Inv X pins σ H s):∃m,Fr X.base X.env.locals s.heap m:=
 let⟨m,hn,_⟩:=I.loc
 ⟨m,hn,I.bk,Nat.le_trans I.ok.bsz I.ok.above⟩
theorem Inv.lt(I:Inv X pins σ H s):X.env.locals<s.heap.objs.size:=let⟨_,hn,_⟩:=I.loc;hn.lt
theorem Inv.sz(I:Inv X pins σ H s):X.s₀.heap.objs.size<=s.heap.objs.size:=Nat.le_trans I.ok.above (Nat.le_of_lt I.lt)
theorem Inv.nofs(I:Inv X pins σ H s){a:Addr}(h:s.heap.objs.size<=a):a∉X.fs:=λhb=>by
 obtain⟨_,o,ho,_⟩:=I.ok.funs.mem hb
 exact absurd (Nat.lt_of_lt_of_le (Heap.lt_size ho) (Nat.le_trans I.sz h)) (Nat.lt_irrefl _)
theorem Inv.cne(I:Inv X pins σ H s):∀x c,X.env.cells.lookup x=some c->c≠X.env.locals:=λx c e z=>by
 obtain⟨v,o,ho,hd⟩:=I.cell x c e
 obtain⟨m,⟨o',es,ep,ho',hd',_⟩,_⟩:=I.loc
 rw[z,ho']at ho;cases ho;rw[hd']at hd;cases hd
theorem Inv.funs(I:Inv X pins σ H s):s.heap.FunFrames X.base X.outer:=by
 have all:∀(l:List Env),(∀b∈frs l,b∈X.fs)->X.s₀.heap.FunFrames X.base l->s.heap.FunFrames X.base l:=by
  intro l
  induction l with
  | nil=>intro _ _;trivial
  | cons env r ih=>
   intro hs hl
   obtain⟨hk,⟨L,o,hf,hn,ho,hd⟩,hr⟩:=hl
   have hL:L∈X.fs:=hs L (by unfold frs;rw[List.filterMap_cons,hf];exact List.mem_cons_self)
   obtain⟨sl,e⟩:=I.base.slot L o ho (I.ok.frf L hL) hL λz=>I.ok.exfs L z hL
   exact⟨hk,⟨L,_,hf,hn,e,hd⟩,ih (λb hb=>hs b (by unfold frs;rw[List.filterMap_cons,hf];exact List.mem_cons_of_mem _ hb)) hr⟩
 exact all X.outer (λ_ hb=>hb) I.ok.funs
theorem Inv.stack(I:Inv X pins σ H s):s.heap.FunFrames X.base X.stack:=by
 rcases I.ok.stk with e|⟨e,hf⟩
 ·rw[e];exact I.funs
 ·rw[e]
  obtain⟨m,hn,_⟩:=I.loc
  refine .cons (by rw[I.ok.kind];decide) hf hn ?_ I.funs
  exact Heap.get?_none_of_le (Nat.le_trans I.ok.bsz I.ok.above)
theorem Inv.stkSub(I:Inv X pins σ H s):∀b∈frs X.stack,b∈X.env.locals::X.fs:=λb hb=>by
 rcases I.ok.stk with e|⟨e,hf⟩
 ·rw[e]at hb;exact List.mem_cons_of_mem _ hb
 ·rw[e]at hb
  unfold frs at hb
  rw[List.filterMap_cons,hf]at hb
  exact hb
theorem Inv.stkFree(I:Inv X pins σ H s):∀b∈frs X.stack,H b=none:=λb hb=>by
 rcases List.mem_cons.mp (I.stkSub b hb)with e|hb
 ·rw[e];exact I.free
 ·obtain⟨_,o,ho,_⟩:=I.ok.funs.mem hb
  exact I.base.free b o ho (I.ok.frf b hb) λz=>I.ok.exfs b z hb
theorem Inv.step{g':Array GenState}{t':Nat}{d':Drawn}{ch:List Addr}(I:Inv X pins σ H s)
  (hch:∀b∈ch,(b∈X.ex\/X.s₀.heap.objs.size<=b)/\b≠X.env.locals/\(∀x c,X.env.cells.lookup x=some c->c≠b)/\∀p∈X.pn++pins,p.1≠b)
  (keep:∀b o,b≠X.env.locals->b∉X.fs->b∉ch->s.heap.get? b=some o->H b=none->h'.get? b=some o)
  (slot:∀b o,b≠X.env.locals->b∈X.fs->b∉ch->s.heap.get? b=some o->H b=none->∃sl,h'.get? b=some {o with slots:=sl})(free:∀b o,b∉ch->s.heap.get? b=some o->H b=none->H' b=none)
  (there:∀b o,b∉ch->s.heap.get? b=some o->∃o',h'.get? b=some o')
  (tups:∀b xs,H b=some (.tup xs)->H' b=some (.tup xs))(frzs:∀b o u,H b=some (.frz o u)->H' b=some (.frz o u))(tbls:∀b ps,H b=some (.tbl ps)->∃more,H' b=some (.tbl (ps++more)))
  (ns:∀m,s.heap.Ns X.env.locals m->h'.Ns X.env.locals m)(hok:HOk X.prog X.w H' h')(hg:AllBare g'):
  Inv X pins σ H' {s with heap:=h',gens:=g',drawn:=d',toks:=t'}:=by
 have neL:∀b o,X.s₀.heap.get? b=some o->b≠X.env.locals:=λb o e=>Nat.ne_of_lt (Nat.lt_of_lt_of_le (Heap.lt_size e) I.ok.above)
 have neC:∀b o,X.s₀.heap.get? b=some o->b∉X.ex->b∉ch:=λb o e hx hb=>by
  rcases(hch b hb).1 with z|z
  ·exact hx z
  ·exact absurd (Nat.lt_of_lt_of_le (Heap.lt_size e) z) (Nat.lt_irrefl _)
 have cellK:∀x c,X.env.cells.lookup x=some c->∀v,s.heap.IsCell c v->h'.IsCell c v:=λx c e v ⟨o,ho,hd⟩=>by
  have nch:c∉ch:=λz=>(hch c z).2.2.1 x c e rfl
  by_cases hc:c∈X.fs
  ·obtain⟨sl,q⟩:=slot c o (I.cne x c e) hc nch ho (I.freeC x c e)
   exact⟨_,q,hd⟩
  ·exact⟨o,keep c o (I.cne x c e) hc nch ho (I.freeC x c e),hd⟩
 refine⟨I.ok,I.os,hg,⟨λb o e n hb hx=>?_,λb o e n hb hx=>?_,λb o e n hx=>?_,λb o e hx=>?_,λb xs e=>tups b xs (I.base.tups b xs e),λb o xs e=>frzs b o xs (I.base.frzs b o xs e),λb ps e=>?_⟩,?_,λx c e=>?_,?_,λx c e=>?_,λp hp=>?_,hok,I.len⟩
 ·exact keep b o (neL b o e) hb (neC b o e hx) (I.base.keep b o e n hb hx) (I.base.free b o e n hx)
 ·obtain⟨sl,e1⟩:=I.base.slot b o e n hb hx
  obtain⟨sl',e2⟩:=slot b _ (neL b o e) hb (neC b o e hx) e1 (I.base.free b o e n hx)
  exact⟨sl',e2⟩
 ·obtain⟨o',e1⟩:=I.base.there b o e hx
  exact free b o' (neC b o e hx) e1 (I.base.free b o e n hx)
 ·obtain⟨o',e1⟩:=I.base.there b o e hx
  exact there b o' (neC b o e hx) e1
 ·obtain⟨m1,e1⟩:=I.base.tbls b ps e
  obtain⟨m2,e2⟩:=tbls b _ e1
  exact⟨m1++m2,by rw[e2,Array.append_assoc]⟩
 ·obtain⟨m,hn,hl⟩:=I.loc
  refine⟨m,ns m hn,λi x v e1 e2 e3=>?_⟩
  obtain⟨u,r,l⟩:=hl i x v e1 e2 e3
  refine⟨u,r,?_⟩
  rcases l with l|⟨k,c,e,z⟩
  ·exact .inl l
  ·exact .inr ⟨k,c,e,cellK x c e _ z⟩
 ·obtain⟨v,z⟩:=I.cell x c e
  exact⟨v,cellK x c e v z⟩
 ·obtain⟨m,⟨o,_,_,ho,_⟩,_⟩:=I.loc
  exact free _ o (λz=>(hch _ z).2.1 rfl) ho I.free
 ·obtain⟨v,o,ho,hd⟩:=I.cell x c e
  exact free c o (λz=>(hch c z).2.2.1 x c e rfl) ho (I.freeC x c e)
 ·obtain⟨e,n,ne,nf,d⟩:=I.pin p hp
  have nch:p.1∉ch:=λz=>(hch p.1 z).2.2.2 p hp rfl
  exact⟨keep p.1 p.2 ne nf nch e n,free p.1 p.2 nch e n,ne,nf,d⟩
theorem Inv.un{t':Nat}(I:Inv X pins σ H s)(u:Un X.fs [] H H' s.heap h')(hok:HOk X.prog X.w H' h'):Inv X pins σ H' {s with heap:=h',toks:=t'}:=by
 obtain⟨m,⟨o,es,ep,ho,r⟩,_⟩:=id I.loc
 obtain⟨sl,hL⟩:=u.any ho I.free (by simp)
 exact I.step (g':=s.gens) (d':=s.drawn) (ch:=[]) (λ_ z=>nomatch z) (λb o _ hb _ e n=>u.keep b o e n hb (by simp)) (λb o _ hb _ e n=>u.slot b o e n hb (by simp)) (λb o _ e n=>u.free b o e n (by simp)) (λb o _ e=>u.there b o e (by simp)) u.tups u.frzs u.tbls (λm' hm=>by
  obtain⟨o',es',ep',ho',r'⟩:=hm
  rw[ho]at ho';cases ho'
  exact⟨_,es',ep',hL,r'⟩) hok I.bare
theorem Inv.call{g':Array GenState}{t':Nat}{d':Drawn}{ch:List Addr}(I:Inv X pins σ H s)(u:Un (frs X.stack) ch H H' s.heap h')(hok:HOk X.prog X.w H' h')(hg:AllBare g')
  (hch:∀b∈ch,(b∈X.ex\/X.s₀.heap.objs.size<=b)/\b≠X.env.locals/\(∀x c,X.env.cells.lookup x=some c->c≠b)/\∀p∈X.pn++pins,p.1≠b):
  Inv X pins σ H' {s with heap:=h',gens:=g',drawn:=d',toks:=t'}:=by
 obtain⟨m,⟨o,es,ep,ho,r⟩,_⟩:=id I.loc
 obtain⟨sl,hL⟩:=u.any ho I.free λz=>(hch _ z).2.1 rfl
 exact I.step (ch:=ch) hch (λb o hL hb hc e n=>u.keep b o e n (λz=>(List.mem_cons.mp (I.stkSub b z)).elim hL hb) hc) (λb o _ _ hc e n=>u.any e n hc) (λb o hc e n=>u.free b o e n hc) (λb o hc e=>u.there b o e hc) u.tups u.frzs u.tbls (λm' hm=>by
  obtain⟨o',es',ep',ho',r'⟩:=hm
  rw[ho]at ho';cases ho'
  exact⟨_,es',ep',hL,r'⟩) hok hg
theorem Inv.turned{t':Nat}{it:Addr}(I:Inv X pins σ H s)(k:∀b o,b≠it->s.heap.get? b=some o->h'.get? b=some o)(hn:H it=none)(hL:it≠X.env.locals)
  (h1:it∈X.ex\/X.s₀.heap.objs.size<=it)(h2:∀x c,X.env.cells.lookup x=some c->c≠it)(h3:∀p∈X.pn++pins,p.1≠it):Inv X pins σ H {s with heap:=h',toks:=t'}:=by
 have nit:∀b u,H b=some u->b≠it:=λb u e z=>by rw[z,hn]at e;cases e
 refine I.step (g':=s.gens) (d':=s.drawn) (ch:=[it]) (λb hb=>?_) (λb o _ _ hc e _=>k b o (λz=>hc (by simp[z])) e) (λb o _ _ hc e _=>⟨o.slots,k b o (λz=>hc (by simp[z])) e⟩) (λ_ _ _ _ n=>n)
  (λb o hc e=>⟨o,k b o (λz=>hc (by simp[z])) e⟩) (λ_ _ e=>e) (λ_ _ _ e=>e) (λb ps e=>⟨#[],by rw[e];simp⟩) (λm hm=>?_) (λb u e=>?_) I.bare
 ·have e:b=it:=by simpa using hb
  subst e
  exact⟨h1,hL,h2,h3⟩
 ·obtain⟨o,es,ep,ho,r⟩:=hm
  exact⟨o,es,ep,k _ o (Ne.symm hL) ho,r⟩
 ·refine(I.hok b u e).stay (λc v hc q=>k c v ?_ q) (λ_ q=>q) λ_ _ q=>q
  rcases hc with z|z
  ·rw[z];exact nit b u e
  ·exact nit c _ z
theorem Inv.tok(I:Inv X pins σ H s)(t:Nat):Inv X pins σ H {s with toks:=t}:=I.un (h':=s.heap) (t':=t) Un.refl I.hok
theorem Inv.kept{t':Nat}(I:Inv X pins σ H s)(k:∀b u,s.heap.get? b=some u->h'.get? b=some u):Inv X pins σ H {s with heap:=h',toks:=t'}:=I.un (Un.kept k) (I.hok.kept k)
theorem Inv.laid{a:Addr}{o:HO}{t':Nat}(I:Inv X pins σ H s)(k:∀b u,s.heap.get? b=some u->h'.get? b=some u)(hp:s.heap.objs.size<=a)(new:ObjOk X.prog X.w (upd H a o) h' a o):
  Inv X pins σ (upd H a o) {s with heap:=h',toks:=t'}:=I.un (Un.laid k hp (I.hok.fresh hp)) (I.hok.laid k hp new)
theorem Inv.write{x e:Addr}{o:HO}{t':Nat}(I:Inv X pins σ H s)(mu:Mut (H x))(he:e=x\/H e=some (.own x))(k:∀b u,b≠e->s.heap.get? b=some u->h'.get? b=some u)(heo:∃u,h'.get? e=some u)
  (new:ObjOk X.prog X.w (upd H x o) h' x o):Inv X pins σ (upd H x o) {s with heap:=h',toks:=t'}:=I.un (Un.write mu he k heo) (I.hok.write mu he k heo new)
theorem Inv.weak{σ':List (Option V)}(I:Inv X pins σ H s)(hl:σ'.length=σ.length)(w:∀(i:Nat) v,σ'[i]?=some (some v)->σ[i]?=some (some v)):Inv X pins σ' H s:=
 ⟨I.ok,I.os,I.bare,I.base,let⟨m,hn,hl'⟩:=I.loc;⟨m,hn,λi x v e1 e2 e3=>hl' i x v e1 (w i v e2) e3⟩,I.cell,I.free,I.freeC,I.pin,I.hok,hl.trans I.len⟩
theorem Inv.pins_of{pins':List (Addr×Obj)}(I:Inv X pins σ H s)(h:∀p∈pins',s.heap.get? p.1=some p.2/\H p.1=none/\p.1≠X.env.locals/\p.1∉X.fs/\∀v,p.2.data≠ .cell v):Inv X pins' σ H s:=
 ⟨I.ok,I.os,I.bare,I.base,I.loc,I.cell,I.free,I.freeC,λp hp=>(List.mem_append.mp hp).elim (λz=>I.pin p (List.mem_append_left _ z)) (h p),I.hok,I.len⟩
theorem ia{N:List Str}(hN:N.Nodup){i j:Nat}{x:Str}(a:N[i]?=some x)(b:N[j]?=some x):i=j:=by
 obtain⟨h1,e1⟩:=List.getElem?_eq_some_iff.mp a
 obtain⟨h2,e2⟩:=List.getElem?_eq_some_iff.mp b
 exact(List.getElem_inj hN).mp (e1.trans e2.symm)
theorem fX{M:Model}{A:Around}{E:Value->Shared->Prop}{i:Nat}{x:Str}{v:V}{u:Value}{Q:Unit->Shared->Prop}(I:Inv X pins σ H s)(hN:X.N.Nodup)(hi:X.N[i]?=some x)(hx:Loc X.env.scope x)(r:RelV v u)
  (h:∀s',Inv X pins (σ.set i (some v)) H s'->(∃a,Heap.SameBut a s.heap s'.heap/\(a=X.env.locals\/X.env.cells.lookup x=some a))->Q () s')(hf:X.fn x=true\/X.env.scope.names.lookup x=some .local:=by first|exact .inl rfl|exact .inr rfl|assumption):wpAny M A (storeName X.env x u) Q E s:=by
 obtain⟨m,hn,hl⟩:=id I.loc
 have hcls:(X.env.scope.kind == .class||(X.env.scope.kind == .module&&X.env.locals != X.env.globals))=false:=by rw[I.ok.kind];rfl
 have hiσ:i<σ.length:=by rw[I.len];exact(List.getElem?_eq_some_iff.mp hi).1
 have cne:=I.cne
 have tracked:∀{a:Addr} {h':Heap},(∃o,s.heap.get? a=some o/\H a=none)->Heap.SameBut a s.heap h'->HOk X.prog X.w H h':=λ {a h'} ha hs b ob e=>by
  obtain⟨_,_,hfree⟩:=ha
  refine(I.hok b ob e).stay (λc w' hc q=>(hs.2 c ?_).trans q) (λ_ q=>q) λ_ _ q=>q
  rintro rfl
  rcases hc with rfl|hc
  ·rw[hfree]at e;cases e
  ·rw[hfree]at hc;cases hc
 rcases hx with hk|hk
 ·refine wpAny_storeName_local hk hn (λh' hn' hs=>?_) hcls
  obtain⟨oL,_,_,hoL,_⟩:=id hn
  refine h _ ⟨I.ok,I.os,I.bare,⟨λb o e n hb hx=>?_,λb o e n hb hx=>?_,I.base.free,λb o e hx=>?_,I.base.tups,I.base.frzs,I.base.tbls⟩,⟨_,hn',λj y v' e1 e2 e3=>?_⟩,λy c e=>?_,I.free,I.freeC,λp hp=>?_,tracked ⟨oL,hoL,I.free⟩ hs,by simpa using I.len⟩ ⟨_,hs,.inl rfl⟩
  ·exact(hs.2 b (Nat.ne_of_lt (Nat.lt_of_lt_of_le (Heap.lt_size e) I.ok.above))).trans (I.base.keep b o e n hb hx)
  ·obtain⟨sl,e1⟩:=I.base.slot b o e n hb hx
   exact⟨sl,(hs.2 b (Nat.ne_of_lt (Nat.lt_of_lt_of_le (Heap.lt_size e) I.ok.above))).trans e1⟩
  ·obtain⟨o',e1⟩:=I.base.there b o e hx
   exact⟨o',(hs.2 b (Nat.ne_of_lt (Nat.lt_of_lt_of_le (Heap.lt_size e) I.ok.above))).trans e1⟩
  ·by_cases hj:j=i
   ·subst hj
    rw[hi]at e1;cases e1
    rw[List.getElem?_set_self hiσ]at e2
    cases e2
    exact⟨u,r,.inl ⟨hk,by simp⟩⟩
   ·rw[List.getElem?_set_ne (Ne.symm hj)]at e2
    obtain⟨u',r',q⟩:=hl j y v' e1 e2 e3
    refine⟨u',r',?_⟩
    rcases q with⟨k,e⟩|⟨k,c,e,z⟩
    ·refine .inl ⟨k,?_⟩
     have:y≠x:=λe=>hj (ia hN e1 (e▸hi))
     simp[this,e]
    ·exact .inr ⟨k,c,e,z.sameBut hs (cne y c e)⟩
  ·obtain⟨w',z⟩:=I.cell y c e
   exact⟨w',z.sameBut hs (cne y c e)⟩
  ·obtain⟨e,n,ne,nf,d⟩:=I.pin p hp
   exact⟨(hs.2 p.1 ne).trans e,n,ne,nf,d⟩
 ·have hfn:X.fn x=true:=by
   rcases hf with z|z
   ·exact z
   ·rw[z]at hk;cases hk
  obtain⟨c,hc⟩:=I.ok.has x (.inl hk)
  obtain⟨w',z⟩:=I.cell x c hc
  refine wpAny_storeName_cell I.ok.kind hk hc z (λh' hc' hs=>?_)
  obtain⟨oc,hoc,hocd⟩:=id z
  refine h {s with heap:=h'} ⟨I.ok,I.os,I.bare,⟨λb o e n hb hx=>?_,λb o e n hb hx=>?_,I.base.free,λb o e hx=>?_,I.base.tups,I.base.frzs,I.base.tbls⟩,⟨m,hn.sameBut hs (Ne.symm (cne x c hc)),λj y v' e1 e2 e3=>?_⟩,λy c' e=>?_,I.free,I.freeC,λp hp=>?_,tracked ⟨oc,hoc,I.freeC x c hc⟩ hs,by simpa using I.len⟩ ⟨c,hs,.inr hc⟩
  ·exact(hs.2 b (Nat.ne_of_lt (Nat.lt_of_lt_of_le (Heap.lt_size e) (I.ok.cab x c hfn hc)))).trans (I.base.keep b o e n hb hx)
  ·obtain⟨sl,e1⟩:=I.base.slot b o e n hb hx
   exact⟨sl,(hs.2 b (Nat.ne_of_lt (Nat.lt_of_lt_of_le (Heap.lt_size e) (I.ok.cab x c hfn hc)))).trans e1⟩
  ·obtain⟨o',e1⟩:=I.base.there b o e hx
   exact⟨o',(hs.2 b (Nat.ne_of_lt (Nat.lt_of_lt_of_le (Heap.lt_size e) (I.ok.cab x c hfn hc)))).trans e1⟩
  ·by_cases hj:j=i
   ·subst hj
    rw[hi]at e1;cases e1
    rw[List.getElem?_set_self hiσ]at e2
    cases e2
    exact⟨u,r,.inr ⟨.inl hk,c,hc,hc'⟩⟩
   ·rw[List.getElem?_set_ne (Ne.symm hj)]at e2
    obtain⟨u',r',q⟩:=hl j y v' e1 e2 e3
    refine⟨u',r',?_⟩
    rcases q with q|⟨k,c',e,z'⟩
    ·exact .inl q
    ·refine .inr ⟨k,c',e,z'.sameBut hs ?_⟩
     rintro rfl
     exact hj (ia hN e1 (I.ok.inj _ _ _ e hc▸hi))
  ·by_cases hcc:c'=c
   ·subst hcc;exact⟨_,hc'⟩
   ·obtain⟨w2,z2⟩:=I.cell y c' e
    exact⟨w2,z2.sameBut hs hcc⟩
  ·obtain⟨e,n,ne,nf,d⟩:=I.pin p hp
   refine⟨(hs.2 p.1 ?_).trans e,n,ne,nf,d⟩
   intro q
   rw[q,hoc]at e
   have q':oc=p.2:=Option.some.inj e
   exact d w' (by rw[<-q'];exact hocd)
theorem dC{M:Model}{A:Around}{E:Value->Shared->Prop}{i:Nat}{x:Str}{v:V}{u:Value}{Q:Unit->Shared->Prop}(I:Inv X pins σ H s)(hN:X.N.Nodup)(hi:X.N[i]?=some x)(hx:Loc X.env.scope x)(r:RelV v u)
  (h:∀s',Inv X pins (σ.set i (some v)) H s'->Q () s')(hf:X.fn x=true\/X.env.scope.names.lookup x=some .local:=by first|exact .inl rfl|exact .inr rfl|assumption):wpAny M A (storeName X.env x u) Q E s:=
 fX I hN hi hx r (λs' I' _=>h s' I') hf
theorem Inv.call'{s':Shared}{ch:List Addr}(I:Inv X pins σ H s)(ho:s'.os=s.os)(u:Un (frs X.stack) ch H H' s.heap s'.heap)(hok:HOk X.prog X.w H' s'.heap)(hg:AllBare s'.gens)
  (hch:∀b∈ch,(b∈X.ex\/X.s₀.heap.objs.size<=b)/\b≠X.env.locals/\(∀x c,X.env.cells.lookup x=some c->c≠b)/\∀p∈X.pn++pins,p.1≠b):Inv X pins σ H' s':=by
 obtain⟨h',g',d',t',o'⟩:=s'
 have e:o'=s.os:=ho
 subst e
 exact I.call (g':=g') (t':=t') (d':=d') u hok hg hch
end
abbrev XK:=Value->Option Addr->Hp->Prop
abbrev St:=List (Option V)
abbrev VK:=V->Hp->Prop
abbrev TE:=St->Hp->VK->Prop
abbrev TT:=St->Hp->(Bool->Hp->Prop)->Prop
abbrev TA:=St->Hp->(List V->Hp->Prop)->Prop
structure Ends where
 nx:St->Hp->Prop
 rt:VK
 bk:St->Hp->Prop:=λ_ _=>False
 ct:St->Hp->Prop:=λ_ _=>False
abbrev TS:=Ends->St->Hp->Prop
def EP(X:Cx)(pins:List (Addr×Obj))(σ:St)(Q:VK)(u:Value)(s':Shared):Prop:=∃v H',Inv X pins σ H' s'/\RelV v u/\Q v H'
def TP(X:Cx)(pins:List (Addr×Obj))(σ:St)(Q:Bool->Hp->Prop)(b:Bool)(s':Shared):Prop:=∃H',Inv X pins σ H' s'/\Q b H'
def AP(X:Cx)(pins:List (Addr×Obj))(σ:St)(Q:List V->Hp->Prop)(us:List Value)(s':Shared):Prop:=∃vs H',Inv X pins σ H' s'/\Vals vs us/\Q vs H'
def SP(X:Cx)(pins:List (Addr×Obj))(D:Ends)(f:Flow)(s':Shared):Prop:=
 match f with
 | .next=>∃σ' H',Inv X pins σ' H' s'/\D.nx σ' H'
 | .brk=>∃σ' H',Inv X pins σ' H' s'/\D.bk σ' H'
 | .cont=>∃σ' H',Inv X pins σ' H' s'/\D.ct σ' H'
 | .ret u=>∃v σ' H',Inv X pins σ' H' s'/\RelV v u/\D.rt v H'
def PE(X:Cx)(e:Expr)(t:TE):Prop:=
 ∀(pins:List (Addr×Obj)) (s:Shared) (σ:St) (H:Hp) (Q:VK),Inv X pins σ H s->t σ H Q->wpAny (model X.prog X.w) X.A (eval e X.env) (EP X pins σ Q) X.xe s
def PT(X:Cx)(e:Expr)(t:TT):Prop:=
 ∀(pins:List (Addr×Obj)) (s:Shared) (σ:St) (H:Hp) (Q:Bool->Hp->Prop),Inv X pins σ H s->t σ H Q->wpAny (model X.prog X.w) X.A (isTrue e X.env (eval e X.env)) (TP X pins σ Q) X.xe s
def PW(X:Cx)(e:Expr)(t:TT):Prop:=
 ∀(whole:Sem Value) (pins:List (Addr×Obj)) (s:Shared) (σ:St) (H:Hp) (Q:Bool->Hp->Prop),Inv X pins σ H s->t σ H Q->wpAny (model X.prog X.w) X.A (isTrue e X.env whole) (TP X pins σ Q) X.xe s
theorem PW.pt{X:Cx}{e:Expr}{t:TT}(h:PW X e t):PT X e t:=h _
def PA(X:Cx)(es:List Expr)(t:TA):Prop:=
 ∀(pos:Pos) (pins:List (Addr×Obj)) (s:Shared) (σ:St) (H:Hp) (Q:List V->Hp->Prop),Inv X pins σ H s->t σ H Q->wpAny (model X.prog X.w) X.A (spliced (backTo pos (starEach es X.env))) (AP X pins σ Q) X.xe s
def PS(X:Cx)(st:Stmt)(t:TS):Prop:=
 ∀(pins:List (Addr×Obj)) (s:Shared) (σ:St) (H:Hp) (D:Ends),Inv X pins σ H s->t D σ H->wpAny (model X.prog X.w) X.A (exec st X.env) (SP X pins D) X.xe s
def PSs(X:Cx)(st:List Stmt)(t:TS):Prop:=
 ∀(pins:List (Addr×Obj)) (s:Shared) (σ:St) (H:Hp) (D:Ends),Inv X pins σ H s->t D σ H->wpAny (model X.prog X.w) X.A (execs st X.env) (SP X pins D) X.xe s
theorem thn{α:Type}{t:Sem α}{Q Q':α->Shared->Prop}{M:Model}{A:Around}{E:Value->Shared->Prop}{s:Shared}(h:wpAny M A t Q E s)(hQ:∀a s,Q a s->Q' a s):wpAny M A t Q' E s:=wpAny_mono h hQ λ_ _ x=>x
end L2
namespace L2
open PySem PySem.Spec PyProof.Rows
section
variable{X:Cx}
theorem bin{a b:Expr}{ta tb:TE}(ha:PE X a ta)(hb:PE X b tb){pins:List (Addr×Obj)}{s:Shared}{σ:St}{H:Hp}{R:V->V->Hp->Prop}(I:Inv X pins σ H s)(h:ta σ H λx H1=>tb σ H1 λy H2=>R x y H2)
  {α:Type}{Q:α->Shared->Prop}{f:Value->Value->Sem α}
  (hf:∀v u s2 x y H2,Inv X pins σ H2 s2->RelV x v->RelV y u->R x y H2->wpAny (model X.prog X.w) X.A (f v u) Q X.xe s2):
  wpAny (model X.prog X.w) X.A (eval a X.env) (λv s₁=>wpAny (model X.prog X.w) X.A (eval b X.env) (λu s₂=>wpAny (model X.prog X.w) X.A (f v u) Q X.xe s₂) X.xe s₁) X.xe s:=by
 refine thn (ha pins s σ H _ I h) λv s1 ⟨x,H1,I1,r1,q1⟩=>?_
 refine thn (hb pins s1 σ H1 _ I1 q1) λu s2 ⟨y,H2,I2,r2,q2⟩=>?_
 exact hf v u s2 x y H2 I2 r1 r2 q2
def tVar(i:Nat):TE:=λσ H Q=>∃v,σ[i]?=some (some v)/\Q v H
def tC(v:V):TE:=λ_ H Q=>Q v H
theorem mt{i:Nat}{x:Str}{pos:Pos}(hN:X.N[i]?=some x)(hv:Vis X.env.scope x)(hd:(x==("__debug__":Str))=false:=by decide)(hcd:(x==("__classdict__":Str))=false:=by decide):PE X (.Name x pos) (tVar i):=by
 intro pins s σ H Q I h
 obtain⟨v,e,h⟩:=h
 obtain⟨m,hn,hl⟩:=I.loc
 obtain⟨u,r,l⟩:=hl i x v hN e hv
 have fin:EP X pins σ Q u s:=⟨v,H,I,r,h⟩
 rcases l with⟨hk,hm⟩|⟨hk,c,hc,hcell⟩
 ·exact wpAny_Name (wpAny_loadName_local I.ok.kind hk hn hm fin) hd
 ·rcases hk with hk|hk
  ·exact wpAny_Name (wpAny_loadName_cell I.ok.kind hk hc hcell fin) hd
  ·exact wpAny_Name (wpAny_loadName_free I.ok.kind hk hc hcell fin hcd) hd
theorem ah{i j pos}:PE X (.Constant (.int i) j pos) (tC (.int i)):=λ_ _ _ H _ I h=>wpAny_Constant_int ⟨.int i,H,I.tok _,⟨_,rfl⟩,h⟩
theorem aT{b j pos}:PE X (.Constant (.bool b) j pos) (tC (.bl b)):=λ_ _ _ H _ I h=>Constant_bool ⟨.bl b,H,I,rfl,h⟩
theorem b7{j pos}:PE X (.Constant .none j pos) (tC .non):=λ_ _ _ H _ I h=>Constant_none ⟨.non,H,I,rfl,h⟩
theorem gE{x j pos}:PE X (.Constant (.str x) j pos) (tC (.str x)):=λ_ _ _ H _ I h=>Calls.Constant_str ⟨.str x,H,I.tok _,⟨_,rfl⟩,h⟩
def Gl(X:Cx)(x:Str):Prop:=X.env.kindOf x=some .globalImplicit
theorem fD{E:Value->Shared->Prop}{pins:List (Addr×Obj)}{s:Shared}{σ:St}{H:Hp}{x:Str}{u:Value}{pos:Pos}{Q:Value->Shared->Prop}(I:Inv X pins σ H s)(hg:Gl X x)(hm:X.mg x=some u)(h:Q u s)
  (hd:(x==("__debug__":Str))=false:=by decide):wpAny (model X.prog X.w) X.A (eval (.Name x pos) X.env) Q E s:=
 Calls.Name_function_global I.ok.kind hg (Calls.loadGlobal_global (by rw[I.ok.glob];exact I.mod.glob.keeps I.bk) hm h) hd
theorem bS{E:Value->Shared->Prop}{pins:List (Addr×Obj)}{s:Shared}{σ:St}{H:Hp}{x:Str}{u:Value}{pos:Pos}{Q:Value->Shared->Prop}(I:Inv X pins σ H s)(hg:Gl X x)(hm:X.mg x=none)(hv:bootBuiltins x=some u)(h:Q u s)
  (hn:x≠"__name__":=by decide)(hd:(x==("__debug__":Str))=false:=by decide):wpAny (model X.prog X.w) X.A (eval (.Name x pos) X.env) Q E s:=by
 obtain⟨mb,h1,h2⟩:=I.mod.blt
 exact Calls.Name_function_global I.ok.kind hg (Calls.loadGlobal_builtin (by rw[I.ok.glob];exact I.mod.glob.keeps I.bk) hm (by rw[I.ok.blt];exact h1.keeps I.bk) ((h2 x hn).trans hv) h) hd
theorem lm{x:Str}{v:V}{u:Value}{pos:Pos}(hg:Gl X x)(hm:X.mg x=none)(hv:bootBuiltins x=some u)(r:RelV v u)(hn:x≠"__name__":=by decide)(hd:(x==("__debug__":Str))=false:=by decide):PE X (.Name x pos) (tC v):=
 λ_ _ _ H _ I h=>bS I hg hm hv ⟨v,H,I,r,h⟩ hn hd
variable{a b:Expr}{ta tb:TE}{pos:Pos}
def PC(X:Cx)(op:CmpOp)(a b:Expr)(t:TE):Prop:=
 ∀(pins:List (Addr×Obj)) (s:Shared) (σ:St) (H:Hp) (Q:VK),Inv X pins σ H s->t σ H Q->
  wpAny (model X.prog X.w) X.A (eval a X.env) (λv s₁=>wpAny (model X.prog X.w) X.A (eval b X.env) (λu s₂=>wpAny (model X.prog X.w) X.A (compareOp op v u) (EP X pins σ Q) X.xe s₂) X.xe s₁) X.xe s
def tB(t:TE):TT:=λσ H Q=>t σ H λx H1=>∃c,x = .bl c/\Q c H1
theorem pt_cmp{op:CmpOp}{t:TE}(h:PC X op a b t)(h1:behindInMarks op b=false:=by first|exact nobehind _ (by decide) (by decide)|rfl):PT X (.Compare a [op] [b] pos) (tB t):=by
 intro pins s σ H Q I hw
 refine wpAny_isTrue_Compare1 (thn (h pins s σ H _ I hw) λv s1 h1=>thn h1 λu s2 h2=>thn h2 λc s3 ⟨x,H1,I1,r1,q1⟩=>?_) h1
 obtain⟨d,rfl,q⟩:=q1
 cases r1
 exact wpAny_truthy_bool ⟨H1,I1,q⟩
theorem aH{e:Expr}{t:TE}(h:PE X e t)(he:∀whole,isTrue e X.env whole=(do let v<-whole;standAt e.pos;holding [v] (truthy v)):=by intro _;rfl):PT X e (tB t):=by
 intro pins s σ H Q I hw
 refine isTrue_plain (thn (h pins s σ H _ I hw) λv s1 ⟨x,H1,I1,r1,q1⟩=>?_) (he _)
 obtain⟨d,rfl,q⟩:=q1
 cases r1
 exact wpAny_truthy_bool ⟨H1,I1,q⟩
variable{tA tB':TT}{rest:List Expr}
def tAnd(t u:TT):TT:=λσ H Q=>t σ H λc H1=>if c=true then u σ H1 Q else Q false H1
def tOr(t u:TT):TT:=λσ H Q=>t σ H λc H1=>if c=true then Q true H1 else u σ H1 Q
def tNot(t:TT):TT:=λσ H Q=>t σ H λc H1=>Q (!c) H1
theorem ez(ha:PT X a tA):PW X (.BoolOp .And [a] pos) tA:=by
 intro wh pins s σ H Q I h
 refine isTrue_and (thn (ha pins s σ H Q I h) λc s1 e=>?_)
 cases c with
 | true=>exact isTrue_and_nil e
 | false=>exact e
theorem bo(ha:PT X a tA):PW X (.BoolOp .Or [a] pos) tA:=by
 intro wh pins s σ H Q I h
 refine isTrue_or (thn (ha pins s σ H Q I h) λc s1 e=>?_)
 cases c with
 | false=>exact isTrue_or_nil e
 | true=>exact e
theorem gA(ha:PT X a tA)(hb:PW X (.BoolOp .And (b::rest) pos) tB'):PW X (.BoolOp .And (a::b::rest) pos) (tAnd tA tB'):=by
 intro wh pins s σ H Q I h
 refine isTrue_and (thn (ha pins s σ H _ I h) λc s1 ⟨H1,I1,q1⟩=>?_)
 cases c with
 | true=>exact hb wh pins s1 σ H1 Q I1 q1
 | false=>exact⟨H1,I1,q1⟩
theorem bA(ha:PT X a tA)(hb:PW X (.BoolOp .Or (b::rest) pos) tB'):PW X (.BoolOp .Or (a::b::rest) pos) (tOr tA tB'):=by
 intro wh pins s σ H Q I h
 refine isTrue_or (thn (ha pins s σ H _ I h) λc s1 ⟨H1,I1,q1⟩=>?_)
 cases c with
 | true=>exact⟨H1,I1,q1⟩
 | false=>exact hb wh pins s1 σ H1 Q I1 q1
theorem aM(ha:PT X a tA):PT X (.UnaryOp .Not a pos) (tNot tA):=by
 intro pins s σ H Q I h
 exact isTrue_not (ha pins s σ H (λc H1=>Q (!c) H1) I h)
def tAndV(ta tb:TE):TE:=λσ H Q=>ta σ H λx H1=>∃c,x = .bl c/\if c=true then tb σ H1 Q else Q (.bl false) H1
def tNotV(ta:TE):TE:=λσ H Q=>ta σ H λx H1=>∃c,x = .bl c/\Q (.bl (!c)) H1
theorem b6{op}{t:TE}(h:PE X a t):PE X (.BoolOp op [a] pos) t:=λpins s σ H Q I hw=>BoolOp_one (h pins s σ H Q I hw)
theorem bP(ha:PE X a ta)(hb:PE X (.BoolOp .And (b::rest) pos) tb):PE X (.BoolOp .And (a::b::rest) pos) (tAndV ta tb):=by
 intro pins s σ H Q I h
 refine BoolOp_and (thn (ha pins s σ H _ I h) λv s1 ⟨x,H1,I1,r1,q1⟩=>?_)
 obtain⟨c,rfl,q1⟩:=q1
 cases r1
 refine wpAny_truthy_bool ?_
 cases c with
 | true=>exact hb pins s1 σ H1 Q I1 q1
 | false=>exact⟨.bl false,H1,I1,rfl,q1⟩
theorem eY(ha:PE X a ta):PE X (.UnaryOp .Not a pos) (tNotV ta):=by
 intro pins s σ H Q I h
 refine UnaryOp_ (thn (ha pins s σ H _ I h) λv s1 ⟨x,H1,I1,r1,q1⟩=>?_)
 obtain⟨c,rfl,q1⟩:=q1
 cases r1
 exact not_of (wpAny_truthy_bool ⟨.bl (!c),H1,I1,rfl,q1⟩)
end
end L2
namespace L2
open PySem PySem.Spec PyProof.Rows
def SqL(K:PySem.W.Frag)(H:Hp)(a:Addr)(xs:List V):Prop:=
 Rd H a (.lst xs)\/
  ∃(o:Obj) (its:Array Value) (n:Nat),K.lookup a=some o/\o.cls = .type "list"/\o.dict=none/\o.data = .seq its n/\its.size<=sizeLine/\Vals xs its.toList
def SqT(K:PySem.W.Frag)(H:Hp)(a:Addr)(xs:List V):Prop:=
 Rd H a (.tup xs)\/
  ∃(o:Obj) (its:Array Value) (n:Nat),K.lookup a=some o/\o.cls = .type "tuple"/\o.data = .seq its n/\its.size<=sizeLine/\Vals xs its.toList
def absV:Value->Option V
 | .none=>some .non
 | .bool b=>some (.bl b)
 | .int i _=>some (.int i)
 | .str x _=>some (.str x)
 | .bytes b _=>some (.byt b)
 | .float b _=>some (.flt b)
 | .ref a=>some (.ref a)
 | .type n=>some (.ty n)
 | _=>none
theorem RelV.abs{x:V}{u:Value}(r:RelV x u):absV u=some x:=by
 cases x with
 | non=>cases r;rfl
 | bl _=>cases r;rfl
 | int _=>obtain⟨t,rfl⟩:=r;rfl
 | str _=>obtain⟨t,rfl⟩:=r;rfl
 | byt _=>obtain⟨t,rfl⟩:=r;rfl
 | flt _=>obtain⟨t,rfl⟩:=r;rfl
 | ref _=>cases r;rfl
 | ty _=>cases r;rfl
theorem RelV.inj{x y:V}{u:Value}(r:RelV x u)(q:RelV y u):x=y:=Option.some.inj (r.abs.symm.trans q.abs)
theorem Vals.inj:∀{xs ys:List V} {us:List Value},Vals xs us->Vals ys us->xs=ys
 | _,_,_,.nil,.nil=>rfl
 | _,_,_,.cons r t,.cons r' t'=>by rw[r.inj r',Vals.inj t t']
section
variable{X:Cx}{pins:List (Addr×Obj)}{σ:St}{H:Hp}{s:Shared}{a:Addr}{xs ys:List V}
theorem SqL.of{K:PySem.W.Frag}(h:H a=some (.lst xs)):SqL K H a xs:= .inl (.inl h)
theorem SqT.of{K:PySem.W.Frag}(h:H a=some (.tup xs)):SqT K H a xs:= .inl (.inl h)
theorem Inv.list(I:Inv X pins σ H s)(h:SqL X.K H a xs):∃its:List Value,Vals xs its/\PlainL s.heap a its.toArray/\xs.length<=sizeLine:=by
 rcases h with h|⟨o,its,n,hk,hc,hd,hs,hz,r⟩
 ·obtain⟨z,its,n,r,e⟩:=h.ok I.hok
  exact⟨its,r,⟨_,n,e,rfl,rfl,rfl⟩,z⟩
 ·refine⟨its.toList,r,⟨o,n,I.kIn a o hk,hc,hd,by simpa using hs⟩,?_⟩
  have e:=r.length
  simp only[Array.length_toList]at e
  omega
theorem Inv.tuple(I:Inv X pins σ H s)(h:SqT X.K H a xs):∃its:List Value,Vals xs its/\IsTup s.heap a its.toArray/\xs.length<=sizeLine:=by
 rcases h with h|⟨o,its,n,hk,hc,hs,hz,r⟩
 ·obtain⟨z,its,r,p⟩:=h.ok I.hok
  exact⟨its,r,p,z⟩
 ·refine⟨its.toList,r,⟨o,I.kIn a o hk,hc,n,by simpa using hs⟩,?_⟩
  have e:=r.length
  simp only[Array.length_toList]at e
  omega
theorem Inv.list_inj(I:Inv X pins σ H s)(h:SqL X.K H a xs)(h':SqL X.K H a ys):xs=ys:=by
 obtain⟨its,r,⟨o,n,e,_,_,d⟩,_⟩:=I.list h
 obtain⟨its',r',⟨o',n',e',_,_,d'⟩,_⟩:=I.list h'
 rw[e]at e';cases e'
 rw[d]at d'
 injection d' with d1 _
 have:its=its':=by simpa using congrArg Array.toList d1
 subst this
 exact r.inj r'
theorem Inv.tuple_inj(I:Inv X pins σ H s)(h:SqT X.K H a xs)(h':SqT X.K H a ys):xs=ys:=by
 obtain⟨its,r,⟨o,e,_,n,d⟩,_⟩:=I.tuple h
 obtain⟨its',r',⟨o',e',_,n',d'⟩,_⟩:=I.tuple h'
 rw[e]at e';cases e'
 rw[d]at d'
 injection d' with d1 _
 have:its=its':=by simpa using congrArg Array.toList d1
 subst this
 exact r.inj r'
end
abbrev Cx.wish(X:Cx)(E:Value->Shared->Prop):Cx:={X with xe:=E}
abbrev Cx.nox(X:Cx):Cx:=X.wish λ_ _=>False
theorem Cx.Ok.wish{X:Cx}(ok:X.Ok)(E:Value->Shared->Prop):(X.wish E).Ok:=
 ⟨ok.mod,ok.kind,ok.glob,ok.blt,ok.above,ok.inj,ok.has,ok.cab,ok.hd,ok.frames,ok.stk,ok.exf,ok.bs,ok.bsz,ok.noex,ok.exfs,ok.funs,ok.frf⟩
theorem Cx.Ok.unwish{X:Cx}{E:Value->Shared->Prop}(ok:(X.wish E).Ok):X.Ok:=
 ⟨ok.mod,ok.kind,ok.glob,ok.blt,ok.above,ok.inj,ok.has,ok.cab,ok.hd,ok.frames,ok.stk,ok.exf,ok.bs,ok.bsz,ok.noex,ok.exfs,ok.funs,ok.frf⟩
section
variable{X:Cx}{pins:List (Addr×Obj)}{σ:St}{H:Hp}{s:Shared}{E:Value->Shared->Prop}
theorem Inv.wish(I:Inv X pins σ H s)(E:Value->Shared->Prop):Inv (X.wish E) pins σ H s:=⟨I.ok.wish E,I.os,I.bare,I.base,I.loc,I.cell,I.free,I.freeC,I.pin,I.hok,I.len⟩
theorem Inv.unwish(I:Inv (X.wish E) pins σ H s):Inv X pins σ H s:=⟨I.ok.unwish,I.os,I.bare,I.base,I.loc,I.cell,I.free,I.freeC,I.pin,I.hok,I.len⟩
theorem SP.unwish{D:Ends}{f:Flow}{s':Shared}(h:SP (X.wish E) pins D f s'):SP X pins D f s':=by
 cases f with
 | next=>obtain⟨σ',H',I,q⟩:=h;exact⟨σ',H',I.unwish,q⟩
 | brk=>obtain⟨σ',H',I,q⟩:=h;exact⟨σ',H',I.unwish,q⟩
 | cont=>obtain⟨σ',H',I,q⟩:=h;exact⟨σ',H',I.unwish,q⟩
 | ret u=>obtain⟨v,σ',H',I,r,q⟩:=h;exact⟨v,σ',H',I.unwish,r,q⟩
theorem PSs.nox{st:List Stmt}{t:TS}(h:PSs X.nox st t):PSs X st t:=λpins s σ H D I hw=>
 wpAny_mono (h pins s σ H D (I.wish _) hw) (λ_ _ q=>q.unwish) λ_ _ z=>False.elim z
end
section
variable{X:Cx}{st:Stmt}{rest:List Stmt}{t u:TS}{e:Expr}{te:TE}{pos:Pos}
def tNext:TS:=λD σ H=>D.nx σ H
def tSeq(t u:TS):TS:=λD σ H=>t {D with nx:=u D} σ H
theorem ar:PSs X [] tNext:=λ_ _ σ H _ I h=>wpAny_execs_nil ⟨σ,H,I,h⟩
theorem ad(h1:PS X st t)(h2:PSs X rest u):PSs X (st::rest) (tSeq t u):=by
 intro pins s σ H D I h
 refine wpAny_execs_cons (thn (h1 pins s σ H {D with nx:=u D} I h) λf s1 q=>?_)
 cases f with
 | next=>
  obtain⟨σ',H',I',q⟩:=q
  exact h2 pins s1 σ' H' D I' q
 | ret v=>exact q
 | brk=>exact q
 | cont=>exact q
theorem ag(h1:PS X st t):PSs X [st] t:=by
 intro pins s σ H D I h
 refine wpAny_execs_cons (thn (h1 pins s σ H D I h) λf s1 q=>?_)
 cases f with
 | next=>exact wpAny_execs_nil q
 | ret v=>exact q
 | brk=>exact q
 | cont=>exact q
def tBreak:TS:=λD σ H=>D.bk σ H
theorem kM:PS X (.Break pos) tBreak:=λ_ _ σ H _ I h=>wpAny_Break ⟨σ,H,I,h⟩
theorem Inv.quiet{pins:List (Addr×Obj)}{σ:St}{H:Hp}{s:Shared}(I:Inv X pins σ H s):interactive X.env=false:=by simp[interactive,I.ok.kind]
def tDrop(te:TE):TS:=λD σ H=>te σ H λ_ H1=>D.nx σ H1
theorem bQ(he:PE X e te)(hs:swapsWith e none pos.line X.env=pure false:=by rfl):PS X (.Expr e pos) (tDrop te):=by
 intro pins s σ H D I h
 exact wpAny_Expr_any (thn (he pins s σ H _ I h) λv s1 ⟨x,H1,I1,r1,q1⟩=>⟨σ,H1,I1,q1⟩) I.quiet hs
def tRet(te:TE):TS:=λD σ H=>te σ H D.rt
theorem ao(he:PE X e te):PS X (.Return (some e) pos) (tRet te):=by
 intro pins s σ H D I h
 exact wpAny_Return_some (thn (he pins s σ H _ I h) λv s1 ⟨x,H1,I1,r1,q1⟩=>⟨x,σ,H1,I1,r1,q1⟩)
def tIfS(c:TT)(t u:TS):TS:=λD σ H=>c σ H λb H1=>if b=true then t D σ H1 else u D σ H1
theorem aJ{c:Expr}{a b:List Stmt}{tc:TT}(hc:PT X c tc)(ha:PSs X a t)(hb:PSs X b u):PS X (.If c a b pos) (tIfS tc t u):=by
 intro pins s σ H D I h
 refine wpAny_If (thn (hc pins s σ H _ I h) λd s1 ⟨H1,I1,q1⟩=>?_)
 cases d with
 | true=>exact ha pins s1 σ H1 D I1 q1
 | false=>exact hb pins s1 σ H1 D I1 q1
end
abbrev TG:=V->St->Hp->(St->Hp->Prop)->Prop
abbrev TGs:=List V->St->Hp->(St->Hp->Prop)->Prop
def PG(X:Cx)(target:Expr)(t:TG):Prop:=
 ∀(pins:List (Addr×Obj)) (s:Shared) (σ:St) (H:Hp) (v:V) (u:Value) (Q:St->Hp->Prop),Inv X pins σ H s->RelV v u->t v σ H Q->
  wpAny (model X.prog X.w) X.A (assign target X.env u) (λ_ s'=>∃σ' H',Inv X pins σ' H' s'/\Q σ' H') X.xe s
def PGs(X:Cx)(ts:List Expr)(t:TGs):Prop:=
 ∀(pins:List (Addr×Obj)) (s:Shared) (σ:St) (H:Hp) (vs:List V) (us:List Value) (Q:St->Hp->Prop),Inv X pins σ H s->Vals vs us->t vs σ H Q->
  wpAny (model X.prog X.w) X.A (assignInOrder ((assignEach ts X.env).map (·.2)) us) (λ_ s'=>∃σ' H',Inv X pins σ' H' s'/\Q σ' H') X.xe s
abbrev TSet:=V->V->V->Hp->(Hp->Prop)->Prop
def PSet(X:Cx)(t:TSet):Prop:=
 ∀(pins:List (Addr×Obj)) (s:Shared) (σ:St) (H:Hp) (o i v:V) (ov iv u:Value) (Q:Hp->Prop),Inv X pins σ H s->RelV o ov->RelV i iv->RelV v u->t o i v H Q->
  wpAny (model X.prog X.w) X.A (setItem ov iv u) (λ_ s'=>∃H',Inv X pins σ H' s'/\Q H') X.xe s
section
variable{X:Cx}{pos:Pos}
def gName(i:Nat):TG:=λv σ H Q=>Q (σ.set i (some v)) H
theorem am{i:Nat}{x:Str}(hN:X.N.Nodup)(hi:X.N[i]?=some x)(hx:Loc X.env.scope x)(hf:X.fn x=true\/X.env.scope.names.lookup x=some .local:=by first|exact .inl rfl|exact .inr rfl|assumption):PG X (.Name x pos) (gName i):=by
 intro pins s σ H v u Q I r h
 exact wpAny_assign_Name (dC I hN hi hx r (λs' I'=>⟨_,H,I',h⟩) hf)
def gNil:TGs:=λvs σ H Q=>vs=[]/\Q σ H
def gCons(t:TG)(u:TGs):TGs:=λvs σ H Q=>∃v r,vs=v::r/\t v σ H λσ' H'=>u r σ' H' Q
theorem bH:PGs X [] gNil:=by
 intro pins s σ H vs us Q I r h
 obtain⟨e,h⟩:=h
 subst e
 cases r
 exact assignInOrder_nil ⟨σ,H,I,h⟩
theorem aG{e:Expr}{es:List Expr}{t:TG}{u:TGs}(h1:PG X e t)(h2:PGs X es u)
  (hs:(assignEach (e::es) X.env).map (·.2)=assign e X.env::(assignEach es X.env).map (·.2):=by rfl):PGs X (e::es) (gCons t u):=by
 intro pins s σ H vs us Q I r h
 obtain⟨v,vr,e1,h⟩:=h
 subst e1
 cases r with
 | cons r rr=>
  rw[hs]
  refine assignInOrder_cons (thn (h1 pins s σ H _ _ _ I r h) λ_ s1 ⟨σ1,H1,I1,q1⟩=>?_)
  exact h2 pins s1 σ1 H1 _ _ Q I1 rr q1
def gTup(K:PySem.W.Frag)(n:Nat)(t:TGs):TG:=λv σ H Q=>∃a xs,v = .ref a/\SqT K H a xs/\xs.length=n/\t xs σ H Q
theorem de{es:List Expr}{k:Nat}{t:TGs}{n:Nat}(hc:X.calm=true)(h:PGs X es t)
  (hn:(assignEach es X.env).length=n:=by rfl)(hst:(assignEach es X.env).findIdx? (·.1)=none:=by rfl):PG X (.Tuple es k pos) (gTup X.K n t):=by
 intro pins s σ H v u Q I r hw
 obtain⟨a,xs,e1,hq,hl,hw⟩:=hw
 subst e1
 cases r
 obtain⟨its,rv,ht,hz⟩:=I.tuple hq
 refine assign_Tuple_tuple (I.ok.hd hc) ht (by simp[hn,<-hl,rv.length]) hst λh' hx=>?_
 have I1:Inv X pins σ H {s with heap:=h'}:=I.kept (t':=s.toks) λb o e=>hx b o (Nat.ne_of_lt (Heap.lt_size e)) e
 exact h pins _ σ H xs _ Q I1 (by simpa using rv) hw
def gSub(to ti:TE)(t:TSet):TG:=λv σ H Q=>to σ H λo H1=>ti σ H1 λi H2=>t o i v H2 λH3=>Q σ H3
theorem dh{o i:Expr}{to ti:TE}{t:TSet}(ho:PE X o to)(hi:PE X i ti)(hs:PSet X t)
  (ha:∀v,assign (.Subscript o i pos) X.env v=(do
   let ov<-holding [v] (eval o X.env)
   let iv<-holding [v,ov] (eval i X.env)
   standAt pos
   holding [v,ov,iv] (setItem ov iv v)
   release [v,ov,iv] []):=by intro _;rfl):PG X (.Subscript o i pos) (gSub to ti t):=by
 intro pins s σ H v u Q I r h
 rw[ha]
 refine wpAny_bind (wpAny_holding (thn (ho pins s σ H _ I h) λov s1 ⟨x,H1,I1,r1,q1⟩=>?_))
 refine wpAny_bind (wpAny_holding (thn (hi pins s1 σ H1 _ I1 q1) λiv s2 ⟨y,H2,I2,r2,q2⟩=>?_))
 refine wpAny_bind (wpAny_standAt (wpAny_bind (wpAny_holding (thn (hs pins s2 σ H2 x y v ov iv u _ I2 r1 r2 r q2) λ_ s3 ⟨H3,I3,q3⟩=>?_))))
 exact wpAny_release ⟨σ,H3,I3,q3⟩
def tAsg(te:TE)(g:TG):TS:=λD σ H=>te σ H λx H1=>g x σ H1 D.nx
theorem cp{tg e:Expr}{te:TE}{g:TG}(he:PE X e te)(hg:PG X tg g)(hs:swapsWithSole [tg] e pos.line X.env=pure false:=by rfl)(hw:swappedStores [tg] e X.env=pure none:=by rfl)
  (h1:(assignEach [tg] X.env).map (·.2)=[assign tg X.env]:=by rfl):PS X (.Assign [tg] e pos) (tAsg te g):=by
 intro pins s σ H D I h
 refine wpAny_Assign_stores (thn (he pins s σ H _ I h) λv s1 ⟨x,H1,I1,r1,q1⟩=>?_) hs hw
 rw[h1]
 exact thn (hg pins s1 σ H1 x v _ I1 r1 q1) λ_ s2 q=>q
theorem aw{i:Nat}{x:Str}{e:Expr}{te:TE}{pos':Pos}(hN:X.N.Nodup)(hi:X.N[i]?=some x)(hx:Loc X.env.scope x)(he:PE X e te)(hs:swapsWith e (some (.Name x pos')) pos.line X.env=pure false:=by rfl)(hf:X.fn x=true\/X.env.scope.names.lookup x=some .local:=by first|exact .inl rfl|exact .inr rfl|assumption):
  PS X (.Assign [.Name x pos'] e pos) (tAsg te (gName i)):=by
 intro pins s σ H D I h
 refine wpAny_Assign_Name (thn (he pins s σ H _ I h) λv s1 ⟨y,H1,I1,r1,q1⟩=>?_) hs
 exact dC I1 hN hi hx r1 (λs2 I2=>⟨_,H1,I2,q1⟩) hf
def tPar(i j:Nat)(ta:TA):TS:=λD σ H=>ta σ H λvs H1=>∃v w,vs=[v,w]/\D.nx ((σ.set i (some v)).set j (some w)) H1
theorem lV{i j:Nat}{x y:Str}{a b:Expr}{ta:TA}{px py pt:Pos}{kt k2 pt2}(hc:X.calm=true)(hN:X.N.Nodup)(hi:X.N[i]?=some x)(hj:X.N[j]?=some y)(hij:i≠j)
  (hx:X.env.scope.names.lookup x=some .local)(hy:X.env.scope.names.lookup y=some .local)(ha:PA X [a,b] ta)
  (hw:swappedStores [.Tuple [.Name x px,.Name y py] kt pt] (.Tuple [a,b] k2 pt2) X.env=pure (some [x,y]))
  (hs:swapsWithSole [.Tuple [.Name x px,.Name y py] kt pt] (.Tuple [a,b] k2 pt2) pos.line X.env=pure false:=by rfl):
  PS X (.Assign [.Tuple [.Name x px,.Name y py] kt pt] (.Tuple [a,b] k2 pt2) pos) (tPar i j ta):=by
 intro pins s σ H D I h
 rw[exec_Assign_arm]
 refine wpAny_bind (wpAny_standAt ?_)
 rw[hs]
 refine wpAny_bind (wpAny_pure ?_)
 rw[if_neg (by decide)]
 refine wpAny_bind (Tuple_ (thn (ha _ pins s σ H _ I h) λus s1 ⟨vs,H1,I1,r1,q1⟩=>?_))
 obtain⟨v,w,e1,q1⟩:=q1
 subst e1
 obtain⟨u1,u2,rfl,rv,rw'⟩:∃u1 u2,us=[u1,u2]/\RelV v u1/\RelV w u2:=by
  cases r1 with
  | cons p q=>
   cases q with
   | cons p' q'=>
    cases q'
    exact⟨_,_,rfl,p,p'⟩
 refine wpAny_newObj_type ?_ (by show 2<=sizeLine;decide)
 have I2:Inv X pins σ H1 {s1 with heap:=s1.heap.push {cls:= .type "tuple",data:= .seq [u1,u2].toArray}}:=I1.kept (t':=s1.toks) λb o e=>Heap.get?_push_of_some _ e
 rw[hw]
 refine wpAny_bind (wpAny_pure ?_)
 show wpAny (model X.prog X.w) X.A (do rule "assign.swapped-stores";let items<-unpackItems (.ref s1.heap.objs.size) 2 none;assignInOrder [λv=>bindName X.env y v,λv=>bindName X.env x v] items.reverse;pure Flow.next) _ _ _
 refine wpAny_bind (wpAny_rule (wpAny_bind (unpackItems_tuple (items:= #[u1,u2]) (I.ok.hd hc) (IsTup.new s1.heap _) λh' hx'=>?_)))
 have I3:=I2.kept (h':=h') (t':=s1.toks) λb o e=>hx' b o (Nat.ne_of_lt (Heap.lt_size e)) e
 show wpAny _ _ (assignInOrder [λv=>bindName X.env y v,λv=>bindName X.env x v] [u2,u1] >>= λ_=>pure Flow.next) _ _ _
 refine wpAny_bind (assignInOrder_cons (wpAny_bindName (dC I3 hN hj (.inl hy) rw' (λs2 I4=>?_) (.inr hy))))
 refine assignInOrder_cons (wpAny_bindName (dC I4 hN hi (.inl hx) rv (λs3 I5=>assignInOrder_nil (wpAny_pure ?_)) (.inr hx)))
 rw[List.set_comm _ _ (Ne.symm hij)]at I5
 exact⟨_,H1,I5,q1⟩
end
section
variable{X:Cx}{pos:Pos}
def tWhile(c:TT)(tb:TS):TS:=λD σ H=>∃W:Nat->St->Hp->Prop,(∃m,W m σ H)/\∀m σ H,W m σ H->
 c σ H λb H1=>if b=true then ∃N:St->Hp->Prop,(∀σ' H',N σ' H'->∃m',m'<m/\W m' σ' H')/\tb {D with nx:=N,ct:=N,bk:=D.nx} σ H1 else D.nx σ H1
theorem bW{c:Expr}{body:List Stmt}{tc:TT}{tb:TS}(hp:PassesOwn (model X.prog X.w) X.A X.env X.xe)(hc:PT X c tc)(hb:PSs X body tb):PS X (.While c body [] pos) (tWhile tc tb):=by
 intro pins s σ H D I h
 obtain⟨W,⟨m0,w0⟩,turn⟩:=h
 refine wpAny_While (codeAny_whileLoop (λn s'=>∃σ' H',Inv X pins σ' H' s'/\W n σ' H') ?_ m0 ⟨σ,H,I,w0⟩)
 rintro n s1 ⟨σ1,H1,I1,w1⟩
 refine wpAny_passesOwn hp (thn (hc pins s1 σ1 H1 _ I1 (turn n σ1 H1 w1)) λb s2 ⟨H2,I2,q2⟩=>?_)
 cases b with
 | true=>
  obtain⟨N,hN,q2⟩:=q2
  rw[if_pos rfl]
  refine wpAny_passesOwn hp (thn (hb pins s2 σ1 H2 _ I2 q2) λf s3 q3=>?_)
  cases f with
  | next=>
   obtain⟨σ3,H3,I3,n3⟩:=q3
   obtain⟨m',hm,w3⟩:=hN σ3 H3 n3
   exact⟨m',hm,σ3,H3,I3,w3⟩
  | cont=>
   obtain⟨σ3,H3,I3,n3⟩:=q3
   obtain⟨m',hm,w3⟩:=hN σ3 H3 n3
   exact⟨m',hm,σ3,H3,I3,w3⟩
  | brk=>exact q3
  | ret v=>exact q3
 | false=>
  rw[if_neg Bool.false_ne_true]
  exact wpAny_execs_nil ⟨σ1,H2,I2,q2⟩
end
structure It where
 go:Nat->Hp->Prop
 yld:Nat->Hp->V->Hp->Prop
 stop:Nat->Hp->Prop
def FpOk(X:Cx)(pins:List (Addr×Obj))(H:Hp)(b:Addr):Prop:=
 H b=none/\b≠X.env.locals/\b∉X.fs/\(b∈X.ex\/X.s₀.heap.objs.size<=b)/\(∀x c,X.env.cells.lookup x=some c->c≠b)/\∀p∈X.pn++pins,p.1≠b
theorem Inv.fpOk{X:Cx}{pins:List (Addr×Obj)}{σ:St}{H H':Hp}{s:Shared}{b:Addr}(I:Inv X pins σ H s)(hb:s.heap.objs.size<=b)(hn:H' b=none):FpOk X pins H' b:=by
 refine⟨hn,Nat.ne_of_gt (Nat.lt_of_lt_of_le I.lt hb),I.nofs hb,.inr (Nat.le_trans I.sz hb),λx c e z=>?_,λp hp z=>?_⟩
 ·obtain⟨v,q⟩:=I.cell x c e
  exact absurd (Nat.lt_of_lt_of_le q.lt (by rw[z];exact hb)) (Nat.lt_irrefl _)
 ·exact absurd (Nat.lt_of_lt_of_le (Heap.lt_size (I.pin p hp).1) (by rw[z];exact hb)) (Nat.lt_irrefl _)
structure Turn(P:Program)(w:World)(K:PySem.W.Frag)(tg:Expr)(J:It)(fp:List Addr)(it:Addr)(tn:Nat->Heap->Prop):Prop where
 mem:it∈fp
 obj:∀i h,tn i h->∀b∈fp,∃o,h.get? b=some o/\∀v,o.data≠ .cell v
 keep:∀i h h',tn i h->(∀b∈fp,∀o,h.get? b=some o->h'.get? b=some o)->tn i h'
 item:∀(X:Cx),X.prog=P->X.w=w->X.K=K->X.calm=true->∀(i:Nat) (pins:List (Addr×Obj)) (s:Shared) (σ:St) (H:Hp) (E:Value->Shared->Prop),Inv X pins σ H s->(∀b∈fp,FpOk X pins H b)->tn i s.heap->J.go i H->
  wpAny (model P w) X.A (pyNext (.ref it)) (λr s1=>∃u,r=some u/\
   wpAny (model P w) X.A (letOwnedTupleGo tg (.ref it) u) (λ_ s2=>∃x H',Inv X pins σ H' s2/\RelV x u/\J.yld i H x H'/\tn (i+1) s2.heap/\∀b∈fp,H' b=none) E s1) E s
 done:∀(X:Cx),X.prog=P->X.w=w->X.K=K->X.calm=true->∀(i:Nat) (pins:List (Addr×Obj)) (s:Shared) (σ:St) (H:Hp) (E:Value->Shared->Prop),Inv X pins σ H s->(∀b∈fp,FpOk X pins H b)->tn i s.heap->J.stop i H->
  wpAny (model P w) X.A (pyNext (.ref it)) (λr s1=>r=none/\Inv X pins σ H s1) E s
 self:∀(A:Around) (i:Nat) (s:Shared) (Q:Value->Shared->Prop) (E:Value->Shared->Prop),tn i s.heap->Q (.ref it) s->wpAny (model P w) A (pyIter (.ref it)) Q E s
abbrev TI:=St->Hp->(It->Hp->Prop)->Prop
def PIE(X:Cx)(pins:List (Addr×Obj))(σ:St)(tg:Expr)(R:It->Hp->Prop)(itv:Value)(s2:Shared):Prop:=
 ∃(it:Addr) (fp:List Addr) (tn:Nat->Heap->Prop) (J:It) (H':Hp),itv = .ref it/\Inv X pins σ H' s2/\Turn X.prog X.w X.K tg J fp it tn/\tn 0 s2.heap/\(∀b∈fp,FpOk X pins H' b)/\R J H'
def PI(X:Cx)(tg iter:Expr)(wi:TI):Prop:=
 ∀(pins:List (Addr×Obj)) (s:Shared) (σ:St) (H:Hp) (R:It->Hp->Prop),Inv X pins σ H s->wi σ H R->
  wpAny (model X.prog X.w) X.A (eval iter X.env) (λv s1=>wpAny (model X.prog X.w) X.A (pyIter v) (PIE X pins σ tg R) X.xe s1) X.xe s
theorem lA{M:Model}{A:Around}{E:Value->Shared->Prop}{s:Shared}{tg:Expr}{it:Addr}{u:Value}{o:Obj}{n:String}{vs:Array Value}{Q:Unit->Shared->Prop}(ho:s.heap.get? it=some o)(hc:o.cls = .type n)(hd:o.data = .fields vs)
  (hn:["enumerate","zip","dict_itemiterator","dict_reverseitemiterator","odict_iterator","itertools.zip_longest","itertools.pairwise"].contains n=false)(hQ:Q () s):wpAny M A (letOwnedTupleGo tg (.ref it) u) Q E s:=by
 unfold letOwnedTupleGo
 cases tg <;> first
  | exact wpAny_pure hQ
  | (cases u <;> first
    | exact wpAny_pure hQ
    | (refine wpAny_bind (wpAny_load ho ?_);rw[hc,hd];show wpAny M A (if(["enumerate","zip","dict_itemiterator","dict_reverseitemiterator","odict_iterator","itertools.zip_longest","itertools.pairwise"].contains n&&vs[0]?==some (rawInt _))=true then _ else _) Q E s;rw[if_neg (by intro h;rw[hn,Bool.false_and]at h;cases h)];exact wpAny_pure hQ))
def Itl(K:PySem.W.Frag)(a:Addr):It:=
 ⟨λi H=>∃xs x,SqL K H a xs/\xs[i]?=some x,λi H x H'=>H'=H/\∀xs,SqL K H a xs->xs[i]?=some x,λi H=>∃xs,SqL K H a xs/\xs.length<=i⟩
def Itt(K:PySem.W.Frag)(a:Addr):It:=
 ⟨λi H=>∃xs x,SqT K H a xs/\xs[i]?=some x,λi H x H'=>H'=H/\∀xs,SqT K H a xs->xs[i]?=some x,λi H=>∃xs,SqT K H a xs/\xs.length<=i⟩
def Itr(lo:Int)(n:Nat):It:=⟨λi _=>i<n,λi H x H'=>H'=H/\x = .int (lo+i),λi _=>n<=i⟩
theorem jZ{P:Program}{w:World}{K:PySem.W.Frag}{tg:Expr}(a it:Addr):Turn P w K tg (Itl K a) [it] it (λi h=>h.IsListIter it a i) where
 mem:=by simp
 obj:=λi h st b hb=>by
  have e:b=it:=by simpa using hb
  subst e
  obtain⟨o,e,c,d⟩:=st
  exact⟨o,e,λv z=>by rw[d]at z;cases z⟩
 keep:=λi h h' st k=>st.at λo e=>k it (by simp) o e
 item:=by
  intro X hP hw hK hc i pins s σ H E I hf st hg
  subst hP hw hK
  obtain⟨xs,x,hq,hx⟩:=hg
  obtain⟨its,rv,p,hz⟩:=I.list hq
  obtain⟨u,hu,ru⟩:=rv.get hx
  obtain⟨f0,f1,f2,f3,f4,f5⟩:=hf it (by simp)
  refine wpAny_pyNext_list_item st p.isList (x:=u) (by simpa using hu) λh' st' sb=>?_
  have I1:Inv X pins σ H {s with heap:=h'}:=I.turned (t':=s.toks) (λb o hb e=>(sb.2 b hb).trans e) f0 f1 f3 f4 f5
  obtain⟨o,e,c,d⟩:=id st'
  exact⟨u,rfl,lA (s:={s with heap:=h'}) e c d (by decide) ⟨x,H,I1,ru,⟨rfl,λys hy=>by rw[I.list_inj hy hq];exact hx⟩,st',λb hb=>(hf b hb).1⟩⟩
 done:=by
  intro X hP hw hK hc i pins s σ H E I hf st hg
  subst hP hw hK
  obtain⟨xs,hq,hx⟩:=hg
  obtain⟨its,rv,p,hz⟩:=I.list hq
  obtain⟨f0,f1,f2,f3,f4,f5⟩:=hf it (by simp)
  have hl:=rv.length
  exact wpAny_pyNext_list_end (I.ok.hd hc) st p.isList (by simp;omega) λh' eb=>⟨rfl,I.turned (t':=s.toks) (λb o hb e=>eb b o hb e) f0 f1 f3 f4 f5⟩
 self:=λ_ _ _ _ _ st h=>wpAny_pyIter_listiter st h
theorem iz{P:Program}{w:World}{K:PySem.W.Frag}{tg:Expr}(a it:Addr):Turn P w K tg (Itt K a) [it] it (λi h=>h.IsTupleIter it a i) where
 mem:=by simp
 obj:=λi h st b hb=>by
  have e:b=it:=by simpa using hb
  subst e
  obtain⟨o,e,c,d⟩:=st
  exact⟨o,e,λv z=>by rw[d]at z;cases z⟩
 keep:=λi h h' st k=>st.at λo e=>k it (by simp) o e
 item:=by
  intro X hP hw hK hc i pins s σ H E I hf st hg
  subst hP hw hK
  obtain⟨xs,x,hq,hx⟩:=hg
  obtain⟨its,rv,p,hz⟩:=I.tuple hq
  obtain⟨u,hu,ru⟩:=rv.get hx
  obtain⟨f0,f1,f2,f3,f4,f5⟩:=hf it (by simp)
  refine wpAny_pyNext_tuple_item st (show s.heap.IsTuple a its.toArray from p) (x:=u) (by simpa using hu) λh' st' sb=>?_
  have I1:Inv X pins σ H {s with heap:=h'}:=I.turned (t':=s.toks) (λb o hb e=>(sb.2 b hb).trans e) f0 f1 f3 f4 f5
  obtain⟨o,e,c,d⟩:=id st'
  exact⟨u,rfl,lA (s:={s with heap:=h'}) e c d (by decide) ⟨x,H,I1,ru,⟨rfl,λys hy=>by rw[I.tuple_inj hy hq];exact hx⟩,st',λb hb=>(hf b hb).1⟩⟩
 done:=by
  intro X hP hw hK hc i pins s σ H E I hf st hg
  subst hP hw hK
  obtain⟨xs,hq,hx⟩:=hg
  obtain⟨its,rv,p,hz⟩:=I.tuple hq
  obtain⟨f0,f1,f2,f3,f4,f5⟩:=hf it (by simp)
  have hl:=rv.length
  exact wpAny_pyNext_tuple_end (I.ok.hd hc) st (show s.heap.IsTuple a its.toArray from p) (by simp;omega) λh' eb=>⟨rfl,I.turned (t':=s.toks) (λb o hb e=>eb b o hb e) f0 f1 f3 f4 f5⟩
 self:=λ_ _ _ _ _ st h=>wpAny_pyIter_tupleiter st h
theorem iX{P:Program}{w:World}{K:PySem.W.Frag}{tg:Expr}(it:Addr)(lo:Int)(n:Nat):Turn P w K tg (Itr lo n) [it] it (λi h=>IsRangeIter h it (lo+(i:Nat)*1) ((n:Int)-(i:Nat)) 1) where
 mem:=by simp
 obj:=λi h st b hb=>by
  have e:b=it:=by simpa using hb
  subst e
  exact⟨_,st,λv z=>by
   have z':Data.fields _=Data.cell v:=z
   cases z'⟩
 keep:=λi h h' st k=>k it (by simp) _ st
 item:=by
  intro X hP hw hK hc i pins s σ H E I hf st hg
  subst hP hw hK
  obtain⟨f0,f1,f2,f3,f4,f5⟩:=hf it (by simp)
  have W:=Walks.range (prog:=X.prog) (w:=X.w) (I.ok.hd hc) it lo 1 n
  refine W.item i s _ _ hg st λv h' tk hv st' kk=>?_
  obtain⟨t,rfl⟩:=hv
  have I1:Inv X pins σ H {s with heap:=h',toks:=tk}:=I.turned (λb o hb e=>kk b o (by simpa using hb) e) f0 f1 f3 f4 f5
  refine⟨_,rfl,lA (s:={s with heap:=h',toks:=tk}) (n:="range_iterator") st' rfl rfl (by decide) ⟨.int (lo+i),H,I1,⟨t,?_⟩,⟨rfl,rfl⟩,st',λb hb=>(hf b hb).1⟩⟩
  rw[Int.mul_one]
 done:=by
  intro X hP hw hK hc i pins s σ H E I hf st hg
  subst hP hw hK
  obtain⟨f0,f1,f2,f3,f4,f5⟩:=hf it (by simp)
  exact wpAny_pyNext_range_end (I.ok.hd hc) st (by have:n<=i:=hg;omega) λh' eb=>⟨rfl,I.turned (t':=s.toks) (λb o hb e=>eb b o hb e) f0 f1 f3 f4 f5⟩
 self:=λ_ _ _ _ _ st h=>wpAny_pyIter_rangeiter st h
end L2
namespace L2
open PySem PySem.Spec PyProof.Rows
section
variable{X:Cx}{tg:Expr}
def iList(K:PySem.W.Frag)(tl:TE):TI:=λσ H R=>tl σ H λx H1=>∃a,x = .ref a/\(∃xs,SqL K H1 a xs)/\R (Itl K a) H1
def iTup(K:PySem.W.Frag)(tl:TE):TI:=λσ H R=>tl σ H λx H1=>∃a,x = .ref a/\(∃xs,SqT K H1 a xs)/\R (Itt K a) H1
theorem aN{l:Expr}{tl:TE}(hl:PE X l tl):PI X tg l (iList X.K tl):=by
 intro pins s σ H R I h
 refine thn (hl pins s σ H _ I h) λv s1 ⟨x,H1,I1,r1,q1⟩=>?_
 obtain⟨a,e,⟨xs,hq⟩,q⟩:=q1
 subst e
 cases r1
 obtain⟨its,rv,p,hz⟩:=I1.list hq
 refine wpAny_pyIter_list p.isList ?_
 refine⟨s1.heap.objs.size,[s1.heap.objs.size],_,_,H1,rfl,I1.kept (t':=s1.toks) λb o e=>Heap.get?_push_of_some _ e,jZ a _,⟨_,Heap.get?_push_size _ rfl,rfl,rfl⟩,λb hb=>?_,q⟩
 have e:b=s1.heap.objs.size:=by simpa using hb
 subst e
 exact I1.fpOk (Nat.le_refl _) (I1.hok.fresh (Nat.le_refl _))
theorem df{l:Expr}{tl:TE}(hl:PE X l tl):PI X tg l (iTup X.K tl):=by
 intro pins s σ H R I h
 refine thn (hl pins s σ H _ I h) λv s1 ⟨x,H1,I1,r1,q1⟩=>?_
 obtain⟨a,e,⟨xs,hq⟩,q⟩:=q1
 subst e
 cases r1
 obtain⟨its,rv,p,hz⟩:=I1.tuple hq
 refine wpAny_pyIter_tuple (show s1.heap.IsTuple a its.toArray from p) ?_
 refine⟨s1.heap.objs.size,[s1.heap.objs.size],_,_,H1,rfl,I1.kept (t':=s1.toks) λb o e=>Heap.get?_push_of_some _ e,iz a _,⟨_,Heap.get?_push_size _ rfl,rfl,rfl⟩,λb hb=>?_,q⟩
 have e:b=s1.heap.objs.size:=by simpa using hb
 subst e
 exact I1.fpOk (Nat.le_refl _) (I1.hok.fresh (Nat.le_refl _))
theorem kq{pins:List (Addr×Obj)}{σ:St}{H:Hp}{s:Shared}{R:It->Hp->Prop}{E:Value->Shared->Prop}{lo hi:Int}{t u v:Tok}{tk:Nat}(I:Inv X pins σ H s)(h1: -(2^62)<=lo)(h2:lo<2^62)(h3: -(2^62)<=hi)(h4:hi<2^62)
  (q:R (Itr lo (hi-lo).toNat) H):wpAny (model X.prog X.w) X.A (pyIter (.ref s.heap.objs.size)) (PIE X pins σ tg R) E {s with heap:=s.heap.push {cls:= .type "range",data:= .fields #[.int lo t,.int hi u,.int 1 v]},toks:=tk}:=by
 refine wpAny_pyIter_range (IsRange.new ..) (small_one h1 h2 h3 h4) ?_
 have I1:Inv X pins σ H {s with heap:=s.heap.push {cls:= .type "range",data:= .fields #[.int lo t,.int hi u,.int 1 v]},toks:=tk}:=I.kept λb o e=>Heap.get?_push_of_some _ e
 refine⟨(s.heap.push {cls:= .type "range",data:= .fields #[.int lo t,.int hi u,.int 1 v]}).objs.size,[(s.heap.push {cls:= .type "range",data:= .fields #[.int lo t,.int hi u,.int 1 v]}).objs.size],_,_,H,rfl,
  I1.kept (t':=tk) λb o e=>Heap.get?_push_of_some _ e,iX _ lo (hi-lo).toNat,?_,λb hb=>?_,q⟩
 ·have e1:lo+((0:Nat):Int)*1=lo:=by simp
  have e2:(((hi-lo).toNat:Nat):Int)-((0:Nat):Int)=Builtin.Range.rangeSize lo hi 1:=by rw[rangeSize_one];split <;> omega
  show IsRangeIter _ _ (lo+((0:Nat):Int)*1) ((((hi-lo).toNat:Nat):Int)-((0:Nat):Int)) 1
  rw[e1,e2]
  exact Heap.get?_push_size _ rfl
 ·have e:b=(s.heap.push {cls:= .type "range",data:= .fields #[.int lo t,.int hi u,.int 1 v]}).objs.size:=by simpa using hb
  subst e
  exact I1.fpOk (Nat.le_refl _) (I1.hok.fresh (Nat.le_refl _))
def iRng1(ta:TA):TI:=λσ H R=>ta σ H λvs H1=>∃j:Int,vs=[.int j]/\ -(2^62)<=j/\j<2^62/\R (Itr 0 j.toNat) H1
theorem aK{a:Expr}{ta:TA}{p pos:Pos}(hg:Gl X "range")(hm:X.mg "range"=none)(ha:PA X [a] ta)(hs:starEach [a] X.env=[(false,eval a X.env)]:=by rfl):PI X tg (.Call (.Name "range" p) [a] [] pos) (iRng1 ta):=by
 intro pins s σ H R I h
 refine Call_ (bS I hg hm boot_range (PyProof.Rows.callWith_type1 (thn (ha pos pins s σ H _ I h) λus s1 ⟨vs,H1,I1,r1,q1⟩=>?_) hs rfl))
 obtain⟨j,e,q1,q2,q⟩:=q1
 subst e
 cases r1 with
 | cons r rr=>
  cases rr
  obtain⟨t,rfl⟩:=r
  exact call_range_1 (kq I1 (by omega) (by omega) q1 q2 (by simpa using q))
def tFor(wi:TI)(g:TG)(tb:TS):TS:=λD σ H=>wi σ H λJ H1=>∃W:Nat->Nat->St->Hp->Prop,(∃m,W 0 m σ H1)/\∀i m σ H,W i m σ H->
 (J.stop i H/\D.nx σ H)\/(J.go i H/\∃N:St->Hp->Prop,(∀σ' H',N σ' H'->∃m',m'<m/\W (i+1) m' σ' H')/\∀x H',J.yld i H x H'->g x σ H' λσ2 H2=>tb {D with nx:=N,ct:=N,bk:=D.nx} σ2 H2)
def pinsAt(fp:List Addr)(h:Heap):List (Addr×Obj):=fp.filterMap λb=>(h.get? b).map λo=>(b,o)
theorem ce{fp:List Addr}{h:Heap}{b:Addr}{o:Obj}(hb:b∈fp)(e:h.get? b=some o):(b,o)∈pinsAt fp h:=List.mem_filterMap.mpr ⟨b,hb,by rw[e];rfl⟩
theorem jE{fp:List Addr}{h:Heap}{p:Addr×Obj}(hp:p∈pinsAt fp h):p.1∈fp/\h.get? p.1=some p.2:=by
 obtain⟨b,hb,e⟩:=List.mem_filterMap.mp hp
 cases q:h.get? b with
 | none=>rw[q]at e;cases e
 | some o=>
  rw[q]at e
  have e':(b,o)=p:=Option.some.inj e
  subst e'
  exact⟨hb,q⟩
theorem Inv.pinned{pins:List (Addr×Obj)}{σ:St}{H:Hp}{s:Shared}{fp:List Addr}(I:Inv X pins σ H s)(hf:∀b∈fp,FpOk X pins H b)(ho:∀b∈fp,∃o,s.heap.get? b=some o/\∀v,o.data≠ .cell v):Inv X (pins++pinsAt fp s.heap) σ H s:=
 I.pins_of λp hp=>(List.mem_append.mp hp).elim (λz=>I.pin p (List.mem_append_right _ z)) λz=>by
  obtain⟨hb,e⟩:=jE z
  obtain⟨f0,f1,f2,_⟩:=hf p.1 hb
  obtain⟨o,e',d⟩:=ho p.1 hb
  rw[e]at e';cases e'
  exact⟨e,f0,f1,f2,d⟩
theorem Inv.unpinned{pins pl:List (Addr×Obj)}{σ:St}{H:Hp}{s:Shared}(I:Inv X (pins++pl) σ H s):Inv X pins σ H s:=I.pins_of λp hp=>I.pin p (List.mem_append_right _ (List.mem_append_left _ hp))
theorem aV{iter:Expr}{body:List Stmt}{wi:TI}{g:TG}{tb:TS}{pos:Pos}(hp:PassesOwn (model X.prog X.w) X.A X.env X.xe)(hc:X.calm=true)(hi:PI X tg iter wi)(hg:PG X tg g)(hb:PSs X body tb)
  (hs:∀x,foldedSetIterable iter X.env x=pure x:=by intro _;rfl):PS X (.For tg iter body [] pos) (tFor wi g tb):=by
 intro pins s σ H D I h
 refine wpAny_For (thn (hi pins s σ H _ I h) λv s1 h1=>thn h1 λitv s2 h2=>?_) hs
 obtain⟨it,fp,tn,J,H2,e,I2,T,st2,f2,W,⟨m0,w0⟩,turn⟩:=h2
 subst e
 have stat:∀{H':Hp},(∀b∈fp,H' b=none)->∀b∈fp,FpOk X pins H' b:=λhn b hb=>⟨hn b hb,(f2 b hb).2⟩
 refine codeAny_forLoop_any (λn s'=>∃i σ' H',Inv X pins σ' H' s'/\tn i s'.heap/\(∀b∈fp,H' b=none)/\W i n σ' H') ?_ m0 ⟨0,σ,H2,I2,st2,λb hb=>(f2 b hb).1,w0⟩
 rintro n s3 ⟨i,σ3,H3,I3,st3,fr3,w3⟩
 rcases turn i n σ3 H3 w3 with⟨stop,qn⟩|⟨go,N,hN,step⟩
 ·refine wpAny_passesOwn hp (thn (T.done X rfl rfl rfl hc i pins s3 σ3 H3 X.xe I3 (stat fr3) st3 stop) λr s4 ⟨hr,I4⟩=>?_)
  subst hr
  exact wpAny_execs_nil ⟨σ3,H3,I4,qn⟩
 ·refine wpAny_passesOwn hp (thn (T.item X rfl rfl rfl hc i pins s3 σ3 H3 X.xe I3 (stat fr3) st3 go) λr s4 ⟨u,hr,h4⟩=>?_)
  subst hr
  refine wpAny_passesOwn hp (thn h4 λ_ s5 ⟨x,H5,I5,r5,y5,st5,fr5⟩=>?_)
  have I5':=I5.pinned (stat fr5) (T.obj _ _ st5)
  refine wpAny_passesOwn hp (thn (hg _ s5 σ3 H5 x u _ I5' r5 (step x H5 y5)) λ_ s6 ⟨σ6,H6,I6,q6⟩=>?_)
  refine wpAny_passesOwn hp (thn (hb _ s6 σ6 H6 _ I6 q6) λf s7 q7=>?_)
  have again:∀{σ7:St} {H7:Hp},Inv X (pins++pinsAt fp s5.heap) σ7 H7 s7->N σ7 H7->∃m,m<n/\∃i σ' H',Inv X pins σ' H' s7/\tn i s7.heap/\(∀b∈fp,H' b=none)/\W i m σ' H':=λ {σ7 H7} I7 n7=>by
   obtain⟨m',hm,w7⟩:=hN σ7 H7 n7
   refine⟨m',hm,i+1,σ7,H7,I7.unpinned,T.keep _ _ _ st5 λb hb o e=>(I7.pin (b,o) (List.mem_append_right _ (List.mem_append_right _ (ce hb e)))).1,λb hb=>?_,w7⟩
   obtain⟨o,e,d⟩:=T.obj _ _ st5 b hb
   exact(I7.pin (b,o) (List.mem_append_right _ (List.mem_append_right _ (ce hb e)))).2.1
  cases f with
  | next=>obtain⟨σ7,H7,I7,n7⟩:=q7;exact again I7 n7
  | cont=>obtain⟨σ7,H7,I7,n7⟩:=q7;exact again I7 n7
  | brk=>obtain⟨σ7,H7,I7,q7⟩:=q7;exact⟨σ7,H7,I7.unpinned,q7⟩
  | ret v=>obtain⟨x7,σ7,H7,I7,r7,q7⟩:=q7;exact⟨x7,σ7,H7,I7.unpinned,r7,q7⟩
end
theorem bZ{K:PySem.W.Frag}{a:Addr}{xs:List V}{g:TG}{tb:TS}{D:Ends}{σ:St}{H:Hp}(Pv:Nat->St->Hp->Prop)(h0:Pv 0 σ H)(hl:∀i σ H,i<=xs.length->Pv i σ H->SqL K H a xs)
  (hs:∀i x σ H,xs[i]?=some x->Pv i σ H->g x σ H λσ2 H2=>tb {D with nx:=Pv (i+1),ct:=Pv (i+1),bk:=D.nx} σ2 H2)(hd:∀σ H,Pv xs.length σ H->D.nx σ H):
  ∃W:Nat->Nat->St->Hp->Prop,(∃m,W 0 m σ H)/\∀i m σ H,W i m σ H->
   ((Itl K a).stop i H/\D.nx σ H)\/((Itl K a).go i H/\∃N:St->Hp->Prop,(∀σ' H',N σ' H'->∃m',m'<m/\W (i+1) m' σ' H')/\∀x H',(Itl K a).yld i H x H'->g x σ H' λσ2 H2=>tb {D with nx:=N,ct:=N,bk:=D.nx} σ2 H2):=by
 refine⟨λi m σ H=>m=xs.length-i/\i<=xs.length/\Pv i σ H,⟨xs.length,by simp,Nat.zero_le _,h0⟩,?_⟩
 rintro i m σ H ⟨rfl,hi,p⟩
 have q:=hl i σ H hi p
 by_cases hlt:i<xs.length
 ·refine .inr ⟨⟨xs,xs[i],q,by simp[hlt]⟩,Pv (i+1),λσ' H' p'=>⟨xs.length-(i+1),by omega,rfl,hlt,p'⟩,λx H' y=>?_⟩
  obtain⟨e,y⟩:=y
  subst e
  exact hs i x σ _ (y xs q) p
 ·have e:i=xs.length:=by omega
  subst e
  exact .inl ⟨⟨xs,q,Nat.le_refl _⟩,hd σ H p⟩
theorem fM{K:PySem.W.Frag}{a:Addr}{xs:List V}{g:TG}{tb:TS}{D:Ends}{σ:St}{H:Hp}(Pv:Nat->St->Hp->Prop)(h0:Pv 0 σ H)(hl:∀i σ H,i<=xs.length->Pv i σ H->SqT K H a xs)
  (hs:∀i x σ H,xs[i]?=some x->Pv i σ H->g x σ H λσ2 H2=>tb {D with nx:=Pv (i+1),ct:=Pv (i+1),bk:=D.nx} σ2 H2)(hd:∀σ H,Pv xs.length σ H->D.nx σ H):
  ∃W:Nat->Nat->St->Hp->Prop,(∃m,W 0 m σ H)/\∀i m σ H,W i m σ H->
   ((Itt K a).stop i H/\D.nx σ H)\/((Itt K a).go i H/\∃N:St->Hp->Prop,(∀σ' H',N σ' H'->∃m',m'<m/\W (i+1) m' σ' H')/\∀x H',(Itt K a).yld i H x H'->g x σ H' λσ2 H2=>tb {D with nx:=N,ct:=N,bk:=D.nx} σ2 H2):=by
 refine⟨λi m σ H=>m=xs.length-i/\i<=xs.length/\Pv i σ H,⟨xs.length,by simp,Nat.zero_le _,h0⟩,?_⟩
 rintro i m σ H ⟨rfl,hi,p⟩
 have q:=hl i σ H hi p
 by_cases hlt:i<xs.length
 ·refine .inr ⟨⟨xs,xs[i],q,by simp[hlt]⟩,Pv (i+1),λσ' H' p'=>⟨xs.length-(i+1),by omega,rfl,hlt,p'⟩,λx H' y=>?_⟩
  obtain⟨e,y⟩:=y
  subst e
  exact hs i x σ _ (y xs q) p
 ·have e:i=xs.length:=by omega
  subst e
  exact .inl ⟨⟨xs,q,Nat.le_refl _⟩,hd σ H p⟩
theorem aO{lo:Int}{n:Nat}{g:TG}{tb:TS}{D:Ends}{σ:St}{H:Hp}(Pv:Nat->St->Hp->Prop)(h0:Pv 0 σ H)
  (hs:∀i σ H,i<n->Pv i σ H->g (.int (lo+i)) σ H λσ2 H2=>tb {D with nx:=Pv (i+1),ct:=Pv (i+1),bk:=D.nx} σ2 H2)(hd:∀σ H,Pv n σ H->D.nx σ H):
  ∃W:Nat->Nat->St->Hp->Prop,(∃m,W 0 m σ H)/\∀i m σ H,W i m σ H->
   ((Itr lo n).stop i H/\D.nx σ H)\/((Itr lo n).go i H/\∃N:St->Hp->Prop,(∀σ' H',N σ' H'->∃m',m'<m/\W (i+1) m' σ' H')/\∀x H',(Itr lo n).yld i H x H'->g x σ H' λσ2 H2=>tb {D with nx:=N,ct:=N,bk:=D.nx} σ2 H2):=by
 refine⟨λi m σ H=>m=n-i/\i<=n/\Pv i σ H,⟨n,by simp,Nat.zero_le _,h0⟩,?_⟩
 rintro i m σ H ⟨rfl,hi,p⟩
 by_cases hlt:i<n
 ·refine .inr ⟨hlt,Pv (i+1),λσ' H' p'=>⟨n-(i+1),by omega,rfl,hlt,p'⟩,λx H' y=>?_⟩
  obtain⟨e,y⟩:=y
  subst e y
  exact hs i σ _ hlt p
 ·have e:i=n:=by omega
  subst e
  exact .inl ⟨Nat.le_refl _,hd σ H p⟩
end L2
namespace L2
open PySem PySem.Spec PyProof.Rows
abbrev R2:=V->V->Hp->VK->Prop
def OpR(X:Cx)(f:Value->Value->Sem Value)(r:R2):Prop:=
 ∀(pins:List (Addr×Obj)) (s:Shared) (σ:St) (H:Hp) (x y:V) (v u:Value) (Q:VK),Inv X pins σ H s->RelV x v->RelV y u->r x y H Q->
  wpAny (model X.prog X.w) X.A (f v u) (EP X pins σ Q) X.xe s
def UnR(X:Cx)(f:Value->Sem Value)(r:V->Hp->VK->Prop):Prop:=
 ∀(pins:List (Addr×Obj)) (s:Shared) (σ:St) (H:Hp) (x:V) (v:Value) (Q:VK),Inv X pins σ H s->RelV x v->r x H Q->
  wpAny (model X.prog X.w) X.A (f v) (EP X pins σ Q) X.xe s
def CallR(X:Cx)(f:Value)(r:List V->Hp->VK->Prop):Prop:=
 ∀(pins:List (Addr×Obj)) (s:Shared) (σ:St) (H:Hp) (xs:List V) (us:List Value) (Q:VK),Inv X pins σ H s->Vals xs us->r xs H Q->
  wpAny (model X.prog X.w) X.A (call f us) (EP X pins σ Q) X.xe s
def TruR(X:Cx)(r:V->Hp->(Bool->Hp->Prop)->Prop):Prop:=
 ∀(pins:List (Addr×Obj)) (s:Shared) (σ:St) (H:Hp) (x:V) (v:Value) (Q:Bool->Hp->Prop),Inv X pins σ H s->RelV x v->r x H Q->
  wpAny (model X.prog X.w) X.A (truthy v) (TP X pins σ Q) X.xe s
def tOp(r:R2)(ta tb:TE):TE:=λσ H Q=>ta σ H λx H1=>tb σ H1 λy H2=>r x y H2 Q
def tUn(r:V->Hp->VK->Prop)(ta:TE):TE:=λσ H Q=>ta σ H λx H1=>r x H1 Q
def rI(C:Int->Int->Prop)(g:Int->Int->V):R2:=λx y H Q=>∃i j,x = .int i/\y = .int j/\C i j/\Q (g i j) H
def rI0(g:Int->Int->V):R2:=λx y H Q=>∃i j,x = .int i/\y = .int j/\Q (g i j) H
def rU(g:Int->V):V->Hp->VK->Prop:=λx H Q=>∃i,x = .int i/\Q (g i) H
section
variable{X:Cx}{a b c:Expr}{ta tb tc:TE}{pos:Pos}
theorem binT(ha:PE X a ta)(hb:PE X b tb){pins:List (Addr×Obj)}{s:Shared}{σ:St}{H:Hp}{R:V->V->Hp->Prop}(I:Inv X pins σ H s)
  (h:ta σ H λx H1=>tb σ H1 λy H2=>R x y H2){Q:Value->Shared->Prop}{f:Value->Value->Sem Value}
  (hf:∀v u s2 x y H2,Inv X pins σ H2 s2->RelV x v->RelV y u->R x y H2->wpAny (model X.prog X.w) X.A (f v u) Q X.xe s2):
  wpAny (model X.prog X.w) X.A (eval a X.env) (λv s₁=>wpAny (model X.prog X.w) X.A (eval b X.env) (λu s₂=>wpAny (model X.prog X.w) X.A (f v u) Q X.xe s₂) X.xe s₁) X.xe s:=by
 refine thn (ha pins s σ H _ I h) λv s1 ⟨x,H1,I1,r1,q1⟩=>?_
 refine thn (hb pins s1 σ H1 _ I1 q1) λu s2 ⟨y,H2,I2,r2,q2⟩=>?_
 exact hf v u s2 x y H2 I2 r1 r2 q2
theorem aF{op:Operator}{r:R2}(ho:OpR X (binaryOp op) r)(ha:PE X a ta)(hb:PE X b tb):PE X (.BinOp a op b pos) (tOp r ta tb):=by
 intro pins s σ H Q I h
 exact wpAny_BinOp (binT ha hb I h λv u s2 x y H2 I2 rx ry q=>ho pins s2 σ H2 x y v u Q I2 rx ry q)
theorem md{op:UnaryOp}{r:V->Hp->VK->Prop}(ho:UnR X (unaryOp op) r)(ha:PE X a ta):PE X (.UnaryOp op a pos) (tUn r ta):=by
 intro pins s σ H Q I h
 exact UnaryOp_ (thn (ha pins s σ H _ I h) λv s1 ⟨x,H1,I1,r1,q1⟩=>ho pins s1 σ H1 x v Q I1 r1 q1)
theorem opI{f:Value->Value->Sem Value}{C:Int->Int->Prop}{g:Int->Int->Int}
  (rule:∀(i j:Int) (t u:Tok) (s:Shared) (Q:Value->Shared->Prop) (E:Value->Shared->Prop),C i j->Q (.int (g i j) s.toks) {s with toks:=s.toks+1}->wpAny (model X.prog X.w) X.A (f (.int i t) (.int j u)) Q E s):
  OpR X f (rI C λi j=> .int (g i j)):=by
 intro pins s σ H x y v u Q I rx ry h
 obtain⟨i,j,rfl,rfl,hc,q⟩:=h
 obtain⟨t,rfl⟩:=rx
 obtain⟨t',rfl⟩:=ry
 exact rule i j t t' s _ _ hc ⟨.int (g i j),H,I.tok _,⟨_,rfl⟩,q⟩
theorem opI0{f:Value->Value->Sem Value}{g:Int->Int->Int}
  (rule:∀(i j:Int) (t u:Tok) (s:Shared) (Q:Value->Shared->Prop) (E:Value->Shared->Prop),Q (.int (g i j) s.toks) {s with toks:=s.toks+1}->wpAny (model X.prog X.w) X.A (f (.int i t) (.int j u)) Q E s):
  OpR X f (rI0 λi j=> .int (g i j)):=by
 intro pins s σ H x y v u Q I rx ry h
 obtain⟨i,j,rfl,rfl,q⟩:=h
 obtain⟨t,rfl⟩:=rx
 obtain⟨t',rfl⟩:=ry
 exact rule i j t t' s _ _ ⟨.int (g i j),H,I.tok _,⟨_,rfl⟩,q⟩
theorem opB0{f:Value->Value->Sem Value}{g:Int->Int->Bool}
  (rule:∀(i j:Int) (t u:Tok) (s:Shared) (Q:Value->Shared->Prop) (E:Value->Shared->Prop),Q (.bool (g i j)) s->wpAny (model X.prog X.w) X.A (f (.int i t) (.int j u)) Q E s):
  OpR X f (rI0 λi j=> .bl (g i j)):=by
 intro pins s σ H x y v u Q I rx ry h
 obtain⟨i,j,rfl,rfl,q⟩:=h
 obtain⟨t,rfl⟩:=rx
 obtain⟨t',rfl⟩:=ry
 exact rule i j t t' s _ _ ⟨.bl (g i j),H,I,rfl,q⟩
def CPow(i j:Int):Prop:=0<=j/\j<=1000000/\i.natAbs<2^64
theorem bz:OpR X (binaryOp .Add) (rI0 λi j=> .int (i+j)):=opI0 λ_ _ _ _ _ _ _ q=>add_int q
theorem kR:OpR X (binaryOp .Sub) (rI0 λi j=> .int (i-j)):=opI0 λ_ _ _ _ _ _ _ q=>sub_int q
theorem bI:OpR X (binaryOp .Mod) (rI (λ_ j=>0<j) λi j=> .int (i%j)):=opI λi j _ _ _ _ _ hc q=>by
 have h1:(0:Int)<j:=hc
 exact mod_int' (by omega) (by rw[Int.fmod_eq_emod_of_nonneg i (by omega)];exact q)
theorem lS:OpR X (binaryOp .Pow) (rI CPow λi j=> .int (i^j.toNat)):=opI λ_ _ _ _ _ _ _ hc q=>pow_int_small hc.1 hc.2.1 hc.2.2 q
theorem unI{f:Value->Sem Value}{g:Int->Int}
  (rule:∀(i:Int) (t:Tok) (s:Shared) (Q:Value->Shared->Prop) (E:Value->Shared->Prop),Q (.int (g i) s.toks) {s with toks:=s.toks+1}->wpAny (model X.prog X.w) X.A (f (.int i t)) Q E s):
  UnR X f (rU λi=> .int (g i)):=by
 intro pins s σ H x v Q I rx h
 obtain⟨i,rfl,q⟩:=h
 obtain⟨t,rfl⟩:=rx
 exact rule i t s _ _ ⟨.int (g i),H,I.tok _,⟨_,rfl⟩,q⟩
theorem kS:UnR X (unaryOp .USub) (rU λi=> .int (-i)):=unI λ_ _ _ _ _ q=>neg_int q
end
def scal:V->V->Bool
 | .non,.non=>true | .non,.int _=>true | .int _,.non=>true | .non,.bl _=>true | .bl _,.non=>true | .non,.str _=>true | .str _,.non=>true
 | .int _,.int _=>true | .bl _,.bl _=>true | .str _,.str _=>true | .byt _,.byt _=>true
 | .int _,.str _=>true | .str _,.int _=>true | .bl _,.str _=>true | .str _,.bl _=>true
 | _,_=>false
def rEq:R2:=λx y H Q=>scal x y=true/\Q (.bl (decide (x=y))) H
def rNe:R2:=λx y H Q=>scal x y=true/\Q (.bl (!decide (x=y))) H
theorem jf{i j:Int}:decide (V.int i=V.int j)=(i==j):=by
 rw[Bool.eq_iff_iff]
 simp
theorem kW{i j:Bool}:decide (V.bl i=V.bl j)=(i==j):=by
 rw[Bool.eq_iff_iff]
 simp
theorem ju{i j:Str}:decide (V.str i=V.str j)=(i==j):=by
 rw[Bool.eq_iff_iff]
 simp
theorem jJ{i j:Array UInt8}:decide (V.byt i=V.byt j)=(i.toList==j.toList):=by
 rw[Bool.eq_iff_iff]
 cases i
 cases j
 simp
section
variable{X:Cx}{a b c:Expr}{ta tb tc:TE}{pos:Pos}
theorem aP{pins:List (Addr×Obj)}{σ:St}{H:Hp}{s:Shared}{Q:VK}{k k':Bool}(I:Inv X pins σ H s)(q:Q (.bl k) H)(e:k=k'):EP X pins σ Q (.bool k') s:=by
 subst e
 exact⟨.bl k,H,I,rfl,q⟩
theorem cY:OpR X (compareOp .Eq) rEq:=by
 intro pins s σ H x y v u Q I rx ry h
 obtain⟨hs,q⟩:=h
 cases x with
 | non=>
  cases rx
  cases y with
  | non=>cases ry;exact PySem.EqNone.eq_none_none (aP I q (by simp))
  | bl j=>cases ry;exact PySem.EqNone.eq_none_bool (aP I q (by simp))
  | int j=>obtain⟨t',rfl⟩:=ry;exact PySem.EqNone.eq_none_int (aP I q (by simp))
  | str j=>obtain⟨t',rfl⟩:=ry;exact PySem.EqNone.eq_none_str (aP I q (by simp))
  | _=>exact absurd (show false=true from hs) Bool.false_ne_true
 | bl i=>
  cases rx
  cases y with
  | non=>cases ry;exact PySem.EqNone.eq_bool_none (aP I q (by simp))
  | bl j=>cases ry;exact eq_bool (aP I q kW)
  | str j=>obtain⟨t',rfl⟩:=ry;exact PySem.EqMixed.eq_bool_str (aP I q (by simp))
  | _=>exact absurd (show false=true from hs) Bool.false_ne_true
 | int i=>
  obtain⟨t,rfl⟩:=rx
  cases y with
  | non=>cases ry;exact PySem.EqNone.eq_int_none (aP I q (by simp))
  | int j=>obtain⟨t',rfl⟩:=ry;exact eq_int (aP I q jf)
  | str j=>obtain⟨t',rfl⟩:=ry;exact PySem.EqMixed.eq_int_str (aP I q (by simp))
  | _=>exact absurd (show false=true from hs) Bool.false_ne_true
 | str i=>
  obtain⟨t,rfl⟩:=rx
  cases y with
  | non=>cases ry;exact PySem.EqNone.eq_str_none (aP I q (by simp))
  | bl j=>cases ry;exact PySem.EqMixed.eq_str_bool (aP I q (by simp))
  | int j=>obtain⟨t',rfl⟩:=ry;exact PySem.EqMixed.eq_str_int (aP I q (by simp))
  | str j=>obtain⟨t',rfl⟩:=ry;exact eq_str (aP I q ju)
  | _=>exact absurd (show false=true from hs) Bool.false_ne_true
 | byt i=>
  obtain⟨t,rfl⟩:=rx
  cases y with
  | byt j=>obtain⟨t',rfl⟩:=ry;exact PySem.W.eq_bytes (aP I q jJ)
  | _=>exact absurd (show false=true from hs) Bool.false_ne_true
 | _=>cases y <;> exact absurd (show false=true from hs) Bool.false_ne_true
theorem cu:OpR X (compareOp .NotEq) rNe:=by
 intro pins s σ H x y v u Q I rx ry h
 obtain⟨hs,q⟩:=h
 cases x with
 | non=>
  cases rx
  cases y with
  | non=>cases ry;exact PySem.EqNone.ne_none_none (aP I q (by simp))
  | bl j=>cases ry;exact PySem.EqNone.ne_none_bool (aP I q (by simp))
  | int j=>obtain⟨t',rfl⟩:=ry;exact PySem.EqNone.ne_none_int (aP I q (by simp))
  | str j=>obtain⟨t',rfl⟩:=ry;exact PySem.EqNone.ne_none_str (aP I q (by simp))
  | _=>exact absurd (show false=true from hs) Bool.false_ne_true
 | bl i=>
  cases rx
  cases y with
  | non=>cases ry;exact PySem.EqNone.ne_bool_none (aP I q (by simp))
  | bl j=>cases ry;exact ne_bool (aP I q (congrArg not kW))
  | str j=>obtain⟨t',rfl⟩:=ry;exact PySem.EqMixed.ne_bool_str (aP I q (by simp))
  | _=>exact absurd (show false=true from hs) Bool.false_ne_true
 | int i=>
  obtain⟨t,rfl⟩:=rx
  cases y with
  | non=>cases ry;exact PySem.EqNone.ne_int_none (aP I q (by simp))
  | int j=>obtain⟨t',rfl⟩:=ry;exact ne_int (aP I q (congrArg not jf))
  | str j=>obtain⟨t',rfl⟩:=ry;exact PySem.EqMixed.ne_int_str (aP I q (by simp))
  | _=>exact absurd (show false=true from hs) Bool.false_ne_true
 | str i=>
  obtain⟨t,rfl⟩:=rx
  cases y with
  | non=>cases ry;exact PySem.EqNone.ne_str_none (aP I q (by simp))
  | bl j=>cases ry;exact PySem.EqMixed.ne_str_bool (aP I q (by simp))
  | int j=>obtain⟨t',rfl⟩:=ry;exact PySem.EqMixed.ne_str_int (aP I q (by simp))
  | str j=>obtain⟨t',rfl⟩:=ry;exact ne_str (aP I q (congrArg not ju))
  | _=>exact absurd (show false=true from hs) Bool.false_ne_true
 | byt i=>
  obtain⟨t,rfl⟩:=rx
  cases y with
  | byt j=>obtain⟨t',rfl⟩:=ry;exact PySem.W.ne_bytes (aP I q (congrArg not jJ))
  | _=>exact absurd (show false=true from hs) Bool.false_ne_true
 | _=>cases y <;> exact absurd (show false=true from hs) Bool.false_ne_true
theorem gb:OpR X (compareOp .Lt) (rI0 λi j=> .bl (decide (i<j))):=opB0 λ_ _ _ _ _ _ _ q=>lt_int q
theorem ky:OpR X (compareOp .LtE) (rI0 λi j=> .bl (decide (i<=j))):=opB0 λ_ _ _ _ _ _ _ q=>le_int q
theorem gd:OpR X (compareOp .Gt) (rI0 λi j=> .bl (decide (j<i))):=opB0 λ_ _ _ _ _ _ _ q=>gt_int q
theorem lU:OpR X (compareOp .GtE) (rI0 λi j=> .bl (decide (j<=i))):=opB0 λ_ _ _ _ _ _ _ q=>ge_int q
theorem jO:OpR X (compareOp .Is) (λx y H Q=>y = .non/\Q (.bl (decide (x = .non))) H):=by
 intro pins s σ H x y v u Q I rx ry h
 obtain⟨rfl,q⟩:=h
 cases ry
 refine is_none_gen (aP I q ?_)
 cases x <;> first
  | (cases rx;rfl)
  | (obtain⟨t,rfl⟩:=rx;rfl)
theorem gO:OpR X (compareOp .IsNot) (λx y H Q=>y = .non/\Q (.bl (!decide (x = .non))) H):=by
 intro pins s σ H x y v u Q I rx ry h
 obtain⟨rfl,q⟩:=h
 cases ry
 refine isnot_none_gen (aP I q ?_)
 cases x <;> first
  | (cases rx;rfl)
  | (obtain⟨t,rfl⟩:=rx;rfl)
theorem nomark(b:Expr){op:CmpOp}(h:op≠ .In:=by decide)(h2:op≠ .NotIn:=by decide):behindInMarks op b=false:=by
 have e1:(op==CmpOp.In)=false:=by cases op <;> first|rfl|exact absurd rfl h
 have e2:(op==CmpOp.NotIn)=false:=by cases op <;> first|rfl|exact absurd rfl h2
 cases b <;> simp[behindInMarks,e1,e2]
theorem bu{op:CmpOp}{r:R2}(ho:OpR X (compareOp op) r)(ha:PE X a ta)(hb:PE X b tb)(hm:behindInMarks op b=false):PE X (.Compare a [op] [b] pos) (tOp r ta tb):=by
 intro pins s σ H Q I h
 exact wpAny_Compare1 (binT ha hb I h λv u s2 x y H2 I2 rx ry q=>ho pins s2 σ H2 x y v u Q I2 rx ry q) hm
def tTest(t:TE):TT:=λσ H Q=>t σ H λx H'=>∃k,x = .bl k/\Q k H'
theorem aq{op:CmpOp}{r:R2}(ho:OpR X (compareOp op) r)(ha:PE X a ta)(hb:PE X b tb)(hm:behindInMarks op b=false):PT X (.Compare a [op] [b] pos) (tTest (tOp r ta tb)):=by
 intro pins s σ H Q I h
 refine wpAny_isTrue_Compare1 (thn (ha pins s σ H _ I h) λv s1 ⟨x,H1,I1,r1,q1⟩=>thn (hb pins s1 σ H1 _ I1 q1) λu s2 ⟨y,H2,I2,r2,q2⟩=>
  thn (ho pins s2 σ H2 x y v u _ I2 r1 r2 q2) λc s3 ⟨z,H3,I3,r3,k,e,q3⟩=>?_) hm
 subst e
 cases r3
 exact wpAny_truthy_bool ⟨H3,I3,q3⟩
def tChain(r r':R2)(ta tb tc:TE):TE:=λσ H Q=>ta σ H λx H1=>tb σ H1 λy H2=>r x y H2 λz H3=>∃k,z = .bl k/\
 (if k=true then tc σ H3 λw' H4=>r' y w' H4 Q else Q (.bl false) H3)
theorem kH{op op':CmpOp}{r r':R2}(ho:OpR X (compareOp op) r)(ho':OpR X (compareOp op') r')(ha:PE X a ta)(hb:PE X b tb)(hc:PE X c tc)
  (hm:lastMarks [op,op'] [b,c]=false:=by with_unfolding_all rfl):PE X (.Compare a [op,op'] [b,c] pos) (tChain r r' ta tb tc):=by
 intro pins s σ H Q I h
 refine Compare_chain (thn (ha pins s σ H _ I h) λv s1 ⟨x,H1,I1,r1,q1⟩=>chain_link (thn (hb pins s1 σ H1 _ I1 q1) λu s2 ⟨y,H2,I2,r2,q2⟩=>
  thn (ho pins s2 σ H2 x y v u _ I2 r1 r2 q2) λd s3 ⟨z,H3,I3,r3,k,e,q3⟩=>?_)) hm
 subst e
 cases r3
 refine wpAny_truthy_bool ?_
 cases k with
 | false=>exact ite_ff ⟨.bl false,H3,I3,rfl,q3⟩
 | true=>exact ite_tt (chain_last (thn (hc pins s3 σ H3 _ I3 q3) λw' s4 ⟨z',H4,I4,r4,q4⟩=>ho' pins s4 σ H4 y z' u w' Q I4 r2 r4 q4))
def TruV(K:PySem.W.Frag)(x:V)(H:Hp)(k:Bool):Prop:=
 match x with
 | .non=>k=false
 | .bl b=>k=b
 | .int i=>k=(i != 0)
 | .str y=>y.length<=sizeLine/\k=((y.length:Int) != 0)
 | .byt y=>y.size<=sizeLine/\k=((y.size:Int) != 0)
 | .ref p=>(∃xs,SqL K H p xs/\k = !xs.isEmpty)\/(∃xs,SqT K H p xs/\k = !xs.isEmpty)\/∃kvs,H p=some (.dK kvs)/\k = !kvs.isEmpty
 | _=>False
theorem iI{κ:Type}{kvs:List (κ×V)}{vs:List (κ×Value)}(r:KV kvs vs):(!vs.isEmpty) = !kvs.isEmpty:=by
 cases r <;> rfl
theorem fe{xs:List V}{its:List Value}(r:Vals xs its):(!its.toArray.isEmpty) = !xs.isEmpty:=by
 cases r <;> simp
theorem line63:(sizeLine:Nat)<2^63:=by rw[sizeLine_eq];decide
theorem ml:TruR X (λx H Q=>∃k,TruV X.K x H k/\Q k H):=by
 intro pins s σ H x v Q I rx h
 obtain⟨k,e,q⟩:=h
 have hl:=line63
 have hs:sizeLine=16777216:=sizeLine_eq
 cases x with
 | non=>
  cases rx
  have e':k=false:=e
  subst e'
  exact truthy_none ⟨H,I,q⟩
 | bl b=>
  cases rx
  have e':k=b:=e
  subst e'
  exact wpAny_truthy_bool ⟨H,I,q⟩
 | int i=>
  obtain⟨t,rfl⟩:=rx
  have e':k=(i != 0):=e
  subst e'
  exact PySem.P.truthy_int ⟨H,I,q⟩
 | str y=>
  obtain⟨t,rfl⟩:=rx
  obtain⟨hy,e'⟩:y.length<=sizeLine/\k=((y.length:Int) != 0):=e
  subst e'
  exact PySem.P.truthy_str (by omega) ⟨H,I.tok _,q⟩
 | byt y=>
  obtain⟨t,rfl⟩:=rx
  obtain⟨hy,e'⟩:y.size<=sizeLine/\k=((y.size:Int) != 0):=e
  subst e'
  exact PySem.W.truthy_bytes (by omega) ⟨H,I.tok _,q⟩
 | ref p=>
  cases rx
  have e':(∃xs,SqL X.K H p xs/\k = !xs.isEmpty)\/(∃xs,SqT X.K H p xs/\k = !xs.isEmpty)\/∃kvs,H p=some (.dK kvs)/\k = !kvs.isEmpty:=e
  rcases e' with⟨xs,hx,e'⟩|⟨xs,hx,e'⟩|⟨kvs,hx,e'⟩
  ·subst e'
   obtain⟨its,r,pl,hz⟩:=I.list hx
   have hlen:=r.length
   exact wpAny_truthy_list pl.isList (by simp only[List.size_toArray];omega) ⟨H,I.tok _,by rw[fe r];exact q⟩
  ·subst e'
   obtain⟨its,r,pl,hz⟩:=I.tuple hx
   have hlen:=r.length
   exact truthy_tuple pl (by simp only[List.size_toArray];omega) ⟨H,I.tok _,by rw[fe r];exact q⟩
  ·subst e'
   obtain⟨hz,hS,vs,r,m⟩:kvs.length<=sizeLine/\(p==sysModules)=false/\∃vs,KV kvs vs/\s.heap.DictOf (mixKind X.prog X.w) p vs:=I.hok p _ hx
   have hlen:kvs.length=vs.length:=Paired.length r
   exact wpAny_truthy_dict hS m (by omega) ⟨H,I.tok _,by rw[iI r];exact q⟩
 | _=>exact(show False from e).elim
theorem fN(ha:PE X a ta)(he:∀whole,isTrue a X.env whole=(do let v<-whole;standAt a.pos;holding [v] (truthy v))):
  PT X a (λσ H Q=>ta σ H λx H'=>∃k,TruV X.K x H' k/\Q k H'):=by
 intro pins s σ H Q I h
 exact isTrue_plain (thn (ha pins s σ H _ I h) λv s1 ⟨x,H1,I1,r1,q1⟩=>ml pins s1 σ H1 x v Q I1 r1 q1) (he _)
theorem vals1{x:V}{us:List Value}(r:Vals [x] us):∃u,us=[u]/\RelV x u:=by
 cases r with
 | cons r1 r2=>cases r2;exact⟨_,rfl,r1⟩
theorem vals2{x y:V}{us:List Value}(r:Vals [x,y] us):∃u w',us=[u,w']/\RelV x u/\RelV y w':=by
 cases r with
 | cons r1 r2=>
  cases r2 with
  | cons r3 r4=>cases r4;exact⟨_,_,rfl,r1,r3⟩
theorem fR:CallR X (.builtin "abs") (λxs H Q=>∃i,xs=[.int i]/\Q (.int (if i<0 then -i else i)) H):=by
 intro pins s σ H xs us Q I r h
 obtain⟨i,rfl,q⟩:=h
 obtain⟨u,rfl,t,rfl⟩:=vals1 r
 exact call_abs_int λu tk=>⟨.int (if i<0 then -i else i),H,I.tok _,⟨_,rfl⟩,q⟩
end
end L2
namespace L2
open PySem PySem.Spec PyProof.Rows
structure Room(k:Nat)(A:Around):Prop where
 hd:A.handled=none
 dp:A.depth+3*k+5<recursionLimit
 un:A.units+16*k+200<cLine
theorem Room.mono{j k:Nat}{A:Around}(r:Room k A)(h:j<=k):Room j A:=⟨r.hd,by have:=r.dp;omega,by have:=r.un;omega⟩
theorem Room.deeper{k:Nat}{A:Around}(r:Room (k+1) A)(env:Env):Room k (A.deeper env):=
 ⟨r.hd,by have:=r.dp;show A.depth+1+3*k+5<_;omega,by have:=r.un;show A.units+3+16*k+200<_;omega⟩
theorem Room.depth{k:Nat}{A:Around}(r:Room k A):A.depth<recursionLimit:=by have:=r.dp;omega
theorem Room.units{k:Nat}{A:Around}(r:Room k A):A.units+64<cLine:=by have:=r.un;omega
def tNil:TA:=λ_ H Q=>Q [] H
def tCons(ta:TE)(tr:TA):TA:=λσ H Q=>ta σ H λx H1=>tr σ H1 λxs H2=>Q (x::xs) H2
section
variable{X:Cx}{e:Expr}{es:List Expr}{te:TE}{t:TA}{pos:Pos}
theorem ac:PA X [] tNil:=λ_ _ _ _ H Q I h=>Calls.spliced_nil ⟨[],H,I,.nil,h⟩
theorem aa(ha:PE X e te)(hr:PA X es t)(hs:starEach (e::es) X.env=(false,eval e X.env)::starEach es X.env:=by rfl):PA X (e::es) (tCons te t):=by
 intro pos pins s σ H Q I h
 rw[hs]
 show wpAny _ _ (spliced ((false,eval e X.env)::backTo pos (starEach es X.env))) _ _ s
 refine Calls.spliced_cons (thn (ha pins s σ H _ I h) λu s1 ⟨x,H1,I1,r1,q1⟩=>?_)
 exact thn (hr pos pins s1 σ H1 _ I1 q1) λus s2 ⟨xs,H2,I2,r2,q2⟩=>⟨x::xs,H2,I2,.cons r1 r2,q2⟩
def tTup(t:TA):TE:=λσ H Q=>t σ H λxs H1=>xs.length<=sizeLine/\∀p,H1 p=none->Q (.ref p) (upd H1 p (.tup xs))
def tLst(t:TA):TE:=λσ H Q=>t σ H λxs H1=>xs.length<=sizeLine/\∀p,H1 p=none->Q (.ref p) (upd H1 p (.lst xs))
theorem bp{x1}(h:PA X es t):PE X (.Tuple es x1 pos) (tTup t):=by
 intro pins s σ H Q I hq
 refine wpAny_Tuple_spliced (thn (h pos pins s σ H _ I hq) λus s1 ⟨xs,H1,I1,r,z,q⟩=>⟨by rw[<-r.length];exact z,?_⟩)
 have hf:H1 s1.heap.objs.size=none:=I1.hok.fresh (Nat.le_refl _)
 refine⟨.ref s1.heap.objs.size,upd H1 s1.heap.objs.size (.tup xs),I1.laid (t':=s1.toks) (λb u e=>Heap.get?_push_of_some _ e) (Nat.le_refl _) ?_,rfl,q _ hf⟩
 exact⟨z,us,r,⟨_,Heap.get?_push_size _ rfl,rfl,_,rfl⟩⟩
theorem cL(h:PA X es t):PE X (.List es pos) (tLst t):=by
 intro pins s σ H Q I hq
 refine wpAny_List_spliced (thn (h pos pins s σ H _ I hq) λus s1 ⟨xs,H1,I1,r,z,q⟩=>⟨by rw[<-r.length];exact z,?_⟩)
 have hf:H1 s1.heap.objs.size=none:=I1.hok.fresh (Nat.le_refl _)
 refine⟨.ref s1.heap.objs.size,upd H1 s1.heap.objs.size (.lst xs),I1.laid (t':=s1.toks) (λb u e=>Heap.get?_push_of_some _ e) (Nat.le_refl _) ?_,rfl,q _ hf⟩
 exact⟨z,us,0,r,Heap.get?_push_size _ rfl⟩
end
abbrev Sp:=List V->Hp->VK->XK->Prop
abbrev CXT:=List Env->Hp->Shared->XK->Value->Shared->Prop
structure Env0(P:Program)(w:World)(K:PySem.W.Frag)(mg:Str->Option Value)(base:Heap)(A:Around)(outer:List Env)(s:Shared)(H:Hp):Prop where
 frames:A.frames=some outer
 mod:Mod K mg base
 bs:∀b o,base.get? b=some o->s.heap.get? b=some o/\H b=none
 bsz:base.objs.size<=s.heap.objs.size
 funs:s.heap.FunFrames base outer
 frf:∀b∈frs outer,H b=none
 hok:HOk P w H s.heap
 bare:AllBare s.gens
def CE(outer:List Env)(P:Program)(w:World)(H:Hp)(s:Shared)(Q:VK)(u:Value)(s':Shared):Prop:=
 ∃v H',s'.os=s.os/\AllBare s'.gens/\Un (frs outer) [] H H' s.heap s'.heap/\HOk P w H' s'.heap/\RelV v u/\Q v H'
def CR(CX:CXT)(outer:List Env)(P:Program)(w:World)(H:Hp)(s:Shared)(Q:VK)(E:XK)(r:Result)(s':Shared):Prop:=
 match r with
 | .ok (.ret u)=>CE outer P w H s Q u s'
 | .ok _=>False
 | .error e=>CX outer H s E e s'
structure FnOk(P:Program)(w:World)(K:PySem.W.Frag)(mg:Str->Option Value)(base:Heap)(CX:CXT)(k:Nat)(f:Addr)(fd:FuncData)(ps:List Str)(sp:Sp):Prop where
 len:∀vs H Q E,sp vs H Q E->vs.length=ps.length
 run:∀(A:Around) (outer:List Env) (s:Shared) (H:Hp) (args:Args) (us:List Value) (vs:List V) (Q:VK) (E:XK),Room k A->Env0 P w K mg base A outer s H->BindsTo s fd args (ps.zip us)->Vals vs us->sp vs H Q E->
  codeAny (model P w) A (.call (.ref f) args) (CR CX outer P w H s Q E) s
theorem FnOk.imp{P:Program}{w:World}{K:PySem.W.Frag}{mg:Str->Option Value}{base:Heap}{CX:CXT}{k:Nat}{f:Addr}{fd:FuncData}{ps:List Str}{sp sp':Sp}(F:FnOk P w K mg base CX k f fd ps sp)
  (h:∀vs H Q E,sp' vs H Q E->sp vs H Q E):FnOk P w K mg base CX k f fd ps sp':=
 ⟨λvs H Q E q=>F.len vs H Q E (h _ _ _ _ q),λA outer s H args us vs Q E hr he hb hv hs=>F.run A outer s H args us vs Q E hr he hb hv (h _ _ _ _ hs)⟩
section
variable{X:Cx}{pins:List (Addr×Obj)}{σ:St}{H:Hp}{s s':Shared}
theorem Inv.env0(I:Inv X pins σ H s):Env0 X.prog X.w X.K X.mg X.base X.A X.stack s H:=
 ⟨I.ok.frames,I.ok.mod,I.bs,Nat.le_trans I.ok.bsz I.sz,I.stack,I.stkFree,I.hok,I.bare⟩
theorem Inv.after{Q:VK}{u:Value}(I:Inv X pins σ H s)(h:CE X.stack X.prog X.w H s Q u s'):EP X pins σ Q u s':=by
 obtain⟨v,H',os,bare,un,hok,r,q⟩:=h
 obtain⟨hh,g,d,t,os'⟩:=s'
 obtain rfl:os'=s.os:=os
 exact⟨v,H',I.call (h':=hh) (g':=g) (d':=d) (t':=t) (ch:=[]) un hok bare (λb z=>absurd z (by simp)),r,q⟩
end
def tCall(sp:Sp)(dvs:List V)(E:XK)(t:TA):TE:=λσ H Q=>t σ H λvs H1=>sp (vs++dvs) H1 Q E
def Binds(K:PySem.W.Frag)(fd:FuncData)(ps:List Str)(ds:List Value):Prop:=
 ∀(s:Shared) (us:List Value),K.In s.heap->(us++ds).length=ps.length->BindsTo s fd ⟨us,[]⟩ (ps.zip (us++ds))
theorem Binds.all{K:PySem.W.Frag}{fd:FuncData}{ps:List Str}(h:∀us:List Value,us.length=ps.length->bindArgs fd ⟨us,[]⟩=pure (ps.zip us)):Binds K fd ps []:=λs us _ hl=>by
 rw[List.append_nil]at hl ⊢
 exact .of_eq (h us hl)
def Passes(CX:CXT)(X:Cx)(E:XK):Prop:=∀(pins:List (Addr×Obj)) (σ:St) (H:Hp) (s:Shared) (e:Value) (s':Shared),Inv X pins σ H s->CX X.stack H s E e s'->X.xe e s'
section
variable{X:Cx}{CX:CXT}{k:Nat}{f C:Addr}{fd:FuncData}{ps:List Str}{sp:Sp}{dvs:List V}{ds:List Value}{E:XK}{x m:Str}{p pos apos:Pos}{e o:Expr}{es:List Expr}{ta:TE}{t:TA}
theorem l8{pins:List (Addr×Obj)}{σ:St}{H:Hp}{s:Shared}{Q:VK}{us:List Value}{vs:List V}(F:FnOk X.prog X.w X.K X.mg X.base CX k f fd ps sp)(hr:Room k X.A)(hb:Binds X.K fd ps ds)(hd:Vals dvs ds)(hx:Passes CX X E)
  (I:Inv X pins σ H s)(r:Vals vs us)(h:sp (vs++dvs) H Q E):wpAny (model X.prog X.w) X.A (call (.ref f) us) (EP X pins σ Q) X.xe s:=by
 have r2:Vals (vs++dvs) (us++ds):=r.append hd
 have hl:(us++ds).length=ps.length:=by rw[<-r2.length];exact F.len _ _ _ _ h
 refine wpAny_call (codeAny_mono (F.run X.A X.stack s H ⟨us,[]⟩ (us++ds) (vs++dvs) Q E hr I.env0 (hb s us I.kIn hl) r2 h) λr s' hq=>?_)
 cases r with
 | error e=>exact hx pins σ H s e s' I hq
 | ok fl=>
  cases fl with
  | ret u=>exact I.after hq
  | next=>exact False.elim hq
  | brk=>exact False.elim hq
  | cont=>exact False.elim hq
theorem lL(F:FnOk X.prog X.w X.K X.mg X.base CX k f fd ps sp)(hr:Room k X.A)(hg:Gl X x)(hm:X.mg x=some (.ref f))(hk:PySem.W.keepIn X.K (.ref f)=true)(hb:Binds X.K fd ps ds)(hd:Vals dvs ds)(hx:Passes CX X E)
  (ha:PA X (e::es) t)(hdb:(x==("__debug__":Str))=false:=by decide)(he:starEach (e::es) X.env=(false,eval e X.env)::starEach es X.env:=by rfl)(hpl:(backTo pos (starEach es X.env)).any (·.1)=false:=by rfl):
  PE X (.Call (.Name x p) (e::es) [] pos) (tCall sp dvs E t):=by
 intro pins s σ H Q I h
 refine wpAny_Call_Name_kw (fD I hg hm ?_ hdb)
 refine PySem.W.callWith_K (h₀:=X.base) I.ok.mod.kin hk (thn (ha pos pins s σ H _ I h) λus s1 ⟨vs,H1,I1,r,q⟩=>⟨I1.kIn,?_⟩) he hpl
 exact l8 F hr hb hd hx I1 r q
end
structure FnScope(N P:List Str)(sc:Scope):Prop where
 kind:sc.kind = .function
 co:sc.isCoroutine=false
 gen:sc.isGenerator=false
 nd:N.Nodup
 pre:N.take P.length=P
 par:∀x∈P,sc.names.lookup x=some .local\/sc.names.lookup x=some .cell
 nofree:∀y∈sc.names,y.2≠ .free
theorem gz{kindOf:Str->Option NameKind}{x:Str}:∀{binds:List (Str×Value)} {m:Str->Option Value},(∀v,(x,v)∉binds)->bindL kindOf binds m x=m x
 | [],_,_=>rfl
 | (n,v)::r,m,h=>by
  unfold bindL
  rw[gz λw hw=>h w (List.mem_cons_of_mem _ hw)]
  split
  ·have:x≠n:=by rintro rfl;exact h v List.mem_cons_self
   simp[this]
  ·rfl
theorem f9{kindOf:Str->Option NameKind}{x:Str}:∀{binds:List (Str×Value)} {m:Str->Option Value},(∀v,(x,v)∉binds)->bindC kindOf binds m x=m x
 | [],_,_=>rfl
 | (n,v)::r,m,h=>by
  unfold bindC
  rw[f9 λw hw=>h w (List.mem_cons_of_mem _ hw)]
  split
  ·rfl
  ·have:x≠n:=by rintro rfl;exact h v List.mem_cons_self
   simp[this]
theorem fV{kindOf:Str->Option NameKind}{x:Str}{v:Value}:∀{P:List Str} {vs:List Value} {i:Nat} {m:Str->Option Value},P.Nodup->P[i]?=some x->vs[i]?=some v->kindOf x=some .local->
  bindL kindOf (P.zip vs) m x=some v
 | [],_,_,_,_,h,_,_=>by simp at h
 | _::_,[],_,_,_,_,h,_=>by simp at h
 | p::P,w::vs,0,m,nd,h1,h2,hk=>by
  simp at h1 h2;subst h1;subst h2
  show bindL kindOf ((p,w)::P.zip vs) m p=_
  unfold bindL
  rw[gz λv hv=>(List.nodup_cons.mp nd).1 (List.of_mem_zip hv).1,if_pos hk]
  simp
 | p::P,w::vs,i+1,m,nd,h1,h2,hk=>by
  show bindL kindOf ((p,w)::P.zip vs) m x=_
  unfold bindL
  exact fV (i:=i) (List.nodup_cons.mp nd).2 (by simpa using h1) (by simpa using h2) hk
theorem gB{kindOf:Str->Option NameKind}{x:Str}{v:Value}:∀{P:List Str} {vs:List Value} {i:Nat} {m:Str->Option Value},P.Nodup->P[i]?=some x->vs[i]?=some v->kindOf x≠some .local->
  bindC kindOf (P.zip vs) m x=some v
 | [],_,_,_,_,h,_,_=>by simp at h
 | _::_,[],_,_,_,_,h,_=>by simp at h
 | p::P,w::vs,0,m,nd,h1,h2,hk=>by
  simp at h1 h2;subst h1;subst h2
  show bindC kindOf ((p,w)::P.zip vs) m p=_
  unfold bindC
  rw[f9 λv hv=>(List.nodup_cons.mp nd).1 (List.of_mem_zip hv).1,if_neg hk]
  simp
 | p::P,w::vs,i+1,m,nd,h1,h2,hk=>by
  show bindC kindOf ((p,w)::P.zip vs) m x=_
  unfold bindC
  exact gB (i:=i) (List.nodup_cons.mp nd).2 (by simpa using h1) (by simpa using h2) hk
def start(N:List Str)(vs:List V):St:=vs.map some++List.replicate (N.length-vs.length) none
def cxOf(CX:CXT)(P:Program)(w:World)(K:PySem.W.Frag)(mg:Str->Option Value)(base:Heap)(N:List Str)(qual:Str)(scope:Scope)(f:Addr)(cd:Value)(A:Around)(outer:List Env)(s:Shared)(H:Hp)(E:XK):Cx where
 prog:=P
 w:=w
 K:=K
 mg:=mg
 base:=base
 A:=A.deeper (envOfC qual scope s.heap.objs.size f cd)
 N:=N
 s₀:=s
 H₀:=H
 env:=envOfC qual scope s.heap.objs.size f cd
 outer:=outer
 stack:=envOfC qual scope s.heap.objs.size f cd::outer
 ex:=[]
 calm:=true
 fn:=λ_=>true
 pn:=[]
 xe:=λe s'=>wpAny (model P w) (A.deeper (envOfC qual scope s.heap.objs.size f cd)) (leaving (envOfC qual scope s.heap.objs.size f cd) e) (λ_ s''=>CX outer H s E e s'') (λe' s''=>CX outer H s E e' s'') s'
theorem im{sc:Scope}{n:Nat}{x:Str}(h:sc.names.lookup x=some .cell):∃c,(cellsFrom n sc.names []).lookup x=some c:=by
 have q:=PySem.W.cellsFrom_some sc.names n [] (.inl h)
 exact Option.isSome_iff_exists.mp q
theorem jL{CX:CXT}{P:Program}{w:World}{K:PySem.W.Frag}{mg:Str->Option Value}{base:Heap}{N ps:List Str}{qual:Str}{scope:Scope}{f:Addr}{cd:Value}{A:Around}{outer:List Env}{s s1:Shared}{H:Hp}{E:XK}{us:List Value}{vs:List V}
  (S:FnScope N ps scope)(hd:A.handled=none)(e0:Env0 P w K mg base A outer s H)(hl:vs.length=ps.length)(r:Vals vs us)
  (x:InCallC s s.heap.objs.size (bindL (envOfC qual scope s.heap.objs.size f cd).kindOf (ps.zip us) λ_=>none) (cellsFrom (s.heap.objs.size+1) scope.names []) (bindC (envOfC qual scope s.heap.objs.size f cd).kindOf (ps.zip us) λ_=>none) s1):
  Inv (cxOf CX P w K mg base N qual scope f cd A outer s H E) [] (start N vs) H s1:=by
 have hpl:ps.length<=N.length:=by have:=congrArg List.length S.pre;rw[List.length_take]at this;omega
 obtain⟨h1,tk,rfl,hk⟩:=x.done
 have noA:∀b:Addr,b∉(cxOf CX P w K mg base N qual scope f cd A outer s H E).ex:=λb z=>absurd (show b∈([]:List Addr)from z) (by simp)
 refine⟨⟨e0.mod,S.kind,rfl,rfl,Nat.le_refl _,λy z c h1 h2=>?_,λy hy=>?_,λy c _ h=>?_,λ_=>hd,Around.frames_deeper e0.frames,.inr ⟨rfl,rfl⟩,λb z=>absurd z (noA b),e0.bs,e0.bsz,λb _ _=>noA b,λb z=>absurd z (noA b),e0.funs,e0.frf⟩,
  rfl,e0.bare,Un.kept hk,⟨_,x.toInCall.ns,λi y v h1 h2 h3=>?_⟩,λy c h=>⟨_,x.cell y c h⟩,e0.hok.fresh (Nat.le_refl _),λy c h=>?_,λp hp=>absurd (show p∈([]:List (Addr×Obj))from hp) (by simp),e0.hok.kept hk,?_⟩
 ·exact name_of_addr x.apart (PySem.mem_of_lookup h1) (PySem.mem_of_lookup h2)
 ·have hy:scope.names.lookup y=some .cell\/scope.names.lookup y=some .free:=hy
  rcases hy with hy|hy
  ·exact im hy
  ·exact absurd rfl (S.nofree _ (PySem.mem_of_lookup hy))
 ·exact Nat.le_of_lt (x.above y c (PySem.mem_of_lookup h))
 ·have hi:i<vs.length:=by
   unfold start at h2
   by_cases hi:i<vs.length
   ·exact hi
   ·rw[List.getElem?_append_right (by simpa using hi)]at h2
    rw[List.getElem?_replicate]at h2
    split at h2 <;> cases h2
  have ha:vs[i]?=some v:=by
   unfold start at h2
   rw[List.getElem?_append_left (by simpa using hi),List.getElem?_map]at h2
   cases e:vs[i]? with
   | none=>rw[e]at h2;cases h2
   | some a=>rw[e]at h2;cases h2;rfl
  obtain⟨u,hu,rv⟩:=r.get ha
  have hp:ps[i]?=some y:=by
   rw[<-S.pre,List.getElem?_take_of_lt (by omega)];exact h1
  have ndP:ps.Nodup:=by rw[<-S.pre];exact S.nd.sublist (List.take_sublist _ _)
  refine⟨u,rv,?_⟩
  rcases S.par y (List.mem_of_getElem? hp)with k|k
  ·exact .inl ⟨k,fV ndP hp hu k⟩
  ·obtain⟨c,e⟩:=im (n:=s.heap.objs.size+1) k
   refine .inr ⟨.inl k,c,e,?_⟩
   have q:=x.cell y c e
   rw[gB ndP hp hu (by show scope.names.lookup y≠_;rw[k];decide)]at q
   exact q
 ·exact e0.hok.fresh (Nat.le_of_lt (x.above y c (PySem.mem_of_lookup h)))
 ·unfold start
  show _=N.length
  rw[List.length_append,List.length_map,List.length_replicate]
  omega
theorem l9{CX:CXT}{P:Program}{w:World}{K:PySem.W.Frag}{mg:Str->Option Value}{base:Heap}{k:Nat}{f:Addr}{name qual:Str}{params:Arguments}{body:List Stmt}{scope:Scope}{dV kV doc pm cdv ct oc:Value}{an od:Option Addr}
  {osl:Array (Option Value)}{N ps:List Str}{sp:Sp}(lk:K.lookup f=some ⟨oc,od,.func (PySem.W.fnOf name qual params body scope dV kV doc pm an cdv ct),osl⟩)(hcd:PySem.W.codeIn K cdv qual=true)(S:FnScope N ps scope)
  (len:∀vs H Q E,sp vs H Q E->vs.length=ps.length)
  (hbody:∀(A:Around) (outer:List Env) (s:Shared) (H:Hp) (vs:List V) (Q:VK) (E:XK),Room k (A.deeper (envOfC qual scope s.heap.objs.size f cdv))->sp vs H Q E->
   ∃t,PSs (cxOf CX P w K mg base N qual scope f cdv A outer s H E) body t/\t {nx:=λ_ H'=>Q .non H',rt:=Q} (start N vs) H):
  FnOk P w K mg base CX (k+1) f (PySem.W.fnOf name qual params body scope dV kV doc pm an cdv ct) ps sp:=by
 refine⟨len,λA outer s H args us vs Q E hr e0 hb r hsp=>?_⟩
 have hl:=len _ _ _ _ hsp
 have KX:K.In s.heap:=e0.mod.kin.keeps λb o e=>(e0.bs b o e).1
 have lim:s.heap.NoLimit:=e0.mod.nolimit.keeps λb o e=>(e0.bs b o e).1
 have hkind:∀y∈ps.zip us,scope.names.lookup y.1=some .local\/(scope.names.lookup y.1=some .cell/\((cellsFrom (s.heap.objs.size+1) scope.names []).lookup y.1).isSome=true):=λ⟨n,v⟩ hy=>by
  rcases S.par n (List.of_mem_zip hy).1 with q|q
  ·exact .inl q
  ·exact .inr ⟨q,PySem.W.cellsFrom_some _ _ _ (.inl q)⟩
 refine codeAny_call_function hr.depth (KX _ _ lk) rfl S.co S.gen rfl (PySem.W.codeRec_of KX hcd) (hb _ _ _ _ ?_)
 refine wpAny_newFunctionEnv_cells S.kind hkind λenv he s1 x=>?_
 subst he
 refine⟨lim.keeps x.toInCall.keep,codeAny_func ?_⟩
 obtain⟨t,ht,hq⟩:=hbody A outer s H vs Q E (hr.deeper _) hsp
 have I:Inv (cxOf CX P w K mg base N qual scope f cdv A outer s H E) [] (start N vs) H s1:=jL S hr.hd e0 hl r x
 refine wpAny_mono (ht [] s1 (start N vs) H _ I hq) (λfl s' hs=>?_) λe s' hs=>hs
 have fin:∀{σ':St} {H':Hp} {v:V} {u:Value},Inv (cxOf CX P w K mg base N qual scope f cdv A outer s H E) [] σ' H' s'->RelV v u->Q v H'->CE outer P w H s Q u s':=
  λ {σ' H' v u} J rv q=>⟨v,H',J.os,J.bare,J.base,J.hok,rv,q⟩
 cases fl with
 | ret u=>
  obtain⟨v,σ',H',J,rv,q⟩:=hs
  exact fin J rv q
 | next=>
  obtain⟨σ',H',J,q⟩:=hs
  exact fin (v:=V.non) (u:=Value.none) J rfl q
 | brk=>
  obtain⟨_,_,_,q⟩:=hs
  exact False.elim q
 | cont=>
  obtain⟨_,_,_,q⟩:=hs
  exact False.elim q
end L2
namespace L2
open PySem PySem.Spec PyProof.Rows
section
variable{X:Cx}{x:Str}{p pos:Pos}{e:Expr}{es:List Expr}{t:TA}{id T:String}{r:List V->Hp->VK->Prop}
def tCB(r:List V->Hp->VK->Prop)(t:TA):TE:=λσ H Q=>t σ H λvs H1=>r vs H1 Q
theorem ai(hc:CallR X (.builtin id) r)(hg:Gl X x)(hm:X.mg x=none)(hv:bootBuiltins x=some (.builtin id))(ha:PA X (e::es) t)(hn:x≠"__name__":=by decide)(hdb:(x==("__debug__":Str))=false:=by decide)
  (he:starEach (e::es) X.env=(false,eval e X.env)::starEach es X.env:=by rfl)(hpl:(backTo pos (starEach es X.env)).any (·.1)=false:=by rfl):PE X (.Call (.Name x p) (e::es) [] pos) (tCB r t):=by
 intro pins s σ H Q I h
 refine wpAny_Call_Name_kw (bS I hg hm hv ?_ hn hdb)
 exact PyProof.Rows.callWith_builtin1 (thn (ha pos pins s σ H _ I h) λus s1 ⟨vs,H1,I1,r1,q1⟩=>hc pins s1 σ H1 vs us Q I1 r1 q1) he hpl
theorem aD(hc:CallR X (.type T) r)(hg:Gl X x)(hm:X.mg x=none)(hv:bootBuiltins x=some (.type T))(ha:PA X (e::es) t)(hn:x≠"__name__":=by decide)(hdb:(x==("__debug__":Str))=false:=by decide)
  (he:starEach (e::es) X.env=(false,eval e X.env)::starEach es X.env:=by rfl)(hpl:(backTo pos (starEach es X.env)).any (·.1)=false:=by rfl):PE X (.Call (.Name x p) (e::es) [] pos) (tCB r t):=by
 intro pins s σ H Q I h
 refine wpAny_Call_Name_kw (bS I hg hm hv ?_ hn hdb)
 exact PyProof.Rows.callWith_type1 (thn (ha pos pins s σ H _ I h) λus s1 ⟨vs,H1,I1,r1,q1⟩=>hc pins s1 σ H1 vs us Q I1 r1 q1) he hpl
end
end L2
namespace HT
open PySem PyProof.Rows
section
variable{prog:Program}{w:World}{A:Around}{E:Value->Shared->Prop}{s:Shared}
theorem cat_tup{t b:Addr}{vs ws:List Value}{Q:Value->Shared->Prop}(ht:IsTup s.heap t vs.toArray)(hb:IsTup s.heap b ws.toArray)(hv:vs≠[])
  (h1:ws=[]->Q (.ref t) s)(h2:ws≠[]->Q (.ref s.heap.objs.size) {s with heap:=s.heap.push {cls:= .type "tuple",data:= .seq (vs++ws).toArray}})
  (hsz:vs.length+ws.length<=sizeLine):wpAny (model prog w) A (binaryOp .Add (.ref t) (.ref b)) Q E s:=by
 obtain⟨⟨cls,dd,data,sl⟩,ho,hc,n,hd⟩:=id ht
 obtain⟨⟨cls2,dd2,data2,sl2⟩,ho2,hc2,n2,hd2⟩:=id hb
 simp only at hc hd hc2 hd2
 subst hc hd hc2 hd2
 have e:vs.toArray++ws.toArray=(vs++ws).toArray:=by simp
 by_cases hw:ws=[]
 ·exact concat_meets ⟨_,ho,rfl⟩ ⟨_,ho2,rfl⟩ noFill_tuple_add seq_tuple_add PySem.F.slot_tuple_add PySem.F.entry_tuple_add (PySem.F.args_tuple_add_2 _ _)
   (tuple_addW1 t b vs.toArray ws.toArray n n2 dd dd2 sl sl2 (by simpa using hv) (by simp[hw])) ⟨ho,ho2,h1 hw⟩
 ·refine concat_meets ⟨_,ho,rfl⟩ ⟨_,ho2,rfl⟩ noFill_tuple_add seq_tuple_add PySem.F.slot_tuple_add PySem.F.entry_tuple_add (PySem.F.args_tuple_add_2 _ _)
   (tuple_addW2 t b vs.toArray ws.toArray n n2 dd dd2 sl sl2 (by simpa using hv) (by simpa using hw) (by rw[List.size_toArray,List.size_toArray];exact hsz)) ⟨ho,ho2,?_⟩
  rw[e]
  exact h2 hw
def sIx(n d:Nat):Option Int->Nat
 | none=>d
 | some v=>if v<0 then(v+(n:Int)).toNat else min v.toNat n
theorem sIx_none(n d:Nat):sIx n d none=d:=rfl
theorem sIx_nat(n d k:Nat):sIx n d (some (k:Int))=min k n:=by
 show(if(k:Int)<0 then((k:Int)+(n:Int)).toNat else min (k:Int).toNat n)=min k n
 rw[if_neg (by omega),Int.toNat_natCast]
theorem l6(n d:Nat)(hd:d<=n)(o:Option Int):sIx n d o<=n:=by
 cases o with
 | none=>exact hd
 | some v=>
  show(if v<0 then(v+(n:Int)).toNat else min v.toNat n)<=n
  by_cases hv:v<0
  ·rw[if_pos hv];omega
  ·rw[if_neg hv];exact Nat.min_le_right _ _
theorem ka(v:Int)(n d:Nat):(if v<0 then max (v+(n:Int)) 0 else min v (n:Int))=((sIx n d (some v):Nat):Int):=by
 show(if v<0 then max (v+(n:Int)) 0 else min v (n:Int))=(((if v<0 then(v+(n:Int)).toNat else min v.toNat n):Nat):Int)
 by_cases hv:v<0
 ·simp only[if_pos hv];omega
 ·simp only[if_neg hv];omega
theorem iG(lo hi:Option Int)(n:Nat):Builtin.Slice.sliceAdjust lo hi 1 (n:Int)=(((sIx n 0 lo:Nat):Int),((sIx n n hi:Nat):Int)):=by
 have h1:¬((1:Int)<0):=by omega
 unfold Builtin.Slice.sliceAdjust
 simp only[h1,if_false]
 refine Prod.ext ?_ ?_
 ·cases lo with
  | none=>rfl
  | some v=>exact ka v n 0
 ·cases hi with
  | none=>rfl
  | some v=>exact ka v n n
theorem iW(i j:Nat):Builtin.Slice.slicePlaces (i:Int) (j:Int) 1=j-i:=by
 unfold Builtin.Slice.slicePlaces
 have h1:(1:Int)>0:=by omega
 simp only[h1,if_true,Int.ediv_one]
 split <;> omega
theorem eV{v:Value}{o:Option Int}{Q:Option Int->Shared->Prop}(p:IsPart v o)(h:Q o s):wpAny (model prog w) A (Builtin.Slice.slicePartIndex v) Q E s:=by
 cases p with
 | none=>exact slicePart_none h
 | int i t=>exact slicePart_int h
theorem dv{sl:Addr}{vl vu:Value}{lo hi:Option Int}{n:Nat}{Q:Int×Int×Nat->Shared->Prop}(hs:s.heap.IsSliceOf sl vl vu .none)(pl:IsPart vl lo)(pu:IsPart vu hi)
  (h:Q (((sIx n 0 lo:Nat):Int),1,sIx n n hi-sIx n 0 lo) s):wpAny (model prog w) A (Builtin.Slice.sliceApplied (.ref sl) (pure (n:Int))) Q E s:=by
 obtain⟨os,hos,hcs,hds⟩:=id hs
 unfold Builtin.Slice.sliceApplied Builtin.Slice.sliceFields
 refine wpAny_bind (wpAny_bind (wpAny_field hos hds (x:=vl) rfl (wpAny_bind (wpAny_field hos hds (x:=vu) rfl (wpAny_bind (wpAny_field hos hds (x:= .none) rfl (wpAny_pure ?_)))))))
 refine wpAny_bind (slicePart_none ?_)
 show wpAny _ _ (if((1:Int)==0)=true then _ else _) _ _ s
 rw[if_neg (by decide)]
 refine wpAny_bind (eV pl (wpAny_bind (eV pu (wpAny_bind (wpAny_pure ?_)))))
 show wpAny _ _ (match Builtin.Slice.sliceAdjust lo hi 1 (n:Int)with|(lo,hi)=>pure (lo,(1:Int),Builtin.Slice.slicePlaces lo hi 1)) _ _ s
 rw[iG lo hi n]
 show wpAny _ _ (pure (((sIx n 0 lo:Nat):Int),(1:Int),Builtin.Slice.slicePlaces ((sIx n 0 lo:Nat):Int) ((sIx n n hi:Nat):Int) 1)) _ _ s
 rw[iW]
 exact wpAny_pure h
theorem kB(xs:Array Value)(i k:Nat):((List.range k).filterMap λ(m:Nat)=>xs[((i:Int)+(m:Int)*1).toNat]?).toArray=((xs.toList.drop i).take k).toArray:=by
 have e:(λ(m:Nat)=>xs[((i:Int)+(m:Int)*1).toNat]?)=λm=>xs[i+m]?:=by
  funext m
  have:((i:Int)+(m:Int)*1).toNat=i+m:=by omega
  rw[this]
 rw[e]
 have:=pick_run xs i k
 rw[List.filterMap_map]at this
 have e2:((λx=>xs[x]?)∘λx=>i+x)=λm=>xs[i+m]?:=rfl
 rw[e2]at this
 rw[this]
theorem getItem_tuple_cut{t sl:Addr}{items:Array Value}{vl vu:Value}{lo hi:Option Int}{Q:Value->Shared->Prop}(ht:IsTup s.heap t items)(hs:s.heap.IsSliceOf sl vl vu .none)(pl:IsPart vl lo)(pu:IsPart vu hi)
  (hw:¬(sIx items.size 0 lo=0/\sIx items.size items.size hi=items.size))
  (h:Q (.ref s.heap.objs.size) {s with heap:=s.heap.push {cls:= .type "tuple",data:= .seq ((items.toList.drop (sIx items.size 0 lo)).take (sIx items.size items.size hi-sIx items.size 0 lo)).toArray}})
  (hsz:items.size<=sizeLine):wpAny (model prog w) A (getItem (.ref t) (.ref sl)) Q E s:=by
 have htake:sizeOk (.seq ((items.toList.drop (sIx items.size 0 lo)).take (sIx items.size items.size hi-sIx items.size 0 lo)).toArray):=by
  show((items.toList.drop (sIx items.size 0 lo)).take (sIx items.size items.size hi-sIx items.size 0 lo)).toArray.size<=sizeLine
  rw[List.size_toArray,List.length_take,List.length_drop,Array.length_toList]
  omega
 have hj:sIx items.size items.size hi<=items.size:=l6 _ _ (Nat.le_refl _) hi
 obtain⟨os,hos,hcs,hds⟩:=id hs
 have hTs:s.TypeIs (.ref sl) "slice":=⟨os,hos,hcs⟩
 unfold getItem
 try with_reducible refine wpAny_holding ?_
 first|refine wpAny_bind (wpAny_pure ?_)|skip
 refine wpAny_bind (wpAny_sequenceKey ht.typeIs (by decide) ?_)
 refine wpAny_bind (wpAny_callSpecial?_slot (name:=Str.ofString "__getitem__") ht.typeIs PyProof.Rows.slot_tuple_getitem
  (wpAny_call_entry PyProof.Rows.slot_tuple_getitem ht.typeIs entry_tuple_getitem ?_ (args_tuple_getitem _ _)))
 show wpAny _ _ (Builtin.Tuple.tupleItemsOf (.ref t) >>= _) _ _ s
 refine wpAny_bind (tupleItemsOf_ ht ?_)
 refine wpAny_bind (wpAny_typeOf hTs ?_)
 rw[if_pos (by decide)]
 refine wpAny_bind (dv hs pl pu ?_)
 have hno:¬((((sIx items.size 0 lo:Nat):Int)==0&&(1:Int)==1&&(sIx items.size items.size hi-sIx items.size 0 lo)==items.size)=true):=by
  intro q
  rw[Bool.and_eq_true,Bool.and_eq_true]at q
  have q1:((sIx items.size 0 lo:Nat):Int)=0:=eq_of_beq q.1.1
  have q2:sIx items.size items.size hi-sIx items.size 0 lo=items.size:=eq_of_beq q.2
  exact hw ⟨by omega,by omega⟩
 show wpAny _ _ (if(((sIx items.size 0 lo:Nat):Int)==0&&(1:Int)==1&&(sIx items.size items.size hi-sIx items.size 0 lo)==items.size)=true then _ else _) _ _ s
 rw[if_neg hno,kB]
 first
  | exact wpAny_bind (m:=Builtin.Tuple.tupleExact _) (wpAny_newObj_type (wpAny_pure ⟨_,rfl,wpAny_pure h⟩) htake)
  | exact wpAny_bind (m:=Builtin.Tuple.tupleExact _) (wpAny_newObj_type (wpAny_bind (wpAny_pure (wpAny_pure ⟨_,rfl,wpAny_pure h⟩))) htake)
  | exact wpAny_bind (wpAny_bind (m:=Builtin.Tuple.tupleExact _) (wpAny_newObj_type (wpAny_pure (wpAny_pure ⟨_,rfl,wpAny_pure h⟩)) htake))
  | exact wpAny_bind (wpAny_bind (m:=Builtin.Tuple.tupleExact _) (wpAny_newObj_type (wpAny_pure ⟨_,rfl,wpAny_pure h⟩) htake))
end
end HT
namespace L2
open PySem PySem.Spec PyProof.Rows
abbrev TO:=St->Hp->(Option Int->Hp->Prop)->Prop
def PO(X:Cx)(e:Option Expr)(t:TO):Prop:=
 ∀(pins:List (Addr×Obj)) (s:Shared) (σ:St) (H:Hp) (Q:Option Int->Hp->Prop),Inv X pins σ H s->t σ H Q->
  wpAny (model X.prog X.w) X.A (evalPart e X.env) (λu s'=>∃o H',Inv X pins σ H' s'/\IsPart u o/\Q o H') X.xe s
def tNoPart:TO:=λ_ H Q=>Q none H
def tPart(t:TE):TO:=λσ H Q=>t σ H λx H1=>∃i,x = .int i/\Q (some i) H1
section
variable{X:Cx}{e:Expr}{te:TE}{lo hi:Option Expr}{tl th:TO}{pos p2:Pos}
theorem fJ:PO X none tNoPart:=by
 intro pins s σ H Q I h
 rw[evalPart_none]
 exact wpAny_pure ⟨none,H,I,.none,h⟩
theorem fK(h:PE X e te):PO X (some e) (tPart te):=by
 intro pins s σ H Q I hw
 rw[evalPart_some]
 refine thn (h pins s σ H _ I hw) λu s1 ⟨x,H1,I1,r1,q1⟩=>?_
 obtain⟨i,rfl,q⟩:=q1
 obtain⟨t,rfl⟩:=r1
 exact⟨some i,H1,I1,.int i t,q⟩
def SlR(X:Cx)(r:V->Option Int->Option Int->Hp->VK->Prop):Prop:=
 ∀(pins:List (Addr×Obj)) (s:Shared) (σ:St) (H:Hp) (x:V) (v vl vu:Value) (lo hi:Option Int) (sl:Addr) (Q:VK),Inv X pins σ H s->RelV x v->s.heap.IsSliceOf sl vl vu .none->IsPart vl lo->IsPart vu hi->r x lo hi H Q->
  ∃T id,typeLookup (.type T) "__getitem__"=pure (some (.builtin id))/\s.TypeIs v T/\wpAny (model X.prog X.w) X.A (getItem v (.ref sl)) (EP X pins σ Q) X.xe s
def tSl(r:V->Option Int->Option Int->Hp->VK->Prop)(te:TE)(tl th:TO):TE:=λσ H Q=>te σ H λx H1=>tl σ H1 λl H2=>th σ H2 λu H3=>r x l u H3 Q
theorem dA{r:V->Option Int->Option Int->Hp->VK->Prop}(hr:SlR X r)(he:PE X e te)(hl:PO X lo tl)(hu:PO X hi th):PE X (.Subscript e (.Slice lo hi none p2) pos) (tSl r te tl th):=by
 intro pins s σ H Q I h
 refine Subscript_ (thn (he pins s σ H _ I h) λv s1 ⟨x,H1,I1,r1,q1⟩=>?_)
 refine wpAny_Slice (thn (hl pins s1 σ H1 _ I1 q1) λvl s2 ⟨l,H2,I2,pl,q2⟩=>thn (hu pins s2 σ H2 _ I2 q2) λvu s3 ⟨u,H3,I3,pu,q3⟩=>?_)
 rw[evalPart_none]
 refine wpAny_pure ?_
 have I4:Inv X pins σ H3 {s3 with heap:=s3.heap.push {cls:= .type "slice",data:= .fields #[vl,vu,.none]}}:=I3.kept (t':=s3.toks) λb ob q=>Heap.get?_push_of_some _ q
 obtain⟨T,id,hT,ht,hg⟩:=hr pins {s3 with heap:=s3.heap.push {cls:= .type "slice",data:= .fields #[vl,vu,.none]}} σ H3 x v vl vu l u s3.heap.objs.size Q I4 r1 (Heap.IsSliceOf.new ..) pl pu q3
 show wpAny (model X.prog X.w) X.A (subscriptTail e (.Slice lo hi none p2) v (.ref s3.heap.objs.size)) (EP X pins σ Q) X.xe {s3 with heap:=s3.heap.push {cls:= .type "slice",data:= .fields #[vl,vu,.none]}}
 exact tail_any (ops:=[.ref s3.heap.objs.size,v]) ht hT hg (by with_unfolding_all rfl)
def cutV(xs:List V)(lo hi:Option Int):List V:=(xs.drop (HT.sIx xs.length 0 lo)).take (HT.sIx xs.length xs.length hi-HT.sIx xs.length 0 lo)
theorem dZ(xs:List V)(lo hi:Option Int):(cutV xs lo hi).length<=xs.length:=by
 unfold cutV
 rw[List.length_take,List.length_drop]
 omega
def rSlT(K:PySem.W.Frag):V->Option Int->Option Int->Hp->VK->Prop:=λx lo hi H Q=>∃a xs,x = .ref a/\SqT K H a xs/\
 ¬(HT.sIx xs.length 0 lo=0/\HT.sIx xs.length xs.length hi=xs.length)/\∀p,H p=none->Q (.ref p) (upd H p (.tup (cutV xs lo hi)))
theorem kP:SlR X (rSlT X.K):=by
 intro pins s σ H x v vl vu lo hi sl Q I rx hs pl pu h
 obtain⟨a,xs,rfl,hx,hw,q⟩:=h
 cases rx
 obtain⟨its,r,ht,hz⟩:=I.tuple hx
 have hlen:its.toArray.size=xs.length:=by rw[List.size_toArray];exact r.length.symm
 refine⟨"tuple",_,PyProof.Rows.slot_tuple_getitem.lookup,ht.typeIs,?_⟩
 refine HT.getItem_tuple_cut ht hs pl pu (by rw[hlen];exact hw) ?_ (by rw[hlen];exact hz)
 rw[hlen]
 refine⟨.ref s.heap.objs.size,_,I.laid (t':=s.toks) (o:= .tup (cutV xs lo hi)) (λb ob q=>Heap.get?_push_of_some _ q) (Nat.le_refl _) ?_,rfl,q _ (I.hok.fresh (Nat.le_refl _))⟩
 exact⟨Nat.le_trans (dZ xs lo hi) hz,_,(r.drop (HT.sIx xs.length 0 lo)).take (HT.sIx xs.length xs.length hi-HT.sIx xs.length 0 lo),IsTup.new _ _⟩
def rCatT(K:PySem.W.Frag):R2:=λx y H Q=>∃a b xs ys,x = .ref a/\y = .ref b/\SqT K H a xs/\SqT K H b ys/\xs≠[]/\xs.length+ys.length<=sizeLine/\
 (ys=[]->Q (.ref a) H)/\(ys≠[]->∀p,H p=none->Q (.ref p) (upd H p (.tup (xs++ys))))
theorem Vals.nil_iff{xs:List V}{us:List Value}(r:Vals xs us):us=[]↔xs=[]:=by
 cases r with
 | nil=>simp
 | cons _ _=>simp
theorem lI:OpR X (binaryOp .Add) (rCatT X.K):=by
 intro pins s σ H x y v u Q I rx ry h
 obtain⟨a,b,xs,ys,rfl,rfl,ha,hb,hx,hz,q1,q2⟩:=h
 cases rx
 cases ry
 obtain⟨its,r1,p1,_⟩:=I.tuple ha
 obtain⟨its2,r2,p2,_⟩:=I.tuple hb
 refine HT.cat_tup p1 p2 (λz=>hx (r1.nil_iff.mp z)) (λz=>⟨.ref a,H,I,rfl,q1 (r2.nil_iff.mp z)⟩) (λz=>?_) (by rw[<-r1.length,<-r2.length];exact hz)
 refine⟨.ref s.heap.objs.size,_,I.laid (t':=s.toks) (o:= .tup (xs++ys)) (λb ob q=>Heap.get?_push_of_some _ q) (Nat.le_refl _) ?_,rfl,q2 (λw=>z (r2.nil_iff.mpr w)) _ (I.hok.fresh (Nat.le_refl _))⟩
 exact⟨by rw[List.length_append];exact hz,_,r1.append r2,IsTup.new _ _⟩
end
end L2
namespace L2
open PySem PySem.Spec PyProof.Rows
def ixN(n:Nat)(i:Int):Option Nat:=if 0<=i then(if i<n then some i.toNat else none)else if -(n:Int)<=i then some (i+n).toNat else none
def atI{α:Type}(xs:List α)(i:Int):Option α:=(ixN xs.length i).bind λj=>xs[j]?
theorem i0{n:Nat}{i:Int}{j:Nat}(h:ixN n i=some j):seqIndex? i n=some j/\j<n/\ -(n:Int)<=i/\i<n:=by
 unfold ixN at h
 by_cases h0:0<=i
 ·rw[if_pos h0]at h
  by_cases h1:i<n
  ·rw[if_pos h1]at h
   have e:i.toNat=j:=Option.some.inj h
   exact⟨by rw[seqIndex_of h0 h1,e],by omega,by omega,h1⟩
  ·rw[if_neg h1]at h;cases h
 ·rw[if_neg h0]at h
  by_cases h1: -(n:Int)<=i
  ·rw[if_pos h1]at h
   have e:(i+n).toNat=j:=Option.some.inj h
   exact⟨by rw[seqIndex_neg (by omega) h1,e],by omega,h1,by omega⟩
  ·rw[if_neg h1]at h;cases h
theorem gW{α:Type}{xs:List α}{i:Int}{v:α}(h:atI xs i=some v):∃j,seqIndex? i xs.length=some j/\xs[j]?=some v/\j<xs.length/\ -(xs.length:Int)<=i/\i<xs.length:=by
 unfold atI at h
 cases e:ixN xs.length i with
 | none=>rw[e]at h;cases h
 | some j=>
  rw[e]at h
  obtain⟨h1,h2,h3,h4⟩:=i0 e
  exact⟨j,h1,h,h2,h3,h4⟩
theorem ay{α:Type}{xs:List α}{j:Nat}{v:α}(h:xs[j]?=some v):atI xs (j:Int)=some v:=by
 have hj:j<xs.length:=(List.getElem?_eq_some_iff.mp h).1
 have e:ixN xs.length (j:Int)=some j:=by
  unfold ixN
  rw[if_pos (by omega),if_pos (by omega)];simp
 unfold atI;rw[e];exact h
def PlainIx(b:Expr):Prop:=∀o i,subscripted b false o i=operate [o,i] (getItem o i)
def IxR(X:Cx)(r:R2):Prop:=
 ∀(value slice:Expr) (pins:List (Addr×Obj)) (s:Shared) (σ:St) (H:Hp) (x y:V) (v u:Value) (Q:VK),Inv X pins σ H s->RelV x v->RelV y u->r x y H Q->
  subscripted slice false v u=operate [v,u] (getItem v u)->wpAny (model X.prog X.w) X.A (subscriptTail value slice v u) (EP X pins σ Q) X.xe s
def MtR(X:Cx)(id:String)(r:V->List V->Hp->VK->Prop):Prop:=
 ∀(pins:List (Addr×Obj)) (s:Shared) (σ:St) (H:Hp) (x:V) (xs:List V) (v:Value) (us:List Value) (Q:VK),Inv X pins σ H s->RelV x v->Vals xs us->r x xs H Q->
  wpAny (model X.prog X.w) X.A (call (.builtin id) (v::us)) (EP X pins σ Q) X.xe s
section
variable{X:Cx}{a b:Expr}{ta tb:TE}{pos:Pos}
theorem IxR.or{r r':R2}(h:IxR X r)(h':IxR X r'):IxR X (λx y H Q=>r x y H Q\/r' x y H Q):=by
 intro value slice pins s σ H x y v u Q I rx ry q hs
 rcases q with q|q
 ·exact h value slice pins s σ H x y v u Q I rx ry q hs
 ·exact h' value slice pins s σ H x y v u Q I rx ry q hs
theorem au{r:R2}(hr:IxR X r)(ha:PE X a ta)(hb:PE X b tb)(hs:PlainIx b):PE X (.Subscript a b pos) (tOp r ta tb):=by
 intro pins s σ H Q I h
 exact Subscript_ (binT ha hb I h λv u s2 x y H2 I2 rx ry q=>hr a b pins s2 σ H2 x y v u Q I2 rx ry q (hs _ _))
def rIxL(K:PySem.W.Frag):R2:=λx y H Q=>∃p xs i v,x = .ref p/\y = .int i/\SqL K H p xs/\atI xs i=some v/\Q v H
def rIxT(K:PySem.W.Frag):R2:=λx y H Q=>∃p xs i v,x = .ref p/\y = .int i/\SqT K H p xs/\atI xs i=some v/\Q v H
def rIxS:R2:=λx y H Q=>∃z i c,x = .str z/\y = .int i/\z.length<=sizeLine/\atI z.cps.toList i=some c/\Q (.str ⟨#[c]⟩) H
theorem aB:IxR X (rIxL X.K):=by
 intro value slice pins s σ H x y v u Q I rx ry h hs
 obtain⟨p,xs,i,z,rfl,rfl,hq,he,q⟩:=h
 cases rx
 obtain⟨t,rfl⟩:=ry
 obtain⟨its,r,pl,hz⟩:=I.list hq
 obtain⟨j,h1,h2,h3,h4,h5⟩:=gW he
 obtain⟨w,ew,rw'⟩:=r.get h2
 have hl:=r.length
 have hn:=line63
 have fin:EP X pins σ Q w s:=⟨z,H,I,rw',q⟩
 by_cases h0:0<=i
 ·have hj:i.toNat=j:=by
   rw[seqIndex_of h0 h5]at h1
   exact Option.some.inj h1
  exact item_listR pl.isList h0 (by omega) (by rw[hj];simpa using ew) fin hs
 ·have hj:(i+(its.toArray.size:Int)).toNat=j:=by
   rw[seqIndex_neg (by omega) h4]at h1
   rw[List.size_toArray,<-hl]
   exact Option.some.inj h1
  exact subscriptTail_builtinR (x:=w) pl.isList.typeIs slot_list_getitem.lookup
   (wpAny_getItem_list_neg (Q:=λr s'=>r=w/\EP X pins σ Q r s') pl.isList (by omega) (by rw[List.size_toArray] <;> omega) (by omega) (by rw[hj];simpa using ew) ⟨rfl,fin⟩) hs
theorem ax:IxR X (rIxT X.K):=by
 intro value slice pins s σ H x y v u Q I rx ry h hs
 obtain⟨p,xs,i,z,rfl,rfl,hq,he,q⟩:=h
 cases rx
 obtain⟨t,rfl⟩:=ry
 obtain⟨its,r,pl,hz⟩:=I.tuple hq
 obtain⟨j,h1,h2,h3,h4,h5⟩:=gW he
 obtain⟨w,ew,rw'⟩:=r.get h2
 have hl:=r.length
 have hn:=line63
 have fin:EP X pins σ Q w s:=⟨z,H,I,rw',q⟩
 exact subscriptTail_builtinR (x:=w) pl.typeIs slot_tuple_getitem.lookup
  (getItem_tuple (j:=j) (Q:=λr s'=>r=w/\EP X pins σ Q r s') pl (by omega) (by omega) (by rw[List.size_toArray,<-hl];exact h1) (by simpa using ew) ⟨rfl,fin⟩) hs
theorem mh:IxR X rIxS:=by
 intro value slice pins s σ H x y v u Q I rx ry h hs
 obtain⟨z,i,c,rfl,rfl,hz,he,q⟩:=h
 obtain⟨t,rfl⟩:=rx
 obtain⟨t',rfl⟩:=ry
 obtain⟨j,h1,h2,h3,h4,h5⟩:=gW he
 have hl:z.cps.toList.length=z.length:=by simp[Str.length]
 rw[hl]at h1 h4 h5
 have hn:=line63
 exact tail_any (typeIs_str s z t) slot_str_getitem.lookup (getItem_str (c:=c) (by
  have e1:decide (i < -(2^63:Int))=false:=decide_eq_false (by omega)
  have e2:decide (i>=2^63)=false:=decide_eq_false (by omega)
  rw[e1,e2,Bool.or_false]) (by rw[h1];simpa using h2) ⟨.str ⟨#[c]⟩,H,I.tok _,⟨_,rfl⟩,q⟩) hs
def rIx(K:PySem.W.Frag):R2:=λx y H Q=>rIxL K x y H Q\/rIxT K x y H Q\/rIxS x y H Q
theorem j1:IxR X (rIx X.K):=aB.or (ax.or mh)
theorem iQ(its:List Value)(n j:Nat)(u:Value):Obj.mapSeq (·.setIfInBounds j u) {cls:= .type "list",data:= .seq its.toArray n}={cls:= .type "list",data:= .seq (its.set j u).toArray n}:=by
 simp[Obj.mapSeq]
theorem Inv.lst{pins:List (Addr×Obj)}{σ:St}{H:Hp}{s:Shared}{p:Addr}{xs:List V}(I:Inv X pins σ H s)(h:H p=some (.lst xs)):
  ∃(its:List Value) (n:Nat),Vals xs its/\s.heap.get? p=some {cls:= .type "list",data:= .seq its.toArray n}/\xs.length<=sizeLine:=by
 obtain⟨z,its,n,r,e⟩:=I.hok p _ h
 exact⟨its,n,r,e,z⟩
theorem Inv.lstUpd{pins:List (Addr×Obj)}{σ:St}{H:Hp}{s:Shared}{p:Addr}{xs ys:List V}{its its':List Value}{n n':Nat}{f:Obj->Obj}(I:Inv X pins σ H s)(h:H p=some (.lst xs))
  (ho:s.heap.get? p=some {cls:= .type "list",data:= .seq its.toArray n})(hf:f {cls:= .type "list",data:= .seq its.toArray n}={cls:= .type "list",data:= .seq its'.toArray n'})(r:Vals ys its')(hz:ys.length<=sizeLine)(t:Nat):
  Inv X pins σ (upd H p (.lst ys)) {s with heap:=s.heap.update p f,toks:=t}:=by
 have e:(s.heap.update p f).get? p=some {cls:= .type "list",data:= .seq its'.toArray n'}:=by
  rw[Heap.get?_update_self f ho (by rw[hf] <;> rfl),hf]
 refine I.write (x:=p) (e:=p) (by rw[h];trivial) (.inl rfl) (λb u hb q=>(Heap.get?_update_other _ _ (Ne.symm hb)).trans q) ⟨_,e⟩ ?_
 exact⟨hz,its',n',r,e⟩
def rSetL:V->V->V->Hp->(Hp->Prop)->Prop:=λo i v H Q=>∃p xs k j,o = .ref p/\i = .int k/\H p=some (.lst xs)/\ixN xs.length k=some j/\Q (upd H p (.lst (xs.set j v)))
theorem b9:PSet X rSetL:=by
 intro pins s σ H o i v ov iv u Q I ro ri rv h
 obtain⟨p,xs,k,j,rfl,rfl,hp,hj,q⟩:=h
 cases ro
 obtain⟨t,rfl⟩:=ri
 obtain⟨its,n,r,ho,hz⟩:=I.lst hp
 obtain⟨h1,h2,h3,h4⟩:=i0 hj
 have hl:=r.length
 have hn:=line63
 have I':Inv X pins σ (upd H p (.lst (xs.set j v))) {s with heap:=s.heap.update p (Obj.mapSeq (·.setIfInBounds j u))}:=
  I.lstUpd hp ho (iQ its n j u) (r.set rv j) (by rw[List.length_set];exact hz) s.toks
 by_cases h0:0<=k
 ·have hk:k.toNat=j:=by
   rw[seqIndex_of h0 h4]at h1
   exact Option.some.inj h1
  exact PySem.W.ki_setAt ho h0 (by omega) (by rw[List.size_toArray,<-hl];exact h4) (by rw[hk];exact⟨_,I',q⟩)
 ·have hk:(k+(its.toArray.size:Int)).toNat=j:=by
   rw[seqIndex_neg (by omega) h3]at h1
   rw[List.size_toArray,<-hl]
   exact Option.some.inj h1
  exact PySem.W.ki_setBack ho (by omega) (by rw[List.size_toArray,<-hl];exact h3) (by omega) (by rw[hk];exact⟨_,I',q⟩)
theorem fU(lo hi:Option Int)(n:Nat):(sliceBounds lo hi none n).1=((HT.sIx n 0 lo:Nat):Int)/\(sliceBounds lo hi none n).2.1=((HT.sIx n n hi:Nat):Int)/\(sliceBounds lo hi none n).2.2=1:=by
 refine⟨?_,?_,rfl⟩
 ·cases lo with
  | none=>simp[sliceBounds,HT.sIx]
  | some i=>
   simp only[sliceBounds,HT.sIx,Option.getD_none,show(1:Int)>0 by decide,if_true]
   by_cases h:i<0
   ·simp only[h,if_true] <;> omega
   ·simp only[h,if_false] <;> omega
 ·cases hi with
  | none=>simp[sliceBounds,HT.sIx]
  | some i=>
   simp only[sliceBounds,HT.sIx,Option.getD_none,show(1:Int)>0 by decide,if_true]
   by_cases h:i<0
   ·simp only[h,if_true] <;> omega
   ·simp only[h,if_false] <;> omega
theorem fH(its:List Value)(lo hi:Option Int):slicePick its.toArray lo hi none=((its.drop (HT.sIx its.length 0 lo)).take (HT.sIx its.length its.length hi-HT.sIx its.length 0 lo)).toArray:=by
 obtain⟨h1,h2,h3⟩:=fU lo hi its.toArray.size
 unfold slicePick
 rw[h1,h2,h3]
 simp only[sliceRange_one,pick_run,List.size_toArray] <;> rfl
def rSlL(K:PySem.W.Frag):V->Option Int->Option Int->Hp->VK->Prop:=λx lo hi H Q=>∃a xs,x = .ref a/\SqL K H a xs/\∀p,H p=none->Q (.ref p) (upd H p (.lst (cutV xs lo hi)))
theorem js:SlR X (rSlL X.K):=by
 intro pins s σ H x v vl vu lo hi sl Q I rx hs pl pu h
 obtain⟨a,xs,rfl,hx,q⟩:=h
 cases rx
 obtain⟨its,r,ht,hz⟩:=I.list hx
 have hlen:=r.length
 refine⟨"list",_,slot_list_getitem.lookup,ht.isList.typeIs,?_⟩
 refine wpAny_getItem_list_slice ht.isList hs pl pu .none (by simp) ?_ (by rw[List.size_toArray] <;> omega)
 rw[fH,<-hlen]
 refine⟨.ref s.heap.objs.size,_,I.laid (t':=s.toks) (o:= .lst (cutV xs lo hi)) (λb ob q=>Heap.get?_push_of_some _ q) (Nat.le_refl _) ?_,rfl,q _ (I.hok.fresh (Nat.le_refl _))⟩
 exact⟨Nat.le_trans (dZ xs lo hi) hz,_,0,(r.drop (HT.sIx xs.length 0 lo)).take (HT.sIx xs.length xs.length hi-HT.sIx xs.length 0 lo),Heap.get?_push_size _ rfl⟩
def flatV:V->Bool
 | .non=>true
 | .bl _=>true
 | .int _=>true
 | .str _=>true
 | _=>false
def eqV:V->V->Bool
 | .non,.non=>true
 | .bl a,.bl b=>a==b
 | .bl a,.int b=>(if a then 1 else 0)==b
 | .int a,.bl b=>a==(if b then 1 else 0)
 | .int a,.int b=>a==b
 | .str a,.str b=>a==b
 | _,_=>false
theorem lT{A:Around}{s:Shared}{y x:V}{u v:Value}(ry:RelV y u)(rx:RelV x v)(fy:flatV y=true)(fx:flatV x=true):SeqAt.EqAt A s u v (eqV y x):=by
 cases y with
 | non=>
  cases ry
  cases x with
  | non=>cases rx;exact SeqAt.EqAt.same _
  | bl b=>cases rx;exact SeqAt.EqAt.none_bool b
  | int b=>obtain⟨t,rfl⟩:=rx;exact SeqAt.EqAt.none_int b t
  | str b=>obtain⟨t,rfl⟩:=rx;exact SeqAt.EqAt.none_str b t
  | _=>exact absurd (show false=true from fx) Bool.false_ne_true
 | bl a=>
  cases ry
  cases x with
  | non=>cases rx;exact SeqAt.EqAt.bool_none a
  | bl b=>cases rx;exact SeqAt.EqAt.bool_bool a b
  | int b=>obtain⟨t,rfl⟩:=rx;exact SeqAt.EqAt.bool_int a b t
  | str b=>obtain⟨t,rfl⟩:=rx;exact SeqAt.EqAt.bool_str a b t
  | _=>exact absurd (show false=true from fx) Bool.false_ne_true
 | int a=>
  obtain⟨t',rfl⟩:=ry
  cases x with
  | non=>cases rx;exact SeqAt.EqAt.int_none a t'
  | bl b=>cases rx;exact SeqAt.EqAt.int_bool a t' b
  | int b=>obtain⟨t,rfl⟩:=rx;exact SeqAt.EqAt.int_int a t' b t
  | str b=>obtain⟨t,rfl⟩:=rx;exact SeqAt.EqAt.int_str a t' b t
  | _=>exact absurd (show false=true from fx) Bool.false_ne_true
 | str a=>
  obtain⟨t',rfl⟩:=ry
  cases x with
  | non=>cases rx;exact SeqAt.EqAt.str_none a t'
  | bl b=>cases rx;exact SeqAt.EqAt.str_bool a t' b
  | int b=>obtain⟨t,rfl⟩:=rx;exact SeqAt.EqAt.str_int a t' b t
  | str b=>obtain⟨t,rfl⟩:=rx;exact SeqAt.EqAt.str_str a t' b t
  | _=>exact absurd (show false=true from fx) Bool.false_ne_true
 | _=>exact absurd (show false=true from fy) Bool.false_ne_true
def eqU(x:V)(u:Value):Bool:=match u with
 | .none=>eqV .non x
 | .bool b=>eqV (.bl b) x
 | .int i _=>eqV (.int i) x
 | .str z _=>eqV (.str z) x
 | _=>false
theorem kU{x y:V}{u:Value}(r:RelV y u)(f:flatV y=true):eqU x u=eqV y x:=by
 cases y with
 | non=>cases r;rfl
 | bl b=>cases r;rfl
 | int i=>obtain⟨t,rfl⟩:=r;rfl
 | str z=>obtain⟨t,rfl⟩:=r;rfl
 | _=>exact absurd (show false=true from f) Bool.false_ne_true
theorem eB{x:V}:∀{xs:List V} {us:List Value},Vals xs us->xs.all flatV=true->us.any (eqU x)=xs.any λy=>eqV y x
 | _,_,.nil,_=>rfl
 | y::xs,u::us,.cons r t,f=>by
  rw[List.all_cons,Bool.and_eq_true]at f
  rw[List.any_cons,List.any_cons,kU r f.1,eB t f.2]
theorem cU{A:Around}{s:Shared}{x:V}{v:Value}(rx:RelV x v)(fx:flatV x=true):∀{xs:List V} {us:List Value},Vals xs us->xs.all flatV=true->∀u∈us,SeqAt.EqAt A s u v (eqU x u)
 | _,_,.nil,_=>λu hu=>by cases hu
 | y::xs,u::us,.cons r t,f=>λu' hu=>by
  rw[List.all_cons,Bool.and_eq_true]at f
  rcases List.mem_cons.mp hu with rfl|hu
  ·rw[kU r f.1];exact lT r rx f.1 fx
  ·exact cU rx fx t f.2 u' hu
def inV(x:V)(xs:List V):Bool:=xs.any λy=>eqV y x
def rIn(K:PySem.W.Frag)(neg:Bool):R2:=λx y H Q=>∃p xs,y = .ref p/\(SqL K H p xs\/SqT K H p xs)/\flatV x=true/\xs.all flatV=true/\Q (.bl (if neg then !inV x xs else inV x xs)) H
theorem gf:OpR X (compareOp .In) (rIn X.K false):=by
 intro pins s σ H x y v u Q I rx ry h
 obtain⟨p,xs,rfl,hq,fx,fs,q⟩:=h
 cases ry
 rcases hq with hq|hq
 ·obtain⟨its,r,pl,hz⟩:=I.list hq
  refine SeqAt.in_listAt (eqU x) pl.isList (λw hw=>cU rx fx r fs w (by simpa using hw)) ⟨.bl _,H,I,rfl,?_⟩
  rw[show its.toArray.any (eqU x)=its.any (eqU x)by simp,eB r fs]
  exact q
 ·obtain⟨its,r,pl,hz⟩:=I.tuple hq
  refine SeqAt.in_tupleAt (eqU x) pl (λw hw=>cU rx fx r fs w (by simpa using hw)) ⟨.bl _,H,I,rfl,?_⟩
  rw[show its.toArray.any (eqU x)=its.any (eqU x)by simp,eB r fs]
  exact q
theorem dn:OpR X (compareOp .NotIn) (rIn X.K true):=by
 intro pins s σ H x y v u Q I rx ry h
 obtain⟨p,xs,rfl,hq,fx,fs,q⟩:=h
 cases ry
 rcases hq with hq|hq
 ·obtain⟨its,r,pl,hz⟩:=I.list hq
  refine SeqAt.notIn_listAt (eqU x) pl.isList (λw hw=>cU rx fx r fs w (by simpa using hw)) ⟨.bl _,H,I,rfl,?_⟩
  rw[show its.toArray.any (eqU x)=its.any (eqU x)by simp,eB r fs]
  exact q
 ·obtain⟨its,r,pl,hz⟩:=I.tuple hq
  refine SeqAt.notIn_tupleAt (eqU x) pl (λw hw=>cU rx fx r fs w (by simpa using hw)) ⟨.bl _,H,I,rfl,?_⟩
  rw[show its.toArray.any (eqU x)=its.any (eqU x)by simp,eB r fs]
  exact q
theorem al:CallR X (.builtin "len") (λxs H Q=>∃p ys,xs=[.ref p]/\(SqL X.K H p ys\/SqT X.K H p ys)/\Q (.int ys.length) H):=by
 intro pins s σ H xs us Q I r h
 obtain⟨p,ys,rfl,hq,q⟩:=h
 obtain⟨u,rfl,rx⟩:=vals1 r
 cases rx
 have hn:=line63
 rcases hq with hq|hq
 ·obtain⟨its,r',pl,hz⟩:=I.list hq
  have hlen:=r'.length
  exact Calls.call_len_list pl.isList (by simp only[List.size_toArray] <;> omega) ⟨.int ys.length,H,I.tok _,⟨s.toks+1,by rw[List.size_toArray,hlen]⟩,q⟩
 ·obtain⟨its,r',pl,hz⟩:=I.tuple hq
  have hlen:=r'.length
  exact len_tuple pl (by simp only[List.size_toArray] <;> omega) ⟨.int ys.length,H,I.tok _,⟨s.toks+1,by rw[List.size_toArray,hlen]⟩,q⟩
theorem be:CallR X (.type "list") (λxs H Q=>∃p ys,xs=[.ref p]/\(SqL X.K H p ys\/SqT X.K H p ys)/\∀l,H l=none->Q (.ref l) (upd H l (.lst ys))):=by
 intro pins s σ H xs us Q I r h
 obtain⟨p,ys,rfl,hq,q⟩:=h
 obtain⟨u,rfl,rx⟩:=vals1 r
 cases rx
 have fin:∀(its:List Value),Vals ys its->ys.length<=sizeLine->∀(h':Heap) (c':Nat),(∀b o',s.heap.get? b=some o'->h'.get? b=some o')->
   h'.get? s.heap.objs.size=some {cls:= .type "list",dict:=none,data:= .seq its.toArray c',slots:= #[]}->EP X pins σ Q (.ref s.heap.objs.size) {s with heap:=h'}:=λits r' hz h' c' kp e=>
  ⟨.ref s.heap.objs.size,_,I.laid (t':=s.toks) kp (Nat.le_refl _) (show ObjOk X.prog X.w _ h' _ (.lst ys)from⟨hz,its,c',r',e⟩),rfl,q _ (I.hok.fresh (Nat.le_refl _))⟩
 rcases hq with hq|hq
 ·obtain⟨its,r',pl,hz⟩:=I.list hq
  have hlen:=r'.length
  obtain⟨o,ho,hc,n,hd⟩:=pl.isList
  exact call_list_seq p (.inl rfl) ho hc hd (λh' c' kp e=>fin its r' hz h' c' kp e) (by simp only[List.size_toArray] <;> omega)
 ·obtain⟨its,r',pl,hz⟩:=I.tuple hq
  have hlen:=r'.length
  obtain⟨o,ho,hc,n,hd⟩:=pl
  exact call_list_seq p (.inr rfl) ho hc hd (λh' c' kp e=>fin its r' hz h' c' kp e) (by simp only[List.size_toArray] <;> omega)
theorem cI:CallR X (.type "tuple") (λxs H Q=>∃p ys,xs=[.ref p]/\((SqL X.K H p ys/\∀l,H l=none->Q (.ref l) (upd H l (.tup ys)))\/(SqT X.K H p ys/\Q (.ref p) H))):=by
 intro pins s σ H xs us Q I r h
 obtain⟨p,ys,rfl,h⟩:=h
 obtain⟨u,rfl,rx⟩:=vals1 r
 cases rx
 rcases h with⟨hq,q⟩|⟨hq,q⟩
 ·obtain⟨its,r',pl,hz⟩:=I.list hq
  have hlen:=r'.length
  refine call_tuple_list pl.isList (λh' kp=>?_) (by simp only[List.size_toArray] <;> omega)
  have I1:Inv X pins σ H {s with heap:=h'}:=I.kept (t':=s.toks) kp
  have I2:Inv X pins σ (upd H h'.objs.size (.tup ys)) {s with heap:=h'.push {cls:= .type "tuple",data:= .seq its.toArray}}:=
   I1.laid (t':=s.toks) (λb o e=>Heap.get?_push_of_some _ e) (Nat.le_refl _) (show ObjOk X.prog X.w _ _ _ (.tup ys)from⟨hz,its,r',IsTup.new _ _⟩)
  exact⟨.ref h'.objs.size,_,I2,rfl,q _ (I1.hok.fresh (Nat.le_refl _))⟩
 ·obtain⟨its,r',pl,hz⟩:=I.tuple hq
  exact call_tuple_same pl ⟨.ref p,H,I,rfl,q⟩
def tyV(K:PySem.W.Frag)(T:String)(x:V)(H:Hp):Prop:=match x with
 | .str _=>T="str"
 | .int _=>T="int"
 | .ref p=>(T="list"/\∃xs,SqL K H p xs)\/(T="tuple"/\∃o,K.lookup p=some o/\o.cls = .type "tuple"/\o.dict=none)\/
   (T="dict"/\((∃kvs,H p=some (.dK kvs))\/∃kvs,H p=some (.dT kvs)))\/(T="set"/\∃S n,H p=some (.set S n))
 | _=>False
theorem lX{pins:List (Addr×Obj)}{σ:St}{H:Hp}{s:Shared}{T:String}{x:V}{v:Value}(I:Inv X pins σ H s)(r:RelV x v)(ty:tyV X.K T x H):
  s.TypeIs v T/\∀a,v = .ref a->∃ob,s.heap.get? a=some ob/\ob.dict=none:=by
 cases x with
 | str z=>
  obtain⟨t,rfl⟩:=r
  cases(show T="str"from ty)
  exact⟨typeIs_str s z t,λ_ e=>nomatch e⟩
 | int i=>
  obtain⟨t,rfl⟩:=r
  cases(show T="int"from ty)
  exact⟨typeIs_int s i t,λ_ e=>nomatch e⟩
 | ref p=>
  cases r
  rcases ty with⟨rfl,xs,hq⟩|⟨rfl,o,hk,hc,hd⟩|⟨rfl,hk⟩|⟨rfl,S,n,hk⟩
  ·obtain⟨its,_,pl,_⟩:=I.list hq
   refine⟨pl.isList.typeIs,λa e=>?_⟩
   cases e
   obtain⟨o,n,e,c,hd,_⟩:=pl
   exact⟨o,e,hd⟩
  ·refine⟨⟨o,I.kIn p o hk,hc⟩,λa e=>?_⟩
   cases e
   exact⟨o,I.kIn _ o hk,hd⟩
  ·have z:∃o,s.heap.get? p=some o/\o.ExactDict:=by
    rcases hk with⟨kvs,hk⟩|⟨kvs,hk⟩
    ·obtain⟨_,_,_,_,o,_,_,e,ex,_⟩:=I.hok p _ hk
     exact⟨o,e,ex⟩
    ·obtain⟨_,_,_,_,o,_,_,e,ex,_⟩:=I.hok p _ hk
     exact⟨o,e,ex⟩
   obtain⟨o,e,ex⟩:=z
   refine⟨⟨o,e,ex.1⟩,λa e2=>?_⟩
   cases e2
   exact⟨o,e,ex.2.1⟩
  ·obtain⟨o,_,_,_,e,ex,_⟩:=I.hok p _ hk
   refine⟨⟨o,e,ex.1⟩,λa e2=>?_⟩
   cases e2
   exact⟨o,e,ex.2.1⟩
 | _=>exact False.elim ty
def tBM(K:PySem.W.Frag)(T:String)(r:V->List V->Hp->VK->Prop)(to:TE)(t:TA):TE:=λσ H Q=>to σ H λx H1=>tyV K T x H1/\t σ H1 λxs H2=>r x xs H2 Q
variable{o e:Expr}{es:List Expr}{to:TE}{t:TA}{name:Str}{apos cpos:Pos}{T id:String}{r:V->List V->Hp->VK->Prop}
theorem cW(pa:PlainAttrs T)(slot:Slot T name id)(hty:typeOf (.builtin id)=pure (.type "method_descriptor"))(hm:MtR X id r)(ho:PE X o to)(ha:PA X (e::es) t)
  (hbase:attributeBase o name X.env (eval o X.env)=eval o X.env:=by rfl)
  (hfew:((backTo cpos (starEach (e::es) X.env)).all (λx=>!x.1)&&(backToKw cpos (keywordEach [] X.env)).all (λx=>x.1.isSome)
   && decide ((e::es).length+([]:List Keyword).length+(if([]:List Keyword).isEmpty then 0 else 1)<30))=true:=by rfl)
  (hline:(apos.endLine==cpos.line)=true:=by rfl)(hs:starEach (e::es) X.env=(false,eval e X.env)::starEach es X.env:=by rfl)(hplain:(backTo cpos (starEach es X.env)).any (·.1)=false:=by rfl):
  PE X (.Call (.Attribute o name apos) (e::es) [] cpos) (tBM X.K T r to t):=by
 intro pins s σ H Q I h
 refine wpAny_Call_method_late hbase hfew hline rfl (thn (ho pins s σ H _ I h) λv s1 ⟨x,H1,I1,r1,ty,q1⟩=>?_)
 obtain⟨h1,h2⟩:=lX I1 r1 ty
 refine⟨T,id,pa,slot,hty,h1,h2,?_⟩
 have hA:=ha cpos pins s1 σ H1 _ I1 q1
 rw[hs]at hA ⊢
 refine Calls.callWith_builtin (by show(false||(backTo cpos (starEach es X.env)).any (·.1))=false;rw[hplain] <;> rfl) (Calls.evalArgs_plain ?_)
 exact thn hA λus s2 ⟨vs,H2,I2,r2,q2⟩=>hm pins s2 σ H2 x vs v us Q I2 r1 r2 q2
end
end L2
namespace L2
open PySem PySem.Spec PyProof.Rows
def MtM(X:Cx)(id:String)(r:V->List V->Hp->VK->Prop):Prop:=
 ∀(pins:List (Addr×Obj)) (s:Shared) (σ:St) (H:Hp) (x:V) (xs:List V) (v:Value) (us:List Value) (Q:VK),Inv X pins σ H s->RelV x v->Vals xs us->r x xs H Q->
  wpAny (model X.prog X.w) X.A (call (.builtin id) (v::us)) (EP X pins σ Q) X.xe s
theorem Vals.one:∀{x:V} {us:List Value},Vals [x] us->∃u,us=[u]/\RelV x u
 | _,_,.cons r .nil=>⟨_,rfl,r⟩
theorem Vals.eraseIdx:∀{xs:List V} {us:List Value} (i:Nat),Vals xs us->Vals (xs.eraseIdx i) (us.eraseIdx i)
 | _,_,_,.nil=> .nil
 | _,_,0,.cons _ t=>t
 | _,_,i+1,.cons r t=> .cons r (Vals.eraseIdx i t)
theorem dU{α:Type}:∀(l:List α) (i:Nat),(l.eraseIdx i).length<=l.length
 | [],_=>Nat.le_refl _
 | _::_,0=>Nat.le_succ _
 | _::r,i+1=>Nat.succ_le_succ (dU r i)
section
variable{X:Cx}{pins:List (Addr×Obj)}{σ:St}{H:Hp}{s:Shared}{l b:Addr}{xs ys zs:List V}
theorem Inv.lset{its its':List Value}{n:Nat}{f:Array Value->Array Value}{t':Nat}(I:Inv X pins σ H s)(hH:H l=some (.lst xs))
  (e:s.heap.get? l=some {cls:= .type "list",data:= .seq its.toArray n})(hf:f its.toArray=its'.toArray)(hv:Vals ys its')(hz:ys.length<=sizeLine):
  Inv X pins σ (upd H l (.lst ys)) {s with heap:=s.heap.update l (Obj.mapSeq f),toks:=t'}:=by
 have q:=PySem.IsL.update e f
 rw[hf]at q
 refine I.write (x:=l) (e:=l) (by rw[hH];exact trivial) (.inl rfl) (λb' u hb hu=>(Heap.get?_update_other s.heap (Obj.mapSeq f) (Ne.symm hb)).trans hu) ⟨_,q⟩ ?_
 exact⟨hz,its',_,hv,q⟩
theorem Inv.lnew{its:List Value}{t':Nat}(I:Inv X pins σ H s)(hv:Vals ys its)(hz:ys.length<=sizeLine):
  Inv X pins σ (upd H s.heap.objs.size (.lst ys)) {s with heap:=s.heap.push {cls:= .type "list",data:= .seq its.toArray},toks:=t'}:=
 I.laid (λ_ _ q=>Heap.get?_push_of_some _ q) (Nat.le_refl _) ⟨hz,its,0,hv,Heap.get?_push_size _ rfl⟩
theorem Inv.fresh(I:Inv X pins σ H s):H s.heap.objs.size=none:=I.hok.fresh (Nat.le_refl _)
theorem Inv.lstM(I:Inv X pins σ H s)(hH:H l=some (.lst xs)):xs.length<=sizeLine/\∃(its:List Value) (n:Nat),Vals xs its/\xs.length=its.length/\s.heap.get? l=some {cls:= .type "list",data:= .seq its.toArray n}:=by
 obtain⟨z,its,n,r,e⟩:=I.hok l _ hH
 exact⟨z,its,n,r,r.length,e⟩
theorem notLongL{n:Nat}(h:n<=sizeLine):Builtin.List.listTooLong n=false:=by
 unfold Builtin.List.listTooLong
 exact decide_eq_false (by omega)
end
section
variable{X:Cx}
def rAppend:V->List V->Hp->VK->Prop:=λx vs H Q=>∃l xs y,x = .ref l/\vs=[y]/\H l=some (.lst xs)/\xs.length<sizeLine/\Q .non (upd H l (.lst (xs++[y])))
theorem bN:MtM X "list.append" rAppend:=by
 intro pins s σ H x vs v us Q I rx rv h
 obtain⟨l,xs,y,rfl,rfl,hH,hz,q⟩:=h
 cases rx
 obtain⟨u,rfl,ru⟩:=rv.one
 obtain⟨z,its,n,r,hl,e⟩:=I.lstM hH
 refine call_meets F.slot_list_append ⟨_,e,rfl⟩ F.entry_list_append (F.args_list_append_2 _ _) (PySem.list_append l its.toArray n u (by rw[List.size_toArray];omega)) ⟨e,?_⟩
 refine⟨.non,_,I.lset (its':=its++[u]) hH e (by simp) (r.append (.cons ru .nil)) ?_,rfl,q⟩
 rw[List.length_append,List.length_singleton]
 omega
def rExtend:V->List V->Hp->VK->Prop:=λx vs H Q=>∃l b xs zs,x = .ref l/\vs=[.ref b]/\H l=some (.lst xs)/\H b=some (.lst zs)/\xs.length+zs.length<=sizeLine/\Q .non (upd H l (.lst (xs++zs)))
theorem mt_extend:MtM X "list.extend" rExtend:=by
 intro pins s σ H x vs v us Q I rx rv h
 obtain⟨l,b,xs,zs,rfl,rfl,hH,hB,hz,q⟩:=h
 cases rx
 obtain⟨u,rfl,ru⟩:=rv.one
 cases ru
 obtain⟨z,its,n,r,hl,e⟩:=I.lstM hH
 obtain⟨z2,its2,n2,r2,hl2,e2⟩:=I.lstM hB
 have hsz:its.toArray.size+its2.toArray.size<=sizeLine:=by rw[List.size_toArray,List.size_toArray];omega
 have hlong:¬(!its.toArray.isEmpty&&Builtin.List.listTooLong (its.toArray.size+its2.toArray.size))=true:=by
  rw[notLongL hsz,Bool.and_false]
  exact Bool.false_ne_true
 refine call_meets F.slot_list_extend ⟨_,e,rfl⟩ F.entry_list_extend (F.args_list_extend_2 _ _)
  (AutoSeq1.list_extend_list_list_0 l its.toArray n b its2.toArray n2 hlong (by rw[List.size_toArray];omega) (by omega)) ⟨e,e2,?_⟩
 refine⟨.non,_,I.lset (its':=its++its2) hH e (by simp) (r.append r2) ?_,rfl,q⟩
 rw[List.length_append]
 omega
def rPopAt:V->List V->Hp->VK->Prop:=λx vs H Q=>∃l xs i k y,x = .ref l/\vs=[.int i]/\H l=some (.lst xs)/\ -(2^63)<=i/\i<2^63/\seqIndex? i xs.length=some k/\xs[k]?=some y/\Q y (upd H l (.lst (xs.eraseIdx k)))
theorem ip:MtM X "list.pop" rPopAt:=by
 intro pins s σ H x vs v us Q I rx rv h
 obtain⟨l,xs,i,k,y,rfl,rfl,hH,h1,h2,hk,hy,q⟩:=h
 cases rx
 obtain⟨u,rfl,ru⟩:=rv.one
 obtain⟨t,rfl⟩:=ru
 obtain⟨z,its,n,r,hl,e⟩:=I.lstM hH
 obtain⟨w,hw,rw'⟩:=r.get hy
 refine call_meets F.slot_list_pop ⟨_,e,rfl⟩ F.entry_list_pop (F.args_list_pop_2 _ _)
  (MeetsSeq.list_pop_at l its.toArray n i t k w (fitsIndex_both h1 h2) (by rw[List.size_toArray,<-hl];exact hk) (by rw[<-Array.getElem?_toList];exact hw) (by rw[List.size_toArray];omega)) ⟨e,?_⟩
 refine⟨y,_,I.lset (its':=its.eraseIdx k) hH e ?_ (r.eraseIdx k) ?_,rw',q⟩
 ·show its.toArray.eraseIdxIfInBounds k=(its.eraseIdx k).toArray
  rw[List.eraseIdxIfInBounds_toArray]
 ·have:=dU xs k
  omega
def rCat:R2:=λx y H Q=>∃l b xs zs,x = .ref l/\y = .ref b/\H l=some (.lst xs)/\H b=some (.lst zs)/\xs.length+zs.length<=sizeLine/\∀p,H p=none->Q (.ref p) (upd H p (.lst (xs++zs)))
theorem k7:OpR X (binaryOp .Add) rCat:=by
 intro pins s σ H x y v u Q I rx ry h
 obtain⟨l,b,xs,zs,rfl,rfl,hH,hB,hz,q⟩:=h
 cases rx
 cases ry
 obtain⟨z,its,n,r,hl,e⟩:=I.lstM hH
 obtain⟨z2,its2,n2,r2,hl2,e2⟩:=I.lstM hB
 refine PySem.P.add_list e e2 ?_ (by rw[List.size_toArray,List.size_toArray];omega)
 have ea:its.toArray++its2.toArray=(its++its2).toArray:=by simp
 rw[ea]
 exact⟨.ref _,_,I.lnew (t':=s.toks) (r.append r2) (by rw[List.length_append];omega),rfl,q _ I.fresh⟩
end
end L2
namespace Att
open PySem PySem.W PySem.Calls PyProof.Rows
theorem eD{P:Params}{h:Heap}:∀(ns:List Int) (vs:List Value),WellAll P h vs (ns.map WData.int)->IntsAre vs ns:=by
 intro ns
 induction ns with
 | nil=>
  intro vs w
  rw[List.map_nil]at w
  cases w
  exact .nil
 | cons n ns ih=>
  intro vs w
  rw[List.map_cons]at w
  cases w with
  | cons a b=>
   cases a
   exact .cons _ _ (ih _ b)
theorem jM{l:OpenLaw}{n:Nat}(hn:l.most=some n){P:Params}{h:Heap}{args:List WData}{vals:List Value}
  (hpre:l.row.toRowW.claim.pre args=true)(hwl:WellAll P h vals args):
  ∃a vs ns,vals=[Value.ref a]/\args=[WData.list (ns.map WData.int)]/\h.get? a=some {cls:= .type "list",data:= .seq vs.toArray}/\IntsAre vs ns/\ns.length<=n:=by
 have hsh:WShape.hasAll [] args [.list .int]=true:=(pre_splitW hpre).1
 have hc:l.pre.holds [] {args:=args}=true:=(pre_splitW hpre).2
 obtain⟨d,r,rfl,h1,h2⟩:=hasAllW_cons hsh
 obtain rfl:=hasAllW_nil h2
 obtain⟨xs,rfl,h3⟩:=hasW_list h1
 obtain⟨ns,rfl⟩:=items_int h3
 have hlen:ns.length<=n:=by
  unfold OpenLaw.pre at hc
  have h4:(WTm.not (.lt (.lit (.int (n:Int))) (.len (.arg 0)))).holds [] {args:=[.list (ns.map .int)]}=true:=by
   have h4:=(holds_andW hc).1
   rw[hn]at h4
   exact h4
  have h5:=condW_of h4 (w_not (w_lt w_lit (w_len_list (w_arg rfl))))
  rw[List.length_map]at h5
  refine Nat.le_of_not_lt λq=>?_
  have q':(n:Int)<((ns.length:Nat):Int):=by omega
  first
   | (rw[decide_eq_true q']at h5;exact absurd h5 (by decide))
   | (simp at h5;omega)
 cases hwl with
 | cons w1 w2=>
  cases w2
  cases w1 with
  | list ho hall=>exact⟨_,_,ns,rfl,rfl,ho,eD ns _ hall,hlen⟩
theorem jN(l:OpenLaw)(args:List WData):l.row.toRowW.claim.post args (.bool true) args=true:=
 postW_of (r:=l.row.toRowW) (X:=(true==true))
  (show WShape.has [] (.bool true) .bool=true by first|rfl|decide|simp[WShape.has,WShape.arms,WShape.armsAll])
  (show(WTm.eq .res (.lit (.bool true))).value [] {args:=args,res:=some (.bool true),after:=args}=some (.bool (true==true))from w_eq_bool (w_res rfl) w_lit) rfl
theorem attach_call{l:OpenLaw}{n:Nat}{q:Program}{loose:List Str}{XP:(Str->Option Value)->Heap->Prop}{YP:World->Heap->Prop}{d:DefRec}
  (hn:l.most=some n)(hdf:d.params.defaults=[])
  (call:∀(w:World) (s₀ s₁:Shared) (mg mb:Str->Option Value) (fa:Addr) (o:Obj) (pm cd doc:Value) (a:Addr) (vs:List Value) (ns:List Int),
   Ground q loose [] XP w s₀ mg mb s₁.heap->YP w s₁.heap->
   s₁.heap.get? fa=some o->o.data = .func (docDef d.name d.params d.body d.scope pm cd doc)->s₁.heap.CodeRec cd d.name->mg d.name=some (.ref fa)->
   s₁.heap.get? a=some {cls:= .type "list",data:= .seq vs.toArray}->IntsAre vs ns->ns.length<=n->s₁.gens = #[]->
   codeAny (model l.prog w) callerA (.call (.ref fa) ⟨[.ref a],[]⟩) (λr s'=>r = .ok (.ret (.bool true))/\OldK s₁.heap s'.heap/\s'.os=s₁.os/\AllBare s'.gens) s₁):
  WalkO q loose XP YP l.row.toRowW d [] (λf vs=>PySem.call f vs):=by
 intro w s₀ s₁ mg mb G Y fa o pm cd doc dV kV ho hd hcd hD hmg hg args vals as hpre hlay hrd hwl hlo
 obtain rfl:dV = .none:=Dflts.none hD hdf
 obtain rfl:kV = .none:=Dflts.noKw hD
 obtain⟨a,vs,ns,rfl,rfl,hobj,hints,hlen⟩:=jM hn hpre hwl
 refine enter_call (codeAny_mono (call w s₀ s₁ mg mb fa o pm cd doc a vs ns G Y ho (fd_plain hd) hcd hmg hobj hints hlen hg) λr s' hq=>?_)
 obtain⟨rfl,h2,h3,h4⟩:=hq
 exact⟨.inl ⟨.bool true,.bool true,[],rfl,λ_=>rfl,.bool true,jN l _,λ_=>⟨List.Pairwise.nil,λ_ hm=>(nomatch hm)⟩⟩,h2,h3,h4⟩
end Att
namespace L2
open PySem PySem.Spec PyProof.Rows
theorem d6:∀{vs:List Value} {ns:List Int},IntsAre vs ns->Vals (ns.map V.int) vs
 | _,_,.nil=> .nil
 | _,_,.cons n t h=> .cons ⟨t,rfl⟩ (d6 h)
def Only(H:Hp):Prop:=∀b,H b=none\/∃o xs,H b=some (.frz o (.lst xs))
theorem kg{P:Program}{w:World}{K:PySem.W.Frag}{mg mb:Str->Option Value}{CX:CXT}{k:Nat}{fa a:Addr}{fd:FuncData}{x:Str}{sp:Sp}{s₁:Shared}{vs:List Value}{ns:List Int}
  (KX:K.In s₁.heap)(hns:s₁.heap.Ns mainGlobals mg)(hb:s₁.heap.Ns builtinsNs mb)(hbb:∀x:Str,x≠"__name__"->mb x=bootBuiltins x)(hlim:s₁.heap.NoLimit)(hg:s₁.gens = #[])
  (ha:s₁.heap.get? a=some {cls:= .type "list",data:= .seq vs.toArray})(hi:IntsAre vs ns)(hl:ns.length<=sizeLine)(hr:Room k callerA)
  (F:∀base:Heap,K.In base->base.Ns mainGlobals mg->FnOk P w K mg base CX k fa fd [x] sp)(hbind:∀(s:Shared) (u:Value),BindsTo s fd ⟨[u],[]⟩ [(x,u)])
  (hsp:∀H:Hp,Only H->SqL K H a (ns.map V.int)->sp [.ref a] H (λv _=>v = .bl true) λ_ _ _=>False)
  (hCX:∀H e s',CX [] H s₁ (λ_ _ _=>False) e s'->False):
  codeAny (model P w) callerA (.call (.ref fa) ⟨[.ref a],[]⟩) (λr s'=>r = .ok (.ret (.bool true))/\OldK s₁.heap s'.heap/\s'.os=s₁.os/\AllBare s'.gens) s₁:=by
 have rv:=d6 hi
 have lenV:=hi.length
 have core:∀H:Hp,Only H->SqL K H a (ns.map V.int)->HOk P w H s₁.heap->(∀b,H b≠none->b=a)->(H a≠none->K.lookup a=none)->
   codeAny (model P w) callerA (.call (.ref fa) ⟨[.ref a],[]⟩) (λr s'=>r = .ok (.ret (.bool true))/\OldK s₁.heap s'.heap/\s'.os=s₁.os/\AllBare s'.gens) s₁:=by
  intro H hO hS hok hA hK
  have base_of:∀{b:Addr} {o:Obj},s₁.heap.get? b=some o->H b=none->(hidT s₁.heap H).get? b=some o:=λe n=>kb e n
  have noA:∀{b:Addr} {o:Obj} {es:Array DictEntry} {ep:Nat},s₁.heap.get? b=some o->o.data = .dict es ep->H b=none:=λ {b o es ep} e d=>by
   cases q:H b with
   | none=>rfl
   | some u=>
    have e':b=a:=hA b (by rw[q];simp)
    subst e'
    rw[ha]at e;cases e
    have d':Data.seq vs.toArray _=Data.dict es ep:=d
    cases d'
  have nsK:∀{b:Addr} {m:Str->Option Value},s₁.heap.Ns b m->(hidT s₁.heap H).Ns b m:=λ {b m} ⟨o,es,ep,e,d,r⟩=>⟨o,es,ep,base_of e (noA e d),d,r⟩
  have hKb:K.In (hidT s₁.heap H):=λb o e=>base_of (KX b o e) (by
   cases q:H b with
   | none=>rfl
   | some u=>
    have e':b=a:=hA b (by rw[q];simp)
    subst e'
    rw[hK (by rw[q];simp)]at e;cases e)
  have hM:Mod K mg (hidT s₁.heap H):=⟨hKb,nsK hns,⟨mb,nsK hb,hbb⟩,let⟨mc,h1,h2⟩:=hlim;⟨mc,nsK h1,h2⟩⟩
  have e0:Env0 P w K mg (hidT s₁.heap H) callerA [] s₁ H:=⟨rfl,hM,λb o e=>lQ e,Nat.le_of_eq (jA _ _),trivial,λb hb=>absurd (show b∈([]:List Addr)from hb) (by simp),hok,.of_eq hg⟩
  refine codeAny_mono ((F _ hKb (nsK hns)).run callerA [] s₁ H ⟨[.ref a],[]⟩ [.ref a] [.ref a] _ _ hr e0 (hbind s₁ (.ref a)) (.cons rfl .nil) (hsp H hO hS)) λr s' h=>?_
  cases r with
  | error e=>exact(hCX H e s' h).elim
  | ok fl=>
   cases fl with
   | next=>exact False.elim h
   | brk=>exact False.elim h
   | cont=>exact False.elim h
   | ret u=>
    obtain⟨v,H',os,bare,un,hok',r',q⟩:=h
    have q':v = .bl true:=q
    subst q'
    obtain rfl:u=Value.bool true:=r'
    refine⟨rfl,OldK.of_keep λb o e=>?_,os,bare⟩
    cases q:H b with
    | none=>exact un.keep b o e q (by intro z;exact absurd (show b∈([]:List Addr)from z) (by simp)) (by simp)
    | some u=>
     rcases hO b with z|⟨ob,xs,z⟩
     ·rw[q]at z;cases z
     ·have z2:=un.frzs b ob _ z
      obtain⟨e1,_⟩:=hok b _ z
      obtain⟨e2,_⟩:=hok' b _ z2
      rw[e]at e1;cases e1
      exact e2
 cases hk:K.lookup a with
 | some o=>
  have e:=KX a o hk
  rw[ha]at e
  cases e
  refine core (λ_=>none) (λ_=> .inl rfl) (.inr ⟨_,vs.toArray,_,hk,rfl,rfl,rfl,by rw[List.size_toArray,lenV];exact hl,by simpa using rv⟩) (λb u z=>by have z':(none:Option HO)=some u:=z;cases z') (λb z=>absurd rfl z) λz=>absurd rfl z
 | none=>
  refine core (λb=>if b=a then some (.frz {cls:= .type "list",data:= .seq vs.toArray} (.lst (ns.map V.int)))else none) (λb=>?_) (.inl (.inr ⟨{cls:= .type "list",data:= .seq vs.toArray},if_pos rfl⟩)) (λb u z=>?_) (λb z=>?_) λ_=>hk
  ·by_cases hb:b=a
   ·exact .inr ⟨_,_,if_pos hb⟩
   ·exact .inl (if_neg hb)
  ·by_cases hb:b=a
   ·have z':=(if_pos hb).symm.trans z
    cases z'
    subst hb
    exact⟨ha,by rw[List.length_map];exact hl,vs,_,rv,ha⟩
   ·have z':=(if_neg hb).symm.trans z
    cases z'
  ·by_cases hb:b=a
   ·exact hb
   ·exact absurd (if_neg hb) z
end L2
namespace L2
open PySem PySem.Spec PyProof.Rows
theorem walk_of{l:PySem.W.OpenLaw}{n k:Nat}{q:Program}{loose:List Str}{XP:(Str->Option Value)->Heap->Prop}{YP:World->Heap->Prop}{d:DefRec}{K:Params->PySem.W.Frag}{CX:World->CXT}{sp:World->Sp}{x:Str}
  (hn:l.most=some n)(hn2:n<=sizeLine)(hdf:d.params.defaults=[])(hr:Room k callerA)
  (hY:∀(w:World) (h:Heap),YP w h->(K w.params).In h)
  (F:∀(w:World) (mg:Str->Option Value) (fa:Addr) (h:Heap),(K w.params).In h->h.Ns mainGlobals mg->mg d.name=some (.ref fa)->
   ∃fd:FuncData,(∀(s:Shared) (u:Value),BindsTo s fd ⟨[u],[]⟩ [(x,u)])/\
    ∀base:Heap,(K w.params).In base->base.Ns mainGlobals mg->FnOk l.prog w (K w.params) mg base (CX w) k fa fd [x] (sp w))
  (hsp:∀(w:World) (H:Hp) (a:Addr) (ns:List Int),ns.length<=n->Only H->SqL (K w.params) H a (ns.map V.int)->sp w [.ref a] H (λv _=>v = .bl true) λ_ _ _=>False)
  (hCX:∀(w:World) (H:Hp) (s:Shared) (e:Value) (s':Shared),CX w [] H s (λ_ _ _=>False) e s'->False):
  PySem.W.WalkO q loose XP YP l.row.toRowW d [] (λf vs=>PySem.call f vs):=by
 refine Att.attach_call hn hdf λw s₀ s₁ mg mb fa o pm cd doc a vs ns G Y ho hd hcd hmg hobj hints hlen hg=>?_
 have KX:=hY w _ Y
 obtain⟨fd,hb,hF⟩:=F w mg fa _ KX G.T.g hmg
 exact kg KX G.T.g G.T.b G.T.builtins G.T.nolimit hg hobj hints (Nat.le_trans hlen hn2) hr hF hb (λH hO hS=>hsp w H a ns hlen hO hS) λH e s'=>hCX w H s₁ e s'
end L2
namespace L2
open PySem PySem.Spec PyProof.Rows
def defArgs(s:Stmt):Arguments:=match s with
 | .FunctionDef _ a _ _ _ _ _ _ _ _=>a
 | _=>{posonlyargs:=[],args:=[],vararg:=none,kwonlyargs:=[],kw_defaults:=[],kwarg:=none,defaults:=[]}
def defBody(s:Stmt):List Stmt:=match s with
 | .FunctionDef _ _ b _ _ _ _ _ _ _=>b
 | _=>[]
def defScope(s:Stmt):Scope:=match s with
 | .FunctionDef _ _ _ _ _ _ sc _ _ _=>sc
 | _=>{kind:= .function,names:=[],isGenerator:=false,isCoroutine:=false}
abbrev CX0:CXT:=λ_ _ _ _ _ _=>False
abbrev E0:XK:=λ_ _ _=>False
theorem pass0{X:Cx}:Passes CX0 X E0:=λ_ _ _ _ _ _ _ h=>h.elim
structure Fun(K:PySem.W.Frag)(x qual:Str)(st:Stmt)(f:Addr)(fd:FuncData):Prop where
 ex:∃(oc:Value) (od:Option Addr) (kV doc pm:Value) (an:Option Addr) (cdv ct:Value) (osl:Array (Option Value)),
  fd=PySem.W.fnOf x qual (defArgs st) (defBody st) (defScope st) .none kV doc pm an cdv ct/\K.lookup f=some ⟨oc,od,.func fd,osl⟩/\PySem.W.codeIn K cdv qual=true
 kp:PySem.W.keepIn K (.ref f)=true
section
variable{P:Program}{w:World}{K:PySem.W.Frag}{mg:Str->Option Value}{base:Heap}
theorem Fun.ok{x qual:Str}{st:Stmt}{f:Addr}{fd:FuncData}{N ps:List Str}{k:Nat}{sp:Sp}(F:Fun K x qual st f fd)(S:FnScope N ps (defScope st))(len:∀vs H Q E,sp vs H Q E->vs.length=ps.length)
  (hbody:∀(cdv:Value) (A:Around) (outer:List Env) (s:Shared) (H:Hp) (vs:List V) (Q:VK) (E:XK),Room k (A.deeper (envOfC qual (defScope st) s.heap.objs.size f cdv))->sp vs H Q E->
   ∃t,PSs (cxOf CX0 P w K mg base N qual (defScope st) f cdv A outer s H E).nox (defBody st) t/\t {nx:=λ_ H'=>Q .non H',rt:=Q} (start N vs) H):FnOk P w K mg base CX0 (k+1) f fd ps sp:=by
 obtain⟨oc,od,kV,doc,pm,an,cdv,ct,osl,rfl,lk,hcd⟩:=F.ex
 refine l9 lk hcd S len λA outer s H vs Q E hr hsp=>?_
 obtain⟨t,h,q⟩:=hbody cdv A outer s H vs Q E hr hsp
 exact⟨t,h.nox,q⟩
theorem Fun.binds{x qual:Str}{st:Stmt}{f:Addr}{fd:FuncData}{ps:List Str}(F:Fun K x qual st f fd)
  (h:∀(kV doc pm:Value) (an:Option Addr) (cdv ct:Value) (us:List Value),us.length=ps.length->bindArgs (PySem.W.fnOf x qual (defArgs st) (defBody st) (defScope st) .none kV doc pm an cdv ct) ⟨us,[]⟩=pure (ps.zip us)):Binds K fd ps []:=by
 obtain⟨oc,od,kV,doc,pm,an,cdv,ct,osl,rfl,lk,hcd⟩:=F.ex
 exact .all (h kV doc pm an cdv ct)
theorem jI{x qual:Str}{st:Stmt}{f:Addr}{oc:Value}{od an:Option Addr}{osl:Array (Option Value)}{kV doc pm cdv ct:Value}(l:K.lookup f=some ⟨oc,od,.func (PySem.W.fnOf x qual (defArgs st) (defBody st) (defScope st) .none kV doc pm an cdv ct),osl⟩)
  (c:PySem.W.codeIn K cdv qual=true)(k:PySem.W.keepIn K (.ref f)=true):Fun K x qual st f (PySem.W.fnOf x qual (defArgs st) (defBody st) (defScope st) .none kV doc pm an cdv ct):=⟨⟨oc,od,kV,doc,pm,an,cdv,ct,osl,rfl,l,c⟩,k⟩
end
theorem small1000{n:Nat}(h:n<=1000):n<sizeLine:=Nat.lt_of_le_of_lt h (by decide)
section
variable{X:Cx}
theorem pv(i:Nat){x:Str}{pos:Pos}(hN:X.N[i]?=some x:=by rfl)(hv:Vis X.env.scope x:=by first|exact Or.inl rfl|exact Or.inr (Or.inl rfl)|exact Or.inr (Or.inr rfl))(hd:(x==("__debug__":Str))=false:=by decide)
  (hcd:(x==("__classdict__":Str))=false:=by decide):PE X (.Name x pos) (tVar i):=mt hN hv hd hcd
end
theorem iteF{A B:Prop}(h:B):if false=true then A else B:=by
 rw[if_neg Bool.false_ne_true]
 exact h
theorem iteT{A B:Prop}(h:A):if true=true then A else B:=by
 rw[if_pos rfl]
 exact h
theorem ite2{c A B:Prop}[Decidable c](h1:c->A)(h2:¬c->B):if c then A else B:=by
 by_cases h:c
 ·rw[if_pos h]
  exact h1 h
 ·rw[if_neg h]
  exact h2 h
theorem iteNS{c A B:Prop}[Decidable c](hc:c)(h:B):if(!decide c)=true then A else B:=by
 rw[decide_eq_true hc]
 exact iteF h
def Same(H H':Hp):Prop:=∀b o,H b=some o->H' b=some o
theorem Same.refl(H:Hp):Same H H:=λ_ _ h=>h
theorem Same.trans{H H1 H2:Hp}(a:Same H H1)(b:Same H1 H2):Same H H2:=λc o h=>b c o (a c o h)
theorem Same.free{H H':Hp}(e:Same H H'){l:Addr}(h:H' l=Option.none):H l=Option.none:=by
 cases q:H l with
 | none=>rfl
 | some o=>
  rw[e l o q]at h
  cases h
theorem Same.seq{K:PySem.W.Frag}{H H':Hp}{a:Addr}{xs:List V}(e:Same H H')(h:SqL K H a xs):SqL K H' a xs:=by
 rcases h with(h|⟨o,h⟩)|h
 ·exact .inl (.inl (e _ _ h))
 ·exact .inl (.inr ⟨o,e _ _ h⟩)
 ·exact .inr h
end L2
namespace L2
open PySem PySem.Spec PyProof.Rows
def clOf(scope:Scope)(env:Env):List (Str×Addr):=
 (scope.names.filterMap λx=>if x.2==NameKind.free then(env.cells.lookup x.1).map λc=>(x.1,c)else none).reverse
theorem gM{env:Env}(f:Str×NameKind->List (Str×Addr)->Sem (ForInStep (List (Str×Addr))))
  (hf:∀n k r,f (n,k) r=(if(k==NameKind.free)=true then(do let c<-cellOf env n;pure (.yield ((n,c)::r)))else pure (.yield r))):
  ∀(ns:List (Str×NameKind)) (cs:List (Str×Addr)),(∀x∈ns,x.2 = .free->∃c,env.cells.lookup x.1=some c)->
   forIn ns cs f=pure ((ns.filterMap λx=>if x.2==NameKind.free then(env.cells.lookup x.1).map λc=>(x.1,c)else none).reverse++cs)
 | [],cs,_=>by rw[List.forIn_nil];rfl
 | (n,k)::r,cs,h=>by
  rw[List.forIn_cons,hf]
  have hr:∀x∈r,x.2 = .free->∃c,env.cells.lookup x.1=some c:=λx hx=>h x (List.mem_cons_of_mem _ hx)
  by_cases hk:k = .free
  ·subst hk
   obtain⟨c,hc⟩:=h (n,.free) List.mem_cons_self rfl
   have e1:cellOf env n=pure c:=by unfold cellOf;rw[hc]
   rw[if_pos (by rfl),e1,pure_bind,pure_bind]
   show forIn r ((n,c)::cs) f=_
   rw[gM f hf r _ hr,List.filterMap_cons]
   simp[hc]
  ·have hb:(k==NameKind.free)=false:=by simpa using hk
   rw[if_neg (by rw[hb];decide),pure_bind]
   show forIn r cs f=_
   rw[gM f hf r _ hr,List.filterMap_cons]
   simp[hb]
theorem i4{scope:Scope}{env:Env}(h:∀x∈scope.names,x.2 = .free->∃c,env.cells.lookup x.1=some c):closureFor scope env=pure (clOf scope env):=by
 simp only[closureFor]
 rw[gM (env:=env) _ (λn k r=>by cases hk:k==NameKind.free <;> simp[hk]) scope.names [] h]
 rw[List.append_nil]
 rfl
theorem ci{env:Env}{x:Str}:∀{l:List (Str×Addr)} {c:Addr},(∀p∈l,env.cells.lookup p.1=some p.2)->l.lookup x=some c->env.cells.lookup x=some c
 | [],_,_,e=>by simp at e
 | (n,d)::r,c,h,e=>by
  rw[List.lookup_cons]at e
  cases hb:x==n with
  | true=>
   rw[hb]at e
   have e':d=c:=Option.some.inj e
   have hx:x=n:=by simpa using hb
   subst hx e'
   exact h _ List.mem_cons_self
  | false=>
   rw[hb]at e
   exact ci (λp hp=>h p (List.mem_cons_of_mem _ hp)) e
theorem ib{scope:Scope}{env:Env}{p:Str×Addr}(h:p∈clOf scope env):env.cells.lookup p.1=some p.2:=by
 unfold clOf at h
 rw[List.mem_reverse,List.mem_filterMap]at h
 obtain⟨x,_,e⟩:=h
 split at e
 ·cases q:env.cells.lookup x.1 with
  | none=>rw[q]at e;cases e
  | some c=>
   rw[q]at e
   have e':(x.1,c)=p:=Option.some.inj e
   subst e'
   exact q
 ·cases e
theorem fQ{scope:Scope}{env:Env}{x:Str}{c:Addr}(h:(x,c)∈clOf scope env):(x,NameKind.free)∈scope.names:=by
 unfold clOf at h
 rw[List.mem_reverse,List.mem_filterMap]at h
 obtain⟨⟨y,k⟩,hy,e⟩:=h
 split at e
 ·rename_i hk
  have hk':k = .free:=by simpa using hk
  cases q:env.cells.lookup y with
  | none=>simp[q]at e
  | some d=>
   simp[q]at e
   rw[<-e.1,<-hk']
   exact hy
 ·cases e
theorem br{scope:Scope}{env:Env}{x:Str}{c:Addr}(e:(clOf scope env).lookup x=some c):env.cells.lookup x=some c:=
 ci (λ_ hp=>ib hp) e
theorem bU{x:Str}:∀{l:List (Str×Addr)},(∃c,(x,c)∈l)->∃c,l.lookup x=some c
 | [],⟨_,h⟩=>by cases h
 | (n,d)::r,⟨c,h⟩=>by
  rw[List.lookup_cons]
  cases hb:x==n with
  | true=>exact⟨d,rfl⟩
  | false=>
   rcases List.mem_cons.mp h with q|q
   ·injection q with q1 _
    rw[q1]at hb
    simp at hb
   ·exact bU ⟨c,q⟩
theorem hJ{scope:Scope}{env:Env}{x:Str}{c:Addr}(hm:(x,NameKind.free)∈scope.names)(e:env.cells.lookup x=some c):(clOf scope env).lookup x=some c:=by
 have hmem:(x,c)∈clOf scope env:=by
  unfold clOf
  rw[List.mem_reverse,List.mem_filterMap]
  exact⟨(x,.free),hm,by simp[e]⟩
 obtain⟨d,hd⟩:=bU ⟨c,hmem⟩
 have:=br hd
 rw[e]at this
 cases this
 exact hd
def capS(caps:List (Option Nat))(σ:St):St:=caps.map λo=>o.bind λi=>(σ[i]?).bind id
structure CompOk(scope sc:Scope)(NX N:List Str)(caps:List (Option Nat)):Prop where
 kind:scope.kind = .function
 nd:N.Nodup
 own:∀y∈scope.names,y.2 = .cell->scope.names.lookup y.1=some .cell
 loc:∀y∈scope.names,y.2 = .local->scope.names.lookup y.1=some .local
 free:∀y∈scope.names,y.2 = .free->scope.names.lookup y.1=some .free/\(sc.names.lookup y.1=some .cell\/sc.names.lookup y.1=some .free)
 len:caps.length=N.length
 cap:∀p∈(caps.zip N),∀i,p.1=some i->NX[i]?=some p.2/\scope.names.lookup p.2=some .free
def compOkB(scope sc:Scope)(NX N:List Str)(caps:List (Option Nat)):Bool:=
 (scope.kind == .function)&&decide N.Nodup&&scope.names.all (λy=>y.2 != .cell||scope.names.lookup y.1==some .cell)&&scope.names.all (λy=>y.2 != .local||scope.names.lookup y.1==some .local) &&
 scope.names.all (λy=>y.2 != .free||(scope.names.lookup y.1==some .free&&(sc.names.lookup y.1==some .cell||sc.names.lookup y.1==some .free)))&&(caps.length==N.length) &&
 (caps.zip N).all (λp=>match p.1 with|none=>true|some i=>NX[i]?==some p.2&&scope.names.lookup p.2==some .free)
theorem CompOk.of{scope sc:Scope}{NX N:List Str}{caps:List (Option Nat)}(h:compOkB scope sc NX N caps=true):CompOk scope sc NX N caps:=by
 unfold compOkB at h
 simp only[Bool.and_eq_true]at h
 obtain⟨⟨⟨⟨⟨⟨h1,h2⟩,h3⟩,h4⟩,h5⟩,h6⟩,h7⟩:=h
 refine⟨by simpa using h1,of_decide_eq_true h2,λy hy hc=>?_,λy hy hl=>?_,λy hy hf=>?_,by simpa using h6,λp hp i hi=>?_⟩
 ·have:=List.all_eq_true.mp h3 y hy
  rw[hc]at this
  simpa using this
 ·have:=List.all_eq_true.mp h4 y hy
  rw[hl]at this
  simpa using this
 ·have:=List.all_eq_true.mp h5 y hy
  rw[hf]at this
  simpa using this
 ·have:=List.all_eq_true.mp h7 p hp
  rw[hi]at this
  simpa using this
def csOf(scope:Scope)(C:Addr)(env:Env):List (Str×Addr):=cellsFrom (C+1) scope.names (clOf scope env)
theorem ca:∀(names:List (Str×NameKind)) (n:Nat) (acc:List (Str×Addr)) {x:Str} {c:Addr},(cellsFrom n names acc).lookup x=some c->(n<=c/\(x,NameKind.cell)∈names)\/acc.lookup x=some c
 | [],_,_,_,_,h=> .inr h
 | (y,k)::r,n,acc,x,c,h=>by
  unfold cellsFrom at h
  split at h
  ·rename_i hk
   have hk':k = .cell:=by simpa using hk
   rcases ca r (n+1) _ h with⟨h1,h2⟩|h2
   ·exact .inl ⟨by omega,List.mem_cons_of_mem _ h2⟩
   ·rw[List.lookup_cons]at h2
    cases hb:x==y with
    | true=>
     rw[hb]at h2
     have e:n=c:=Option.some.inj h2
     have ex:x=y:=by simpa using hb
     exact .inl ⟨by omega,by rw[ex,hk'];exact List.mem_cons_self⟩
    | false=>rw[hb]at h2;exact .inr h2
  ·rcases ca r n acc h with⟨h1,h2⟩|h2
   ·exact .inl ⟨h1,List.mem_cons_of_mem _ h2⟩
   ·exact .inr h2
theorem dc:∀(names:List (Str×NameKind)) (n:Nat) (acc:List (Str×Addr)) {x:Str},(x,NameKind.cell)∉names->(cellsFrom n names acc).lookup x=acc.lookup x
 | [],_,_,_,_=>rfl
 | (y,k)::r,n,acc,x,h=>by
  unfold cellsFrom
  have hr:(x,NameKind.cell)∉r:=λz=>h (List.mem_cons_of_mem _ z)
  split
  ·rename_i hk
   have hk':k = .cell:=by simpa using hk
   rw[dc r _ _ hr,List.lookup_cons]
   have hb:(x==y)=false:=by
    cases hb:x==y with
    | false=>rfl
    | true=>
     have ex:x=y:=by simpa using hb
     exact absurd (by rw[ex,hk'];exact List.mem_cons_self) h
   rw[hb]
  ·exact dc r n acc hr
theorem cT:∀(names:List (Str×NameKind)) (n:Nat) (acc:List (Str×Addr)) {x:Str},((x,NameKind.cell)∈names\/∃c,acc.lookup x=some c)->∃c,(cellsFrom n names acc).lookup x=some c
 | [],_,_,_,h=>by
  rcases h with h|h
  ·cases h
  ·exact h
 | (y,k)::r,n,acc,x,h=>by
  unfold cellsFrom
  split
  ·rename_i hk
   refine cT r _ _ ?_
   by_cases hb:x=y
   ·subst hb;exact .inr ⟨n,by simp[List.lookup_cons]⟩
   ·rcases h with h|⟨c,h⟩
    ·rcases List.mem_cons.mp h with z|z
     ·injection z with z1 _;exact absurd z1 hb
     ·exact .inl z
    ·exact .inr ⟨c,by rw[List.lookup_cons,show(x==y)=false by simpa using hb];exact h⟩
  ·rename_i hk
   refine cT r _ _ ?_
   rcases h with h|h
   ·rcases List.mem_cons.mp h with z|z
    ·injection z with _ z2
     rw[<-z2]at hk
     exact absurd rfl hk
    ·exact .inl z
   ·exact .inr h
theorem ec:∀(names:List (Str×NameKind)) (n:Nat) (acc:List (Str×Addr)),(∀x y c,acc.lookup x=some c->acc.lookup y=some c->x=y)->(∀x c,acc.lookup x=some c->c<n)->
  ∀x y c,(cellsFrom n names acc).lookup x=some c->(cellsFrom n names acc).lookup y=some c->x=y
 | [],_,_,hi,_=>hi
 | (w,k)::r,n,acc,hi,hb=>by
  unfold cellsFrom
  split
  ·refine ec r (n+1) _ (λx y c h1 h2=>?_) (λx c h=>?_)
   ·rw[List.lookup_cons]at h1 h2
    cases e1:x==w <;> cases e2:y==w <;> rw[e1]at h1 <;> rw[e2]at h2
    ·exact hi x y c h1 h2
    ·cases h2;exact absurd (hb x _ h1) (Nat.lt_irrefl _)
    ·cases h1;exact absurd (hb y _ h2) (Nat.lt_irrefl _)
    ·have a1:x=w:=by simpa using e1
     have a2:y=w:=by simpa using e2
     rw[a1,a2]
   ·rw[List.lookup_cons]at h
    cases e1:x==w <;> rw[e1]at h
    ·exact Nat.lt_succ_of_lt (hb x c h)
    ·cases h;exact Nat.lt_succ_self _
  ·exact ec r n acc hi hb
theorem dH:∀(names:List (Str×NameKind)) (h:Heap) (acc:List (Str×Addr)) {x:Str} {c:Addr},(x,c)∈cellsFrom h.objs.size names acc->(x,c)∈acc\/(h.objs.size<=c/\(pushCells h names).IsCell c none)
 | [],_,_,_,_,hm=> .inl hm
 | (y,k)::r,h,acc,x,c,hm=>by
  unfold cellsFrom at hm
  unfold pushCells
  split at hm
  ·rename_i hk
   rw[if_pos hk]
   have hm':(x,c)∈cellsFrom (h.push {cls:= .type "cell",data:= .cell none}).objs.size r ((y,h.objs.size)::acc):=by rw[Heap.size_push];exact hm
   rcases dH r _ _ hm' with z|⟨z1,z2⟩
   ·rcases List.mem_cons.mp z with z|z
    ·injection z with _ z2
     subst z2
     refine .inr ⟨Nat.le_refl _,_,pushCells_keeps r _ _ _ (Heap.get?_push_size _ rfl),rfl⟩
    ·exact .inl z
   ·rw[Heap.size_push]at z1
    exact .inr ⟨by omega,z2⟩
  ·rename_i hk
   rw[if_neg hk]
   exact dH r h acc hm
theorem gZ{M:Model}{A:Around}{E:Value->Shared->Prop}{s:Shared}{scope:Scope}{globals:Addr}{cl:List (Str×Addr)}{qual:Str}{env:Env}{Q:Env->Shared->Prop}(hcl:∀x c,(x,c)∈cl->c<s.heap.objs.size)
  (h:∀h':Heap,h'.Ns s.heap.objs.size (λ_=>none)->(∀b o,s.heap.get? b=some o->h'.get? b=some o)->(∀x c,(cellsFrom (s.heap.objs.size+1) scope.names cl).lookup x=some c->s.heap.objs.size+1<=c->h'.IsCell c none)->
   Q {scope:=scope,locals:=s.heap.objs.size,globals:=globals,cells:=cellsFrom (s.heap.objs.size+1) scope.names cl,qual:=qual,func:=none,code:=env.code,frame:=env.frame,builtins:=env.builtins} {s with heap:=h'}):
  wpAny M A (newFunctionEnv scope globals cl [] qual none .none (some env)) Q E s:=by
 simp only[newFunctionEnv,Option.isSome_some,if_true]
 refine wpAny_bind (wpAny_alloc ?_)
 refine wpAny_bind (wpAny_layCells _ (λname kind cells=>by cases hkc:kind==NameKind.cell <;> simp[hkc]) _ _ _ _ ?_)
 rw[show({s with heap:=s.heap.push {cls:= .type "dict",data:= .dict #[]}}:Shared).heap.objs.size=s.heap.objs.size+1 from Heap.size_push ..]
 refine wpAny_bind ?_
 rw[List.forIn_nil]
 refine wpAny_pure (wpAny_pure (h _ ?_ (λb o e=>pushCells_keeps _ _ _ _ (Heap.get?_push_of_some _ e)) λx c e hc=>?_))
 ·refine⟨_,#[],0,pushCells_keeps _ _ _ _ (Heap.get?_push_size _ rfl),rfl,?_,λx=>rfl⟩
  first|exact λe he=>by simp at he|simp
 ·have hm:=PySem.mem_of_lookup e
  have hm':(x,c)∈cellsFrom (s.heap.push {cls:= .type "dict",data:= .dict #[]}).objs.size scope.names cl:=by rw[Heap.size_push];exact hm
  rcases dH _ _ _ hm' with z|z
  ·exact absurd (Nat.lt_of_lt_of_le (hcl x c z) (Nat.le_of_succ_le hc)) (Nat.lt_irrefl _)
  ·exact z.2
def compCx(X:Cx)(scope:Scope)(N:List Str)(C:Addr)(s₀:Shared)(H₀:Hp)(ex:List Addr):Cx where
 prog:=X.prog
 w:=X.w
 K:=X.K
 mg:=X.mg
 base:=X.base
 A:=X.A
 N:=N
 s₀:=s₀
 H₀:=H₀
 env:=compEnvC scope (csOf scope C X.env) C X.env
 outer:=X.stack
 stack:=X.stack
 ex:=ex
 fn:=λx=>scope.names.lookup x==some .cell
 calm:=X.calm
 pn:=[]
 xe:=λ_ _=>False
theorem dq{scope:Scope}{env:Env}{x:Str}{k:NameKind}(hk:k = .cell\/k = .free)(h:(relabel scope env).names.lookup x=some k):(x,NameKind.free)∈scope.names\/(x,NameKind.cell)∈scope.names:=by
 have hm:(x,k)∈(relabel scope env).names:=PySem.mem_of_lookup h
 unfold relabel at hm
 rw[List.mem_map]at hm
 obtain⟨⟨n,k'⟩,hn,e⟩:=hm
 dsimp only at e
 by_cases hc:(k'==NameKind.free&&env.scope.kind == .function&&env.kindOf n==some .cell)=true
 ·rw[if_pos hc]at e
  injection e with e1 e2
  have:k' = .free:=by
   rw[Bool.and_eq_true,Bool.and_eq_true]at hc
   simpa using hc.1.1
  subst this e1
  exact .inl hn
 ·rw[if_neg hc]at e
  injection e with e1 e2
  subst e1 e2
  rcases hk with hk|hk
  ·subst hk;exact .inr hn
  ·subst hk;exact .inl hn
theorem bM{env:Env}:∀{names:List (Str×NameKind)} {x:Str},names.lookup x=some .free->
  (names.map λ(n,k)=>if(k==NameKind.free&&env.scope.kind == .function&&env.kindOf n==some .cell)then(n,NameKind.cell)else(n,k)).lookup x=some .cell\/
  (names.map λ(n,k)=>if(k==NameKind.free&&env.scope.kind == .function&&env.kindOf n==some .cell)then(n,NameKind.cell)else(n,k)).lookup x=some .free
 | [],_,h=>by simp at h
 | (n,k)::r,x,h=>by
  have ih:=@bM env r x
  rw[List.map_cons]
  dsimp only
  cases hx:x==n with
  | true=>
   simp only[List.lookup_cons,hx]at h
   cases h
   by_cases hc:(NameKind.free==NameKind.free&&env.scope.kind == .function&&env.kindOf n==some .cell)=true
   ·rw[if_pos hc];left;simp[List.lookup_cons,hx]
   ·rw[if_neg hc];right;simp[List.lookup_cons,hx]
  | false=>
   simp only[List.lookup_cons,hx]at h
   by_cases hc:(k==NameKind.free&&env.scope.kind == .function&&env.kindOf n==some .cell)=true
   ·rw[if_pos hc];simp only[List.lookup_cons,hx];exact ih h
   ·rw[if_neg hc];simp only[List.lookup_cons,hx];exact ih h
section
variable{X:Cx}{pins:List (Addr×Obj)}{σ:St}{H:Hp}{s:Shared}{scope:Scope}{N:List Str}{caps:List (Option Nat)}{fp:List Addr}
theorem iC{h1:Heap}{tk:Nat}(I:Inv X pins σ H s)(O:CompOk scope X.env.scope X.N N caps)(f2:∀b∈fp,FpOk X pins H b)(hob:∀b∈fp,b<s.heap.objs.size)
  (hns:h1.Ns (s.heap.objs.size+1) (λ_=>none))(hD:h1.get? s.heap.objs.size=some {cls:= .type "list",data:= .seq #[]})(old:∀b o,s.heap.get? b=some o->h1.get? b=some o)
  (hnew:∀x c,(csOf scope (s.heap.objs.size+1) X.env).lookup x=some c->s.heap.objs.size+1+1<=c->h1.IsCell c none):
  Inv (compCx X scope N (s.heap.objs.size+1) s H fp) [(s.heap.objs.size,{cls:= .type "list",data:= .seq #[]})] (capS caps σ) H {s with heap:=h1,toks:=tk}:=by
 have sub:∀b∈frs X.stack,b<s.heap.objs.size:=λb hb=>by
  obtain⟨_,o,ho,_⟩:=I.stack.mem hb
  exact Heap.lt_size ho
 have cellLt:∀x c,X.env.cells.lookup x=some c->c<s.heap.objs.size:=λx c e=>by
  obtain⟨v,o,ho,_⟩:=I.cell x c e
  exact Heap.lt_size ho
 have cl:∀x c,(csOf scope (s.heap.objs.size+1) X.env).lookup x=some c->(s.heap.objs.size+1+1<=c/\(x,NameKind.cell)∈scope.names)\/X.env.cells.lookup x=some c:=λx c e=>by
  rcases ca _ _ _ e with z|z
  ·exact .inl z
  ·exact .inr (br z)
 have freeHas:∀x,(x,NameKind.free)∈scope.names->∃c,X.env.cells.lookup x=some c:=λx hm=>by
  rcases(O.free _ hm rfl).2 with q|q
  ·exact I.ok.has x (.inl q)
  ·exact I.ok.has x (.inr q)
 have notOwn:∀x,(x,NameKind.free)∈scope.names->(x,NameKind.cell)∉scope.names:=λx hm hc=>by
  have h1:=(O.free _ hm rfl).1
  have h2:=O.own _ hc rfl
  dsimp only at h1 h2
  rw[h1]at h2
  cases h2
 refine⟨⟨I.ok.mod,O.kind,I.ok.glob,I.ok.blt,Nat.le_succ _,λx y c h1 h2=>?_,λx hx=>?_,λx c hf e=>?_,I.ok.hd,I.ok.frames,.inl rfl,λb hb=>⟨Nat.ne_of_lt (Nat.lt_succ_of_lt (hob b hb)),λx c e=>?_⟩,I.bs,?_,λb o e hb=>?_,λb hb hfs=>?_,I.stack,I.stkFree⟩,
  rfl,I.bare,Un.kept old,⟨_,hns,λi x v e1 e2 e3=>?_⟩,λx c e=>?_,I.hok.fresh (Nat.le_succ _),λx c e=>?_,λp hp=>?_,I.hok.kept old,?_⟩
 ·exact ec scope.names _ (clOf scope X.env) (λx y c a b=>I.ok.inj x y c (br a) (br b)) (λx c a=>Nat.lt_succ_of_lt (Nat.lt_succ_of_lt (cellLt x c (br a)))) x y c h1 h2
 ·have hm:(x,NameKind.free)∈scope.names\/(x,NameKind.cell)∈scope.names:=by
   rcases hx with hx|hx
   ·exact dq (.inl rfl) hx
   ·exact dq (.inr rfl) hx
  rcases hm with hm|hm
  ·obtain⟨c,hc⟩:=freeHas x hm
   exact cT _ _ _ (.inr ⟨c,hJ hm hc⟩)
  ·exact cT _ _ _ (.inl hm)
 ·have hf':scope.names.lookup x=some .cell:=by simpa [compCx]using hf
  rcases cl x c e with z|z
  ·exact Nat.le_of_lt (Nat.lt_of_lt_of_le (Nat.lt_succ_of_lt (Nat.lt_succ_self _)) z.1)
  ·exfalso
   have hm:=PySem.mem_of_lookup hf'
   rcases ca _ _ _ e with w|w
   ·exact absurd (Nat.lt_of_lt_of_le (cellLt x c z) (Nat.le_trans (Nat.le_succ_of_le (Nat.le_succ _)) w.1)) (Nat.lt_irrefl _)
   ·have hmem:=fQ (PySem.mem_of_lookup w)
    exact notOwn x hmem hm
 ·rcases cl x c e with z|z
  ·exact λw=>absurd (Nat.lt_of_lt_of_le (hob b hb) (Nat.le_trans (Nat.le_succ_of_le (Nat.le_succ _)) (w▸z.1))) (Nat.lt_irrefl _)
  ·exact(f2 b hb).2.2.2.2.1 x c z
 ·exact Nat.le_trans I.ok.bsz I.sz
 ·rcases(f2 b hb).2.2.2.1 with z|z
  ·exact I.ok.noex b o e z
  ·exact absurd (Nat.lt_of_lt_of_le (Heap.lt_size (I.ok.bs b o e).1) z) (Nat.lt_irrefl _)
 ·rcases List.mem_cons.mp (I.stkSub b hfs)with z|z
  ·exact(f2 b hb).2.1 z
  ·exact(f2 b hb).2.2.1 z
 · -- a captured name
  have hi:i<caps.length:=by
   have:=(List.getElem?_eq_some_iff.mp e2).1
   unfold capS at this
   rwa[List.length_map]at this
  have hcap:∃j,caps[i]?=some (some j)/\σ[j]?=some (some v):=by
   unfold capS at e2
   rw[List.getElem?_map]at e2
   cases q:caps[i]? with
   | none=>rw[q]at e2;cases e2
   | some o=>
    rw[q]at e2
    have e2':(o.bind λi=>(σ[i]?).bind id)=some v:=Option.some.inj e2
    cases o with
    | none=>cases e2'
    | some j=>
     refine⟨j,rfl,?_⟩
     cases q2:σ[j]? with
     | none=>rw[Option.bind_some,q2]at e2';cases e2'
     | some o2=>
      rw[Option.bind_some,q2]at e2'
      cases o2 with
      | none=>cases e2'
      | some v2=>cases e2';rfl
  obtain⟨j,hj,hv⟩:=hcap
  have hN:N[i]?=some x:=e1
  have hz:(some j,x)∈caps.zip N:=by
   have:(caps.zip N)[i]?=some (some j,x):=by
    rw[List.getElem?_zip_eq_some]
    exact⟨hj,hN⟩
   exact List.mem_of_getElem? this
  obtain⟨hX,hf⟩:=O.cap _ hz j rfl
  have hm:(x,NameKind.free)∈scope.names:=PySem.mem_of_lookup hf
  have hvis:Vis X.env.scope x:=by
   rcases(O.free _ hm rfl).2 with q|q
   ·exact .inr (.inl q)
   ·exact .inr (.inr q)
  obtain⟨m,hn,hl⟩:=I.loc
  obtain⟨u,r,l⟩:=hl j x v hX hv hvis
  refine⟨u,r,?_⟩
  rcases l with⟨k,_⟩|⟨_,c,e,⟨o,ho,hd⟩⟩
  ·exfalso
   rcases(O.free _ hm rfl).2 with q|q
   ·have:X.env.scope.names.lookup x=some .local:=k
    rw[q]at this;cases this
   ·have:X.env.scope.names.lookup x=some .local:=k
    rw[q]at this;cases this
  ·have hk2:(compCx X scope N (s.heap.objs.size+1) s H fp).env.kindOf x=some .cell\/(compCx X scope N (s.heap.objs.size+1) s H fp).env.kindOf x=some .free:=bM hf
   exact .inr ⟨hk2,c,(dc _ _ _ (notOwn x hm)).trans (hJ hm e),⟨o,old c o ho,hd⟩⟩
 ·rcases cl x c e with z|z
  ·exact⟨none,hnew x c e z.1⟩
  ·obtain⟨v,o,ho,hd⟩:=I.cell x c z
   exact⟨v,o,old c o ho,hd⟩
 ·rcases cl x c e with z|z
  ·exact I.hok.fresh (Nat.le_trans (Nat.le_succ_of_le (Nat.le_succ _)) z.1)
  ·exact I.freeC x c z
 ·have e:p=(s.heap.objs.size,{cls:= .type "list",data:= .seq #[]}):=by simpa [compCx]using hp
  subst e
  refine⟨hD,I.hok.fresh (Nat.le_refl _),Nat.ne_of_lt (Nat.lt_succ_self _),λhb=>absurd (sub _ hb) (Nat.lt_irrefl _),λv z=>by cases z⟩
 ·show(capS caps σ).length=N.length
  unfold capS
  rw[List.length_map]
  exact O.len
end
end L2
namespace L2
open PySem PySem.Spec PyProof.Rows
def PTs(X:Cx)(ifs:List Expr)(t:TT):Prop:=
 ∀(pins:List (Addr×Obj)) (s:Shared) (σ:St) (H:Hp) (Q:Bool->Hp->Prop),Inv X pins σ H s->t σ H Q->
  wpAny (model X.prog X.w) X.A (forIn ifs true λc r=>if r=true then do let ok<-isTrue c X.env (eval c X.env);pure (ForInStep.yield ok)else pure (ForInStep.yield r)) (TP X pins σ Q) X.xe s
def tTrue:TT:=λ_ H Q=>Q true H
theorem aL{X:Cx}:PTs X [] tTrue:=λ_ _ _ H _ I h=>wpAny_tests_nil ⟨H,I,h⟩
theorem cZ{X:Cx}{c:Expr}{t:TT}(h:PT X c t):PTs X [c] t:=λpins s σ H Q I hw=>wpAny_tests_one (h pins s σ H Q I hw)
section
variable{prog:Program}{w:World}{A:Around}{R:Result->Shared->Prop}{s:Shared}
theorem jk{elt target iter:Expr}{ifs:List Expr}{scope:Scope}{pos:Pos}{it acc:Value}{env:Env}(I:Nat->Shared->Prop)
  (turn:∀n s,I n s->wpAny (model prog w) A (pyNext it) (λr s₁=>match r with
   | none=>R (.ok .next) s₁
   | some v=>wpAny (model prog w) A (letOwnedTupleGo target it v) (λ_ s₀=>wpAny (model prog w) A (assign target env v) (λ_ s₂=>
     wpAny (model prog w) A (forIn ifs true λc r=>if r=true then do let ok<-isTrue c env (eval c env);pure (ForInStep.yield ok)else pure (ForInStep.yield r)) (λok s₃=>
      if ok=true then wpAny (model prog w) A (eval elt env) (λx s₄=>
       wpAny (model prog w) A (call (.builtin "list.append") [acc,x]) (λ_ s₅=>∃m,m<n/\I m s₅) (λ_ _=>False) s₄) (λ_ _=>False) s₃
      else ∃m,m<n/\I m s₃) (λ_ _=>False) s₂) (λ_ _=>False) s₀) (λ_ _=>False) s₁) (λ_ _=>False) s)
  (n:Nat)(h:I n s):codeAny (model prog w) A (.compLoop (.ListComp elt [⟨target,iter,ifs,0⟩] scope pos) 0 it acc env) R s:=by
 refine codeAny_loop rfl I (λn s hI=>?_) n h
 show wpAny _ A ((compTurn (.ListComp elt [⟨target,iter,ifs,0⟩] scope pos) 0 it acc env).onRaise (λx=>do noteFrame x env;theTreesLotGoes x)) _ _ s
 refine wpAny_noted (wpAny_noRaise ?_)
 rw[compTurn_list]
 refine wpAny_bind (wpAny_standAt (wpAny_bind (thn (turn n s hI) λr s₁ h₁=>?_)))
 cases r with
 | none=>exact wpAny_pure h₁
 | some v=>
  refine wpAny_bind (thn h₁ λ_ s₀ h₀=>?_)
  refine wpAny_bind (thn h₀ λ_ s₂ h₂=>wpAny_bind (thn h₂ λok s₃ h₃=>?_))
  cases ok with
  | false=>exact wpAny_pure ⟨rfl,h₃⟩
  | true=>exact wpAny_bind (wpAny_bind (thn h₃ λx s₄ h₄=>wpAny_bind (thn h₄ λ_ s₅ h₅=>wpAny_pure (wpAny_pure ⟨rfl,h₅⟩))))
end
def Keep(caps:List (Option Nat))(σ σ':St):Prop:=∀(j:Nat) (v:V),(capS caps σ)[j]?=some (some v)->σ'[j]?=some (some v)
def GK(caps:List (Option Nat))(g:TG):Prop:=∀σ σ1 x H (Q:St->Hp->Prop),Keep caps σ σ1->g x σ1 H Q->g x σ1 H λσ2 H2=>Keep caps σ σ2/\Q σ2 H2
def GKs(caps:List (Option Nat))(g:TGs):Prop:=∀σ σ1 xs H (Q:St->Hp->Prop),Keep caps σ σ1->g xs σ1 H Q->g xs σ1 H λσ2 H2=>Keep caps σ σ2/\Q σ2 H2
theorem Keep.set{caps:List (Option Nat)}{σ σ':St}{i:Nat}{x:Option V}(k:Keep caps σ σ')(h:caps[i]?=some none):Keep caps σ (σ'.set i x):=λj v e=>by
 by_cases hj:i=j
 ·subst hj
  unfold capS at e
  rw[List.getElem?_map,h]at e
  cases e
 ·rw[List.getElem?_set_ne hj]
  exact k j v e
theorem aC{caps:List (Option Nat)}{i:Nat}(h:caps[i]?=some none):GK caps (gName i):=λ_ _ _ _ _ k q=>⟨k.set h,q⟩
theorem dP{caps:List (Option Nat)}:GKs caps gNil:=λ_ _ _ _ _ k q=>⟨q.1,k,q.2⟩
theorem bC{caps:List (Option Nat)}{t:TG}{u:TGs}(mono:∀x σ H (Q Q':St->Hp->Prop),(∀σ H,Q σ H->Q' σ H)->t x σ H Q->t x σ H Q')(h1:GK caps t)(h2:GKs caps u):GKs caps (gCons t u):=λσ σ1 xs H Q k q=>by
 obtain⟨v,r,e,q⟩:=q
 refine⟨v,r,e,?_⟩
 exact mono _ _ _ _ _ (λσ2 H2 ⟨k2,q2⟩=>h2 σ σ2 r H2 Q k2 q2) (h1 σ σ1 v H _ k q)
theorem aW{i:Nat}:∀x σ H (Q Q':St->Hp->Prop),(∀σ H,Q σ H->Q' σ H)->gName i x σ H Q->gName i x σ H Q':=λ_ _ _ _ _ h q=>h _ _ q
theorem gw{K:PySem.W.Frag}{caps:List (Option Nat)}{n:Nat}{t:TGs}(h:GKs caps t):GK caps (gTup K n t):=λσ σ1 x H Q k q=>by
 obtain⟨a,xs,e,hq,hl,q⟩:=q
 exact⟨a,xs,e,hq,hl,h σ σ1 xs H Q k q⟩
def lstO(its:List Value)(n:Nat):Obj:={cls:= .type "list",data:= .seq its.toArray n}
def tCompK(caps:List (Option Nat))(g:TG)(tt:TT)(te:TE)(σ:St)(QQ:List V->Hp->Prop)(J:It)(H1:Hp):Prop:=
 ∃W:Nat->Nat->List V->Hp->Prop,(∃m,W 0 m [] H1)/\∀i m ys H,W i m ys H->
  (J.stop i H/\QQ ys H)\/(J.go i H/\∃N:List V->Hp->Prop,(∀ys' H',N ys' H'->∃m',m'<m/\W (i+1) m' ys' H')/\
   ∀x H',J.yld i H x H'->g x (capS caps σ) H' λσ2 H2=>tt σ2 H2 λb H3=>if b=true then te σ2 H3 λy H4=>ys.length<sizeLine/\N (ys++[y]) H4 else N ys H3)
def tComp(caps:List (Option Nat))(wi:TI)(g:TG)(tt:TT)(te:TE):TE:=λσ H Q=>
 wi σ H (tCompK caps g tt te σ λys H'=>∀D,H' D=none->Q (.ref D) (upd H' D (.lst ys)))
section
variable{X:Cx}{pins:List (Addr×Obj)}{σ:St}{scope:Scope}{N:List Str}{caps:List (Option Nat)}{fp:List Addr}
theorem kj{H H':Hp}{s s':Shared}{σ':St}{its:List Value}{n:Nat}{ys:List V}(I:Inv X pins σ H s)(f2:∀b∈fp,FpOk X pins H b)
  (J:Inv (compCx X scope N (s.heap.objs.size+1) s H fp) [(s.heap.objs.size,lstO its n)] σ' H' s')(hv:Vals ys its)(hz:ys.length<=sizeLine):
  Inv X pins σ (upd H' s.heap.objs.size (.lst ys)) s'/\H' s.heap.objs.size=none/\H' (s.heap.objs.size+1)=none:=by
 have hpin:=J.pin (s.heap.objs.size,lstO its n) (List.mem_append_right _ (List.mem_singleton.mpr rfl))
 obtain⟨hD,hDn,hDC,_,_⟩:=hpin
 have hD0:H s.heap.objs.size=none:=I.hok.fresh (Nat.le_refl _)
 have ltD:∀b o,s.heap.get? b=some o->b≠s.heap.objs.size:=λb o e=>Nat.ne_of_lt (Heap.lt_size e)
 refine⟨I.call' (ch:=fp) J.os ⟨J.base.keep,J.base.slot,λb o e n' hx=>?_,J.base.there,λb xs e=>?_,λb o u e=>?_,λb ps e=>?_⟩ (λa o e=>?_) J.bare (λb hb=>?_),hDn,J.free⟩
 ·rw[az (ltD b o e)];exact J.base.free b o e n' hx
 ·rw[az (aU e hD0)];exact J.base.tups b xs e
 ·rw[az (aU e hD0)];exact J.base.frzs b o u e
 ·rw[az (aU e hD0)];exact J.base.tbls b ps e
 ·by_cases ha:a=s.heap.objs.size
  ·subst ha
   rw[af]at e
   cases e
   exact⟨hz,its,n,hv,hD⟩
  ·rw[az ha]at e
   exact(J.hok a o e).stay (λb u _ q=>q) (λb q=>by rw[az (aU q hDn)];exact q) λb xs q=>by rw[az (aU q hDn)];exact q
 ·obtain⟨_,h1,_,h3,h4,h5⟩:=f2 b hb
  exact⟨h3,h1,h4,h5⟩
theorem eW{elt tg iter:Expr}{ifs:List Expr}{pos:Pos}{g:TG}{tt:TT}{te:TE}{QQ:List V->Hp->Prop}{R:Value->Addr->Result->Shared->Prop}{itv:Value}{s2:Shared}(hc:X.calm=true)(O:CompOk scope X.env.scope X.N N caps)(gk:GK caps g)
  (hg:∀C s H fp,PG (compCx X scope N C s H fp) tg g)(ht:∀C s H fp,PTs (compCx X scope N C s H fp) ifs tt)(he:∀C s H fp,PE (compCx X scope N C s H fp) elt te)
  (h2:PIE X pins σ tg (tCompK caps g tt te σ QQ) itv s2)
  (fin:∀(D C:Addr) (s':Shared) (H':Hp) (ys:List V) (m:Str->Option Value),Inv X pins σ (upd H' D (.lst ys)) s'->s'.heap.Ns C m->H' D=none->H' C=none->C≠D->X.s₀.heap.objs.size<=C->C≠X.env.locals->(∀x c,X.env.cells.lookup x=some c->c≠C)->(∀p∈X.pn++pins,p.1≠C)->
   QQ ys H'->R (.ref D) C (.ok .next) s'):
  wpAny (model X.prog X.w) X.A (newList []) (λacc s₃=>wpAny (model X.prog X.w) X.A (newFunctionEnv scope X.env.globals (clOf scope X.env) [] X.env.qual none .none (some X.env)) (λcenv s₄=>
   codeAny (model X.prog X.w) X.A (.compStart (.ListComp elt [⟨tg,iter,ifs,0⟩] scope pos) 0 itv acc {cenv with scope:=relabel scope X.env}) (R acc cenv.locals) s₄) X.xe s₃) X.xe s2:=by
 obtain⟨it,fp,tn,J,H2,e,I2,T,st2,f2,W,⟨m0,w0⟩,turn⟩:=h2
 subst e
 have cellLt:∀x c,X.env.cells.lookup x=some c->c<s2.heap.objs.size:=λx c e=>by
  obtain⟨v,o,ho,_⟩:=I2.cell x c e
  exact Heap.lt_size ho
 refine wpAny_newObj_type (gZ (λx c hm=>by rw[Heap.size_push];exact Nat.lt_succ_of_lt (cellLt x c (ib hm))) (λh₁ hns₁ hsb₁ hnew₁=>?_))
 dsimp only at hns₁ hsb₁ hnew₁ ⊢
 have hob:∀b∈fp,b<s2.heap.objs.size:=λb hb=>by
  obtain⟨o,ho,_⟩:=T.obj _ _ st2 b hb
  exact Heap.lt_size ho
 generalize hH2:s2.heap.push {cls:= .type "list",dict:=none,data:= .seq ([]:List Value).toArray}=G2 at hns₁ hsb₁ hnew₁ ⊢
 have hC:G2.objs.size=s2.heap.objs.size+1:=by rw[<-hH2,Heap.size_push]
 rw[hC]at hns₁ hnew₁ ⊢
 have old:∀b o,s2.heap.get? b=some o->h₁.get? b=some o:=λb o e=>hsb₁ b o (hH2▸Heap.get?_push_of_some _ e)
 have hD:h₁.get? s2.heap.objs.size=some {cls:= .type "list",data:= .seq #[]}:=hsb₁ _ _ (hH2▸Heap.get?_push_size _ rfl)
 have I0:=iC (scope:=scope) (N:=N) (caps:=caps) (fp:=fp) (tk:=s2.toks) I2 O f2 hob hns₁ hD old hnew₁
 have st0:tn 0 h₁:=T.keep _ _ _ st2 λb _ o e=>old b o e
 have f0:∀{pins':List (Addr×Obj)} {H':Hp},(∀p∈pins',p.1=s2.heap.objs.size)->(∀b∈fp,H' b=none)->∀b∈fp,FpOk (compCx X scope N (s2.heap.objs.size+1) s2 H2 fp) pins' H' b:=λ {pins' H'} hp hn b hb=>by
  obtain⟨_,k1,k2,k3,k4,k5⟩:=f2 b hb
  refine⟨hn b hb,Nat.ne_of_lt (Nat.lt_succ_of_lt (hob b hb)),λhm=>?_,.inl hb,λx c e=>by
   rcases ca _ _ _ e with z|z
   ·exact λw=>absurd (Nat.lt_of_lt_of_le (hob b hb) (Nat.le_trans (Nat.le_succ_of_le (Nat.le_succ _)) (w▸z.1))) (Nat.lt_irrefl _)
   ·exact k4 x c (br z),λp hm=>?_⟩
  ·rcases List.mem_cons.mp (I2.stkSub b hm)with z|z
   ·exact k1 z
   ·exact k2 z
  ·have q:=hp p (by simpa [compCx]using hm)
   rw[q]
   exact Nat.ne_of_gt (hob b hb)
 have loop:codeAny (model X.prog X.w) X.A (.compLoop (.ListComp elt [⟨tg,iter,ifs,0⟩] scope pos) 0 (.ref it) (.ref s2.heap.objs.size) (compCx X scope N (s2.heap.objs.size+1) s2 H2 fp).env)
   (R (.ref s2.heap.objs.size) (s2.heap.objs.size+1)) {s2 with heap:=h₁}:=by
  refine jk (λn s'=>∃i ys its k H',Inv (compCx X scope N (s2.heap.objs.size+1) s2 H2 fp) [(s2.heap.objs.size,lstO its k)] (capS caps σ) H' s'/\Vals ys its/\ys.length<=sizeLine/\tn i s'.heap/\(∀b∈fp,H' b=none)/\W i n ys H')
   ?_ m0 ⟨0,[],[],0,H2,I0,.nil,Nat.zero_le _,st0,λb hb=>(f2 b hb).1,w0⟩
  rintro n s3 ⟨i,ys,its,k,H3,I3,v3,z3,st3,fr3,w3⟩
  have one:∀p∈[(s2.heap.objs.size,lstO its k)],p.1=s2.heap.objs.size:=λp hp=>by rw[List.mem_singleton.mp hp]
  rcases turn i n ys H3 w3 with⟨stop,qn⟩|⟨go,M,hM,step⟩
  ·refine thn (T.done (compCx X scope N (s2.heap.objs.size+1) s2 H2 fp) rfl rfl rfl hc i _ s3 _ H3 _ I3 (f0 one fr3) st3 stop) λr s4 ⟨hr,I4⟩=>?_
   subst hr
   obtain⟨E1,E2,E3⟩:=kj I2 f2 I4 v3 z3
   obtain⟨m,hm,_⟩:=I4.loc
   refine fin _ _ s4 H3 ys m E1 hm E2 E3 (Nat.ne_of_gt (Nat.lt_succ_self _)) (Nat.le_succ_of_le I2.sz) (Nat.ne_of_gt (Nat.lt_succ_of_lt I2.lt)) (λx c e=>?_) (λp hp=>?_) qn
   ·obtain⟨v,o,ho,_⟩:=I2.cell x c e
    exact Nat.ne_of_lt (Nat.lt_succ_of_lt (Heap.lt_size ho))
   ·exact Nat.ne_of_lt (Nat.lt_succ_of_lt (Heap.lt_size (I2.pin p hp).1))
  ·refine thn (T.item (compCx X scope N (s2.heap.objs.size+1) s2 H2 fp) rfl rfl rfl hc i _ s3 _ H3 _ I3 (f0 one fr3) st3 go) λr s4 ⟨u,hr,h4⟩=>?_
   subst hr
   refine thn h4 λ_ s5 ⟨x,H5,I5,r5,y5,st5,fr5⟩=>?_
   have I5':=I5.pinned (f0 one fr5) (T.obj _ _ st5)
   refine thn (hg _ _ _ _ _ s5 _ H5 x u _ I5' r5 (gk σ _ x H5 _ (λ_ _ e=>e) (step x H5 y5))) λ_ s6 ⟨σ6,H6,I6,kp,q6⟩=>?_
   refine thn (ht _ _ _ _ _ s6 σ6 H6 _ I6 q6) λok s7 ⟨H7,I7,q7⟩=>?_
   have back:∀{σ8:St} {H8:Hp} {s8:Shared} {ys':List V},Inv (compCx X scope N (s2.heap.objs.size+1) s2 H2 fp) ([(s2.heap.objs.size,lstO its k)]++pinsAt fp s5.heap) σ8 H8 s8->M ys' H8->
     tn (i+1) s8.heap/\(∀b∈fp,H8 b=none)/\∃m',m'<n/\W (i+1) m' ys' H8:=λ {σ8 H8 s8 ys'} I8 m8=>by
    refine⟨T.keep _ _ _ st5 λb hb o e=>(I8.pin (b,o) (List.mem_append_right _ (List.mem_append_right _ (ce hb e)))).1,λb hb=>?_,hM _ _ m8⟩
    obtain⟨o,e,d⟩:=T.obj _ _ st5 b hb
    exact(I8.pin (b,o) (List.mem_append_right _ (List.mem_append_right _ (ce hb e)))).2.1
   have hlen:(capS caps σ).length=σ6.length:=by rw[I6.len];exact I3.len
   cases ok with
   | false=>
    have q7':M ys H7:=q7
    obtain⟨b1,b2,m',hm',w'⟩:=back I7 q7'
    exact⟨m',hm',i+1,ys,its,k,H7,(I7.weak hlen kp).unpinned,v3,z3,b1,b2,w'⟩
   | true=>
    have q7':te σ6 H7 λy H4=>ys.length<sizeLine/\M (ys++[y]) H4:=q7
    refine thn (he _ _ _ _ _ s7 σ6 H7 _ I7 q7') λv8 s8 ⟨y,H8,I8,r8,hlt,m8⟩=>?_
    obtain⟨b1,b2,m',hm',w'⟩:=back I8 m8
    have hpin:=I8.pin (s2.heap.objs.size,lstO its k) (List.mem_append_right _ (List.mem_append_left _ (List.mem_singleton.mpr rfl)))
    obtain⟨e8,hDn,hDL,hDf,_⟩:=hpin
    have hl8:=v3.length
    refine call_meets F.slot_list_append ⟨_,e8,rfl⟩ F.entry_list_append (F.args_list_append_2 _ _) (PySem.list_append s2.heap.objs.size its.toArray k v8 (by rw[List.size_toArray];omega)) ⟨e8,?_⟩
    have q:=PySem.IsL.update e8 (·.push v8)
    rw[show its.toArray.push v8=(its++[v8]).toArray by simp]at q
    obtain⟨k',q⟩:∃k',(s8.heap.update s2.heap.objs.size (Obj.mapSeq (·.push v8))).get? s2.heap.objs.size=some (lstO (its++[v8]) k'):=⟨_,q⟩
    have I9:Inv (compCx X scope N (s2.heap.objs.size+1) s2 H2 fp) [] (capS caps σ) H8 s8:=(I8.weak hlen kp).pins_of (pins':=[]) λp hp=>nomatch hp
    have I10:=I9.turned (h':=s8.heap.update s2.heap.objs.size (Obj.mapSeq (·.push v8))) (t':=s8.toks) (it:=s2.heap.objs.size) (λb o hb e=>(Heap.get?_update_other s8.heap _ (Ne.symm hb)).trans e) hDn hDL (.inr (Nat.le_refl _))
     (λx c e z=>by
      rcases ca _ _ _ e with w|w
      ·exact absurd (Nat.lt_of_lt_of_le (Nat.lt_succ_of_lt (Nat.lt_succ_self _)) (z▸w.1)) (Nat.lt_irrefl _)
      ·exact absurd (cellLt x c (br w)) (by rw[z];exact Nat.lt_irrefl _)) (λp hp=>nomatch hp)
    refine⟨m',hm',i+1,ys++[y],its++[v8],k',H8,I10.pins_of λp hp=>?_,v3.append (.cons r8 .nil),by rw[List.length_append,List.length_singleton];omega,T.keep _ _ _ b1 λb hb o e=>?_,b2,w'⟩
    ·rw[List.mem_singleton.mp hp]
     exact⟨q,hDn,hDL,hDf,λv z=>by cases z⟩
    ·exact(Heap.get?_update_other s8.heap _ (Nat.ne_of_gt (hob b hb))).trans e
 exact codeAny_compStart_list loop (T.self _ _ _ _ _ st0 loop)
theorem aQ{elt tg iter:Expr}{ifs:List Expr}{pos:Pos}{wi:TI}{g:TG}{tt:TT}{te:TE}(hc:X.calm=true)(O:CompOk scope X.env.scope X.N N caps)(gk:GK caps g)(hi:PI X tg iter wi)
  (hg:∀C s H fp,PG (compCx X scope N C s H fp) tg g)(ht:∀C s H fp,PTs (compCx X scope N C s H fp) ifs tt)(he:∀C s H fp,PE (compCx X scope N C s H fp) elt te)
  (hs:∀x,foldedSetIterable iter X.env x=pure x:=by intro _;rfl):PE X (.ListComp elt [⟨tg,iter,ifs,0⟩] scope pos) (tComp caps wi g tt te):=by
 intro pins s σ H Q I h
 rw[eval_ListComp]
 have hcl:closureFor scope X.env=pure (clOf scope X.env):=i4 λx hx hf=>by
  rcases(O.free x hx hf).2 with q|q
  ·exact I.ok.has x.1 (.inl q)
  ·exact I.ok.has x.1 (.inr q)
 refine wpAny_comprehension_free (use:=none) rfl hs hcl O.kind O.loc (thn (hi pins s σ H _ I h) λv s1 h1=>thn h1 λitv s2 h2=>?_)
 refine eW (R:=λacc C=>compPost (model X.prog X.w) X.A X.xe none (EP X pins σ Q) acc C) hc O gk hg ht he h2 ?_
 intro D C s' H' ys m E1 hm E2 E3 hCD hC0 hCL hCc hCp qq
 refine⟨m,hm,λh' hs'=>?_⟩
 have I9:=E1.turned (h':=h') (t':=s'.toks) (it:=C) (λb o hb e=>hs'.extBut b o hb e) (by rw[az hCD];exact E3) hCL (.inr hC0) hCc hCp
 exact⟨.ref D,_,I9,rfl,qq D E2⟩
def tSetComp(i:Nat)(caps:List (Option Nat))(wi:TI)(g:TG)(tt:TT)(te:TE):TS:=λD σ H=>
 wi σ H (tCompK caps g tt te σ λys H'=>∀d,H' d=none->D.nx (σ.set i (some (.ref d))) (upd H' d (.lst ys)))
theorem bi{i:Nat}{y:Str}{py spos:Pos}{elt tg iter:Expr}{ifs:List Expr}{pos:Pos}{wi:TI}{g:TG}{tt:TT}{te:TE}(hN:X.N.Nodup)(hy:X.N[i]?=some y)(hl:X.env.scope.names.lookup y=some .local)
  (hsw:swapsWith (.ListComp elt [⟨tg,iter,ifs,0⟩] scope pos) (some (.Name y py)) spos.line X.env=pure true)
  (hc:X.calm=true)(O:CompOk scope X.env.scope X.N N caps)(gk:GK caps g)(hi:PI X tg iter wi)
  (hg:∀C s H fp,PG (compCx X scope N C s H fp) tg g)(ht:∀C s H fp,PTs (compCx X scope N C s H fp) ifs tt)(he:∀C s H fp,PE (compCx X scope N C s H fp) elt te)
  (hs:∀x,foldedSetIterable iter X.env x=pure x:=by intro _;rfl):PS X (.Assign [.Name y py] (.ListComp elt [⟨tg,iter,ifs,0⟩] scope pos) spos) (tSetComp i caps wi g tt te):=by
 intro pins s σ H D I h
 rw[exec_Assign_Name_used _ _ _ _ hsw]
 refine wpAny_bind (wpAny_standAt (wpAny_bind ?_))
 show wpAny _ X.A (do let _<-comprehension (.ListComp elt [⟨tg,iter,ifs,0⟩] scope pos) scope X.env _ (newList []) false (eval iter X.env) (some (assign (.Name y py) X.env))) _ _ s
 have hcl:closureFor scope X.env=pure (clOf scope X.env):=i4 λx hx hf=>by
  rcases(O.free x hx hf).2 with q|q
  ·exact I.ok.has x.1 (.inl q)
  ·exact I.ok.has x.1 (.inr q)
 refine wpAny_bind (thn (wpAny_comprehension_free (use:=some (assign (.Name y py) X.env)) (Q:=λ_ s'=>SP X pins D .next s') rfl hs hcl O.kind O.loc
  (thn (hi pins s σ H _ I h) λv s1 h1=>thn h1 λitv s2 h2=>?_)) λ_ s' hq=>wpAny_pure (wpAny_pure hq))
 refine eW (R:=λacc C=>compPost (model X.prog X.w) X.A X.xe (some (assign (.Name y py) X.env)) (λ_ s'=>SP X pins D .next s') acc C) hc O gk hg ht he h2 ?_
 intro d C s' H' ys m E1 hm E2 E3 hCD hC0 hCL hCc hCp qq
 show wpAny _ X.A (assign (.Name y py) X.env (.ref d)) _ _ _
 refine wpAny_assign_Name (fX (v:= .ref d) E1 hN hy (.inl hl) rfl (λs'' I'' ⟨a,hs'',ha⟩=>?_) (.inr hl))
 have hCa:C≠a:=by
  rcases ha with z|z
  ·rw[z];exact hCL
  ·exact λq=>hCc y a z q.symm
 refine⟨m,hm.sameBut hs'' hCa,λh' hs'=>?_⟩
 have I9:=I''.turned (h':=h') (t':=s''.toks) (it:=C) (λb o hb e=>hs'.extBut b o hb e) (by rw[az hCD];exact E3) hCL (.inr hC0) hCc hCp
 exact⟨_,_,I9,qq d E2⟩
end
end L2
namespace L2
open PySem PySem.Spec PyProof.Rows
structure Dn(P:Program)(w:World)(K:PySem.W.Frag)(mg:Str->Option Value)(base:Heap)(CX:CXT)(k:Nat)(x:Str)(ps:List Str)(sp:Sp):Prop where
 ex:∃f fd,FnOk P w K mg base CX k f fd ps sp/\mg x=some (.ref f)/\PySem.W.keepIn K (.ref f)=true/\Binds K fd ps []
theorem aA{X:Cx}{CX:CXT}{k j:Nat}{x:Str}{ps:List Str}{sp:Sp}{E:XK}{p pos:Pos}{e:Expr}{es:List Expr}{t:TA}(D:Dn X.prog X.w X.K X.mg X.base CX k x ps sp)(hr:Room j X.A)(hk:k<=j)(hg:Gl X x)(hx:Passes CX X E)
  (ha:PA X (e::es) t)(hdb:(x==("__debug__":Str))=false:=by decide)(he:starEach (e::es) X.env=(false,eval e X.env)::starEach es X.env:=by rfl)(hpl:(backTo pos (starEach es X.env)).any (·.1)=false:=by rfl):
  PE X (.Call (.Name x p) (e::es) [] pos) (tCall sp [] E t):=by
 obtain⟨f,fd,F,m,kp,b⟩:=D.ex
 exact lL F (hr.mono hk) hg m kp b .nil hx ha hdb he hpl
def Def(K:PySem.W.Frag)(mg:Str->Option Value)(x:Str)(st:Stmt):Prop:=∃f fd,Fun K x x st f fd/\mg x=some (.ref f)
section
variable{P:Program}{w:World}{K:PySem.W.Frag}{mg:Str->Option Value}{base:Heap}
theorem Def.ok{x:Str}{st:Stmt}{N ps:List Str}{k:Nat}{sp:Sp}(F:Def K mg x st)(S:FnScope N ps (defScope st))(len:∀vs H Q E,sp vs H Q E->vs.length=ps.length)
  (hb:∀(kV doc pm:Value) (an:Option Addr) (cdv ct:Value) (us:List Value),us.length=ps.length->bindArgs (PySem.W.fnOf x x (defArgs st) (defBody st) (defScope st) .none kV doc pm an cdv ct) ⟨us,[]⟩=pure (ps.zip us))
  (hbody:∀(f:Addr) (cdv:Value) (A:Around) (outer:List Env) (s:Shared) (H:Hp) (vs:List V) (Q:VK) (E:XK),Room k (A.deeper (envOfC x (defScope st) s.heap.objs.size f cdv))->sp vs H Q E->
   ∃t,PSs (cxOf CX0 P w K mg base N x (defScope st) f cdv A outer s H E).nox (defBody st) t/\t {nx:=λ_ H'=>Q .non H',rt:=Q} (start N vs) H):Dn P w K mg base CX0 (k+1) x ps sp:=by
 obtain⟨f,fd,F,m⟩:=F
 exact⟨f,fd,F.ok S len (hbody f),m,F.kp,F.binds hb⟩
theorem Def.nothing{x:Str}{st:Stmt}{ps:List Str}(F:Def K mg x st)
  (hb:∀(kV doc pm:Value) (an:Option Addr) (cdv ct:Value) (us:List Value),us.length=ps.length->bindArgs (PySem.W.fnOf x x (defArgs st) (defBody st) (defScope st) .none kV doc pm an cdv ct) ⟨us,[]⟩=pure (ps.zip us)):
  Dn P w K mg base CX0 0 x ps (λ_ _ _ _=>False):=by
 obtain⟨f,fd,F,m⟩:=F
 exact⟨f,fd,⟨λ_ _ _ _ h=>h.elim,λ_ _ _ _ _ _ _ _ _ _ _ _ _ h=>h.elim⟩,m,F.kp,F.binds hb⟩
theorem Dn.imp{CX:CXT}{k:Nat}{x:Str}{ps:List Str}{sp sp':Sp}(D:Dn P w K mg base CX k x ps sp)(h:∀vs H Q E,sp' vs H Q E->sp vs H Q E):Dn P w K mg base CX k x ps sp':=by
 obtain⟨f,fd,F,r⟩:=D.ex
 exact⟨f,fd,F.imp h,r⟩
end
def GTup(K:PySem.W.Frag)(mg:Str->Option Value)(x:Str)(xs:List V):Prop:=∃a,mg x=some (.ref a)/\∀H,SqT K H a xs
def tGTup(K:PySem.W.Frag)(xs:List V):TE:=λ_ H Q=>∀a,(∀H,SqT K H a xs)->Q (.ref a) H
theorem bR{X:Cx}{x:Str}{xs:List V}{pos:Pos}(h:GTup X.K X.mg x xs)(hg:Gl X x:=by rfl)(hd:(x==("__debug__":Str))=false:=by decide):PE X (.Name x pos) (tGTup X.K xs):=λ_ _ _ H _ I q=>by
 obtain⟨a,m,r⟩:=h
 exact fD I hg m ⟨.ref a,H,I,rfl,q a r⟩ hd
theorem lB{X:Cx}{x:Str}{i:Int}{pos:Pos}(h:∃t,X.mg x=some (.int i t))(hg:Gl X x:=by rfl)(hd:(x==("__debug__":Str))=false:=by decide):PE X (.Name x pos) (tC (.int i)):=λ_ _ _ H _ I q=>by
 obtain⟨t,m⟩:=h
 exact fD I hg m ⟨.int i,H,I,⟨t,rfl⟩,q⟩ hd
theorem iteDF{c A B:Prop}[Decidable c](hc:¬c)(h:B):if decide c=true then A else B:=by rw[if_neg (by simpa using hc)];exact h
theorem iteDT{c A B:Prop}[Decidable c](hc:c)(h:A):if decide c=true then A else B:=by rw[if_pos (by simpa using hc)];exact h
theorem iteD2{c A B:Prop}[Decidable c](h1:c->A)(h2:¬c->B):if decide c=true then A else B:=by
 by_cases h:c
 ·exact iteDT h (h1 h)
 ·exact iteDF h (h2 h)
theorem iteN2{c A B:Prop}[Decidable c](h1:¬c->A)(h2:c->B):if(!decide c)=true then A else B:=by
 by_cases h:c
 ·rw[if_neg (by simpa using h)];exact h2 h
 ·rw[if_pos (by simpa using h)];exact h1 h
theorem Vne{i j:Int}(h:i≠j):V.int i≠V.int j:=λz=>h (V.int.inj z)
theorem Veq{i j:Int}(h:V.int i=V.int j):i=j:=V.int.inj h
theorem cf{k:Int}{m:Nat}(h:k.natAbs<2^m):Builtin.Int.intBits k<=m:=by
 unfold Builtin.Int.intBits
 split
 ·exact Nat.zero_le _
 ·rcases Nat.eq_zero_or_pos k.natAbs with h0|hp
  ·rename_i hz
   exact absurd (by simpa using h0) (by simpa using hz)
  ·have:k.natAbs.log2<m:=(Nat.log2_lt (Nat.ne_of_gt hp)).mpr h
   omega
theorem mulOk{i j:Int}{m n:Nat}(hi:i.natAbs<2^m)(hj:j.natAbs<2^n)(h:m+n<=134217728):IntMulOk i j:=IntMulOk.of_le (cf hi) (cf hj) h
section
variable{X:Cx}
theorem aY:OpR X (binaryOp .Mult) (rI IntMulOk λi j=> .int (i*j)):=opI λ_ _ _ _ _ _ _ c h=>mul_int h c
theorem jP:OpR X (binaryOp .FloorDiv) (rI (λ_ j=>j≠0/\j.natAbs<2^9000) λi j=> .int (i.fdiv j)):=opI λi j _ _ _ _ _ c h=>
 floordiv_int c.1 h (Or.inl (PyProof.noPylong_of_log2 ((Nat.log2_lt (by have:=c.1;omega)).mpr c.2)))
theorem b5:OpR X (binaryOp .FloorDiv) (rI (λ_ j=>0<j/\j.natAbs<2^9000) λi j=> .int (i/j)):=opI λi j _ _ _ _ _ c h=>
 floordiv_int (by have:=c.1;omega) (by rw[Int.fdiv_eq_ediv_of_nonneg _ (by have:=c.1;omega)];exact h) (Or.inl (PyProof.noPylong_of_log2 ((Nat.log2_lt (by have:=c.1;omega)).mpr c.2)))
theorem c9{n:Int}(h0:0<n)(h:n.natAbs<2^64):0<n/\n.natAbs<2^9000:=⟨h0,Nat.lt_of_lt_of_le h (Nat.pow_le_pow_right (by decide) (by decide))⟩
theorem mulL{i j:Int}(h:i.natAbs<2^64):IntMulOk i j:=IntMulOk.of_left (cf h)
theorem mulR{i j:Int}(h:j.natAbs<2^64):IntMulOk i j:=IntMulOk.of_right (cf h)
theorem bv{x:Str}{T:String}{pos:Pos}(hg:Gl X x)(hm:X.mg x=none)(hv:bootBuiltins x=some (.type T))(hn:x≠"__name__":=by decide)(hd:(x==("__debug__":Str))=false:=by decide):PE X (.Name x pos) (tC (.ty T)):=lm hg hm hv rfl hn hd
def tyOf(K:PySem.W.Frag)(H:Hp)(x:V)(t:String):Prop:=match x with
 | .non=>t="NoneType"
 | .bl _=>t="bool"
 | .int _=>t="int"
 | .str _=>t="str"
 | .ref a=>(t="list"/\∃xs,SqL K H a xs)\/(t="tuple"/\∃xs,SqT K H a xs)
 | _=>False
def isTy(t T:String):Bool:=t==T||(t=="bool"&&T=="int")
def Sorts:List String:=["NoneType","bool","int","str","list","tuple"]
def Kinds:List String:=["bool","int","str","list","tuple"]
theorem jj{pins:List (Addr×Obj)}{σ:St}{H:Hp}{s:Shared}{A:Around}{E:Value->Shared->Prop}{Q:Value->Shared->Prop}{c:Value}{b:Bool}{x:V}{u:Value}{t:String}(I:Inv X pins σ H s)(rx:RelV x u)(ty:tyOf X.K H x t)
  (e:PySem.W.kitOne X.K (.type t) c=some b)(h:∀tk,Q (.bool b) {s with toks:=tk}):wpAny (model X.prog X.w) A (call (.builtin "isinstance") [u,c]) Q E s:=by
 cases x with
 | non=>cases(show u=Value.none from rx);cases(show t="NoneType"from ty);exact PySem.W.kia_one PySem.W.kitx_none I.kIn True.intro e (λz=>nomatch z) h
 | bl y=>cases(show u=Value.bool y from rx);cases(show t="bool"from ty);exact PySem.W.kia_one PySem.W.kitx_bool I.kIn True.intro e (λz=>nomatch z) h
 | int i=>obtain⟨tk,q⟩:=(show ∃t,u=Value.int i t from rx);cases q;cases(show t="int"from ty);exact PySem.W.kia_one PySem.W.kitx_int I.kIn True.intro e (λz=>nomatch z) h
 | str y=>obtain⟨tk,q⟩:=(show ∃t,u=Value.str y t from rx);cases q;cases(show t="str"from ty);exact PySem.W.kia_one PySem.W.kitx_str I.kIn True.intro e (λz=>nomatch z) h
 | ref a=>
  cases(show u=Value.ref a from rx)
  rcases ty with⟨rfl,xs,hq⟩|⟨rfl,xs,hq⟩
  ·obtain⟨its,_,⟨o,n,h1,h2,_⟩,_⟩:=I.list hq
   exact PySem.W.kia_one PySem.W.kitx_list I.kIn ⟨o,h1,h2⟩ e (λz=>nomatch z) h
  ·obtain⟨its,_,⟨o,h1,h2,_⟩,_⟩:=I.tuple hq
   exact PySem.W.kia_one PySem.W.kitx_tuple I.kIn ⟨o,h1,h2⟩ e (λz=>nomatch z) h
 | byt _=>exact ty.elim
 | flt _=>exact ty.elim
 | ty _=>exact ty.elim
theorem ee{K:PySem.W.Frag}{H:Hp}{x:V}{t:String}(h:tyOf K H x t):t∈Sorts:=by
 cases x with
 | non=>cases(show t="NoneType"from h);decide
 | bl _=>cases(show t="bool"from h);decide
 | int _=>cases(show t="int"from h);decide
 | str _=>cases(show t="str"from h);decide
 | ref a=>rcases h with⟨rfl,_⟩|⟨rfl,_⟩ <;> decide
 | byt _=>exact h.elim
 | flt _=>exact h.elim
 | ty _=>exact h.elim
theorem jr{K:PySem.W.Frag}{t T:String}(ht:t∈Sorts)(hT:T∈Kinds):PySem.W.kitOne K (.type t) (.type T)=some (isTy t T):=by
 simp only[Sorts,Kinds,List.mem_cons,List.not_mem_nil,or_false]at ht hT
 rcases ht with rfl|rfl|rfl|rfl|rfl|rfl <;> rcases hT with rfl|rfl|rfl|rfl|rfl <;> (unfold PySem.W.kitOne PySem.W.kitCls PySem.W.subIn;kernel_rfl)
theorem aE:CallR X (.builtin "isinstance") (λxs H Q=>∃x T t,xs=[x,.ty T]/\T∈Kinds/\tyOf X.K H x t/\Q (.bl (isTy t T)) H):=by
 intro pins s σ H xs us Q I r h
 obtain⟨x,T,t,rfl,hT,ty,q⟩:=h
 obtain⟨u,w',rfl,rx,rT⟩:=vals2 r
 cases(show w'=Value.type T from rT)
 exact jj I rx ty (jr (ee ty) hT) λtk=>⟨.bl _,H,I.tok tk,rfl,q⟩
end
end L2
namespace L2
open PySem PySem.Spec PyProof.Rows
theorem Same.tup{K:PySem.W.Frag}{H H':Hp}{a:Addr}{xs:List V}(e:Same H H')(h:SqT K H a xs):SqT K H' a xs:=by
 rcases h with(h|⟨o,h⟩)|h
 ·exact .inl (.inl (e _ _ h))
 ·exact .inl (.inr ⟨o,e _ _ h⟩)
 ·exact .inr h
theorem ae{H:Hp}{p:Addr}(h:H p=none)(o:HO):Same H (upd H p o):=λb u q=>by rw[az (aU q h)];exact q
theorem Same.over{H H':Hp}{p:Addr}(e:Same H H')(h:H p=none)(o:HO):Same H (upd H' p o):=λb u q=>by
 rw[az (aU q h)];exact e b u q
def IsF(K:PySem.W.Frag)(H:Hp)(v:V)(p:Int×Int):Prop:=∃a,v = .ref a/\SqT K H a [.int p.1,.int p.2]
theorem IsF.mono{K:PySem.W.Frag}{H H':Hp}{v:V}{p:Int×Int}(e:Same H H')(h:IsF K H v p):IsF K H' v p:=by
 obtain⟨a,rfl,q⟩:=h
 exact⟨a,rfl,e.tup q⟩
theorem cg{K:PySem.W.Frag}{H:Hp}{a p:Addr}{xs ys zs:List V}(h:SqT K H a xs)(hp:H p=some (.lst ys)):SqT K (upd H p (.lst zs)) a xs:=by
 rcases h with(h|⟨o,h⟩)|h
 ·exact .inl (.inl (by rw[az (lC h hp (by intro z;cases z))];exact h))
 ·exact .inl (.inr ⟨o,by rw[az (lC h hp (by intro z;cases z))];exact h⟩)
 ·exact .inr h
theorem IsF.over{K:PySem.W.Frag}{H:Hp}{v:V}{p:Addr}{ys zs:List V}{q:Int×Int}(h:IsF K H v q)(hp:H p=some (.lst ys)):IsF K (upd H p (.lst zs)) v q:=by
 obtain⟨a,rfl,h⟩:=h
 exact⟨a,rfl,cg h hp⟩
theorem Paired.get{α β:Type}{F:α->β->Prop}:∀{xs:List α} {ys:List β} {i:Nat} {y:β},Paired F xs ys->ys[i]?=some y->∃x,xs[i]?=some x/\F x y
 | _,_,_,_,.nil,e=>by simp at e
 | _,_,0,_,.cons r _,e=>by simp at e;subst e;exact⟨_,rfl,r⟩
 | _,_,i+1,y,.cons _ t,e=>by
  obtain⟨x,h1,h2⟩:=Paired.get (i:=i) t (by simpa using e)
  exact⟨x,by simpa using h1,h2⟩
theorem Paired.get'{α β:Type}{F:α->β->Prop}:∀{xs:List α} {ys:List β} {i:Nat} {x:α},Paired F xs ys->xs[i]?=some x->∃y,ys[i]?=some y/\F x y
 | _,_,_,_,.nil,e=>by simp at e
 | _,_,0,_,.cons r _,e=>by simp at e;subst e;exact⟨_,rfl,r⟩
 | _,_,i+1,y,.cons _ t,e=>by
  obtain⟨x,h1,h2⟩:=Paired.get' (i:=i) t (by simpa using e)
  exact⟨x,by simpa using h1,h2⟩
theorem Paired.app{α β:Type}{F:α->β->Prop}:∀{xs xs':List α} {ys ys':List β},Paired F xs ys->Paired F xs' ys'->Paired F (xs++xs') (ys++ys')
 | _,_,_,_,.nil,t=>t
 | _,_,_,_,.cons r s,t=> .cons r (Paired.app s t)
theorem cm{α:Type}{xs:List α}{i:Int}{v:α}(h0:0<=i)(h:xs[i.toNat]?=some v):atI xs i=some v:=by
 have e:i=((i.toNat:Nat):Int):=by omega
 rw[e];exact ay h
theorem aS{ns:List Int}{i:Nat}(h:i<ns.length):(ns.map V.int)[i]?=some (.int (ns.getD i 0)):=by
 simp[h]
theorem bX{c:TT}{tb:TS}{D:Ends}{σ:St}{H:Hp}(Pv:Nat->St->Hp->Prop)(h0:∃m,Pv m σ H)
  (hs:∀m σ H,Pv m σ H->c σ H λb H1=>if b=true then tb {D with nx:=λσ' H'=>∃m',m'<m/\Pv m' σ' H',ct:=λσ' H'=>∃m',m'<m/\Pv m' σ' H',bk:=D.nx} σ H1 else D.nx σ H1)
  (mono:∀σ H Q Q',(∀b H1,Q b H1->Q' b H1)->c σ H Q->c σ H Q'):tWhile c tb D σ H:=by
 refine⟨Pv,h0,λm σ H p=>?_⟩
 refine mono σ H _ _ (λb H1 q=>?_) (hs m σ H p)
 cases b with
 | true=>exact⟨_,λσ' H' z=>z,q⟩
 | false=>exact q
end L2
namespace FQ
structure Low(p:Int×Int):Prop where
 pos:0<p.2
 cop:Int.gcd p.1 p.2=1
def red(t b:Int):Int×Int:=(t*b.sign/(Int.gcd t b:Int),b*b.sign/(Int.gcd t b:Int))
theorem gcd_turn{a b:Int}:Int.gcd b (a%b)=Int.gcd a b:=by
 have h:=Int.gcd_add_mul_left_right b (a%b) (a/b)
 rw[Int.emod_add_mul_ediv]at h
 rw[<-h,Int.gcd_comm]
theorem e9{k m n:Int}(h:Int.gcd k m=1)(d:k ∣ m*n):k ∣ n:=by
 have h1:k.natAbs ∣ m.natAbs*n.natAbs:=by
  have:=Int.natAbs_dvd_natAbs.mpr d
  rwa[Int.natAbs_mul]at this
 exact Int.natAbs_dvd_natAbs.mp (Nat.Coprime.dvd_of_dvd_mul_left h h1)
theorem dy{t b:Int}(hb:b≠0):∃u v:Int,t*b.sign=u*(Int.gcd t b:Int)/\b*b.sign=v*(Int.gcd t b:Int)/\red t b=(u,v)/\0<v/\Int.gcd u v=1:=by
 have hg:0<Int.gcd t b:=Int.gcd_pos_of_ne_zero_right _ hb
 have hg':(0:Int)<(Int.gcd t b:Int):=by omega
 have d1:(Int.gcd t b:Int) ∣ t:=Int.gcd_dvd_left ..
 have d2:(Int.gcd t b:Int) ∣ b:=Int.gcd_dvd_right ..
 obtain⟨u,hu⟩:=d1
 obtain⟨v,hv⟩:=d2
 refine⟨u*b.sign,v*b.sign,?_,?_,?_,?_,?_⟩
 ·rw[Int.mul_right_comm,Int.mul_comm u,<-hu]
 ·rw[Int.mul_right_comm,Int.mul_comm v,<-hv]
 ·unfold red
  congr 1
  ·apply Int.ediv_eq_of_eq_mul_left (by omega)
   rw[Int.mul_right_comm,Int.mul_comm u,<-hu]
  ·apply Int.ediv_eq_of_eq_mul_left (by omega)
   rw[Int.mul_right_comm,Int.mul_comm v,<-hv]
 ·have h1:0<b*b.sign:=by rw[Int.mul_sign_self];omega
  have h2:b*b.sign=(v*b.sign)*(Int.gcd t b:Int):=by rw[Int.mul_right_comm,Int.mul_comm v,<-hv]
  rw[h2]at h1
  rcases Int.lt_or_le 0 (v*b.sign)with h|h
  ·exact h
  ·exact absurd h1 (Int.not_lt.mpr (Int.mul_nonpos_of_nonpos_of_nonneg h (Int.le_of_lt hg')))
 ·have hs:b.sign=1\/b.sign = -1:=by
   rcases Int.lt_or_gt_of_ne hb with h|h
   ·exact .inr (Int.sign_eq_neg_one_of_neg h)
   ·exact .inl (Int.sign_eq_one_of_pos h)
  have hc:Int.gcd u v=1:=by
   have e:=Int.gcd_mul_left (Int.gcd t b:Int) u v
   rw[<-hu,<-hv,Int.natAbs_natCast]at e
   have:Int.gcd t b*1=Int.gcd t b*Int.gcd u v:=by rw[Nat.mul_one];exact e
   exact(Nat.eq_of_mul_eq_mul_left hg this).symm
  rcases hs with h|h <;> rw[h] <;> simp[hc]
theorem red_low{t b:Int}(hb:b≠0):Low (red t b):=by
 obtain⟨u,v,_,_,e,h1,h2⟩:=dy (t:=t) hb
 rw[e]
 exact⟨h1,h2⟩
theorem red_worth{t b:Int}(hb:b≠0):(red t b).1*b=t*(red t b).2:=by
 obtain⟨u,v,h1,h2,e,_,_⟩:=dy (t:=t) hb
 rw[e]
 have hg:(Int.gcd t b:Int)≠0:=by have:=Int.gcd_pos_of_ne_zero_right t hb;omega
 have hs:b.sign≠0:=by simpa using hb
 have key:(u*b)*((Int.gcd t b:Int)*b.sign)=(t*v)*((Int.gcd t b:Int)*b.sign):=by
  calc (u*b)*((Int.gcd t b:Int)*b.sign)=(u*(Int.gcd t b:Int))*(b*b.sign):=by ac_rfl
   _=(t*b.sign)*(v*(Int.gcd t b:Int)):=by rw[<-h1,<-h2]
   _=(t*v)*((Int.gcd t b:Int)*b.sign):=by ac_rfl
 exact Int.eq_of_mul_eq_mul_right (Int.mul_ne_zero hg hs) key
theorem ff{p q:Int×Int}(hp:Low p)(hq:Low q)(h:p.1*q.2=q.1*p.2):p=q:=by
 obtain⟨a,b⟩:=p
 obtain⟨c,d⟩:=q
 obtain⟨hb,hab⟩:=hp
 obtain⟨hd,hcd⟩:=hq
 dsimp only at *
 have d1:b ∣ d:=by
  have:b ∣ a*d:=⟨c,by rw[h,Int.mul_comm]⟩
  exact e9 (by rw[Int.gcd_comm];exact hab) this
 have d2:d ∣ b:=by
  have:d ∣ c*b:=⟨a,by rw[<-h,Int.mul_comm]⟩
  exact e9 (by rw[Int.gcd_comm];exact hcd) this
 have e:b=d:=Int.dvd_antisymm (by omega) (by omega) d1 d2
 subst e
 have:a=c:=Int.eq_of_mul_eq_mul_right (by omega) h
 rw[this]
theorem red_eq{t b t' b':Int}(hb:b≠0)(hb':b'≠0)(h:t*b'=t'*b):red t b=red t' b':=by
 refine ff (red_low hb) (red_low hb') ?_
 have e1:=red_worth (t:=t) hb
 have e2:=red_worth (t:=t') hb'
 have key:((red t b).1*(red t' b').2)*(b*b')=((red t' b').1*(red t b).2)*(b*b'):=by
  calc ((red t b).1*(red t' b').2)*(b*b')=((red t b).1*b)*((red t' b').2*b'):=by ac_rfl
   _=(t*(red t b).2)*((red t' b').2*b'):=by rw[e1]
   _=(t*b')*((red t b).2*(red t' b').2):=by ac_rfl
   _=(t'*b)*((red t b).2*(red t' b').2):=by rw[h]
   _=(t'*(red t' b').2)*((red t b).2*b):=by ac_rfl
   _=((red t' b').1*b')*((red t b).2*b):=by rw[e2]
   _=((red t' b').1*(red t b).2)*(b*b'):=by ac_rfl
 exact Int.eq_of_mul_eq_mul_right (Int.mul_ne_zero hb hb') key
theorem red_eq_iff{t b:Int}(hb:b≠0){p:Int×Int}(hp:Low p)(h:p.1*b=t*p.2):red t b=p:=by
 refine ff (red_low hb) hp ?_
 have e1:=red_worth (t:=t) hb
 have key:((red t b).1*p.2)*b=(p.1*(red t b).2)*b:=by
  calc ((red t b).1*p.2)*b=((red t b).1*b)*p.2:=by ac_rfl
   _=(t*p.2)*(red t b).2:=by rw[e1];ac_rfl
   _=(p.1*(red t b).2)*b:=by rw[<-h];ac_rfl
 exact Int.eq_of_mul_eq_mul_right hb key
theorem red_small{t b:Int}(hb:b≠0):(red t b).1.natAbs<=t.natAbs/\(red t b).2.natAbs<=b.natAbs:=by
 obtain⟨u,v,h1,h2,e,_,_⟩:=dy (t:=t) hb
 rw[e]
 have hg:1<=Int.gcd t b:=Int.gcd_pos_of_ne_zero_right _ hb
 have hs:b.sign.natAbs=1:=by
  rcases Int.lt_or_gt_of_ne hb with h|h
  ·rw[Int.sign_eq_neg_one_of_neg h];rfl
  ·rw[Int.sign_eq_one_of_pos h];rfl
 have k1:=congrArg Int.natAbs h1
 have k2:=congrArg Int.natAbs h2
 rw[Int.natAbs_mul,Int.natAbs_mul,hs,Nat.mul_one,Int.natAbs_natCast]at k1 k2
 constructor
 ·show u.natAbs<=_
  rw[k1]
  exact Nat.le_mul_of_pos_right _ hg
 ·show v.natAbs<=_
  rw[k2]
  exact Nat.le_mul_of_pos_right _ hg
theorem fdiv_red{t b:Int}(hb:b≠0):((t.fdiv ((Int.gcd t b:Int)*b.sign),b.fdiv ((Int.gcd t b:Int)*b.sign)):Int×Int)=red t b:=by
 obtain⟨u,v,h1,h2,e,_,_⟩:=dy (t:=t) hb
 rw[e]
 have hg:(Int.gcd t b:Int)≠0:=by have:=Int.gcd_pos_of_ne_zero_right t hb;omega
 have hs:b.sign≠0:=by simpa using hb
 have hs2:b.sign*b.sign=1:=by
  rcases Int.lt_or_gt_of_ne hb with h|h
  ·rw[Int.sign_eq_neg_one_of_neg h];rfl
  ·rw[Int.sign_eq_one_of_pos h];rfl
 have k1:t=u*((Int.gcd t b:Int)*b.sign):=by
  calc t=t*(b.sign*b.sign):=by rw[hs2,Int.mul_one]
   _=(t*b.sign)*b.sign:=by ac_rfl
   _=u*((Int.gcd t b:Int)*b.sign):=by rw[h1];ac_rfl
 have k2:b=v*((Int.gcd t b:Int)*b.sign):=by
  calc b=b*(b.sign*b.sign):=by rw[hs2,Int.mul_one]
   _=(b*b.sign)*b.sign:=by ac_rfl
   _=v*((Int.gcd t b:Int)*b.sign):=by rw[h2];ac_rfl
 generalize hd:(Int.gcd t b:Int)*b.sign=d at k1 k2 ⊢
 have hd0:d≠0:=by rw[<-hd];exact Int.mul_ne_zero hg hs
 rw[k1,k2,Int.mul_fdiv_cancel _ hd0,Int.mul_fdiv_cancel _ hd0]
end FQ
namespace LM
def cellAt(ns:List Int)(k:Int):Int:=if k<ns.length then ns.getD k.toNat 0 else 0
def addOne(r:List Int)(t:Int)(w:Int):List Int:=r.set t.toNat (r.getD t.toNat 0+w)
theorem fm(r:List Int)(t w:Int):(addOne r t w).length=r.length:=by simp[addOne]
theorem jX:∀(r:List Int) (i:Nat) (w:Int),i<r.length->(r.set i (r.getD i 0+w)).sum=r.sum+w
 | [],i,_,h=>by cases h
 | x::r,0,w,_=>by simp;omega
 | x::r,i+1,w,h=>by
  have ih:=jX r i w (by simpa using h)
  simp only[List.set_cons_succ,List.getD_cons_succ,List.sum_cons,ih]
  omega
theorem iE{r:List Int}{t w:Int}(h0:0<=t)(h:t<r.length):(addOne r t w).sum=r.sum+w:=jX r t.toNat w (by omega)
def addDeal(M:List (List Int))(o:List Int)(w:Int):List (List Int):=List.zipWith (λr t=>addOne r t w) M o
structure SumsOk(n:Nat)(M:List (List Int))(T:Int):Prop where
 rows:M.length=n
 cols:∀r∈M,r.length=n
 nn:∀r∈M,∀x∈r,0<=x
 sum:∀r∈M,r.sum=T
theorem iL{r:List Int}{i:Nat}{x y:Int}(h:∀z∈r,0<=z)(hx:0<=x)(hy:y∈r.set i x):0<=y:=by
 rcases List.mem_or_eq_of_mem_set hy with h1|h1
 ·exact h y h1
 ·rw[h1];exact hx
theorem ly{r:List Int}(h:∀z∈r,0<=z)(i:Nat):0<=r.getD i 0:=by
 by_cases hi:i<r.length
 ·have:r.getD i 0=r[i]:=by simp[hi]
  rw[this];exact h _ (List.getElem_mem hi)
 ·rw[List.getD_eq_getElem?_getD,List.getElem?_eq_none (by omega)];decide
theorem iM{n:Nat}{M:List (List Int)}{T w:Int}{o:List Int}(h:SumsOk n M T)(hw:0<=w)(ho:o.length=n)(hm:∀t∈o,0<=t/\t<n):SumsOk n (addDeal M o w) (T+w):=by
 have key:∀r∈addDeal M o w,∃r0∈M,∃t∈o,r=addOne r0 t w:=by
  intro r hr
  unfold addDeal at hr
  rw[<-List.map_uncurry_zip_eq_zipWith,List.mem_map]at hr
  obtain⟨⟨r0,t⟩,hz,rfl⟩:=hr
  exact⟨r0,(List.of_mem_zip hz).1,t,(List.of_mem_zip hz).2,rfl⟩
 refine⟨by simp[addDeal,h.rows,ho],λr hr=>?_,λr hr x hx=>?_,λr hr=>?_⟩
 ·obtain⟨r0,h0,t,ht,rfl⟩:=key r hr
  rw[fm];exact h.cols r0 h0
 ·obtain⟨r0,h0,t,ht,rfl⟩:=key r hr
  exact iL (h.nn r0 h0) (Int.add_nonneg (ly (h.nn r0 h0) _) hw) hx
 ·obtain⟨r0,h0,t,ht,rfl⟩:=key r hr
  have l:=h.cols r0 h0
  rw[iE (hm t ht).1 (by rw[l];exact(hm t ht).2),h.sum r0 h0]
end LM
namespace L2
open PySem PySem.Spec PyProof.Rows
def spWhole:Sp:=λvs H Q _=>∃i:Int,vs=[.int i]/\Q (.bl true) H
def spGcd:Sp:=λvs H Q _=>∃i j:Int,vs=[.int i,.int j]/\Q (.int (Int.gcd i j:Int)) H
def tupF(p:Int×Int):HO:= .tup [.int p.1,.int p.2]
def Sz(n:Nat)(p:Int×Int):Prop:=p.1.natAbs<2^n/\p.2.natAbs<2^n/\p.2≠0
def fAdd(x y:Int×Int):Int×Int:=FQ.red (x.1*y.2+y.1*x.2) (x.2*y.2)
def fSub(x y:Int×Int):Int×Int:=FQ.red (x.1*y.2-y.1*x.2) (x.2*y.2)
def sp2F(f:(Int×Int)->(Int×Int)->(Int×Int))(K:PySem.W.Frag):Sp:=λvs H Q _=>∃a b x y,vs=[.ref a,.ref b]/\SqT K H a [.int x.1,.int x.2]/\SqT K H b [.int y.1,.int y.2]/\Sz 4000 x/\Sz 4000 y/\
 ∀p H',Same H H'->H' p=some (tupF (f x y))->Q (.ref p) H'
def spCell(K:PySem.W.Frag):Sp:=λvs H Q _=>∃a ns k,vs=[.ref a,.int k]/\SqL K H a (ns.map V.int)/\0<=k/\Q (.int (LM.cellAt ns k)) H
def spDivisor:Sp:=λvs H Q _=>∃i j:Int,vs=[.int i,.int j]/\0<=j/\Q (.int (Int.gcd i j:Int)) H
def spLowest:Sp:=λvs H Q _=>∃t b:Int,vs=[.int t,.int b]/\0<b/\b.natAbs<2^9000/\∀p H',Same H H'->H' p=some (tupF (FQ.red t b))->Q (.ref p) H'
theorem lZ{t b:Int}(hb:b≠0):Int.gcd t b<=b.natAbs:=Nat.le_of_dvd (by omega) (Int.gcd_dvd_natAbs_right ..)
theorem dk{t b:Int}(hb:b≠0)(hz:b.natAbs<2^9000):
  (b<0->(-(Int.gcd t b:Int)≠0/\(-(Int.gcd t b:Int)).natAbs<2^9000)/\t.fdiv (-(Int.gcd t b:Int))=(FQ.red t b).1/\b.fdiv (-(Int.gcd t b:Int))=(FQ.red t b).2)/\
  (¬b<0->((Int.gcd t b:Int)≠0/\(Int.gcd t b:Int).natAbs<2^9000)/\t.fdiv (Int.gcd t b:Int)=(FQ.red t b).1/\b.fdiv (Int.gcd t b:Int)=(FQ.red t b).2):=by
 have hg:0<Int.gcd t b:=Int.gcd_pos_of_ne_zero_right _ hb
 have hl:=lZ (t:=t) hb
 have e:=FQ.fdiv_red (t:=t) hb
 constructor
 ·intro hn
  rw[Int.sign_eq_neg_one_of_neg hn,Int.mul_neg_one]at e
  exact⟨⟨by omega,by rw[Int.natAbs_neg,Int.natAbs_natCast];exact Nat.lt_of_le_of_lt hl hz⟩,congrArg Prod.fst e,congrArg Prod.snd e⟩
 ·intro hn
  rw[Int.sign_eq_one_of_pos (by omega),Int.mul_one]at e
  exact⟨⟨by omega,by rw[Int.natAbs_natCast];exact Nat.lt_of_le_of_lt hl hz⟩,congrArg Prod.fst e,congrArg Prod.snd e⟩
theorem iw{a b m n:Nat}(h1:a<2^m)(h2:b<2^n):a*b<2^(m+n):=by
 rw[Nat.pow_add]
 exact Nat.mul_lt_mul'' h1 h2
theorem kG{a b:Int}{m n:Nat}(h1:a.natAbs<2^m)(h2:b.natAbs<2^n):(a*b).natAbs<2^(m+n):=by
 rw[Int.natAbs_mul]
 exact iw h1 h2
theorem dQ{a:Int}{m n:Nat}(h:a.natAbs<2^m)(hmn:m<=n):a.natAbs<2^n:=Nat.lt_of_lt_of_le h (Nat.pow_le_pow_right (by decide) hmn)
theorem mul4{a b:Int}(h1:a.natAbs<2^4000)(h2:b.natAbs<2^4000):IntMulOk a b:=mulOk h1 h2 (by decide)
theorem bot4{a b:Int}(h1:a.natAbs<2^4000)(h2:b.natAbs<2^4000):(a*b).natAbs<2^9000:=dQ (kG h1 h2) (by decide)
end L2
namespace L2
open PySem PySem.Spec PyProof.Rows
mutual
inductive Rep(K:PySem.W.Frag)(H:Hp):V->PyData->Prop
 | non:Rep K H .non .none
 | bl (b:Bool):Rep K H (.bl b) (.bool b)
 | int (i:Int):Rep K H (.int i) (.int i)
 | str (x:Str):Rep K H (.str x) (.str x)
 | lst {a:Addr} {xs:List V} {ds:List PyData}:SqL K H a xs->Reps K H xs ds->xs.length<=1000->Rep K H (.ref a) (.list ds)
 | tup {a:Addr} {xs:List V} {ds:List PyData}:SqT K H a xs->Reps K H xs ds->xs.length<=1000->Rep K H (.ref a) (.tuple ds)
inductive Reps(K:PySem.W.Frag)(H:Hp):List V->List PyData->Prop
 | nil:Reps K H [] []
 | cons {x:V} {d:PyData} {xs:List V} {ds:List PyData}:Rep K H x d->Reps K H xs ds->Reps K H (x::xs) (d::ds)
end
section
variable{X:Cx}{pins:List (Addr×Obj)}{σ:St}{H:Hp}{s:Shared}
mutual
theorem Rep.reads(I:Inv X pins σ H s){x:V}{d:PyData}{u:Value}(r:Rep X.K H x d)(q:RelV x u):∃as,Reads s.heap u d as:=by
 cases r with
 | non=>cases(show u=Value.none from q);exact⟨_,.none⟩
 | bl b=>cases(show u=Value.bool b from q);exact⟨_,.bool b⟩
 | int i=>obtain⟨t,e⟩:=(show ∃t,u=Value.int i t from q);cases e;exact⟨_,.int i t⟩
 | str x=>obtain⟨t,e⟩:=(show ∃t,u=Value.str x t from q);cases e;exact⟨_,.str x t⟩
 | @lst a xs ds hq hs hl=>
  cases(show u=Value.ref a from q)
  obtain⟨its,rv,⟨o,n,h1,h2,_,h3⟩,_⟩:=I.list hq
  obtain⟨as,ra⟩:=Reps.reads I hs rv
  exact⟨_,.list h1 h2 h3 (by simpa using ra)⟩
 | @tup a xs ds hq hs hl=>
  cases(show u=Value.ref a from q)
  obtain⟨its,rv,⟨o,h1,h2,n,h3⟩,_⟩:=I.tuple hq
  obtain⟨as,ra⟩:=Reps.reads I hs rv
  exact⟨_,.tuple h1 h2 h3 (by simpa using ra)⟩
theorem Reps.reads(I:Inv X pins σ H s){xs:List V}{ds:List PyData}{us:List Value}(r:Reps X.K H xs ds)(q:Vals xs us):∃as,ReadsAll s.heap us ds as:=by
 cases r with
 | nil=>cases q;exact⟨_,.nil⟩
 | cons r rs=>
  cases q with
  | cons q qs=>
   obtain⟨as,h1⟩:=Rep.reads I r q
   obtain⟨bs,h2⟩:=Reps.reads I rs qs
   exact⟨_,.cons h1 h2⟩
end
def rEqD(K:PySem.W.Frag):R2:=λx y H Q=>∃d e,Rep K H x d/\Rep K H y e/\SeqAt.shaped d=true/\SeqAt.shaped e=true/\Q (.bl (PyData.eqv d e)) H
def rNeD(K:PySem.W.Frag):R2:=λx y H Q=>∃d e,Rep K H x d/\Rep K H y e/\SeqAt.shaped d=true/\SeqAt.shaped e=true/\Q (.bl (!PyData.eqv d e)) H
theorem i3{k:Nat}(hr:Room k X.A):OpR X (compareOp .Eq) (rEqD X.K):=by
 intro pins s σ H x y v u Q I rx ry h
 obtain⟨d,e,r1,r2,s1,s2,q⟩:=h
 obtain⟨as,h1⟩:=r1.reads I rx
 obtain⟨bs,h2⟩:=r2.reads I ry
 exact eq_dataH h1 h2 s1 s2 hr.units ⟨.bl _,H,I,rfl,q⟩
theorem ck{k:Nat}(hr:Room k X.A):OpR X (compareOp .NotEq) (rNeD X.K):=by
 intro pins s σ H x y v u Q I rx ry h
 obtain⟨d,e,r1,r2,s1,s2,q⟩:=h
 obtain⟨as,h1⟩:=r1.reads I rx
 obtain⟨bs,h2⟩:=r2.reads I ry
 exact ne_dataH h1 h2 s1 s2 hr.units ⟨.bl _,H,I,rfl,q⟩
end
theorem Reps.length{K:PySem.W.Frag}{H:Hp}:∀{xs:List V} {ds:List PyData},Reps K H xs ds->xs.length=ds.length
 | _,_,.nil=>rfl
 | _,_,.cons _ r=>by simp[Reps.length r]
theorem Reps.get{K:PySem.W.Frag}{H:Hp}:∀{xs:List V} {ds:List PyData} {i:Nat} {d:PyData},Reps K H xs ds->ds[i]?=some d->∃x,xs[i]?=some x/\Rep K H x d
 | _,_,_,_,.nil,e=>by simp at e
 | _,_,0,_,.cons r _,e=>by simp at e;subst e;exact⟨_,rfl,r⟩
 | _,_,i+1,d,.cons _ t,e=>by
  obtain⟨x,h1,h2⟩:=Reps.get (i:=i) t (by simpa using e)
  exact⟨x,by simpa using h1,h2⟩
theorem Reps.ints{K:PySem.W.Frag}{H:Hp}:∀ns:List Int,Reps K H (ns.map V.int) (ns.map PyData.int)
 | []=> .nil
 | n::ns=> .cons (.int n) (Reps.ints ns)
def dF(p:Int×Int):PyData:= .tuple [.int p.1,.int p.2]
theorem IsF.rep{K:PySem.W.Frag}{H:Hp}{v:V}{p:Int×Int}(h:IsF K H v p):Rep K H v (dF p):=by
 obtain⟨a,rfl,q⟩:=h
 exact .tup q (.cons (.int _) (.cons (.int _) .nil)) (by simp)
theorem Reps.of_fracs{K:PySem.W.Frag}{H:Hp}:∀{xs:List V} {ps:List (Int×Int)},Paired (IsF K H) xs ps->Reps K H xs (ps.map dF)
 | _,_,.nil=> .nil
 | _,_,.cons r t=> .cons r.rep (Reps.of_fracs t)
theorem Paired.len{α β:Type}{F:α->β->Prop}{xs:List α}{ys:List β}(h:Paired F xs ys):xs.length=ys.length:=Paired.length h
theorem ir{lo:Int}{n:Nat}{caps:List (Option Nat)}{g:TG}{tt:TT}{te:TE}{σ:St}{QQ:List V->Hp->Prop}{H:Hp}(Pv:Nat->List V->Hp->Prop)(h0:Pv 0 [] H)
  (hs:∀i ys H,i<n->Pv i ys H->g (.int (lo+i)) (capS caps σ) H λσ2 H2=>tt σ2 H2 λb H3=>if b=true then te σ2 H3 λy H4=>ys.length<sizeLine/\Pv (i+1) (ys++[y]) H4 else Pv (i+1) ys H3)
  (hd:∀ys H,Pv n ys H->QQ ys H):tCompK caps g tt te σ QQ (Itr lo n) H:=by
 refine⟨λi m ys H=>m=n-i/\i<=n/\Pv i ys H,⟨n,by simp,Nat.zero_le _,h0⟩,?_⟩
 rintro i m ys H ⟨rfl,hi,p⟩
 by_cases hlt:i<n
 ·refine .inr ⟨hlt,Pv (i+1),λys' H' p'=>⟨n-(i+1),by omega,rfl,hlt,p'⟩,λx H' y=>?_⟩
  obtain⟨e,y⟩:=y
  subst e y
  exact hs i ys _ hlt p
 ·have e:i=n:=by omega
  subst e
  exact .inl ⟨Nat.le_refl _,hd ys H p⟩
theorem cG{K:PySem.W.Frag}{a:Addr}{xs:List V}{caps:List (Option Nat)}{g:TG}{tt:TT}{te:TE}{σ:St}{QQ:List V->Hp->Prop}{H:Hp}(Pv:Nat->List V->Hp->Prop)(h0:Pv 0 [] H)
  (hl:∀i ys H,i<=xs.length->Pv i ys H->SqL K H a xs)
  (hs:∀i x ys H,xs[i]?=some x->Pv i ys H->g x (capS caps σ) H λσ2 H2=>tt σ2 H2 λb H3=>if b=true then te σ2 H3 λy H4=>ys.length<sizeLine/\Pv (i+1) (ys++[y]) H4 else Pv (i+1) ys H3)
  (hd:∀ys H,Pv xs.length ys H->QQ ys H):tCompK caps g tt te σ QQ (Itl K a) H:=by
 refine⟨λi m ys H=>m=xs.length-i/\i<=xs.length/\Pv i ys H,⟨xs.length,by simp,Nat.zero_le _,h0⟩,?_⟩
 rintro i m ys H ⟨rfl,hi,p⟩
 have q:=hl i ys H hi p
 by_cases hlt:i<xs.length
 ·refine .inr ⟨⟨xs,xs[i],q,by simp[hlt]⟩,Pv (i+1),λys' H' p'=>⟨xs.length-(i+1),by omega,rfl,hlt,p'⟩,λx H' y=>?_⟩
  obtain⟨e,y⟩:=y
  subst e
  exact hs i x ys _ (y xs q) p
 ·have e:i=xs.length:=by omega
  subst e
  exact .inl ⟨⟨xs,q,Nat.le_refl _⟩,hd ys H p⟩
theorem dw{K:PySem.W.Frag}{a:Addr}{xs:List V}{caps:List (Option Nat)}{g:TG}{tt:TT}{te:TE}{σ:St}{QQ:List V->Hp->Prop}{H:Hp}(Pv:Nat->List V->Hp->Prop)(h0:Pv 0 [] H)
  (hl:∀i ys H,i<=xs.length->Pv i ys H->SqT K H a xs)
  (hs:∀i x ys H,xs[i]?=some x->Pv i ys H->g x (capS caps σ) H λσ2 H2=>tt σ2 H2 λb H3=>if b=true then te σ2 H3 λy H4=>ys.length<sizeLine/\Pv (i+1) (ys++[y]) H4 else Pv (i+1) ys H3)
  (hd:∀ys H,Pv xs.length ys H->QQ ys H):tCompK caps g tt te σ QQ (Itt K a) H:=by
 refine⟨λi m ys H=>m=xs.length-i/\i<=xs.length/\Pv i ys H,⟨xs.length,by simp,Nat.zero_le _,h0⟩,?_⟩
 rintro i m ys H ⟨rfl,hi,p⟩
 have q:=hl i ys H hi p
 by_cases hlt:i<xs.length
 ·refine .inr ⟨⟨xs,xs[i],q,by simp[hlt]⟩,Pv (i+1),λys' H' p'=>⟨xs.length-(i+1),by omega,rfl,hlt,p'⟩,λx H' y=>?_⟩
  obtain⟨e,y⟩:=y
  subst e
  exact hs i x ys _ (y xs q) p
 ·have e:i=xs.length:=by omega
  subst e
  exact .inl ⟨⟨xs,q,Nat.le_refl _⟩,hd ys H p⟩
theorem cH{σ:St}{H:Hp}{A:Hp->Prop}{B:Hp->Prop}:(tTrue σ H λb H3=>if b=true then A H3 else B H3)=A H:=by
 unfold tTrue
 exact if_pos rfl
theorem cz{lo:Int}{n:Nat}{caps:List (Option Nat)}{g:TG}{te:TE}{σ:St}{QQ:List V->Hp->Prop}{H:Hp}(Pv:Nat->List V->Hp->Prop)(h0:Pv 0 [] H)
  (hs:∀i ys H,i<n->Pv i ys H->g (.int (lo+i)) (capS caps σ) H λσ2 H2=>te σ2 H2 λy H4=>ys.length<sizeLine/\Pv (i+1) (ys++[y]) H4)
  (hd:∀ys H,Pv n ys H->QQ ys H):tCompK caps g tTrue te σ QQ (Itr lo n) H:=
 ir Pv h0 (λi ys H hi p=>by simp only[cH];exact hs i ys H hi p) hd
theorem aI{K:PySem.W.Frag}{a:Addr}{xs:List V}{caps:List (Option Nat)}{g:TG}{te:TE}{σ:St}{QQ:List V->Hp->Prop}{H:Hp}(Pv:Nat->List V->Hp->Prop)(h0:Pv 0 [] H)
  (hl:∀i ys H,i<=xs.length->Pv i ys H->SqL K H a xs)
  (hs:∀i x ys H,xs[i]?=some x->Pv i ys H->g x (capS caps σ) H λσ2 H2=>te σ2 H2 λy H4=>ys.length<sizeLine/\Pv (i+1) (ys++[y]) H4)
  (hd:∀ys H,Pv xs.length ys H->QQ ys H):tCompK caps g tTrue te σ QQ (Itl K a) H:=
 cG Pv h0 hl (λi x ys H hx p=>by simp only[cH];exact hs i x ys H hx p) hd
theorem cR{K:PySem.W.Frag}{a:Addr}{xs:List V}{caps:List (Option Nat)}{g:TG}{te:TE}{σ:St}{QQ:List V->Hp->Prop}{H:Hp}(Pv:Nat->List V->Hp->Prop)(h0:Pv 0 [] H)
  (hl:∀i ys H,i<=xs.length->Pv i ys H->SqT K H a xs)
  (hs:∀i x ys H,xs[i]?=some x->Pv i ys H->g x (capS caps σ) H λσ2 H2=>te σ2 H2 λy H4=>ys.length<sizeLine/\Pv (i+1) (ys++[y]) H4)
  (hd:∀ys H,Pv xs.length ys H->QQ ys H):tCompK caps g tTrue te σ QQ (Itt K a) H:=
 dw Pv h0 hl (λi x ys H hx p=>by simp only[cH];exact hs i x ys H hx p) hd
end L2
namespace L2
open PySem PySem.Spec PyProof.Rows
def accs(row ws:List Int)(i:Nat):Int:=((ws.take i).map λw=>row.getD w.toNat 0).sum
theorem gm(row ws:List Int):accs row ws 0=0:=rfl
theorem gq{row ws:List Int}{i:Nat}{w:Int}(h:ws[i]?=some w):accs row ws (i+1)=accs row ws i+row.getD w.toNat 0:=by
 unfold accs
 rw[List.take_add_one,h,List.map_append,List.sum_append]
 simp
theorem gN{row ws:List Int}{T:Int}(h:∀x∈row,0<=x/\x<=T)(hT:0<=T):∀i,0<=accs row ws i/\accs row ws i<=i*T
 | 0=>by simp[gm]
 | i+1=>by
  have ih:=gN (ws:=ws) h hT i
  cases q:ws[i]? with
  | none=>
   have e:accs row ws (i+1)=accs row ws i:=by
    unfold accs
    rw[List.take_add_one,q]
    simp
   rw[e]
   push_cast
   rw[Int.add_mul]
   omega
  | some w=>
   rw[gq q]
   have b:0<=row.getD w.toNat 0/\row.getD w.toNat 0<=T:=by
    by_cases hi:w.toNat<row.length
    ·have:row.getD w.toNat 0=row[w.toNat]:=by simp[hi]
     rw[this];exact h _ (List.getElem_mem hi)
    ·rw[List.getD_eq_getElem?_getD,List.getElem?_eq_none (by omega)];exact⟨Int.le_refl _,hT⟩
   push_cast
   rw[Int.add_mul]
   omega
theorem b4{a b T:Int}(hT:T≠0):fAdd (FQ.red a T) (FQ.red b T)=FQ.red (a+b) T:=by
 have h1:=FQ.red_worth (t:=a) hT
 have h2:=FQ.red_worth (t:=b) hT
 have p1:=(FQ.red_low (t:=a) hT).pos
 have p2:=(FQ.red_low (t:=b) hT).pos
 unfold fAdd
 refine FQ.red_eq (Int.mul_ne_zero (by omega) (by omega)) hT ?_
 generalize FQ.red a T=p at *
 generalize FQ.red b T=q at *
 calc (p.1*q.2+q.1*p.2)*T=(p.1*T)*q.2+(q.1*T)*p.2:=by rw[Int.add_mul];ac_rfl
  _=(a*p.2)*q.2+(b*q.2)*p.2:=by rw[h1,h2]
  _=(a+b)*(p.2*q.2):=by rw[Int.add_mul];ac_rfl
theorem bJ{T:Int}(hT:T≠0):FQ.red 0 T=(0,1):=FQ.red_eq_iff hT ⟨by decide,by decide⟩ (by simp)
theorem i5{T:Int}(hT:T≠0):FQ.red T T=(1,1):=FQ.red_eq_iff hT ⟨by decide,by decide⟩ (by simp)
theorem ba{a T:Int}(hT:T≠0)(h1:a.natAbs<2^100)(h2:T.natAbs<2^100):Sz 4000 (FQ.red a T):=by
 have s:=FQ.red_small (t:=a) hT
 have p:=(FQ.red_low (t:=a) hT).pos
 refine⟨Nat.lt_of_le_of_lt s.1 (Nat.lt_of_lt_of_le h1 (Nat.pow_le_pow_right (by decide) (by decide))),Nat.lt_of_le_of_lt s.2 (Nat.lt_of_lt_of_le h2 (Nat.pow_le_pow_right (by decide) (by decide))),by omega⟩
def spLaw(K:PySem.W.Frag):Sp:=λvs H Q _=>∃(a:Addr) (ns:List Int),vs=[.ref a]/\SqL K H a (ns.map V.int)/\ns.length<=63/\∀H',Q (.bl true) H'
end L2
namespace L2
open PySem PySem.Spec PyProof.Rows
def okD:Nat->PyData->Bool
 | _,.none=>true
 | _,.bool _=>true
 | _,.int _=>true
 | _,.str x=>SeqAt.shaped (.str x)
 | n+1,.tuple ds=>ds.all (okD n)
 | n+1,.list ds=>ds.all (okD n)
 | _,_=>false
def spSame(K:PySem.W.Frag)(n:Nat):Sp:=λvs H Q _=>∃v u d,vs=[v,u]/\Rep K H v d/\Rep K H u d/\okD n d=true/\Q (.bl true) H
def spPrev(sp:Nat->Sp):Nat->Sp
 | 0=>λ_ _ _ _=>False
 | n+1=>sp n
structure RowsAt(H0 H:Hp)(L:Addr)(rs:List Addr)(M:List (List Int)):Prop where
 lst:H L=some (.lst (rs.map V.ref))
 rows:Paired (λr (m:List Int)=>H r=some (.lst (m.map V.int))) rs M
 nd:rs.Nodup
 fr:∀r∈rs,H0 r=none
 frL:H0 L=none
 nL:L∉rs
theorem RowsAt.get{H0 H:Hp}{L:Addr}{rs:List Addr}{M:List (List Int)}(R:RowsAt H0 H L rs M){i:Nat}{m:List Int}(h:M[i]?=some m):∃r,rs[i]?=some r/\H r=some (.lst (m.map V.int)):=Paired.get (F:=λr (m:List Int)=>H r=some (.lst (m.map V.int))) R.rows h
theorem RowsAt.mono{H0 H H':Hp}{L:Addr}{rs:List Addr}{M:List (List Int)}(R:RowsAt H0 H L rs M)(e:Same H H'):RowsAt H0 H' L rs M:=
 ⟨e _ _ R.lst,Paired.mapP R.rows λ_ _ h=>e _ _ h,R.nd,R.fr,R.frL,R.nL⟩
theorem bY{H:Hp}{r:Addr}{o:HO}:∀{rs:List Addr} {M:List (List Int)},Paired (λr (m:List Int)=>H r=some (.lst (m.map V.int))) rs M->r∉rs->
  Paired (λr' (m:List Int)=>(upd H r o) r'=some (.lst (m.map V.int))) rs M
 | _,_,.nil,_=> .nil
 | _,_,.cons h t,n=> .cons (by rw[az (λz=>n (by rw[z];exact List.mem_cons_self))];exact h) (bY t λz=>n (List.mem_cons_of_mem _ z))
theorem e7{H:Hp}{r:Addr}{m':List Int}:∀{rs:List Addr} {M:List (List Int)} {j:Nat},Paired (λr (m:List Int)=>H r=some (.lst (m.map V.int))) rs M->rs.Nodup->rs[j]?=some r->
  Paired (λr' (m:List Int)=>(upd H r (.lst (m'.map V.int))) r'=some (.lst (m.map V.int))) rs (M.set j m')
 | _,_,_,.nil,_,e=>by simp at e
 | _,_,0,.cons h t,nd,e=>by
  simp at e
  subst e
  exact .cons af (bY t (List.nodup_cons.mp nd).1)
 | _,_,j+1,.cons h t,nd,e=>by
  have e':_:=(by simpa using e:_)
  refine .cons ?_ (e7 t (List.nodup_cons.mp nd).2 e')
  rw[az (λz=>(List.nodup_cons.mp nd).1 (by rw[z];exact List.mem_of_getElem? e'))]
  exact h
theorem RowsAt.upd{H0 H:Hp}{L r:Addr}{rs:List Addr}{M:List (List Int)}{j:Nat}(R:RowsAt H0 H L rs M)(m':List Int)(h:rs[j]?=some r):RowsAt H0 (L2.upd H r (.lst (m'.map V.int))) L rs (M.set j m'):=
 ⟨by rw[az (λz=>R.nL (by rw[z];exact List.mem_of_getElem? h))];exact R.lst,e7 R.rows R.nd h,R.nd,R.fr,R.frL,R.nL⟩
def mid(M:List (List Int))(o:List Int)(w:Int)(j:Nat):List (List Int):=LM.addDeal (M.take j) (o.take j) w++M.drop j
theorem ig(M:List (List Int))(o:List Int)(w:Int):mid M o w 0=M:=by simp[mid,LM.addDeal]
theorem jv{M:List (List Int)}{o:List Int}{w:Int}{n:Nat}(h1:M.length=n)(h2:o.length=n):mid M o w n=LM.addDeal M o w:=by
 unfold mid
 rw[List.take_of_length_le (by omega),List.take_of_length_le (by omega),List.drop_eq_nil_of_le (by omega),List.append_nil]
theorem f8{M:List (List Int)}{o:List Int}{w t:Int}{m:List Int}{j:Nat}(h1:M[j]?=some m)(h2:o[j]?=some t):LM.addDeal (M.take (j+1)) (o.take (j+1)) w=LM.addDeal (M.take j) (o.take j) w++[LM.addOne m t w]:=by
 have l1:=(List.getElem?_eq_some_iff.mp h1).1
 have l2:=(List.getElem?_eq_some_iff.mp h2).1
 unfold LM.addDeal
 rw[List.take_add_one,List.take_add_one,h1,h2]
 simp only[Option.toList_some]
 rw[List.zipWith_append (by rw[List.length_take,List.length_take];omega)]
 rfl
theorem i6{M:List (List Int)}{o:List Int}{w:Int}{j:Nat}(h1:j<=M.length)(h2:j<=o.length):(LM.addDeal (M.take j) (o.take j) w).length=j:=by
 unfold LM.addDeal
 rw[List.length_zipWith,List.length_take,List.length_take]
 omega
theorem kZ{M:List (List Int)}{o:List Int}{w:Int}{j:Nat}{m:List Int}(h:M[j]?=some m)(h2:j<=o.length):(mid M o w j)[j]?=some m:=by
 have l1:=(List.getElem?_eq_some_iff.mp h).1
 have hl:=i6 (w:=w) (Nat.le_of_lt l1) h2
 unfold mid
 rw[List.getElem?_append_right (by omega),hl,Nat.sub_self,List.getElem?_drop,Nat.add_zero]
 exact h
theorem il{M:List (List Int)}{o:List Int}{w t:Int}{m:List Int}{j:Nat}(h1:M[j]?=some m)(h2:o[j]?=some t):(mid M o w j).set j (LM.addOne m t w)=mid M o w (j+1):=by
 have l1:=(List.getElem?_eq_some_iff.mp h1).1
 have l2:=(List.getElem?_eq_some_iff.mp h2).1
 have hl:=i6 (w:=w) (Nat.le_of_lt l1) (Nat.le_of_lt l2)
 have e1:m=M[j]:=by rw[List.getElem?_eq_getElem l1]at h1;exact(Option.some.inj h1).symm
 unfold mid
 rw[f8 h1 h2,List.append_assoc,List.set_append_right _ _ (by omega),hl,Nat.sub_self,List.drop_eq_getElem_cons l1]
 rfl
end L2
namespace L2
open PySem PySem.Spec PyProof.Rows
structure Flies(P:Program)(w:World)(outer:List Env)(H:Hp)(s:Shared)(a C:Addr)(B:Heap)(a0:Value)(H':Hp)(s':Shared):Prop where
 os:s'.os=s.os
 bare:AllBare s'.gens
 un:Un (frs outer) [] H H' s.heap s'.heap
 hok:HOk P w H' B
 keep:∀b o,s.heap.get? b=some o->H b=none->b∉frs outer->B.get? b=some o
 has:∀b o,s.heap.get? b=some o->b∉frs outer->∃o',B.get? b=some o'
 fly:Heap.FlyingW B outer a (.ref C) a0 s'.heap
def CXE(P:Program)(w:World):CXT:=λouter H s E e s'=>∃a C B a0 H',e = .ref a/\Flies P w outer H s a C B a0 H' s'/\E (.ref C) none H'
theorem km{P:Program}{w:World}{H:Hp}{h:Heap}{l:List Addr}(x:HOk P w H h)(n:∀b∈l,H b=none):HOk P w H (PySem.W.hideAll h l):=λa o e=>
 (x a o e).stay (λb u hb q=>PySem.W.hideAll_get _ q λz=>by
  rcases hb with rfl|hb
  ·rw[n _ z]at e;cases e
  ·rw[n _ z]at hb;cases hb) (λ_ q=>q) λ_ _ q=>q
section
variable{P:Program}{w:World}{K:PySem.W.Frag}{mg:Str->Option Value}{base:Heap}{N:List Str}{qual:Str}{scope:Scope}{f:Addr}{cd:Value}{A:Around}{outer:List Env}{s₀:Shared}{H₀:Hp}{E:XK}
abbrev cxE(P:Program)(w:World)(K:PySem.W.Frag)(mg:Str->Option Value)(base:Heap)(N:List Str)(qual:Str)(scope:Scope)(f:Addr)(cd:Value)(A:Around)(outer:List Env)(s₀:Shared)(H₀:Hp)(E:XK):Cx:=cxOf (CXE P w) P w K mg base N qual scope f cd A outer s₀ H₀ E
theorem kx{env:Env}{l:List Env}{L:Addr}(h:env.frame=some L):frs (env::l)=L::frs l:=by unfold frs;rw[List.filterMap_cons,h]
theorem gV{pins:List (Addr×Obj)}{σ:St}{H:Hp}{s:Shared}{h':Heap}{e C:Addr}{vs:List Value}(I:Inv (cxE P w K mg base N qual scope f cd A outer s₀ H₀ E) pins σ H s)(hx:Heap.MadeExcOf s.heap h' e (.ref C) vs)(hE:E (.ref C) none H):
  (cxE P w K mg base N qual scope f cd A outer s₀ H₀ E).xe (.ref e) {s with heap:=h'}:=by
 have hf:(envOfC qual scope s₀.heap.objs.size f cd).frame=some s₀.heap.objs.size:=rfl
 have hst:(cxE P w K mg base N qual scope f cd A outer s₀ H₀ E).stack=envOfC qual scope s₀.heap.objs.size f cd::outer:=rfl
 have hin:∀env∈(envOfC qual scope s₀.heap.objs.size f cd::outer),∀b,env.frame=some b->b∈frs (envOfC qual scope s₀.heap.objs.size f cd::outer):=λenv he b hb=>List.mem_filterMap.mpr ⟨env,he,hb⟩
 have FF:s.heap.FunFrames base (envOfC qual scope s₀.heap.objs.size f cd::outer):=I.stack
 have fr0:∀b∈frs (envOfC qual scope s₀.heap.objs.size f cd::outer),H b=none:=I.stkFree
 have nin:∀b o,s₀.heap.get? b=some o->b∉frs outer->b∉frs (envOfC qual scope s₀.heap.objs.size f cd::outer):=λb o q nb=>by
  rw[kx hf]
  intro z
  rcases List.mem_cons.mp z with z|z
  ·exact absurd (Heap.lt_size q) (by rw[z];exact Nat.lt_irrefl _)
  ·exact nb z
 have U:Un (frs outer) [] H₀ H s₀.heap s.heap:=I.base
 show wpAny _ _ (leaving _ _) _ _ _
 refine wpAny_leaves_madeW (base:=PySem.W.hideAll s.heap (frs (envOfC qual scope s₀.heap.objs.size f cd::outer))) (h:=s.heap) I.ok.frames hf (λb o q=>PySem.W.of_hideAll _ q) (PySem.W.funFrames_hide FF hin) hx λh'' t x1 _ _ x4=>?_
 have stay:=x1.1
 refine⟨e,C,_,_,H,rfl,⟨I.os,I.bare,⟨λb o q n nb _=>?_,λb o q n hb _=>?_,λb o q n hx'=>U.free b o q n hx',λb o q _=>?_,U.tups,U.frzs,U.tbls⟩,km I.hok fr0,λb o q n nb=>?_,λb o q nb=>?_,x1⟩,hE⟩
 ·exact stay _ _ (PySem.W.hideAll_get _ (U.keep b o q n nb (by simp)) (nin b o q nb))
 ·obtain⟨sl,q1⟩:=U.slot b o q n hb (by simp)
  obtain⟨_,o2,ho2,hnf⟩:=I.funs.mem hb
  have e2:o2={o with slots:=sl}:=Option.some.inj (ho2.symm.trans q1)
  obtain⟨sl',q2⟩:=x4 b o2 (hx.keeps _ _ ho2) hnf
  rw[e2]at q2
  exact⟨sl',q2⟩
 ·obtain⟨o',q1⟩:=U.there b o q (by simp)
  by_cases hb:b∈frs outer
  ·obtain⟨_,o2,ho2,hnf⟩:=I.funs.mem hb
   obtain⟨sl',q2⟩:=x4 b o2 (hx.keeps _ _ ho2) hnf
   exact⟨_,q2⟩
  ·exact⟨o',stay _ _ (PySem.W.hideAll_get _ q1 (nin b o q hb))⟩
 ·exact PySem.W.hideAll_get _ (U.keep b o q n nb (by simp)) (nin b o q nb)
 ·obtain⟨o',q1⟩:=U.there b o q (by simp)
  exact⟨o',PySem.W.hideAll_get _ q1 (nin b o q nb)⟩
end
end L2
namespace L2
open PySem PySem.Spec PyProof.Rows
def bmV:List Value:=[.type "ValueError",.type "Exception",.type "BaseException",.type "object"]
structure XCls(K:PySem.W.Frag)(mg:Str->Option Value)(x:Str)(C:Addr):Prop where
 bound:mg x=some (.ref C)
 exc:PySem.W.excIn K C bmV "ValueError.__new__"=true
theorem lx{K:PySem.W.Frag}{h:Heap}{C:Addr}{bmB:List Value}{nid:String}(X:K.In h)(q:PySem.W.excIn K C bmB nid=true):
  ∃bm N nm qn bs hdct sn sub ab col dd k0 k1 k2 k3 k5 mN,h.get? C=some (excClassObj nm qn C N bs bm hdct sn sub ab col dd k0 k1 k2 k3 k5 nid)/\h.Ns N mN/\mN "__init__"=none/\OwnTail h bmB bm:=by
 unfold PySem.W.excIn at q
 split at q
 ·rename_i dd cd sl hlk
  split at q
  ·rename_i C' bm u0 u1 u2 u3 n u5 hmro hsl
   simp only[Bool.and_eq_true,beq_iff_eq,Bool.not_eq_true']at q
   obtain⟨⟨⟨⟨⟨rfl,rfl⟩,q3⟩,q4⟩,q5⟩,q6⟩:=q
   obtain⟨nm,bs,mro,ns,qn,hd,sn,sub,ab,col,del⟩:=cd
   dsimp only at hmro q3 q5 q6
   subst hmro q3
   obtain⟨l⟩:=sl
   simp only at hsl
   subst hsl
   exact⟨bm,ns,nm,qn,bs,hd,sn,sub,ab,col,dd,u0,u1,u2,u3,u5,_,X _ _ hlk,.of_isNs (PySem.W.isNs_of_in X q5),PySem.W.nsMap_none_of_in X q5 q6,PySem.W.tail_of_in X q4⟩
  ·cases q
 ·cases q
section
variable{P:Program}{w:World}{K:PySem.W.Frag}{mg:Str->Option Value}{base:Heap}{N:List Str}{qual:Str}{scope:Scope}{f:Addr}{cd:Value}{A:Around}{outer:List Env}{s₀:Shared}{H₀:Hp}{E:XK}
def tRaise(C:Addr)(E:XK)(t:TA):TS:=λ_ σ H=>t σ H λvs H1=>vs.length<=sizeLine/\E (.ref C) none H1
theorem cO{x:Str}{C:Addr}{e₀:Expr}{es:List Expr}{np cpos pos:Pos}{t:TA}(hC:XCls K mg x C)(hg:Gl (cxE P w K mg base N qual scope f cd A outer s₀ H₀ E) x)
  (ha:PA (cxE P w K mg base N qual scope f cd A outer s₀ H₀ E).nox (e₀::es) t)
  (hd:(x==("__debug__":Str))=false:=by decide)(he:starEach (e₀::es) (cxE P w K mg base N qual scope f cd A outer s₀ H₀ E).env=(false,eval e₀ (cxE P w K mg base N qual scope f cd A outer s₀ H₀ E).env)::starEach es (cxE P w K mg base N qual scope f cd A outer s₀ H₀ E).env:=by rfl)
  (hpl:(backTo cpos (starEach es (cxE P w K mg base N qual scope f cd A outer s₀ H₀ E).env)).any (·.1)=false:=by rfl):
  PS (cxE P w K mg base N qual scope f cd A outer s₀ H₀ E) (.Raise (some (.Call (.Name x np) (e₀::es) [] cpos)) none pos) (tRaise C E t):=by
 intro pins s σ H D I h
 obtain⟨bm,Nn,nm,qn,bs,hdct,sn,sub,ab,col,dd,k0,k1,k2,k3,k5,mN,hCo,hN,hni,T⟩:=lx I.ok.mod.kin hC.exc
 refine wpAny_Raise_call_subT (C:=C) (nm:=nm) (q:=qn) (N:=Nn) (bs:=bs) (bm:=bm) (hdct:=hdct) (sn:=sn) (sub:=sub) (ab:=ab) (col:=col) (dd:=dd) (k0:=k0) (k1:=k1) (k2:=k2) (k3:=k3) (k5:=k5) (mN:=mN) (bmB:=bmV) (newId:="ValueError.__new__")
  PySem.F.excBase_ValueError (T.hasType (by decide)) (I.ok.hd rfl) (by rw[he];exact hpl) hni (fD I hg hC.bound ⟨rfl,?_⟩ hd)
 have z:=ha cpos pins s σ H _ (I.wish _) h
 have he':starEach (e₀::es) (cxE P w K mg base N qual scope f cd A outer s₀ H₀ E).nox.env=(false,eval e₀ (cxE P w K mg base N qual scope f cd A outer s₀ H₀ E).env)::starEach es (cxE P w K mg base N qual scope f cd A outer s₀ H₀ E).env:=he
 rw[he']at z
 rw[he]
 refine Calls.evalArgs_plain ?_
 refine wpAny_mono z (λus s1 h1=>?_) λ_ _ z=>False.elim z
 obtain⟨vs,H1,I1,r,hl,hE⟩:=h1
 have I1:=I1.unwish
 exact⟨rfl,by rw[<-r.length];exact hl,I1.bk _ _ hCo,hN.keeps I1.bk,T.keeps I1.bk,λh' e hm=>gV I1 hm hE⟩
end
end L2
namespace L2
open PySem PySem.Spec PyProof.Rows
structure XIs(K:PySem.W.Frag)(C:Addr):Prop where
 exc:PySem.W.excIn K C bmV "ValueError.__new__"=true
 ga:PySem.W.findIn K (.ref C) "__getattribute__"=some (some (.builtin "BaseException.__getattribute__"))
 noG:PySem.W.findIn K (.ref C) "__getattr__"=some none
 cl:PySem.W.findIn K (.ref C) "__class__"=some (some (.builtin "object.__class__"))
 mo:PySem.W.mroIn K C (.type "object")=some true
 sg:PySem.W.specialIn K (.builtin "object.__class__") "__get__"=some (some (.builtin "getset_descriptor.__get__"))
 tk:PySem.W.takesIn K (.builtin "object.__class__")=some true
 mB:PySem.W.mroIn K C (.type "BaseException")=some true
end L2
namespace L2
open PySem PySem.Spec PyProof.Rows
section
variable{P:Program}{w:World}{K:PySem.W.Frag}{mg:Str->Option Value}{base:Heap}
theorem Def.okE{x:Str}{st:Stmt}{N ps:List Str}{k:Nat}{sp:Sp}(F:Def K mg x st)(S:FnScope N ps (defScope st))(len:∀vs H Q E,sp vs H Q E->vs.length=ps.length)
  (hb:∀(kV doc pm:Value) (an:Option Addr) (cdv ct:Value) (us:List Value),us.length=ps.length->bindArgs (PySem.W.fnOf x x (defArgs st) (defBody st) (defScope st) .none kV doc pm an cdv ct) ⟨us,[]⟩=pure (ps.zip us))
  (hbody:∀(f:Addr) (cdv:Value) (A:Around) (outer:List Env) (s:Shared) (H:Hp) (vs:List V) (Q:VK) (E:XK),Room k (A.deeper (envOfC x (defScope st) s.heap.objs.size f cdv))->sp vs H Q E->
   ∃t,PSs (cxE P w K mg base N x (defScope st) f cdv A outer s H E) (defBody st) t/\t {nx:=λ_ H'=>Q .non H',rt:=Q} (start N vs) H):Dn P w K mg base (CXE P w) (k+1) x ps sp:=by
 obtain⟨f,fd,F,m⟩:=F
 have hbd:=F.binds hb
 have kp:=F.kp
 obtain⟨oc,od,kV,doc,pm,an,cdv,ct,osl,rfl,lk,hcd⟩:=F.ex
 exact⟨f,_,l9 lk hcd S len λA outer s H vs Q E hr hsp=>hbody f cdv A outer s H vs Q E hr hsp,m,kp,hbd⟩
theorem passN{X:Cx}:Passes (CXE X.prog X.w) X E0:=λ_ _ _ _ _ _ _ ⟨_,_,_,_,_,_,_,z⟩=>z.elim
end
structure Xs where
 WishError:Addr
 NoFraction:Addr
 NoWishes:Addr
 NoTable:Addr
 NoPick:Addr
 NoOrder:Addr
 NoRoll:Addr
 NoPerson:Addr
 Unready:Addr
 NoWay:Addr
end L2
namespace L2
open PySem PySem.Spec PyProof.Rows
def spFractionE(x:Xs):Sp:=λvs H Q E=>∃t b:Int,vs=[.int t,.int b]/\(b=0->E (.ref x.NoFraction) none H)/\(b≠0->b.natAbs<2^9000/\∀p H',Same H H'->H' p=some (tupF (FQ.red t b))->Q (.ref p) H')
def spBefore(K:PySem.W.Frag):Sp:=λvs H Q _=>∃a b x y,vs=[.ref a,.ref b]/\SqT K H a [.int x.1,.int x.2]/\SqT K H b [.int y.1,.int y.2]/\Sz 4000 x/\Sz 4000 y/\Q (.bl (decide (x.1*y.2<y.1*x.2))) H
def spIsFr(K:PySem.W.Frag):Sp:=λvs H Q _=>∃(a:Addr) (p:Int×Int),vs=[.ref a]/\SqT K H a [.int p.1,.int p.2]/\FQ.Low p/\Q (.bl true) H
end L2
namespace L2
open PySem PySem.Spec PyProof.Rows
section
variable{X:Cx}
theorem j0{xs:List V}{us:List Value}(r:Vals xs us){i:Nat}{u:Value}(h:us[i]?=some u):∃x,xs[i]?=some x/\RelV x u:=by
 have hl:=r.length
 have hi:i<us.length:=(List.getElem?_eq_some_iff.mp h).1
 have e:xs[i]?=some xs[i]:=by simp[show i<xs.length by omega]
 obtain⟨u',h1,h2⟩:=r.get e
 rw[h]at h1
 cases h1
 exact⟨_,e,h2⟩
theorem jD:∀{xs:List V} {us:List Value},xs.length=us.length->(∀(i:Nat) (v:V) (u:Value),xs[i]?=some v->us[i]?=some u->RelV v u)->Vals xs us
 | [],[],_,_=> .nil
 | x::xs,u::us,hl,h=> .cons (h 0 x u rfl rfl) (jD (by simpa using hl) λi v w h1 h2=>h (i+1) v w (by simpa using h1) (by simpa using h2))
theorem cK(hc:X.calm=true):CallR X (.builtin "all") (λxs H Q=>∃(p:Addr) (bs:List Bool),xs=[.ref p]/\SqL X.K H p (bs.map V.bl)/\Q (.bl (bs.all id)) H):=by
 intro pins s σ H xs us Q I r h
 obtain⟨p,bs,rfl,hq,q⟩:=h
 obtain⟨u,rfl,rx⟩:=vals1 r
 cases(show u=Value.ref p from rx)
 obtain⟨its,rv,pl,hz⟩:=I.list hq
 have hl:=rv.length
 rw[List.length_map]at hl
 have hp:p<s.heap.objs.size:=by obtain⟨_,e,_⟩:=pl.isList;exact Heap.lt_size e
 have htr:TruthOf X.prog X.w X.A.in1 (λi v=>its.toArray[i]?=some v) (λi=>bs.getD i false):=λi v s Q E hv hQ=>by
  dsimp only at hv hQ
  rw[List.getElem?_toArray]at hv
  obtain⟨x,hx,rx⟩:=j0 rv hv
  rw[List.getElem?_map]at hx
  cases hb:bs[i]? with
  | none=>rw[hb]at hx;cases hx
  | some b=>
   rw[hb]at hx
   cases hx
   cases(show v=Value.bool b from rx)
   have e:bs.getD i false=b:=by simp[List.getD_eq_getElem?_getD,hb]
   rw[e]at hQ
   exact wpAny_pure hQ
 refine call_all_walk (wpAny_pyIter_list pl.isList ⟨s.heap.objs.size,_,_,_,_,_,_,rfl,Walks.list (A:=X.A.in1) (I.ok.hd hc) s.heap.objs.size p (Nat.ne_of_lt hp) its.toArray,⟨⟨_,Heap.get?_push_size _ rfl,rfl,rfl⟩,pl.isList.push _⟩,htr,λh' tk hk=>?_⟩)
 have e:(List.range its.toArray.size).all (λi=>bs.getD i false)=bs.all id:=by
  rw[List.size_toArray,<-hl]
  apply Bool.eq_iff_iff.mpr
  rw[List.all_eq_true,List.all_eq_true]
  constructor
  ·intro h x hx
   obtain⟨i,hi,rfl⟩:=List.mem_iff_getElem.mp hx
   have:=h i (List.mem_range.mpr hi)
   simpa [hi]using this
  ·intro h i hi
   have hi':=List.mem_range.mp hi
   have:=h bs[i] (List.getElem_mem hi')
   simpa [hi']using this
 rw[e]
 refine⟨.bl _,H,I.kept λb o ho=>hk b o (λhm=>?_) (Heap.get?_push_of_some _ ho),rfl,q⟩
 rw[List.mem_singleton]at hm
 subst hm
 exact absurd (Heap.lt_size ho) (Nat.lt_irrefl _)
theorem bO{ns:List Int}:∀{vs:List Value},Vals (ns.map V.int) vs->IntsAre vs ns:=by
 induction ns with
 | nil=>intro vs r;cases r;exact .nil
 | cons n ns ih=>
  intro vs r
  cases r with
  | cons r rs=>
   obtain⟨t,rfl⟩:=(show ∃t,_=Value.int n t from r)
   exact .cons _ _ (ih rs)
theorem g6{prog:Program}{w:World}{A:Around}{E:Value->Shared->Prop}{s:Shared}{l:Addr}{vs:List Value}{Q:List Value->Shared->Prop}(ht:IsTup s.heap l vs.toArray)(hsz:vs.length<=sizeLine)
  (h:Q vs {s with heap:=(s.heap.push (seqObj "list" #[] 0)).update s.heap.objs.size (Obj.mapSeq (· ++ vs.toArray))}):wpAny (model prog w) A (collect (.ref l)) Q E s:=by
 obtain⟨o,ho,hcl,n,hd⟩:=ht
 have ho':(s.heap.push (seqObj "list" #[] 0)).get? l=some o:=Heap.get?_push_of_some _ ho
 have hnew:(s.heap.push (seqObj "list" #[] 0)).get? s.heap.objs.size=some (seqObj "list" #[] 0):=Heap.get?_push_size _ rfl
 unfold collect
 refine wpAny_bind (wpAny_runValue (codeAny_builtin F.entry_proto_collect ?_))
 change wpAny _ _ (do again (.builtin "list.__iadd__" ⟨[<-newList [],.ref l],[]⟩)) _ _ s
 refine wpAny_bind (wpAny_newList (wpAny_pure ⟨Code.quiet_builtin _ (by decide +kernel),codeAny_builtin F.entry_list_iadd ?_⟩))
 change wpAny _ _ (Builtin.List.listExtendWith (.ref s.heap.objs.size) (.ref l) (.ref s.heap.objs.size)) _ _ {s with heap:=s.heap.push (seqObj "list" #[] 0)}
 unfold Builtin.List.listExtendWith
 refine wpAny_bind (wpAny_typeOf (T:="tuple") ⟨o,ho',hcl⟩ ?_)
 rw[if_pos (by rw[show(Value.type "tuple"==Value.type "tuple")=true from rfl];simp)]
 refine wpAny_bind (listItems_at ho' hd ?_)
 refine wpAny_bind (listItems_at (xs:= #[]) (n:=0) hnew rfl ?_)
 rw[if_neg (by simp)]
 refine wpAny_bind (listUpdate_at (xs:= #[]) (n:=0) hnew rfl ?_ (Nat.zero_le _) (by change (#[]++vs.toArray).size<=sizeLine+1;simp only[Array.size_append,List.size_toArray,List.length_nil];omega))
 refine wpAny_pure ?_
 change wpAny (model prog w) A (do
   let o<-load s.heap.objs.size
   match o.data with
   | .seq xs _=>pure xs.toList
   | _=>unsupported "internal:collect") Q E {s with heap:=(s.heap.push (seqObj "list" #[] 0)).update s.heap.objs.size (Obj.mapSeq (· ++ vs.toArray))}
 refine wpAny_bind (wpAny_load (get?_update_seq hnew _) ?_)
 change wpAny _ _ (pure ((#[]:Array Value)++vs.toArray).toList) Q E _
 have e:((#[]:Array Value)++vs.toArray).toList=vs:=by simp
 rw[e]
 exact wpAny_pure h
theorem iD{prog:Program}{w:World}{A:Around}{E:Value->Shared->Prop}{s:Shared}{l:Addr}{vs:List Value}{ns:List Int}{Q:Value->Shared->Prop}(ht:IsTup s.heap l vs.toArray)(hI:IntsAre vs ns)(h64:vs.length<64)
  (h:∀(out:Array Value) (ns':List Int),IntsAre out.toList ns'->ns'.Perm ns->ns'.Pairwise (· <= ·)->Q (.ref (s.heap.objs.size+1)) {s with heap:=sortedAll s.heap vs out}):
  wpAny (model prog w) A (call (.builtin "sorted") [.ref l]) Q E s:=by
 have e1:((s.heap.push (seqObj "list" #[] 0)).update s.heap.objs.size (Obj.mapSeq (· ++ vs.toArray))).objs.size=s.heap.objs.size+1:=by rw[Heap.size_update,size_push']
 have e2:(((s.heap.push (seqObj "list" #[] 0)).update s.heap.objs.size (Obj.mapSeq (· ++ vs.toArray))).push (seqObj "list" vs.toArray 0)).get? (s.heap.objs.size+1)=some (seqObj "list" vs.toArray 0):=by
  rw[<-e1];exact Heap.get?_push_size _ rfl
 refine Calls.call_function_entry kind_sorted plain_sorted entry_sorted (args_sorted1 _) ?_
 unfold Builtin.«sorted»
 refine wpAny_bind (m:=checkCount "sorted" 1 1 _) (wpAny_pure ?_)
 have hn:vs.length<=sizeLine:=Nat.le_of_lt (small1000 (by omega))
 refine wpAny_bind (g6 ht hn (wpAny_bind (wpAny_newList ?_)))
 change wpAny _ _ _ _ _ {s with heap:=((s.heap.push (seqObj "list" #[] 0)).update s.heap.objs.size (Obj.mapSeq (· ++ vs.toArray))).push (seqObj "list" vs.toArray 0)}
 rw[e1]
 refine wpAny_bind (wpAny_holding (wpAny_call_entry slot_list_sort ⟨_,e2,rfl⟩ entry_list_sort (list_sort_tree e2 hI h64 λout ns' a1 a2 a3=>⟨_,rfl,?_⟩) (args_list_sort _)))
 exact wpAny_pure ⟨_,rfl,h out ns' a1 a2 a3⟩
theorem eA:CallR X (.builtin "sorted") (λxs H Q=>∃(p:Addr) (ns:List Int),xs=[.ref p]/\(SqL X.K H p (ns.map V.int)\/SqT X.K H p (ns.map V.int))/\ns.length<64/\∀(l:Addr) (ns':List Int),H l=none->ns'.Perm ns->ns'.Pairwise (· <= ·)->Q (.ref l) (upd H l (.lst (ns'.map V.int)))):=by
 intro pins s σ H xs us Q I r h
 obtain⟨p,ns,rfl,hq,h64,q⟩:=h
 obtain⟨u,rfl,rx⟩:=vals1 r
 cases(show u=Value.ref p from rx)
 have fin:∀(its:List Value),Vals (ns.map V.int) its->∀(out:Array Value) (ns':List Int),IntsAre out.toList ns'->ns'.Perm ns->ns'.Pairwise (· <= ·)->EP X pins σ Q (.ref (s.heap.objs.size+1)) {s with heap:=sortedAll s.heap its out}:=λits rv out ns' a1 a2 a3=>by
  obtain⟨e,he⟩:=sortedAll_at s.heap its out
  refine⟨.ref (s.heap.objs.size+1),_,I.laid (t':=s.toks) (λb o ho=>sortedAll_old ho) (Nat.le_succ _) (show ObjOk X.prog X.w _ _ _ (.lst (ns'.map V.int))from⟨?_,out.toList,e,d6 a1,by rw[he]⟩),rfl,q _ ns' (I.hok.fresh (Nat.le_succ _)) a2 a3⟩
  rw[List.length_map,a2.length_eq]
  exact Nat.le_of_lt (small1000 (by omega))
 rcases hq with hq|hq
 ·obtain⟨its,rv,pl,hz⟩:=I.list hq
  have hl:=rv.length
  rw[List.length_map]at hl
  exact sorted_ints pl.isList (bO rv) (by omega) (fin its rv)
 ·obtain⟨its,rv,pl,hz⟩:=I.tuple hq
  have hl:=rv.length
  rw[List.length_map]at hl
  exact iD pl (bO rv) (by omega) (fin its rv)
theorem bK:CallR X (.type "range") (λxs H Q=>∃n:Int,xs=[.int n]/\∀l,H l=none->Q (.ref l) (upd H l (.rng 0 n))):=by
 intro pins s σ H xs us Q I r h
 obtain⟨n,rfl,q⟩:=h
 obtain⟨u,rfl,t,rfl⟩:=vals1 r
 exact call_range_1 ⟨.ref s.heap.objs.size,_,I.laid (λb o ho=>Heap.get?_push_of_some _ ho) (Nat.le_refl _) (show ObjOk X.prog X.w _ _ _ (.rng 0 n)from⟨_,_,_,Heap.get?_push_size _ rfl⟩),rfl,q _ I.fresh⟩
theorem bh(hc:X.calm=true):CallR X (.type "list") (λxs H Q=>∃p n,xs=[.ref p]/\H p=some (.rng 0 (n:Nat))/\n<=1000/\∀l,H l=none->Q (.ref l) (upd H l (.lst ((List.range n).map λ(i:Nat)=>V.int (i:Int))))):=by
 intro pins s σ H xs us Q I r h
 obtain⟨p,n,rfl,hq,hn,q⟩:=h
 obtain⟨u,rfl,rx⟩:=vals1 r
 cases(show u=Value.ref p from rx)
 obtain⟨t,t2,t3,hr⟩:=I.hok p _ hq
 have hs:Builtin.Range.rangeSize 0 (n:Int) 1=(n:Int):=by rw[rangeSize_one];split <;> omega
 have hsm:Builtin.Range.small 0 (n:Int) 1=true:=small_one (by decide) (by decide) (by omega) (by omega)
 refine call_list_range (I.ok.hd hc) hr hsm hs (by omega) λh' tk acc' c' hk hS hacc=>?_
 refine⟨.ref s.heap.objs.size,_,I.laid hk (Nat.le_refl _) (show ObjOk X.prog X.w _ _ _ (.lst _)from⟨?_,acc'.toList,c',?_,?_⟩),rfl,q _ I.fresh⟩
 ·rw[List.length_map,List.length_range];exact Nat.le_of_lt (small1000 hn)
 ·refine jD (by rw[List.length_map,List.length_range,Array.length_toList,hacc.1]) λi v u h1 h2=>?_
  rw[List.getElem?_map]at h1
  have hi:i<n:=by
   by_cases z:i<n
   ·exact z
   ·rw[List.getElem?_eq_none (by simpa using z)]at h1;cases h1
  rw[List.getElem?_range hi]at h1
  cases h1
  obtain⟨t',e⟩:=hacc.2 i u (by rw[<-h2];simp)
  rw[e]
  exact⟨t',by simp⟩
 ·simpa using hS
theorem iN{pins:List (Addr×Obj)}{σ:St}{H:Hp}{s:Shared}{A:Around}{E:Value->Shared->Prop}{Q:Value->Shared->Prop}{tp:Addr}{dd:Option Addr}{its:List Value}{n:Nat}{sl:Array (Option Value)}{b:Bool}{x:V}{u:Value}{t:String}(I:Inv X pins σ H s)(rx:RelV x u)(ty:tyOf X.K H x t)
  (htp:s.heap.get? tp=some ⟨.type "tuple",dd,.seq its.toArray n,sl⟩)(e:PySem.W.kitAny X.K (.type t) its=some b)(h:∀tk,Q (.bool b) {s with toks:=tk}):wpAny (model X.prog X.w) A (call (.builtin "isinstance") [u,.ref tp]) Q E s:=by
 cases x with
 | non=>cases(show u=Value.none from rx);cases(show t="NoneType"from ty);exact PySem.W.kia_tup PySem.W.kitx_none I.kIn True.intro htp e (λz=>nomatch z) h
 | bl y=>cases(show u=Value.bool y from rx);cases(show t="bool"from ty);exact PySem.W.kia_tup PySem.W.kitx_bool I.kIn True.intro htp e (λz=>nomatch z) h
 | int i=>obtain⟨tk,q⟩:=(show ∃t,u=Value.int i t from rx);cases q;cases(show t="int"from ty);exact PySem.W.kia_tup PySem.W.kitx_int I.kIn True.intro htp e (λz=>nomatch z) h
 | str y=>obtain⟨tk,q⟩:=(show ∃t,u=Value.str y t from rx);cases q;cases(show t="str"from ty);exact PySem.W.kia_tup PySem.W.kitx_str I.kIn True.intro htp e (λz=>nomatch z) h
 | ref a=>
  cases(show u=Value.ref a from rx)
  rcases ty with⟨rfl,xs,hq⟩|⟨rfl,xs,hq⟩
  ·obtain⟨its',_,⟨o,n',h1,h2,_⟩,_⟩:=I.list hq
   exact PySem.W.kia_tup PySem.W.kitx_list I.kIn ⟨o,h1,h2⟩ htp e (λz=>nomatch z) h
  ·obtain⟨its',_,⟨o,h1,h2,_⟩,_⟩:=I.tuple hq
   exact PySem.W.kia_tup PySem.W.kitx_tuple I.kIn ⟨o,h1,h2⟩ htp e (λz=>nomatch z) h
 | byt _=>exact ty.elim
 | flt _=>exact ty.elim
 | ty _=>exact ty.elim
theorem jg:CallR X (.builtin "isinstance") (λxs H Q=>∃x p t,xs=[x,.ref p]/\SqT X.K H p [.ty "list",.ty "tuple"]/\tyOf X.K H x t/\Q (.bl (isTy t "list"||isTy t "tuple")) H):=by
 intro pins s σ H xs us Q I r h
 obtain⟨x,p,t,rfl,hq,ty,q⟩:=h
 obtain⟨u,w',rfl,rx,rT⟩:=vals2 r
 cases(show w'=Value.ref p from rT)
 obtain⟨its,rv,⟨o,h1,h2,n,h3⟩,_⟩:=I.tuple hq
 have e:its=[Value.type "list",Value.type "tuple"]:=by
  cases rv with
  | cons r1 rs=>
   cases rs with
   | cons r2 rs=>
    cases rs
    cases(show _=Value.type "list"from r1)
    cases(show _=Value.type "tuple"from r2)
    rfl
 subst e
 obtain⟨oc,od,oda,osl⟩:=o
 dsimp only at h2 h3
 subst h2 h3
 refine iN I rx ty h1 (b:=isTy t "list"||isTy t "tuple") ?_ λtk=>⟨.bl _,H,I.tok tk,rfl,q⟩
 have k1:=jr (K:=X.K) (T:="list") (ee ty) (by decide)
 have k2:=jr (K:=X.K) (T:="tuple") (ee ty) (by decide)
 simp only[PySem.W.kitAny,k1,k2]
 cases isTy t "list" <;> cases isTy t "tuple" <;> rfl
end
end L2
namespace L2
open PySem PySem.Spec PyProof.Rows
mutual
theorem j4:∀(n:Nat) (d:PyData),okD n d=true->d.canLay0=true/\d.depth<=n
 | _,.none,_=>by simp[PyData.canLay0,PyData.depth]
 | _,.bool _,_=>by simp[PyData.canLay0,PyData.depth]
 | _,.int _,_=>by simp[PyData.canLay0,PyData.depth]
 | n,.str x,h=>by
  have h':SeqAt.shaped (.str x)=true:=by cases n <;> simpa [okD]using h
  exact⟨SeqAt.canLay_of_shaped h',by simp[PyData.depth]⟩
 | n+1,.tuple ds,h=>by
  have:=fS n ds (by simpa [okD]using h)
  simp[PyData.canLay0,PyData.depth,this]
 | n+1,.list ds,h=>by
  have:=fS n ds (by simpa [okD]using h)
  simp[PyData.canLay0,PyData.depth,this]
 | 0,.tuple _,h=>by simp[okD]at h
 | 0,.list _,h=>by simp[okD]at h
 | 0,.dict _,h=>by simp[okD]at h
 | _+1,.dict _,h=>by simp[okD]at h
theorem fS:∀(n:Nat) (ds:List PyData),(∀d∈ds,okD n d=true)->PyData.canLayAll0 ds=true/\PyData.depthAll ds<=n
 | n,[],_=>by simp[PyData.canLayAll0,PyData.depthAll]
 | n,d::ds,h=>by
  have h1:=j4 n d (h d List.mem_cons_self)
  have h2:=fS n ds λx hx=>h x (List.mem_cons_of_mem _ hx)
  simp only[PyData.canLayAll0,PyData.depthAll,h1.1,h2.1,Bool.and_self,true_and]
  omega
end
theorem aR{n:Nat}{d:PyData}(h:okD n d=true)(hn:n<=64):SeqAt.shaped d=true:=by
 have:=j4 n d h
 unfold SeqAt.shaped
 rw[this.1]
 simp
 omega
theorem dN:∀a b:List Int,PyData.eqvAll (a.map PyData.int) (b.map PyData.int)=decide (a=b)
 | [],[]=>by simp[PyData.eqvAll]
 | [],_::_=>by simp[PyData.eqvAll]
 | _::_,[]=>by simp[PyData.eqvAll]
 | x::a,y::b=>by
  simp only[List.map_cons,PyData.eqvAll,PyData.eqv,dN a b]
  by_cases h1:x=y <;> by_cases h2:a=b <;> simp[h1,h2]
theorem ij(a b:List Int):PyData.eqv (.list (a.map PyData.int)) (.list (b.map PyData.int))=decide (a=b):=by
 rw[PyData.eqv,dN]
theorem tyOf.mono{K:PySem.W.Frag}{H H':Hp}{x:V}{t:String}(e:Same H H')(h:tyOf K H x t):tyOf K H' x t:=by
 cases x with
 | ref a=>
  rcases h with⟨h1,xs,hq⟩|⟨h1,xs,hq⟩
  ·exact .inl ⟨h1,xs,e.seq hq⟩
  ·exact .inr ⟨h1,xs,e.tup hq⟩
 | non=>exact h
 | bl _=>exact h
 | int _=>exact h
 | str _=>exact h
 | byt _=>exact h
 | flt _=>exact h
 | ty _=>exact h
theorem kO{X:Cx}{tg l:Expr}{tl:TE}(hl:PE X l tl):PI X tg l (λσ H R=>iList X.K tl σ H R\/iTup X.K tl σ H R):=by
 intro pins s σ H R I h
 rcases h with h|h
 ·exact aN hl pins s σ H R I h
 ·exact df hl pins s σ H R I h
end L2
namespace L2
open PySem PySem.Spec PyProof.Rows
section
variable{X:Cx}{K:PySem.W.Frag}
theorem bE(h:X.K=K):CallR X (.type "tuple") (λxs H Q=>∃p ys,xs=[.ref p]/\((SqL K H p ys/\∀l,H l=none->Q (.ref l) (upd H l (.tup ys)))\/(SqT K H p ys/\Q (.ref p) H))):=by subst h;exact cI
theorem fC(h:X.K=K):CallR X (.type "list") (λxs H Q=>∃p ys,xs=[.ref p]/\(SqL K H p ys\/SqT K H p ys)/\∀l,H l=none->Q (.ref l) (upd H l (.lst ys))):=by subst h;exact be
theorem dz(h:X.K=K):IxR X (rIxL K):=by subst h;exact aB
theorem da(h:X.K=K):IxR X (rIxT K):=by subst h;exact ax
theorem lh(h:X.K=K):IxR X (rIx K):=by subst h;exact j1
theorem fL(h:X.K=K):CallR X (.builtin "len") (λxs H Q=>∃p ys,xs=[.ref p]/\(SqL K H p ys\/SqT K H p ys)/\Q (.int ys.length) H):=by subst h;exact al
theorem iu(h:X.K=K):OpR X (compareOp .In) (rIn K false):=by subst h;exact gf
theorem kr{tg l:Expr}{tl:TE}(h:X.K=K)(hl:PE X l tl):PI X tg l (iList K tl):=by subst h;exact aN hl
theorem gJ{tg l:Expr}{tl:TE}(h:X.K=K)(hl:PE X l tl):PI X tg l (iTup K tl):=by subst h;exact df hl
end
end L2
namespace LM
def rng(n:Nat):List Int:=(List.range n).map Int.ofNat
theorem rng_len(n:Nat):(rng n).length=n:=by simp[rng]
theorem ja{n:Nat}{x:Int}:x∈rng n↔0<=x/\x<n:=by
 unfold rng
 simp only[List.mem_map,List.mem_range]
 constructor
 ·rintro⟨a,h,rfl⟩;simp;omega
 ·rintro⟨h0,h1⟩;exact⟨x.toNat,by omega,by simp;omega⟩
theorem iA(n:Nat):(rng n).Pairwise (· <= ·):=by
 unfold rng
 rw[List.pairwise_map]
 refine List.Pairwise.imp ?_ (List.pairwise_lt_range (n:=n))
 intro a b h
 simp
 omega
theorem jy(n:Nat):(rng n).Nodup:=by
 unfold rng
 rw[List.nodup_iff_pairwise_ne,List.pairwise_map]
 refine List.Pairwise.imp ?_ (List.pairwise_lt_range (n:=n))
 intro a b h z
 have:a=b:=Int.ofNat.inj z
 omega
theorem gT{a b r:List Int}(ha:a.Perm r)(hs:a.Pairwise (· <= ·))(hr:r.Pairwise (· <= ·)):a=r:=
 List.Perm.eq_of_pairwise (λx y _ _ h1 h2=>Int.le_antisymm h1 h2) hs hr ha
theorem sorted_iff{ns ns':List Int}{n:Nat}(hp:ns'.Perm ns)(hs:ns'.Pairwise (· <= ·)):ns'=rng n↔ns.Perm (rng n):=
 ⟨λe=>e▸hp.symm,λh=>gT (b:=[]) (hp.trans h) hs (iA n)⟩
end LM
namespace L2
open PySem PySem.Spec PyProof.Rows
def spListing(K:PySem.W.Frag):Sp:=λvs H Q _=>∃v t,vs=[v]/\tyOf K H v t/\∀H',Same H H'->Q (.bl (isTy t "list"||isTy t "tuple")) H'
def spPeople(K:PySem.W.Frag):Sp:=λvs H Q _=>∃a us,vs=[.ref a]/\(SqL K H a us\/SqT K H a us)/\∀H',Same H H'->Q (.bl (decide (1<=us.length/\us.length<=6))) H'
theorem SqL.over{K:PySem.W.Frag}{H:Hp}{a p:Addr}{o:HO}{xs:List V}(h:SqL K H a xs)(hne:a≠p):SqL K (upd H p o) a xs:=by
 rcases h with(h|⟨u,h⟩)|h
 ·exact .inl (.inl (by rw[az hne];exact h))
 ·exact .inl (.inr ⟨u,by rw[az hne];exact h⟩)
 ·exact .inr h
theorem eJ:∀(m:List Int) (j:Nat),(m.eraseIdx j).map V.int=(m.map V.int).eraseIdx j
 | [],_=>rfl
 | _::_,0=>rfl
 | x::m,j+1=>by simp[eJ m j]
end L2
namespace L2
open PySem PySem.Spec PyProof.Rows
theorem gh:∀{ns:List Int} {its:List Value},Vals (ns.map V.int) its->∃xs:List (Int×Tok),xs.map Prod.fst=ns/\its=xs.map λp=>Value.int p.1 p.2
 | [],_,.nil=>⟨[],rfl,rfl⟩
 | n::ns,_,.cons r rs=>by
  obtain⟨xs,h1,h2⟩:=gh rs
  obtain⟨t,rfl⟩:=(show ∃t,_=Value.int n t from r)
  exact⟨(n,t)::xs,by simp[h1],by simp[h2]⟩
theorem iO{xs:List (Int×Tok)}:intItems xs.toArray=(xs.map λp=>Value.int p.1 p.2).toArray:=by simp[intItems]
theorem iR{xs:List (Int×Tok)}{i:Nat}:numAt xs.toArray i=(xs.map Prod.fst).getD i 0:=by
 simp[numAt,List.getD_eq_getElem?_getD,List.getElem?_map]
theorem dD(ns:List Int):∀n,n<=ns.length->preSum (λi=>ns.getD i 0) n=(ns.take n).sum
 | 0,_=>rfl
 | n+1,h=>by
  rw[preSum,dD ns n (by omega),List.take_add_one,List.sum_append]
  simp[List.getElem?_eq_getElem (show n<ns.length by omega)]
section
variable{X:Cx}
theorem kF(hc:X.calm=true):CallR X (.builtin "sum") (λxs H Q=>∃(p:Addr) (ns:List Int),xs=[.ref p]/\SqL X.K H p (ns.map V.int)/\Q (.int ns.sum) H):=by
 intro pins s σ H xs us Q I r h
 obtain⟨p,ns,rfl,hq,q⟩:=h
 obtain⟨u,rfl,rx⟩:=vals1 r
 cases(show u=Value.ref p from rx)
 obtain⟨its,rv,pl,hz⟩:=I.list hq
 obtain⟨xs,e1,e2⟩:=gh rv
 subst e2
 refine sum_intListG (xs:=xs.toArray) (I.ok.hd hc) (by rw[iO];exact pl.isList) λh' tk t' hk=>?_
 have e:preSum (numAt xs.toArray) xs.toArray.size=ns.sum:=by
  have e3:numAt xs.toArray=λi=>ns.getD i 0:=by funext i;rw[iR,e1]
  have e4:xs.toArray.size=ns.length:=by rw[<-e1];simp
  rw[e3,e4,dD ns _ (Nat.le_refl _),List.take_length]
 rw[e]
 exact⟨.int ns.sum,H,I.kept hk,⟨_,rfl⟩,q⟩
end
end L2
namespace FQ
theorem red_neg_iff{x T:Int}(hT:0<T):(red x T).1<0↔x<0:=by
 have w:=red_worth (t:=x) (b:=T) (by omega)
 have p:=(red_low (t:=x) (b:=T) (by omega)).pos
 generalize red x T=r at w p
 constructor
 ·intro h
  have:r.1*T<0:=Int.mul_neg_of_neg_of_pos h hT
  rw[w]at this
  rcases Int.lt_or_le x 0 with z|z
  ·exact z
  ·exact absurd this (Int.not_lt.mpr (Int.mul_nonneg z (by omega)))
 ·intro h
  have:x*r.2<0:=Int.mul_neg_of_neg_of_pos h p
  rw[<-w]at this
  rcases Int.lt_or_le r.1 0 with z|z
  ·exact z
  ·exact absurd this (Int.not_lt.mpr (Int.mul_nonneg z (by omega)))
theorem red_gt_iff{x T:Int}(hT:0<T):(red x T).2<(red x T).1↔T<x:=by
 have w:=red_worth (t:=x) (b:=T) (by omega)
 have p:=(red_low (t:=x) (b:=T) (by omega)).pos
 generalize red x T=r at w p
 constructor
 ·intro h
  have h1:r.2*T<r.1*T:=Int.mul_lt_mul_of_pos_right h hT
  rw[w,Int.mul_comm r.2 T]at h1
  exact Int.lt_of_mul_lt_mul_right h1 (by omega)
 ·intro h
  have h1:T*r.2<x*r.2:=Int.mul_lt_mul_of_pos_right h p
  rw[<-w,Int.mul_comm T r.2]at h1
  exact Int.lt_of_mul_lt_mul_right h1 (by omega)
theorem red_one_iff{x T:Int}(hT:0<T):red x T=(1,1)↔x=T:=by
 constructor
 ·intro h
  have w:=red_worth (t:=x) (b:=T) (by omega)
  rw[h]at w
  simp at w
  omega
 ·intro h
  subst h
  exact red_eq_iff (by omega) ⟨by decide,by decide⟩ (by simp)
end FQ
namespace LM
structure OkT(Z:List (List Int))(T:Int):Prop where
 lo:1<=Z.length
 hi:Z.length<=6
 len:∀r∈Z,r.length=Z.length
 bd:∀r∈Z,∀x∈r,0<=x/\x<=T
 rs:∀r∈Z,r.sum=T
 cs:∀j,j<Z.length->(Z.map λr=>r.getD j 0).sum=T
def Bd(b:Nat)(m:List Int):Prop:=∀x∈m,x.natAbs<2^b
theorem Bd.sum{b:Nat}:∀{m:List Int},Bd b m->m.length<=60->m.sum.natAbs<2^(b+6):=by
 intro m h hl
 have key:∀l:List Int,Bd b l->l.sum.natAbs<=l.length*2^b:=by
  intro l hb
  induction l with
  | nil=>simp
  | cons x l ih=>
   have h1:=hb x List.mem_cons_self
   have h2:=ih λy hy=>hb y (List.mem_cons_of_mem _ hy)
   have h3:=Int.natAbs_add_le x l.sum
   rw[List.sum_cons,List.length_cons,Nat.add_mul]
   omega
 have h1:=key m h
 have h2:m.length*2^b<=60*2^b:=Nat.mul_le_mul_right _ hl
 have h3:2^(b+6)=64*2^b:=by rw[Nat.pow_add,Nat.mul_comm]
 have h4:0<2^b:=Nat.pow_pos (by decide)
 omega
theorem Bd.take{b:Nat}{m:List Int}(h:Bd b m)(n:Nat):Bd b (m.take n):=λx hx=>h x (List.mem_of_mem_take hx)
theorem Bd.getD{b:Nat}{m:List Int}(h:Bd b m)(i:Nat):(m.getD i 0).natAbs<2^b:=by
 by_cases hi:i<m.length
 ·have:m.getD i 0=m[i]:=by simp[hi]
  rw[this];exact h _ (List.getElem_mem hi)
 ·rw[List.getD_eq_getElem?_getD,List.getElem?_eq_none (by omega)];exact Nat.pow_pos (by decide)
end LM
namespace L2
open PySem PySem.Spec PyProof.Rows
def fr(T:Int)(m:List Int):List (Int×Int):=m.map λx=>FQ.red x T
def dFr(T:Int)(m:List Int):List PyData:=(fr T m).map dF
theorem ji(T:Int)(m:List Int):∀d∈dFr T m,okD 1 d=true:=by
 intro d hd
 obtain⟨p,_,rfl⟩:=List.mem_map.mp hd
 simp[dF,okD]
def RwF(K:PySem.W.Frag)(H:Hp)(T:Int)(v:V)(m:List Int):Prop:=∃a gs,v = .ref a/\(SqL K H a gs\/SqT K H a gs)/\Paired (IsF K H) gs (fr T m)
def RwFT(K:PySem.W.Frag)(H:Hp)(T:Int)(v:V)(m:List Int):Prop:=∃a gs,v = .ref a/\SqT K H a gs/\Paired (IsF K H) gs (fr T m)
theorem av{K:PySem.W.Frag}{H H':Hp}{gs:List V}{ps:List (Int×Int)}(e:Same H H')(h:Paired (IsF K H) gs ps):Paired (IsF K H') gs ps:=Paired.mapP h λ_ _ q=>q.mono e
theorem RwF.mono{K:PySem.W.Frag}{H H':Hp}{T:Int}{v:V}{m:List Int}(e:Same H H')(h:RwF K H T v m):RwF K H' T v m:=by
 obtain⟨a,gs,rfl,q,hg⟩:=h
 exact⟨a,gs,rfl,q.imp e.seq e.tup,av e hg⟩
theorem RwFT.mono{K:PySem.W.Frag}{H H':Hp}{T:Int}{v:V}{m:List Int}(e:Same H H')(h:RwFT K H T v m):RwFT K H' T v m:=by
 obtain⟨a,gs,rfl,q,hg⟩:=h
 exact⟨a,gs,rfl,e.tup q,av e hg⟩
theorem RwFT.rep{K:PySem.W.Frag}{H:Hp}{T:Int}{v:V}{m:List Int}(h:RwFT K H T v m)(hl:m.length<=1000):Rep K H v (.tuple (dFr T m)):=by
 obtain⟨a,gs,rfl,q,hg⟩:=h
 have:=Paired.len hg
 exact .tup q (Reps.of_fracs hg) (by rw[this,fr,List.length_map];exact hl)
theorem Reps.of_frows{K:PySem.W.Frag}{H:Hp}{T:Int}:∀{xs:List V} {Z:List (List Int)},Paired (RwFT K H T) xs Z->(∀r∈Z,r.length<=1000)->Reps K H xs (Z.map λm=> .tuple (dFr T m))
 | _,_,.nil,_=> .nil
 | _,_,.cons r t,h=> .cons (r.rep (h _ List.mem_cons_self)) (Reps.of_frows t λx hx=>h x (List.mem_cons_of_mem _ hx))
theorem k6(p:Int×Int):PyData.eqv (dF p) (dF (1,1))=decide (p=(1,1)):=by
 obtain⟨a,b⟩:=p
 simp only[dF,PyData.eqv,PyData.eqvAll]
 by_cases h1:a=1 <;> by_cases h2:b=1 <;> simp[h1,h2]
def spTotal(K:PySem.W.Frag):Sp:=λvs H Q _=>∃a gs m T,vs=[.ref a]/\(SqL K H a gs\/SqT K H a gs)/\Paired (IsF K H) gs (fr T m)/\(0<T/\T<2^80)/\LM.Bd 90 m/\m.length<=60/\∀v H',Same H H'->IsF K H' v (FQ.red m.sum T)->Q v H'
def spShare(K:PySem.W.Frag):Sp:=λvs H Q _=>∃v y T,vs=[v]/\IsF K H v (FQ.red y T)/\(0<T/\T<2^80)/\y.natAbs<2^90/\Q (.bl (decide (0<=y/\y<=T))) H
def spShareRow(K:PySem.W.Frag):Sp:=λvs H Q _=>∃v m T n,vs=[v,.int (n:Nat)]/\RwF K H T v m/\(0<T/\T<2^80)/\LM.Bd 90 m/\m.length<=60/\∀b H',Same H H'->(b=true↔m.length=n/\∀y∈m,0<=y/\y<=T)->Q (.bl b) H'
def spTableOf(K:PySem.W.Frag)(x:Xs):Sp:=λvs H Q E=>∃a us Z T,vs=[.ref a]/\SqL K H a us/\Paired (RwF K H T) us Z/\(0<T/\T<2^80)/\Z.length<=60/\(∀r∈Z,LM.Bd 90 r/\r.length<=60)/\(¬LM.OkT Z T->∀H',Same H H'->E (.ref x.NoTable) none H')/\
 (LM.OkT Z T->∀p gs H',Same H H'->H p=none->H' p=some (.lst gs)->Paired (RwFT K H' T) gs Z->Q (.ref p) H')
end L2
namespace LN
open LM
def m1(c p:Int):Int:=(c%2147483629*16807+69621*p+11)%2147483629
def m2(n p:Int):Int:=(n*n+48271*p+7)%2147483629
def m3(n:Int):Int:=(n*n+69621)%2147483587
def mixed(c p:Int):Int:=m3 (m2 (m1 c p) p)
theorem m1_bd(c p:Int):0<=m1 c p/\m1 c p<2147483629:=⟨Int.emod_nonneg _ (by decide),Int.emod_lt_of_pos _ (by decide)⟩
theorem m2_bd(c p:Int):0<=m2 c p/\m2 c p<2147483629:=⟨Int.emod_nonneg _ (by decide),Int.emod_lt_of_pos _ (by decide)⟩
def ordGo(n:Nat)(num:Int):Nat->List Int×List Int×Int
 | 0=>([],rng n,num)
 | k+1=>
  let p:=ordGo n num k
  (p.1++[p.2.1.getD (p.2.2%p.2.1.length).toNat 0],p.2.1.eraseIdx (p.2.2%p.2.1.length).toNat,p.2.2/6)
def order(num:Int)(n:Nat):List Int:=(ordGo n num n).1
theorem fw:∀{l:List Int} {i:Nat},i<l.length->(l.getD i 0::l.eraseIdx i).Perm l
 | x::l,0,_=>by simp
 | x::l,i+1,h=>by
  have ih:=fw (l:=l) (i:=i) (by simpa using h)
  rw[List.getD_cons_succ,List.eraseIdx_cons_succ]
  exact(List.Perm.swap x (l.getD i 0) _).trans (List.Perm.cons x ih)
theorem ordGo_ok(n:Nat)(num:Int):∀k,k<=n->((ordGo n num k).1++(ordGo n num k).2.1).Perm (rng n)/\(ordGo n num k).1.length=k/\(ordGo n num k).2.1.length=n-k
 | 0,_=>by simp[ordGo,rng_len]
 | k+1,h=>by
  obtain⟨ih,h1,h2⟩:=ordGo_ok n num k (by omega)
  have hl:((ordGo n num k).2.2%(ordGo n num k).2.1.length).toNat<(ordGo n num k).2.1.length:=by
   have b0:=Int.emod_nonneg (ordGo n num k).2.2 (show((ordGo n num k).2.1.length:Int)≠0 by omega)
   have b1:=Int.emod_lt_of_pos (ordGo n num k).2.2 (show(0:Int)<((ordGo n num k).2.1.length:Int)by omega)
   omega
  refine⟨?_,?_,?_⟩
  ·show(((ordGo n num k).1++[_])++_).Perm _
   rw[List.append_assoc]
   exact(List.Perm.append_left _ (fw hl)).trans ih
  ·show((ordGo n num k).1++[_]).length=_
   rw[List.length_append,h1];rfl
  ·show(List.eraseIdx _ _).length=_
   rw[List.length_eraseIdx,if_pos hl,h2]
   omega
def Pm(n:Nat)(l:List Int):Prop:=l.Perm (rng n)
theorem order_pm(num:Int)(n:Nat):Pm n (order num n):=by
 obtain⟨h,h1,h2⟩:=ordGo_ok n num n (Nat.le_refl _)
 have e:(ordGo n num n).2.1=[]:=List.eq_nil_of_length_eq_zero (by omega)
 rw[e,List.append_nil]at h
 exact h
theorem Pm.len{n:Nat}{l:List Int}(h:Pm n l):l.length=n:=by rw[List.Perm.length_eq h,rng_len]
theorem Pm.mem{n:Nat}{l:List Int}(h:Pm n l){x:Int}:x∈l↔0<=x/\x<n:=by rw[List.Perm.mem_iff h];exact ja
theorem Pm.nodup{n:Nat}{l:List Int}(h:Pm n l):l.Nodup:=(List.Perm.nodup_iff h).mpr (jy n)
def wishGo(ns:List Int)(at':Int)(n:Nat):Nat->List (List Int)
 | 0=>[]
 | k+1=>wishGo ns at' n k++[if 0<k/\cellAt ns (at'+k)%4=1 then(wishGo ns at' n k).getD (cellAt ns (at'+k)/4%k).toNat []else order (mixed (cellAt ns (at'+k)) k) n]
theorem wishGo_len(ns:List Int)(at':Int)(n:Nat):∀k,(wishGo ns at' n k).length=k
 | 0=>rfl
 | k+1=>by rw[wishGo,List.length_append,wishGo_len];rfl
theorem dJ(ns:List Int)(at':Int)(n:Nat):∀k,∀w∈wishGo ns at' n k,Pm n w
 | 0,w,h=>by cases h
 | k+1,w,h=>by
  rw[wishGo]at h
  rcases List.mem_append.mp h with z|z
  ·exact dJ ns at' n k w z
  ·rw[List.mem_singleton.mp z]
   split
   ·rename_i c
    have b0:=Int.emod_nonneg (cellAt ns (at'+k)/4) (show(k:Int)≠0 by omega)
    have b1:=Int.emod_lt_of_pos (cellAt ns (at'+k)/4) (show(0:Int)<k by omega)
    have hl:(cellAt ns (at'+k)/4%k).toNat<(wishGo ns at' n k).length:=by rw[wishGo_len];omega
    rw[List.getD_eq_getElem?_getD,List.getElem?_eq_getElem hl]
    exact dJ ns at' n k _ (List.getElem_mem hl)
   ·exact order_pm _ _
def wishes(ns:List Int)(at':Int)(n:Nat):List (List Int):=wishGo ns at' n n
theorem wishes_len(ns:List Int)(at':Int)(n:Nat):(wishes ns at' n).length=n:=wishGo_len ns at' n n
theorem wishes_pm{ns:List Int}{at':Int}{n:Nat}{w:List Int}(h:w∈wishes ns at' n):Pm n w:=dJ ns at' n n w h
def deals(f:Int):Int:=if f/54%8=1 then 9+f/432%17 else f/6%9
theorem deals_bd(f:Int):0<=deals f/\deals f<=25:=by
 unfold deals
 split <;> omega
def sizes:List Int:=[2,7,60,1000000000000]
def size(x:Int):Int:=sizes.getD (x%4).toNat 0
theorem size_bd(x:Int):0<size x/\size x<=1000000000000:=by
 have h:x%4=0\/x%4=1\/x%4=2\/x%4=3:=by omega
 unfold size
 rcases h with e|e|e|e <;> rw[e] <;> decide
def tabGo(ns:List Int)(at':Int)(n:Nat)(sz:Int):Nat->List (List Int)×Int
 | 0=>(List.replicate n (List.replicate n 0),0)
 | k+1=>
  (addDeal (tabGo ns at' n sz k).1 (order (mixed (cellAt ns (at'+1+k)) (20+k)) n) (1+cellAt ns (at'+1+k)/5%sz),(tabGo ns at' n sz k).2+(1+cellAt ns (at'+1+k)/5%sz))
theorem tabGo_ok{ns:List Int}{at':Int}{n:Nat}{sz:Int}(h0:0<sz)(h1:sz<=1000000000000):∀k,SumsOk n (tabGo ns at' n sz k).1 (tabGo ns at' n sz k).2/\(k:Int)<=(tabGo ns at' n sz k).2/\(tabGo ns at' n sz k).2<=k*1000000000000
 | 0=>by
  refine⟨⟨by simp[tabGo],λr hr=>?_,λr hr x hx=>?_,λr hr=>?_⟩,by simp[tabGo],by simp[tabGo]⟩
  ·rw[(List.mem_replicate.mp hr).2];simp
  ·rw[(List.mem_replicate.mp hr).2]at hx
   rw[(List.mem_replicate.mp hx).2]
   exact Int.le_refl _
  ·rw[(List.mem_replicate.mp hr).2];simp[tabGo]
 | k+1=>by
  obtain⟨ih,a,b⟩:=tabGo_ok (ns:=ns) (at':=at') (n:=n) h0 h1 k
  have p:=order_pm (mixed (cellAt ns (at'+1+k)) (20+k)) n
  have b0:=Int.emod_nonneg (cellAt ns (at'+1+k)/5) (show sz≠0 by omega)
  have b1:=Int.emod_lt_of_pos (cellAt ns (at'+1+k)/5) h0
  refine⟨iM ih (by omega) p.len λt ht=>p.mem.mp ht,?_,?_⟩
  ·show((k+1:Nat):Int)<=(tabGo ns at' n sz k).2+_
   omega
  ·show(tabGo ns at' n sz k).2+_<=((k+1:Nat):Int)*1000000000000
   omega
def table(ns:List Int)(at':Int)(many:Nat)(n:Nat):List (List Int)×Int:=tabGo ns at' n (size (mixed (cellAt ns at') 40)) (1+many)
theorem table_ok(ns:List Int)(at':Int){many:Nat}(n:Nat)(h:many<=25):SumsOk n (table ns at' many n).1 (table ns at' many n).2/\0<(table ns at' many n).2/\(table ns at' many n).2<2^80:=by
 have b:=size_bd (mixed (cellAt ns at') 40)
 obtain⟨h1,h2,h3⟩:=tabGo_ok (ns:=ns) (at':=at') (n:=n) b.1 b.2 (1+many)
 refine⟨h1,?_,?_⟩
 ·show 0<(tabGo ns at' n (size (mixed (cellAt ns at') 40)) (1+many)).2
  omega
 ·show(tabGo ns at' n (size (mixed (cellAt ns at') 40)) (1+many)).2<2^80
  omega
theorem findSome_snoc{α:Type}{f:Nat->Option α}{i:Nat}(h:(List.range i).findSome? f=none):(List.range (i+1)).findSome? f=f i:=by
 rw[List.range_succ,List.findSome?_append,h]
 simp
theorem findSome_up{α:Type}{f:Nat->Option α}{i n:Nat}{r:α}(h:(List.range i).findSome? f=some r)(hn:i<=n):(List.range n).findSome? f=some r:=by
 have e:List.range n=List.range i++(List.range (n-i)).map (i + ·):=by
  rw[<-List.range_add]
  congr 1
  omega
 rw[e,List.findSome?_append,h]
 rfl
end LN
namespace L2
open PySem PySem.Spec PyProof.Rows
section
variable{X:Cx}{pins:List (Addr×Obj)}{σ:St}{H:Hp}{s:Shared}{h':Heap}
theorem Inv.turnedL{t':Nat}{fp:List Addr}(I:Inv X pins σ H s)(k:∀b o,b∉fp->s.heap.get? b=some o->h'.get? b=some o)(hf:∀b∈fp,FpOk X pins H b):Inv X pins σ H {s with heap:=h',toks:=t'}:=by
 have nit:∀b u,H b=some u->b∉fp:=λb u e z=>by rw[(hf b z).1]at e;cases e
 refine I.step (g':=s.gens) (d':=s.drawn) (ch:=fp) (λb hb=>?_) (λb o _ _ hc e _=>k b o hc e) (λb o _ _ hc e _=>⟨o.slots,k b o hc e⟩) (λ_ _ _ _ n=>n)
  (λb o hc e=>⟨o,k b o hc e⟩) (λ_ _ e=>e) (λ_ _ _ e=>e) (λb ps e=>⟨#[],by rw[e];simp⟩) (λm hm=>?_) (λb u e=>?_) I.bare
 ·obtain⟨f0,f1,f2,f3,f4,f5⟩:=hf b hb
  exact⟨f3,f1,f4,f5⟩
 ·obtain⟨o,es,ep,ho,r⟩:=hm
  exact⟨o,es,ep,k _ o (λz=>(hf _ z).2.1 rfl) ho,r⟩
 ·refine(I.hok b u e).stay (λc v hc q=>k c v ?_ q) (λ_ q=>q) λ_ _ q=>q
  rcases hc with z|z
  ·rw[z];exact nit b u e
  ·exact nit c _ z
theorem bL{h:Heap}{o u:Obj}{b:Addr}(e:(h.push o).get? b=some u)(ho:o.isFreed=false):h.get? b=some u\/(b=h.objs.size/\u=o):=by
 rcases Nat.lt_trichotomy b h.objs.size with q|q|q
 ·left
  cases hb:h.get? b with
  | some u'=>rw[Heap.get?_push_of_some _ hb]at e;exact e
  | none=>
   exfalso
   unfold Heap.get? at hb e
   unfold Heap.push at e
   simp only[Array.getElem?_push]at e
   rw[if_neg (by omega)]at e
   rw[hb]at e
   cases e
 ·right
  subst q
  rw[Heap.get?_push_size _ ho]at e
  cases e
  exact⟨rfl,rfl⟩
 ·exfalso
  have e2:(h.push o).objs.size=h.objs.size+1:=by unfold Heap.push;simp
  have e3:b<h.objs.size+1:=by rw[<-e2];exact Heap.lt_size e
  exact Nat.lt_irrefl _ (Nat.lt_of_lt_of_le q (Nat.le_of_lt_succ e3))
def Ite(K:PySem.W.Frag)(a:Addr):It:=
 ⟨λi H=>∃xs x,SqL K H a xs/\xs[i]?=some x,λi H x H'=>∃y t,(∀xs,SqL K H a xs->xs[i]?=some y)/\x = .ref t/\H t=none/\H'=upd H t (.tup [.int i,y]),λi H=>∃xs,SqL K H a xs/\xs.length<=i⟩
theorem j3{P:Program}{w:World}{K:PySem.W.Frag}{elts:List Expr}{x1:Nat}{pos:Pos}(a it e:Addr)(hne:e≠it):Turn P w K (.Tuple elts x1 pos) (Ite K a) [e,it] e (λi h=>(∃old,IsEnum h e it i old)/\h.IsListIter it a i) where
 mem:=by simp
 obj:=λi h st b hb=>by
  obtain⟨⟨old,s1⟩,o,s2,c,d⟩:=st
  rcases List.mem_cons.mp hb with z|z
  ·subst z
   exact⟨_,s1,λv z=>by cases z⟩
  ·have e:=List.mem_singleton.mp z
   subst e
   exact⟨o,s2,λv z=>by rw[d]at z;cases z⟩
 keep:=λi h h' st k=>by
  obtain⟨⟨old,s1⟩,s2⟩:=st
  exact⟨⟨old,k e (by simp) _ s1⟩,s2.at λo q=>k it (by simp) o q⟩
 item:=by
  intro X hP hw hK hc i pins s σ H E I hf st hg
  subst hP hw hK
  obtain⟨xs,x,hq,hx⟩:=hg
  obtain⟨its,rv,p,hz⟩:=I.list hq
  obtain⟨u,hu,ru⟩:=rv.get hx
  obtain⟨⟨old,s1⟩,s2⟩:=st
  refine wpAny_pyNext_enum_item s1 s2 p.isList (x:=u) (by simpa using hu) hne λh' so si ht hsz kk=>?_
  have lt:∀b o,s.heap.get? b=some o->b≠s.heap.objs.size:=λb o q=>Nat.ne_of_lt (Heap.lt_size q)
  have le:e≠s.heap.objs.size:=lt _ _ s1
  have li:it≠s.heap.objs.size:=by obtain⟨o,q,_⟩:=s2;exact lt _ _ q
  have hn:H s.heap.objs.size=none:=I.hok.fresh (Nat.le_refl _)
  have I0:Inv X pins σ (upd H s.heap.objs.size (.tup [.int i,x])) {s with heap:=s.heap.push {cls:= .type "tuple",data:= .seq #[.int i s.toks,u]},toks:=s.toks}:=
   I.laid (t':=s.toks) (λb o q=>Heap.get?_push_of_some _ q) (Nat.le_refl _) ⟨by show 2<=sizeLine;decide,[.int i s.toks,u],.cons ⟨_,rfl⟩ (.cons ru .nil),⟨_,Heap.get?_push_size _ rfl,rfl,_,rfl⟩⟩
  have hf':∀b∈[e,it],FpOk X pins (upd H s.heap.objs.size (.tup [.int i,x])) b:=λb hb=>by
   have q:=hf b hb
   refine⟨?_,q.2⟩
   have hb':b≠s.heap.objs.size:=by
    rcases List.mem_cons.mp hb with z|z
    ·rw[z];exact le
    ·rw[List.mem_singleton.mp z];exact li
   rw[az hb']
   exact q.1
  have I1:Inv X pins σ (upd H s.heap.objs.size (.tup [.int i,x])) {s with heap:=h',toks:=s.toks+1}:=
   Inv.turnedL (s:={s with heap:=s.heap.push {cls:= .type "tuple",data:= .seq #[.int i s.toks,u]},toks:=s.toks}) I0 (fp:=[e,it]) (t':=s.toks+1) (λb o hb q=>by
    rcases bL q rfl with q|⟨rfl,rfl⟩
    ·exact kk b o (λz=>hb (by simp[z])) (λz=>hb (by simp[z])) q
    ·exact ht) hf'
  refine⟨_,rfl,wpAny_letOwnedTupleGo_enum (s:={s with heap:=h',toks:=s.toks+1}) so λh2 se sb=>?_⟩
  have I2:Inv X pins σ (upd H s.heap.objs.size (.tup [.int i,x])) {s with heap:=h2,toks:=s.toks+1}:=
   Inv.turnedL (s:={s with heap:=h',toks:=s.toks+1}) I1 (fp:=[e,it]) (t':=s.toks+1) (λb o hb q=>(sb.2 b (λz=>hb (by simp[z]))).trans q) hf'
  refine⟨.ref s.heap.objs.size,_,I2,rfl,⟨x,_,λys hy=>by rw[I.list_inj hy hq];exact hx,rfl,hn,rfl⟩,⟨⟨_,se⟩,si.at λo q=>(sb.2 it (Ne.symm hne)).trans q⟩,λb hb=>(hf' b hb).1⟩
 done:=by
  intro X hP hw hK hc i pins s σ H E I hf st hg
  subst hP hw hK
  obtain⟨xs,hq,hx⟩:=hg
  obtain⟨its,rv,p,hz⟩:=I.list hq
  obtain⟨⟨old,s1⟩,s2⟩:=st
  have hl:=rv.length
  exact wpAny_pyNext_enum_end (I.ok.hd hc) s1 s2 p.isList (by simp;omega) λh' eb=>⟨rfl,I.turnedL (fp:=[e,it]) (t':=s.toks) (λb o hb q=>eb b o (λz=>hb (by simp[z])) q) hf⟩
 self:=λ_ _ _ _ _ st h=>by
  obtain⟨⟨old,s1⟩,s2⟩:=st
  exact wpAny_pyIter_enum s1 h
def iEnum(K:PySem.W.Frag)(ta:TA):TI:=λσ H R=>ta σ H λvs H1=>∃a,vs=[.ref a]/\(∃xs,SqL K H1 a xs)/\R (Ite K a) H1
theorem jh{elts:List Expr}{x1:Nat}{tpos:Pos}{a:Expr}{ta:TA}{p pos:Pos}(hg:Gl X "enumerate")(hm:X.mg "enumerate"=none)(ha:PA X [a] ta)(hs:starEach [a] X.env=[(false,eval a X.env)]:=by rfl):
  PI X (.Tuple elts x1 tpos) (.Call (.Name "enumerate" p) [a] [] pos) (iEnum X.K ta):=by
 intro pins s σ H R I h
 refine Call_ (bS I hg hm PyProof.Rows.boot_enumerate (PyProof.Rows.callWith_type1 (thn (ha pos pins s σ H _ I h) λus s1 ⟨vs,H1,I1,r1,q1⟩=>?_) hs rfl))
 obtain⟨l,e,⟨xs,hq⟩,q⟩:=q1
 subst e
 cases r1 with
 | cons r rr=>
  cases rr
  cases r
  obtain⟨its,rv,pl,hz⟩:=I1.list hq
  refine call_enumerate_list pl.isList λh' se si hsz kk=>?_
  refine wpAny_pyIter_enum (s:={s1 with heap:=h'}) se ?_
  have I2:Inv X pins σ H1 {s1 with heap:=h'}:=I1.kept (t':=s1.toks) kk
  refine⟨_,[s1.heap.objs.size+1,s1.heap.objs.size],_,_,H1,rfl,I2,j3 l _ _ (Nat.succ_ne_self _),⟨⟨_,se⟩,si⟩,λb hb=>?_,q⟩
  rcases List.mem_cons.mp hb with z|z
  ·subst z
   exact I1.fpOk (Nat.le_succ _) (I1.hok.fresh (Nat.le_succ _))
  ·rw[List.mem_singleton.mp z]
   exact I1.fpOk (Nat.le_refl _) (I1.hok.fresh (Nat.le_refl _))
end
section
variable{X:Cx}{K:PySem.W.Frag}
theorem eh{es:List Expr}{k:Nat}{pos:Pos}{t:TGs}(hK:X.K=K)(n:Nat)(hc:X.calm=true)(h:PGs X es t)(hn:(assignEach es X.env).length=n:=by rfl)(hst:(assignEach es X.env).findIdx? (·.1)=none:=by rfl):
  PG X (.Tuple es k pos) (gTup K n t):=by subst hK;exact de hc h hn hst
theorem k8{T:String}{name:Str}{id:String}{r:V->List V->Hp->VK->Prop}{o e:Expr}{es:List Expr}{apos cpos:Pos}{to:TE}{t:TA}(hK:X.K=K)(pa:PlainAttrs T)(slot:Slot T name id)(hty:typeOf (.builtin id)=pure (.type "method_descriptor"))(hm:MtR X id r)(ho:PE X o to)(ha:PA X (e::es) t)
  (hbase:attributeBase o name X.env (eval o X.env)=eval o X.env:=by rfl)
  (hfew:((backTo cpos (starEach (e::es) X.env)).all (λx=>!x.1)&&(backToKw cpos (keywordEach [] X.env)).all (λx=>x.1.isSome)
   && decide ((e::es).length+([]:List Keyword).length+(if([]:List Keyword).isEmpty then 0 else 1)<30))=true:=by rfl)
  (hline:(apos.endLine==cpos.line)=true:=by rfl)(hs:starEach (e::es) X.env=(false,eval e X.env)::starEach es X.env:=by rfl)(hplain:(backTo cpos (starEach es X.env)).any (·.1)=false:=by rfl):
  PE X (.Call (.Attribute o name apos) (e::es) [] cpos) (tBM K T r to t):=by subst hK;exact cW pa slot hty hm ho ha hbase hfew hline hs hplain
end
theorem g8{K:PySem.W.Frag}{a:Addr}{xs:List V}{g:TG}{tb:TS}{D:Ends}{σ:St}{H:Hp}(Pv:Nat->St->Hp->Prop)(h0:Pv 0 σ H)(hl:∀i σ H,i<=xs.length->Pv i σ H->SqL K H a xs)
  (hs:∀i x σ H t,xs[i]?=some x->H t=none->Pv i σ H->g (.ref t) σ (upd H t (.tup [.int i,x])) λσ2 H2=>tb {D with nx:=Pv (i+1),ct:=Pv (i+1),bk:=D.nx} σ2 H2)(hd:∀σ H,Pv xs.length σ H->D.nx σ H):
  ∃W:Nat->Nat->St->Hp->Prop,(∃m,W 0 m σ H)/\∀i m σ H,W i m σ H->
   ((Ite K a).stop i H/\D.nx σ H)\/((Ite K a).go i H/\∃N:St->Hp->Prop,(∀σ' H',N σ' H'->∃m',m'<m/\W (i+1) m' σ' H')/\∀x H',(Ite K a).yld i H x H'->g x σ H' λσ2 H2=>tb {D with nx:=N,ct:=N,bk:=D.nx} σ2 H2):=by
 refine⟨λi m σ H=>m=xs.length-i/\i<=xs.length/\Pv i σ H,⟨xs.length,by simp,Nat.zero_le _,h0⟩,?_⟩
 rintro i m σ H ⟨rfl,hi,p⟩
 have q:=hl i σ H hi p
 by_cases hlt:i<xs.length
 ·refine .inr ⟨⟨xs,xs[i],q,by simp[hlt]⟩,Pv (i+1),λσ' H' p'=>⟨xs.length-(i+1),by omega,rfl,hlt,p'⟩,λx H' y=>?_⟩
  obtain⟨y,t,h1,rfl,h3,rfl⟩:=y
  exact hs i y σ H t (h1 xs q) h3 p
 ·have e:i=xs.length:=by omega
  subst e
  exact .inl ⟨⟨xs,q,Nat.le_refl _⟩,hd σ H p⟩
end L2
namespace L2
open PySem PySem.Spec PyProof.Rows
def IsR(K:PySem.W.Frag)(H:Hp)(v:V)(row:List Int):Prop:=∃a,v = .ref a/\SqT K H a (row.map V.int)
theorem IsR.mono{K:PySem.W.Frag}{H H':Hp}{v:V}{row:List Int}(e:Same H H')(h:IsR K H v row):IsR K H' v row:=by
 obtain⟨a,rfl,q⟩:=h
 exact⟨a,rfl,e.tup q⟩
theorem hV{i:Int}{n:Nat}(h0:0<=i)(h1:i<n):seqIndex? i n=some i.toNat:=PySem.StrLaws.seqIndex_nonneg h0 h1
theorem lK(x:Int):atI [V.int 2,V.int 7,V.int 60,V.int (10^(12:Int).toNat)] (x%4)=some (.int (LN.size x)):=by
 have e:(10:Int)^(12:Int).toNat=1000000000000:=by decide
 rw[e]
 have h:x%4=0\/x%4=1\/x%4=2\/x%4=3:=by omega
 unfold LN.size
 rcases h with e|e|e|e <;> rw[e] <;> rfl
theorem fq{H:Hp}{rs:List Addr}{M:List (List Int)}{p:Addr}(h:Paired (λr (m:List Int)=>H r=some (.lst (m.map V.int))) rs M)(hp:H p=none):p∉rs:=λz=>by
 obtain⟨i',hi',e⟩:=List.mem_iff_getElem.mp z
 obtain⟨r',h1,h2⟩:=Paired.get' h (show rs[i']?=some p by rw[List.getElem?_eq_getElem hi',e])
 rw[hp]at h2;cases h2
def spMixN:Sp:=λvs H Q _=>∃c p:Int,vs=[.int c,.int p]/\Q (.int (LN.mixed c p)) H
def spDeals:Sp:=λvs H Q _=>∃f:Int,vs=[.int f]/\Q (.int (LN.deals f)) H
def spTableN(K:PySem.W.Frag):Sp:=λvs H Q _=>∃(a:Addr) (ns:List Int) (at':Int) (many n:Nat),vs=[.ref a,.int at',.int many,.int n]/\SqL K H a (ns.map V.int)/\0<=at'/\many<=25/\1<=n/\n<=6/\
 ∀p us H',Same H H'->H p=none->H' p=some (.lst us)->Paired (RwFT K H' (LN.table ns at' many n).2) us (LN.table ns at' many n).1->Q (.ref p) H'
def sp2P(f:(Int×Int)->(Int×Int)->(Int×Int))(K:PySem.W.Frag):Sp:=λvs H Q _=>∃a b x y,vs=[.ref a,.ref b]/\SqT K H a [.int x.1,.int x.2]/\SqT K H b [.int y.1,.int y.2]/\Sz 4000 x/\Sz 4000 y/\0<x.2/\0<y.2/\
 ∀p H',Same H H'->H' p=some (tupF (f x y))->Q (.ref p) H'
def spPfxL(K:PySem.W.Frag):Sp:=λvs H Q _=>∃(a b:Addr) (ws:List Int) (ss:List V) (row:List Int) (T:Int),vs=[.ref a,.ref b]/\SqT K H a (ws.map V.int)/\SqT K H b ss/\
 Paired (IsF K H) ss (row.map λx=>FQ.red x T)/\(0<T/\T<2^80)/\(∀x∈row,0<=x/\x<=T)/\(∀w∈ws,0<=w/\w<row.length)/\ws.length<=63/\
 ∀p gs H',Same H H'->H p=none->H' p=some (.lst gs)->Paired (IsF K H') gs ((List.range ws.length).map λi=>FQ.red (accs row ws (i+1)) T)->Q (.ref p) H'
def lessF(x y:Int×Int):Bool:=decide (x.1*y.2<y.1*x.2)
def pfx(T:Int)(row ws:List Int):List (Int×Int):=(List.range ws.length).map λi=>FQ.red (accs row ws (i+1)) T
theorem kT{T:Int}{row ws:List Int}(hT:0<T/\T<2^80)(hrow:∀x∈row,0<=x/\x<=T)(hl:ws.length<=63):∀x∈pfx T row ws,Sz 4000 x/\0<x.2:=by
 intro x hx
 unfold pfx at hx
 obtain⟨i,hi,rfl⟩:=List.mem_map.mp hx
 have hi':=List.mem_range.mp hi
 have bd:=gN (ws:=ws) hrow (Int.le_of_lt hT.1) (i+1)
 have h63:accs row ws (i+1)<=63*T:=by
  have:((i+1:Nat):Int)*T<=63*T:=Int.mul_le_mul_of_nonneg_right (by omega) (by omega)
  omega
 exact⟨ba (by omega) (by omega) (by omega),(FQ.red_low (by omega)).pos⟩
mutual
theorem cP:∀(n:Nat) (d:PyData),okD n d=true->PyData.eqv d d=true
 | _,.none,_=>by simp[PyData.eqv]
 | _,.bool _,_=>by simp[PyData.eqv]
 | _,.int _,_=>by simp[PyData.eqv]
 | n,.str x,h=>by simp[PyData.eqv]
 | n+1,.tuple ds,h=>by
  have:=d7 n ds (by simpa [okD]using h)
  simp[PyData.eqv,this]
 | n+1,.list ds,h=>by
  have:=d7 n ds (by simpa [okD]using h)
  simp[PyData.eqv,this]
 | 0,.tuple _,h=>by simp[okD]at h
 | 0,.list _,h=>by simp[okD]at h
 | 0,.dict _,h=>by simp[okD]at h
 | _+1,.dict _,h=>by simp[okD]at h
theorem d7:∀(n:Nat) (ds:List PyData),(∀d∈ds,okD n d=true)->PyData.eqvAll ds ds=true
 | n,[],_=>by simp[PyData.eqvAll]
 | n,d::ds,h=>by
  have h1:=cP n d (h d List.mem_cons_self)
  have h2:=d7 n ds λx hx=>h x (List.mem_cons_of_mem _ hx)
  simp[PyData.eqvAll,h1,h2]
end
theorem gC(T:Int)(Z:List (List Int)):okD 3 (.list (Z.map λm=> .tuple (dFr T m)))=true:=by
 show(Z.map λm=>PyData.tuple (dFr T m)).all (okD 2)=true
 rw[List.all_eq_true]
 intro d hd
 obtain⟨m,_,rfl⟩:=List.mem_map.mp hd
 show(dFr T m).all (okD 1)=true
 rw[List.all_eq_true]
 exact ji T m
end L2
namespace EM
open LM
theorem nodup_len:∀(n:Nat) {l:List Int},l.Nodup->(∀x∈l,0<=x/\x<(n:Int))->l.length<=n
 | 0,l,_,h=>by
  cases l with
  | nil=>exact Nat.le_refl _
  | cons x r=>have:=h x List.mem_cons_self;omega
 | n+1,l,hn,h=>by
  have ih:=nodup_len n (l:=l.erase (n:Int)) (hn.erase _) λx hx=>by
   have h1:=h x (List.mem_of_mem_erase hx)
   have h2:x≠(n:Int):=λz=>by rw[z]at hx;exact(hn.not_mem_erase) hx
   omega
  have:=List.length_erase (a:=(n:Int)) (l:=l)
  split at this <;> omega
end EM
namespace L2
open PySem PySem.Spec PyProof.Rows
def smallS(b:Nat->Bool):List Nat:=(List.range 6).filter b
def tabS(S:List Nat)(led:Bool):SetTable:=⟨if S.length<=4 then 7 else 31,S.toArray,#[],0,led,if S.length<=4 then 0 else 1,true⟩
def subs:List Nat->List (List Nat)
 | []=>[[]]
 | a::r=>subs r++(subs r).map (a :: ·)
theorem fP:∀{l S:List Nat},S.Sublist l->S∈subs l
 | _,_,.slnil=>List.mem_singleton.mpr rfl
 | _,_,.cons a h=>List.mem_append.mpr (.inl (fP h))
 | _,_,.cons₂ a h=>List.mem_append.mpr (.inr (List.mem_map.mpr ⟨_,fP h,rfl⟩))
theorem cr(b:Nat->Bool):smallS b∈subs (List.range 6):=fP List.filter_sublist
def rankS(S:List Nat)(v:Nat):Nat:=(S.filter (· < v)).length
def insS(S:List Nat)(v:Nat):List Nat:=S.take (rankS S v)++v::S.drop (rankS S v)
def tabOne(S:List Nat)(v:Nat)(led:Bool):Bool:=
 match(tabS S led).freeSlot (v:Int)with
 | some (j,d)=>
  let q:=(tabS S led).put j
  decide (j=v) && !d&&decide (q.2=rankS S v)&&q.1.fits (S.length+1)&&decide (q.1.plain=true) &&
  (if q.1.tooFull then
   match q.1.relaid ((insS S v).map Int.ofNat).toArray (SetTable.grown (S.length+1))with
   | some (t',o)=>decide (t'=tabS (insS S v) led)&&decide (o=(List.range (S.length+1)).toArray)&&t'.fits (S.length+1)&&coversAll o (S.length+1)
   | none=>false
  else decide (q.1=tabS (insS S v) led))
 | none=>false
theorem lu:∀S∈subs (List.range 6),∀v∈List.range 6,v∉S->tabOne S v true=true/\tabOne S v false=true:=by decide +kernel
theorem ld:∀S∈subs (List.range 6),∀v∈List.range 6,v∉S->insS S v=(List.range 6).filter λx=>decide (x∈S)||x==v:=by decide +kernel
theorem kn:∀S∈subs (List.range 6),(tabS S true).fits S.length=true/\(tabS S false).fits S.length=true:=by decide +kernel
def valS(tok:Nat->Tok)(v:Nat):Int×Value:=((v:Int),Value.int (v:Int) (tok v))
def SetIs(h:Heap)(a:Addr)(b:Nat->Bool)(led:Bool):Prop:=
 ∃(o:Obj) (es:Array (Int×Value)) (ep:Nat) (tok:Nat->Tok),h.get? a=some o/\o.ExactSet/\o.data = .set es ep (tabS (smallS b) led)/\es.toList=(smallS b).map (valS tok)
theorem bF{b:Nat->Bool}{v:Nat}:v∈smallS b↔v<6/\b v=true:=by
 unfold smallS;rw[List.mem_filter,List.mem_range]
theorem ii(b:Nat->Bool):(smallS b).length<=6:=by
 unfold smallS;exact Nat.le_trans (List.length_filter_le ..) (by rw[List.length_range];exact Nat.le_refl _)
theorem eT(b:Nat->Bool)(led:Bool):(tabS (smallS b) led).fits (smallS b).length=true:=by
 have:=kn _ (cr b)
 cases led
 ·exact this.2
 ·exact this.1
theorem gn{b:Nat->Bool}{v:Nat}(hv:v<6)(hb:b v=false):insS (smallS b) v=smallS λx=>b x||x==v:=by
 rw[ld _ (cr b) v (List.mem_range.mpr hv) λz=>by rw[(bF.mp z).2]at hb;cases hb]
 unfold smallS
 refine List.filter_congr λx hx=>?_
 have:decide (x∈List.filter b (List.range 6))=b x:=by
  rw[Bool.eq_iff_iff,decide_eq_true_iff,List.mem_filter]
  exact⟨λh=>h.2,λh=>⟨hx,h⟩⟩
 rw[this]
theorem gx{b:Nat->Bool}{v:Nat}(hb:b v=true):(smallS λx=>b x||x==v)=smallS b:=by
 unfold smallS
 refine List.filter_congr λx hx=>?_
 by_cases e:x=v
 ·subst e;rw[hb];rfl
 ·rw[beq_false_of_ne e,Bool.or_false]
theorem fj(v:Nat)(hv:v<6):hashInt (v:Int)=v:=
 (show ∀v∈List.range 6,hashInt ((v:Nat):Int)=v by decide +kernel) v (List.mem_range.mpr hv)
theorem fF{α:Type}(xs:Array α):Array.filterMap (λx=>xs[x]?) (List.range xs.size).toArray=xs:=by
 apply Array.ext'
 rw[Array.toList_filterMap]
 have:∀(l:List α),List.filterMap (λx=>l[x]?) (List.range l.length)=l:=by
  intro l
  induction l with
  | nil=>rfl
  | cons a r ih=>
   rw[List.length_cons,List.range_succ_eq_map,List.filterMap_cons,List.filterMap_map]
   show a::List.filterMap (λx=>r[x]?) (List.range r.length)=a::r
   rw[ih]
 have:=this xs.toList
 simpa using this
theorem iH{prog:Program}{w:World}{b:Nat->Bool}{tok:Nat->Tok}{es:Array (Int×Value)}(he:es.toList=(smallS b).map (valS tok)):ElemsOf (intKind prog w) es.toList:=by
 intro e hm
 rw[he]at hm
 obtain⟨u,hu,rfl⟩:=List.mem_map.mp hm
 exact⟨⟨(u:Int),beq_self_eq_true _,(fj u (bF.mp hu).1).symm⟩,rfl⟩
theorem jW{b:Nat->Bool}{v:Nat}{led:Bool}{es:Array (Int×Value)}{x:Value}{tok:Nat->Tok}(hv:v<6)(hb:b v=false)(he:es.toList=(smallS b).map (valS tok)):
  ∃t,layNew (tabS (smallS b) led) es (v:Int) x=(SetTable.insertAt es (rankS (smallS b) v) ((v:Int),x),t,false,false)/\t.plain=true/\t.fits (es.size+1)=true/\
   (t.tooFull=false->t=tabS (insS (smallS b) v) led)/\(t.tooFull=true->t.relaid ((insS (smallS b) v).map Int.ofNat).toArray (SetTable.grown (es.size+1))=some (tabS (insS (smallS b) v) led,(List.range (es.size+1)).toArray)/\
    (tabS (insS (smallS b) v) led).fits (es.size+1)=true/\coversAll (List.range (es.size+1)).toArray (es.size+1)=true):=by
 have hsz:es.size=(smallS b).length:=by rw[<-Array.length_toList,he,List.length_map]
 have h:=lu _ (cr b) v (List.mem_range.mpr hv) λz=>by rw[(bF.mp z).2]at hb;cases hb
 have h1:tabOne (smallS b) v led=true:=by
  cases led
  ·exact h.2
  ·exact h.1
 unfold tabOne at h1
 cases hfs:(tabS (smallS b) led).freeSlot (v:Int)with
 | none=>rw[hfs]at h1;cases h1
 | some jd=>
  obtain⟨j,d⟩:=jd
  rw[hfs]at h1
  dsimp only at h1
  rw[Bool.and_eq_true,Bool.and_eq_true,Bool.and_eq_true,Bool.and_eq_true,Bool.and_eq_true,decide_eq_true_iff,decide_eq_true_iff,decide_eq_true_iff]at h1
  obtain⟨⟨⟨⟨⟨rfl,hd⟩,hp⟩,hfit⟩,hpl⟩,hrest⟩:=h1
  have hd':d=false:=by cases d <;> first|rfl|cases hd
  subst hd'
  rw[<-hsz]at hfit hrest
  have hsi:(SetTable.insertAt es (rankS (smallS b) j) ((j:Int),x)).size=es.size+1:=by
   have:=(SetTable.insertAt_perm es (rankS (smallS b) j) ((j:Int),x)).length_eq
   simpa using this
  refine⟨((tabS (smallS b) led).put j).1,?_,hpl,hfit,λhn=>?_,λht=>?_⟩
  ·unfold layNew
   rw[hfs]
   dsimp only
   rw[hp,hsi,hfit]
   have ho:((tabS (smallS b) led).put j).1.orStandIn (es.size+1)=((tabS (smallS b) led).put j).1:=by
    unfold SetTable.orStandIn;rw[if_pos hfit]
   rw[ho]
   rfl
  ·rw[hn,if_neg (by decide)]at hrest
   exact of_decide_eq_true hrest
  ·rw[ht,if_pos rfl]at hrest
   cases hre:((tabS (smallS b) led).put j).1.relaid ((insS (smallS b) j).map Int.ofNat).toArray (SetTable.grown (es.size+1))with
   | none=>rw[hre]at hrest;cases hrest
   | some to=>
    obtain⟨t',o⟩:=to
    rw[hre]at hrest
    dsimp only at hrest
    rw[Bool.and_eq_true,Bool.and_eq_true,Bool.and_eq_true,decide_eq_true_iff,decide_eq_true_iff]at hrest
    obtain⟨⟨⟨rfl,rfl⟩,z1⟩,z2⟩:=hrest
    exact⟨rfl,z1,z2⟩
theorem gD{prog:Program}{w:World}{A:Around}{E:Value->Shared->Prop}{s:Shared}{a:Addr}{b:Nat->Bool}{led:Bool}{v:Nat}{tk:Tok}{Q:Bool->Shared->Prop}(hv:v<6)(hS:SetIs s.heap a b led)
  (q:∀h',Heap.SameBut a s.heap h'->SetIs h' a (λx=>b x||x==v) led->Q (!b v) {s with heap:=h'}):
  wpAny (model prog w) A (setAddHashed a (.int v tk) ((intKind prog w).hash (v:Int))) Q E s:=by
 obtain⟨o,es,ep,tok,ho,hx,hd,he⟩:=hS
 have hsz:es.size=(smallS b).length:=by rw[<-Array.length_toList,he,List.length_map]
 have h6:=ii b
 have hf:(tabS (smallS b) led).fits es.size=true:=by rw[hsz];exact eT b led
 have hE:ElemsOf (intKind prog w) es.toList:=iH he
 have hh:(intKind prog w).hash (v:Int)=v:=fj v hv
 have h64:64<=scanBound:=by decide +kernel
 unfold setAddHashed
 refine wpAny_holding ?_
 rw[setAddHashedIn.eq_def]
 dsimp only
 refine wpAny_bind (wpAny_setState_of ho hd hf ?_)
 dsimp only
 rw[if_pos (byScan_of (knd:=intKind prog w) (x:= .int v tk) rfl (by omega) hE)]
 unfold setAddByScan
 refine wpAny_bind (wpAny_bind (wpAny_rule ?_))
 refine wpAny_bind (wpAny_setScan_of (knd:=intKind prog w) (k:=(v:Int)) (beq_self_eq_true _) ho hd hf hE ?_)
 cases hb:b v with
 | true=>
  cases hfi:List.findIdx? (λe:Int×Value=>(intKind prog w).is (v:Int) e.2) es.toList with
  | none=>
   have:=List.findIdx?_eq_none_iff.mp hfi (valS tok v) (by rw[he];exact List.mem_map.mpr ⟨v,bF.mpr ⟨hv,hb⟩,rfl⟩)
   rw[show(intKind prog w).is (v:Int) (valS tok v).2=true from beq_self_eq_true _]at this
   cases this
  | some j=>
   refine wpAny_pure (wpAny_pure ?_)
   have:=q s.heap (Heap.SameBut.refl a _) ⟨o,es,ep,tok,ho,hx,by rw[gx hb];exact hd,by rw[gx hb];exact he⟩
   rw[hb]at this
   exact this
 | false=>
  cases hfi:List.findIdx? (λe:Int×Value=>(intKind prog w).is (v:Int) e.2) es.toList with
  | some j=>
   obtain⟨e,h1,h2⟩:=List.findIdx?_eq_some_iff_getElem.mp hfi
   have hm:es.toList[j]∈(smallS b).map (valS tok):=by rw[<-he];exact List.getElem_mem e
   obtain⟨u,hu,hue⟩:=List.mem_map.mp hm
   have h3:=(bF.mp hu).2
   have h4:(intKind prog w).is (v:Int) (valS tok u).2=true:=by rw[hue];exact h1
   have h5:(u:Int)=v:=eq_of_beq h4
   have:u=v:=by omega
   rw[this,hb]at h3
   cases h3
  | none=>
   obtain⟨t,hl,hpl,hfit,hfew,hfull⟩:=jW (led:=led) (x:= .int v tk) hv hb he
   dsimp only
   rw[hh,hl]
   dsimp only
   refine wpAny_bind (wpAny_pure ?_)
   rw[if_pos hpl,hashByValue_scannable 8 (x:= .int v tk) rfl]
   refine wpAny_bind (wpAny_pure ?_)
   rw[if_pos (show plainKind (Value.int (v:Int) tk)=true from rfl)]
   have hes':(SetTable.insertAt es (rankS (smallS b) v) ((v:Int),Value.int (v:Int) tk)).toList=(smallS λx=>b x||x==v).map (valS λu=>if u=v then tk else tok u):=by
    rw[SetTable.toList_insertAt,he,<-gn hv hb]
    have e1:(smallS b).map (valS tok)=(smallS b).map (valS λu=>if u=v then tk else tok u):=List.map_congr_left λu hu=>by
     have:u≠v:=λz=>by rw[z]at hu;rw[(bF.mp hu).2]at hb;cases hb
     show((u:Int),Value.int (u:Int) (tok u))=((u:Int),Value.int (u:Int) (if u=v then tk else tok u))
     rw[if_neg this]
    rw[e1]
    unfold insS
    rw[List.map_append,List.map_cons,List.map_take,List.map_drop]
    have e2:valS (λu=>if u=v then tk else tok u) v=((v:Int),Value.int (v:Int) tk):=by
     show((v:Int),Value.int (v:Int) (if v=v then tk else tok v))=_
     rw[if_pos rfl]
    rw[e2]
   have hsi:(SetTable.insertAt es (rankS (smallS b) v) ((v:Int),Value.int (v:Int) tk)).size=es.size+1:=by
    have:=(SetTable.insertAt_perm es (rankS (smallS b) v) ((v:Int),Value.int (v:Int) tk)).length_eq
    simpa using this
   rw[gn hv hb]at hfew hfull
   generalize SetTable.insertAt es (rankS (smallS b) v) ((v:Int),Value.int (v:Int) tk)=es' at *
   have hline:es'.size<=sizeLine:=Nat.le_of_lt (small1000 (by omega))
   rw[hsi]at hline
   have p1:=putSet_of es' t hd
   have g1:(s.heap.update a (Obj.putSet es' t)).get? a=some ⟨o.cls,o.dict,.set es' (ep+1) t,o.slots⟩:=by
    rw[<-p1]
    exact Heap.get?_update_self _ ho (by rw[p1];rfl)
   refine wpAny_bind (wpAny_storeSet_of ho hd ?_ (by rw[hsi];exact hline))
   cases hfu:t.tooFull with
   | false=>
    rw[if_neg (by simp)]
    refine wpAny_pure (wpAny_pure ?_)
    have:=q _ (Heap.SameBut.update s.heap a (Obj.putSet es' t)) ⟨_,es',ep+1,_,g1,hx,by rw[hfew hfu],hes'⟩
    rw[hb]at this
    exact this
   | true=>
    obtain⟨r1,r2,r3⟩:=hfull hfu
    have hm:Array.map (λx:Int×Value=>x.1) es'=((smallS λx=>b x||x==v).map Int.ofNat).toArray:=by
     apply Array.ext'
     rw[Array.toList_map,hes',List.map_map]
     rfl
    have hr:relayAll t es' (SetTable.grown es'.size)=(es',tabS (smallS λx=>b x||x==v) led,false):=by
     unfold relayAll
     rw[hm,hsi,r1]
     dsimp only
     rw[<-hsi,fF,hsi,r2,r3]
     rfl
    rw[if_pos (by simp),hr]
    dsimp only
    refine wpAny_bind (wpAny_pure (wpAny_bind (wpAny_storeSet_of g1 rfl (wpAny_pure (wpAny_pure ?_)) (by rw[hsi];exact hline))))
    have p2:=putSet_of (o:=⟨o.cls,o.dict,.set es' (ep+1) t,o.slots⟩) es' (tabS (smallS λx=>b x||x==v) led) rfl
    have g2:((s.heap.update a (Obj.putSet es' t)).update a (Obj.putSet es' (tabS (smallS λx=>b x||x==v) led))).get? a=some ⟨o.cls,o.dict,.set es' (ep+1+1) (tabS (smallS λx=>b x||x==v) led),o.slots⟩:=by
     rw[<-p2]
     exact Heap.get?_update_self _ g1 (by rw[p2];rfl)
    have:=q _ ((Heap.SameBut.update s.heap a _).trans (Heap.SameBut.update _ a _)) ⟨_,es',ep+1+1,_,g2,hx,rfl,hes'⟩
    rw[hb]at this
    exact this
end L2
namespace L2
open PySem PySem.Spec PyProof.Rows
def ledOf(w:World):Bool:=!w.params.followText "set-order"
theorem j2{prog:Program}{w:World}{A:Around}{E:Value->Shared->Prop}{s:Shared}(a:Value){Q₁:Value->Shared->Prop}
  (h:Q₁ (.ref s.heap.objs.size) {s with heap:=s.heap.push {cls:= .type "set",data:= .set #[] 0 (SetTable.fresh 0 0 (ledOf w))}}):
  codeAny (model prog w) A (.call (.builtin "set.__new__") ⟨[.type "set",a],[]⟩) (wants Q₁ E) s:=by
 refine codeAny_of_tree ?_
 refine wpAny_bind (wpAny_of_eq (F.newCall_set_1 a) (wpAny_pure ⟨plainId_quiet F.plain_set_new _,codeAny_builtin F.entry_set_new ?_⟩))
 rw[Around.under_plainId F.plain_set_new _]
 have hsub:=sub_set_self
 unfold Builtin.«set.__new__» Builtin.Frozenset.newClass
 refine wpAny_bind (wpAny_bind (wpAny_pure ?_))
 refine wpAny_ite_false rfl (wpAny_bind (wpAny_of_eq hsub (wpAny_ite_false rfl (wpAny_pure ?_))))
 unfold newSet setsByText
 refine wpAny_bind (wpAny_bind (wpAny_bind (wpAny_askSetting (wpAny_pure ?_))))
 show wpAny _ _ (newObj _ _) _ _ _
 unfold newObj
 dsimp only
 rw[if_neg (by decide)]
 unfold newObjAsIs
 exact wpAny_bind (wpAny_alloc (wpAny_pure (wpAny_pure h)))
theorem SetIs.congr{h h':Heap}{a:Addr}{b:Nat->Bool}{led:Bool}(H:SetIs h a b led)(e:∀o,h.get? a=some o->h'.get? a=some o):SetIs h' a b led:=by
 obtain⟨o,es,ep,tok,ho,r⟩:=H
 exact⟨o,es,ep,tok,e o ho,r⟩
theorem SetIs.by{h:Heap}{a:Addr}{b b':Nat->Bool}{led:Bool}(H:SetIs h a b led)(e:∀x,x<6->b x=b' x):SetIs h a b' led:=by
 have:smallS b=smallS b':=List.filter_congr λx hx=>e x (List.mem_range.mp hx)
 unfold SetIs at H ⊢
 rw[this]at H
 exact H
theorem ki{prog:Program}{w:World}{A:Around}{R:Result->Shared->Prop}{I:Addr}{fp wr:List Addr}{G:Array GenState->Array GenState->Prop}{n:Nat}{P:Nat->Value->Prop}{St:Nat->Shared->Prop}{led:Bool}
  (W:WalksS prog w A.in1 I fp wr G n P St)(S:Addr)(hS:S∉fp)(val:Nat->Nat)(hP:∀i v,P i v->val i<6/\∃t,v=Value.int (val i:Nat) t):
  ∀(k i:Nat) (s:Shared) (b:Nat->Bool),n-i=k->i<=n->St i s->SetIs s.heap S b led->
   (∀s',Moved (S::wr) G s s'->SetIs s'.heap S (λx=>b x||(List.range' i (n-i)).any λj=>x==val j) led->R (.ok (.ret .none)) s')->
   codeAny (model prog w) A (.builtin "set.update.loop" ⟨[.ref S,.ref I],[]⟩) R s:=by
 have hSw:S∉wr:=λz=>hS (W.sub S z)
 intro k
 induction k with
 | zero=>
  intro i s b hk hi hSt hset h
  have e:i=n:=by omega
  subst e
  refine codeAny_builtin F.entry_set_update_loop ?_
  rw[Around.under_plainId F.plain_set_update_loop _]
  unfold Builtin.«set.update.loop»
  refine wpAny_bind (W.done s _ _ hSt λs' m=>?_)
  refine wpAny_pure (h s' ⟨λc o hc=>m.heap c o λz=>hc (List.mem_cons_of_mem _ z),m.gens,m.drawn,m.os,m.toks⟩ ((hset.congr λo=>m.heap S o hSw).by λx _=>?_))
  rw[Nat.sub_self]
  simp
 | succ k ih=>
  intro i s b hk hi hSt hset h
  refine codeAny_builtin F.entry_set_update_loop ?_
  rw[Around.under_plainId F.plain_set_update_loop _]
  unfold Builtin.«set.update.loop»
  refine wpAny_bind (W.item i s _ _ (by omega) hSt λv s' hv hSt' m=>?_)
  obtain⟨hlt,t,rfl⟩:=hP i v hv
  dsimp only
  refine wpAny_bind (wpAny_holding ?_)
  unfold setAdd
  refine wpAny_holding (wpAny_bind ((intKind prog w).pyHash (k:=((val i:Nat):Int)) (beq_self_eq_true _) ?_))
  refine gD hlt (SetIs.congr hset λo=>m.heap S o hSw) λh' hb hs'=>?_
  refine wpAny_pure ⟨plainId_quiet F.plain_set_update_loop _,ih (i+1) _ _ (by omega) (by omega) (W.frame (i+1) s' h' (s'.toks+1) hSt' (Nat.le_succ _) λc hc o ho=>by rw[hb.2 c λz=>hS (z▸hc)];exact ho) hs' λs'' m2 hset2=>h s'' ?_ (hset2.by λx _=>?_)⟩
  ·refine⟨λc o hc ho=>m2.heap c o hc ?_,W.gtrans _ _ _ m.gens m2.gens,m2.drawn.trans m.drawn,m2.os.trans m.os,Nat.le_trans m.toks (Nat.le_trans (Nat.le_succ _) m2.toks)⟩
   show h'.get? c=some o
   rw[hb.2 c λz=>hc (by rw[z];exact List.mem_cons_self)]
   exact m.heap c o (λz=>hc (List.mem_cons_of_mem _ z)) ho
  ·have e:n-i=(n-(i+1))+1:=by omega
   rw[e,List.range'_succ,List.any_cons,Bool.or_assoc]
end L2
namespace L2
open PySem PySem.Spec PyProof.Rows
theorem eK{prog:Program}{w:World}{A:Around}{E:Value->Shared->Prop}{s:Shared}{l:Addr}{items:Array Value}{Q:Value->Shared->Prop}(hh:A.handled=none)(hl:s.heap.IsList l items)(val:Nat->Nat)
  (hv:∀i v,items[i]?=some v->val i<6/\∃t,v=Value.int (val i:Nat) t)
  (h:∀(h':Heap) (tk:Nat),SetIs h' s.heap.objs.size (λx=>(List.range' 0 items.size).any λj=>x==val j) (ledOf w)->(∀b o,s.heap.get? b=some o->h'.get? b=some o)->Q (.ref s.heap.objs.size) {s with heap:=h',toks:=tk}):
  wpAny (model prog w) A (call (.type "set") [.ref l]) Q E s:=by
 obtain⟨c,tl,hmro⟩:=F.called_set.mro
 have hmade:=F.called_set.made
 have hsub:=F.called_set.sub
 refine wpAny_call (codeAny_of_tree (wpAny_pure ⟨Code.quiet_builtin _ (by decide +kernel),codeAny_builtin F.entry_type_call ?_⟩))
 rw[Around.under_plain (weight_type_call_type "set" [.ref l] []) rfl]
 have h1:=F.called_set.notType
 have h2:=F.called_set.canCreate
 have hct:=F.typeCall_set_1 (.ref l)
 unfold Builtin.«type.__call__»
 refine wpAny_ite_false (by rw[h1];rfl) (wpAny_ite_false (by rw[h2];rfl) (wpAny_bind (wpAny_of_eq hct (wpAny_bind (wpAny_of_eq hmro (wpAny_ite_false rfl (wpAny_bind (wpAny_of_eq hmade (wpAny_bind (wpAny_pure ?_))))))))))
 refine wpAny_bind (wpAny_holding (wpAny_call (codeAny_mono (j2 (E:=E) (.ref l) (Q₁:=λv s1=>v = .ref s.heap.objs.size/\s1=_) ⟨rfl,rfl⟩) λr s₁ hr=>?_)))
 cases r with
 | error e=>exact hr
 | ok fl=>
  cases fl with
  | ret v=>
   obtain⟨rfl,rfl⟩:=(show v=_/\s₁=_ from hr)
   have hnew:(s.heap.push {cls:=Value.type "set",data:=Data.set #[] 0 (SetTable.fresh 0 0 (ledOf w))}).get? s.heap.objs.size=some {cls:=Value.type "set",data:=Data.set #[] 0 (SetTable.fresh 0 0 (ledOf w))}:=Heap.get?_push_size _ rfl
   refine wpAny_bind (wpAny_isInstance (T:="set") ⟨_,hnew,rfl⟩ hsub (wpAny_ite_false rfl (wpAny_bind (wpAny_holding ?_))))
   unfold callSpecial?
   refine wpAny_bind (wpAny_specialOf (T:="set") ⟨_,hnew,rfl⟩ F.called_set.init.lookup ?_)
   refine wpAny_holding (wpAny_bind (wpAny_of_eq (F.called_set.init.bind _) (wpAny_bind (wpAny_call (codeAny_call_builtin F.called_set.init.plain F.entry_set_init (check_set_init_1 ⟨_,hnew,rfl⟩ ?_))))))
   unfold Builtin.«set.__init__»
   refine wpAny_bind (wpAny_pure ?_)
   dsimp only[List.cons_append,List.nil_append]
   unfold typeNameOfCut
   unfold shownTypeOf
   refine wpAny_bind (wpAny_bind ?_)
   refine wpAny_bind (wpAny_typeOf (T:="set") ⟨_,hnew,rfl⟩ (wpAny_ite_false rfl (wpAny_pure (wpAny_pure (wpAny_bind (wpAny_pure (wpAny_bind (wpAny_pure ?_))))))))
   unfold setUsed
   refine wpAny_bind (wpAny_bind (wpAny_setState_of hnew rfl (by cases ledOf w <;> rfl) (wpAny_pure (wpAny_ite_false rfl ?_))))
   have hl1:=hl.push {cls:=Value.type "set",data:=Data.set #[] 0 (SetTable.fresh 0 0 (ledOf w))}
   have ht:Shared.TypeIs {s with heap:=s.heap.push {cls:=Value.type "set",data:=Data.set #[] 0 (SetTable.fresh 0 0 (ledOf w))}} (.ref l) "list":=by
    obtain⟨o,h1,h2,_⟩:=hl1
    exact⟨o,h1,h2⟩
   unfold Builtin.Frozenset.updateFrom Builtin.Frozenset.isAnySet orM
   refine wpAny_bind (wpAny_bind (wpAny_bind (wpAny_isInstance ht F.sub_list_set (wpAny_isInstance ht F.sub_list_frozenset ?_))))
   refine wpAny_ite_false rfl (wpAny_bind (wpAny_typeOf ht (wpAny_ite_false rfl (wpAny_bind (wpAny_pyIter_list hl1 ?_)))))
   refine wpAny_bind (wpAny_runValue ?_)
   have hS1:s.heap.get? s.heap.objs.size=none:=by
    cases e:s.heap.get? s.heap.objs.size with
    | none=>rfl
    | some o=>exact absurd (Heap.lt_size e) (Nat.lt_irrefl _)
   have hlS:l≠s.heap.objs.size:=λz=>by
    obtain⟨o,h1,_⟩:=hl
    rw[z,hS1]at h1;cases h1
   have hsz:(s.heap.push {cls:=Value.type "set",data:=Data.set #[] 0 (SetTable.fresh 0 0 (ledOf w))}).objs.size=s.heap.objs.size+1:=size_push' ..
   have hIl:l≠s.heap.objs.size+1:=λz=>by
    obtain⟨o,h1,_⟩:=hl
    rw[z]at h1
    exact absurd (Nat.lt_of_succ_lt (Heap.lt_size h1)) (Nat.lt_irrefl _)
   dsimp only
   rw[hsz]
   refine ki (Walks.toS (Walks.list (A:=A.in1.in1.in1) hh (s.heap.objs.size+1) l hIl items)) s.heap.objs.size (λz=>?_) val hv items.size 0 _ (λ_=>false) rfl (Nat.zero_le _) ⟨?_,hl1.push _⟩ (led:=ledOf w) ?_ λs' m hs=>?_
   ·rcases List.mem_cons.mp z with z|z
    ·exact absurd z (Nat.ne_of_lt (Nat.lt_succ_self _))
    ·exact hlS (List.mem_singleton.mp z).symm
   ·exact⟨_,(by rw[<-hsz];exact Heap.get?_push_size _ rfl),rfl,rfl⟩
   ·exact⟨_,#[],0,λ_=>0,Heap.get?_push_of_some _ hnew,⟨rfl,rfl,rfl⟩,rfl,rfl⟩
   ·refine wpAny_pure (wpAny_pure (wpAny_pure (wpAny_ite_false rfl (wpAny_pure ?_))))
    obtain⟨h',g',d',t',o'⟩:=s'
    have e1:g'=s.gens:=m.gens
    have e2:d'=s.drawn:=m.drawn
    have e3:o'=s.os:=m.os
    subst e1 e2 e3
    refine h h' t' (hs.by λx _=>by rw[Bool.false_or];rfl) λb o hb=>m.heap b o (λz=>?_) (Heap.get?_push_of_some _ (Heap.get?_push_of_some _ hb))
    rcases List.mem_cons.mp z with z|z
    ·rw[z,hS1]at hb;cases hb
    ·rw[List.mem_singleton.mp z]at hb
     exact absurd (Nat.lt_of_succ_lt (Heap.lt_size hb)) (Nat.lt_irrefl _)
  | _=>exact hr.elim
end L2
namespace L2
open PySem PySem.Spec PyProof.Rows
theorem fO:∀{vs:List Value} {ns:List Int},IntsAre vs ns->∀(i:Nat) (v:Value),vs[i]?=some v->i<ns.length/\∃t,v=Value.int (ns.getD i 0) t
 | _,_,.nil,i,v,h=>by simp at h
 | _,_,.cons n t hr,0,v,h=>by
  rw[List.getElem?_cons_zero]at h
  cases h
  exact⟨Nat.zero_lt_succ _,t,rfl⟩
 | _,_,.cons n t hr,i+1,v,h=>by
  rw[List.getElem?_cons_succ]at h
  obtain⟨h1,t',e⟩:=fO hr i v h
  exact⟨Nat.succ_lt_succ h1,t',e⟩
end L2
namespace L2
open PySem PySem.Spec PyProof.Rows
theorem jC(p q:Int×Int):PyData.eqv (dF p) (dF q)=decide (p=q):=by
 obtain⟨a,b⟩:=p
 obtain⟨c,d⟩:=q
 unfold dF
 by_cases h1:a=c <;> by_cases h2:b=d <;> simp[PyData.eqv,PyData.eqvAll,h1,h2]
theorem d3(p:Int×Int):okD 1 (dF p)=true:=rfl
theorem cS(p:Int×Int):SeqAt.shaped (dF p)=true:=aR (d3 p) (by decide)
structure Wt(p:Int×Int)(a D:Int):Prop where
 w:p.1*D=a*p.2
 p2:p.2≠0
 d:D≠0
theorem ie{a D:Int}(hD:D≠0):Wt (FQ.red a D) a D:=⟨FQ.red_worth hD,by have:=(FQ.red_low (t:=a) hD).pos;omega,hD⟩
theorem lN{p q:Int×Int}{a D b E:Int}(h:Wt p a D)(k:Wt q b E):fSub p q=FQ.red (a*E-b*D) (D*E):=by
 unfold fSub
 refine FQ.red_eq (Int.mul_ne_zero h.p2 k.p2) (Int.mul_ne_zero h.d k.d) ?_
 calc (p.1*q.2-q.1*p.2)*(D*E)=(p.1*D)*(q.2*E)-(q.1*E)*(p.2*D):=by rw[Int.sub_mul];ac_rfl
  _=(a*p.2)*(q.2*E)-(b*q.2)*(p.2*D):=by rw[h.w,k.w]
  _=(a*E-b*D)*(p.2*q.2):=by rw[Int.sub_mul];ac_rfl
theorem jB{a b D c:Int}(hD:D≠0)(hc:c≠0):fSub (FQ.red a D) (FQ.red b (D*c))=FQ.red (a*c-b) (D*c):=by
 rw[lN (ie hD) (ie (Int.mul_ne_zero hD hc))]
 refine FQ.red_eq (Int.mul_ne_zero hD (Int.mul_ne_zero hD hc)) (Int.mul_ne_zero hD hc) ?_
 rw[Int.sub_mul,Int.sub_mul]
 congr 1 <;> ac_rfl
theorem dS{m D:Int}(hD:D≠0):FQ.red m D=(0,1)↔m=0:=by
 constructor
 ·intro h
  have:=FQ.red_worth (t:=m) hD
  rw[h]at this
  simp at this
  omega
 ·rintro rfl
  exact bJ hD
theorem je{m D:Int}(hD:D≠0):FQ.red m D=(1,1)↔m=D:=by
 constructor
 ·intro h
  have:=FQ.red_worth (t:=m) hD
  rw[h]at this
  simp at this
  omega
 ·rintro rfl
  exact i5 hD
theorem kA{p q:Int×Int}{a D b E:Int}(h:Wt p a D)(k:Wt q b E)(hp:0<p.2)(hq:0<q.2)(hD:0<D)(hE:0<E):lessF p q=decide (a*E<b*D):=by
 have key:(p.1*q.2)*(D*E)=(a*E)*(p.2*q.2)/\(q.1*p.2)*(D*E)=(b*D)*(p.2*q.2):=by
  constructor
  ·calc (p.1*q.2)*(D*E)=(p.1*D)*(q.2*E):=by ac_rfl
    _=(a*p.2)*(q.2*E):=by rw[h.w]
    _=_:=by ac_rfl
  ·calc (q.1*p.2)*(D*E)=(q.1*E)*(p.2*D):=by ac_rfl
    _=(b*q.2)*(p.2*D):=by rw[k.w]
    _=_:=by ac_rfl
 have h1:0<D*E:=Int.mul_pos hD hE
 have h2:0<p.2*q.2:=Int.mul_pos hp hq
 unfold lessF
 refine decide_eq_decide.mpr ⟨λz=>?_,λz=>?_⟩
 ·have:=Int.mul_lt_mul_of_pos_right z h1
  rw[key.1,key.2]at this
  exact Int.lt_of_mul_lt_mul_right this (Int.le_of_lt h2)
 ·have:=Int.mul_lt_mul_of_pos_right z h2
  rw[<-key.1,<-key.2]at this
  exact Int.lt_of_mul_lt_mul_right this (Int.le_of_lt h1)
theorem dL{a D b E:Int}(hD:0<D)(hE:0<E):lessF (FQ.red a D) (FQ.red b E)=decide (a*E<b*D):=
 kA (ie (by omega)) (ie (by omega)) (FQ.red_low (by omega)).pos (FQ.red_low (by omega)).pos hD hE
def totF(ps:List (Int×Int)):Int×Int:=ps.foldl fAdd (0,1)
theorem ge(ps:List (Int×Int))(p:Int×Int):totF (ps++[p])=fAdd (totF ps) p:=by unfold totF;rw[List.foldl_append];rfl
theorem gu{D:Int}(hD:D≠0):∀(ms:List Int) (a:Int),(fr D ms).foldl fAdd (FQ.red a D)=FQ.red (a+ms.sum) D
 | [],a=>by simp[fr]
 | m::ms,a=>by
  show(fr D ms).foldl fAdd (fAdd (FQ.red a D) (FQ.red m D))=_
  rw[b4 hD,gu hD ms,List.sum_cons,Int.add_assoc]
theorem jc{D:Int}(hD:D≠0)(ms:List Int):totF (fr D ms)=FQ.red ms.sum D:=by
 have:=gu hD ms 0
 rw[bJ hD,Int.zero_add]at this
 exact this
def leastGo(s:Int×Int)(ps:List (Int×Int)):Int×Int:=ps.foldl (λs p=>if lessF p s=true then p else s) s
def leastF(ps:List (Int×Int)):Int×Int:=leastGo (ps.headD (0,1)) ps
def spLeast(K:PySem.W.Frag):Sp:=λvs H Q _=>∃(a:Addr) (gs:List V) (ps:List (Int×Int)),vs=[.ref a]/\SqL K H a gs/\Paired (IsF K H) gs ps/\ps≠[]/\ps.length<=60/\(∀p∈ps,Sz 4000 p)/\∀v,IsF K H v (leastF ps)->Q v H
theorem cB(t:Int):∀G:List Int,inV (.int t) (G.map V.int)=decide (t∈G)
 | []=>by simp[inV]
 | x::G=>by
  have ih:=cB t G
  unfold inV at ih ⊢
  rw[List.map_cons,List.any_cons,ih]
  by_cases h1:x=t
  ·subst h1;simp[eqV]
  ·by_cases h2:t∈G
   ·simp[h2]
   ·have h3:t≠x:=λz=>h1 z.symm
    simp[eqV,h1,h2,h3]
theorem bV(G:List Int):(G.map V.int).all flatV=true:=by
 rw[List.all_eq_true]
 intro v hv
 obtain⟨i,_,rfl⟩:=List.mem_map.mp hv
 rfl
structure RowsF(K:PySem.W.Frag)(H0 H:Hp)(L:Addr)(rs:List Addr)(D:Int)(M:List (List Int)):Prop where
 lst:H L=some (.lst (rs.map V.ref))
 rows:Paired (λr (m:List Int)=>∃gs,H r=some (.lst gs)/\Paired (IsF K H) gs (fr D m)) rs M
 nd:rs.Nodup
 fresh:∀r∈rs,H0 r=none
 frL:H0 L=none
 nL:L∉rs
section
variable{K:PySem.W.Frag}{H0 H H':Hp}{L:Addr}{rs:List Addr}{D:Int}{M:List (List Int)}
theorem RowsF.mono(R:RowsF K H0 H L rs D M)(e:Same H H'):RowsF K H0 H' L rs D M:=
 ⟨e _ _ R.lst,Paired.mapP R.rows λ_ _ ⟨gs,h1,h2⟩=>⟨gs,e _ _ h1,av e h2⟩,R.nd,R.fresh,R.frL,R.nL⟩
theorem RowsF.get(R:RowsF K H0 H L rs D M){i:Nat}{m:List Int}(h:M[i]?=some m):∃r gs,rs[i]?=some r/\H r=some (.lst gs)/\Paired (IsF K H) gs (fr D m):=by
 obtain⟨r,h1,gs,h2,h3⟩:=Paired.get R.rows h
 exact⟨r,gs,h1,h2,h3⟩
theorem RowsF.upd{r:Addr}{j:Nat}{gs gs':List V}{m':List Int}(R:RowsF K H0 H L rs D M)(h:rs[j]?=some r)(hr:H r=some (.lst gs))(hg:Paired (IsF K H) gs' (fr D m')):RowsF K H0 (L2.upd H r (.lst gs')) L rs D (M.set j m'):=by
 refine⟨by rw[az (λz=>R.nL (by rw[z];exact List.mem_of_getElem? h))];exact R.lst,?_,R.nd,R.fresh,R.frL,R.nL⟩
 have keep:∀{rs:List Addr} {M:List (List Int)},r∉rs->Paired (λr (m:List Int)=>∃gs,H r=some (.lst gs)/\Paired (IsF K H) gs (fr D m)) rs M->Paired (λr' (m:List Int)=>∃gs,L2.upd H r (.lst gs') r'=some (.lst gs)/\Paired (IsF K (L2.upd H r (.lst gs'))) gs (fr D m)) rs M:=by
  intro rs M hn h
  induction h with
  | nil=>exact .nil
  | cons a b ih=>
   obtain⟨gs,h1,h2⟩:=a
   refine .cons ⟨gs,?_,Paired.mapP h2 λ_ _ q=>q.over hr⟩ (ih λz=>hn (List.mem_cons_of_mem _ z))
   rw[az (λz=>hn (by rw[z];exact List.mem_cons_self))]
   exact h1
 have:∀{rs:List Addr} {M:List (List Int)} {j:Nat},rs.Nodup->rs[j]?=some r->Paired (λr (m:List Int)=>∃gs,H r=some (.lst gs)/\Paired (IsF K H) gs (fr D m)) rs M->Paired (λr' (m:List Int)=>∃gs,L2.upd H r (.lst gs') r'=some (.lst gs)/\Paired (IsF K (L2.upd H r (.lst gs'))) gs (fr D m)) rs (M.set j m'):=by
  intro rs M j nd e h
  induction h generalizing j with
  | nil=>simp at e
  | cons a b ih=>
   cases j with
   | zero=>
    simp at e
    subst e
    exact .cons ⟨gs',af,Paired.mapP hg λ_ _ q=>q.over hr⟩ (keep (List.nodup_cons.mp nd).1 b)
   | succ j=>
    have e':_:=(by simpa using e:_)
    obtain⟨gs1,h1,h2⟩:=a
    refine .cons ⟨gs1,?_,Paired.mapP h2 λ_ _ q=>q.over hr⟩ (ih (List.nodup_cons.mp nd).2 e')
    rw[az (λz=>(List.nodup_cons.mp nd).1 (by rw[z];exact List.mem_of_getElem? e'))]
    exact h1
 exact this R.nd h R.rows
end
theorem bT{α β:Type}{F:α->β->Prop}{x:α}{y:β}:∀{xs:List α} {ys:List β} {k:Nat},Paired F xs ys->F x y->Paired F (xs.set k x) (ys.set k y)
 | _,_,_,.nil,_=> .nil
 | _,_,0,.cons _ t,h=> .cons h t
 | _,_,k+1,.cons r t,h=> .cons r (bT t h)
theorem jw(D:Int)(m:List Int)(t w:Int):fr D (LM.addOne m t w)=(fr D m).set t.toNat (FQ.red (m.getD t.toNat 0+w) D):=by
 unfold fr LM.addOne
 rw[List.map_set]
theorem ei{D:Int}{m:List Int}{k:Nat}(h:k<m.length):(fr D m)[k]?=some (FQ.red (m.getD k 0) D):=by
 unfold fr
 rw[List.getElem?_map,List.getD_eq_getElem?_getD,List.getElem?_eq_getElem h]
 rfl
end L2
namespace L2
open PySem PySem.Spec PyProof.Rows
abbrev Lot:=Int×List Int
def IsLot(K:PySem.W.Frag)(H:Hp)(T:Int)(v:V)(l:Lot):Prop:=∃a f g,v = .ref a/\SqT K H a [.ref f,.ref g]/\IsF K H (.ref f) (FQ.red l.1 T)/\SqT K H g (l.2.map V.int)
theorem IsLot.mono{K:PySem.W.Frag}{H H':Hp}{T:Int}{v:V}{l:Lot}(e:Same H H')(h:IsLot K H T v l):IsLot K H' T v l:=by
 obtain⟨a,f,g,rfl,h1,h2,h3⟩:=h
 exact⟨a,f,g,rfl,e.tup h1,h2.mono e,e.tup h3⟩
end L2
namespace L2
open PySem PySem.Spec PyProof.Rows
theorem cV{prog:Program}{w:World}{A:Around}{E:Value->Shared->Prop}{s:Shared}{it l:Addr}{i:Nat}{items:Array Value}{x:Value}{Q:Value->Shared->Prop}(hit:s.heap.IsTupleIter it l i)(hl:s.heap.IsTuple l items)(hx:items[i]?=some x)
  (hQ:∀h':Heap,h'.IsTupleIter it l (i+1)->Heap.SameBut it s.heap h'->Q x {s with heap:=h'}):wpAny (model prog w) A (Builtin.SmallTypes.nextOf (.ref it)) Q E s:=by
 obtain⟨o,ho,hc,hd⟩:=id hit
 obtain⟨ol,hol,hcl,nl,hdl⟩:=hl
 unfold Builtin.SmallTypes.nextOf
 refine wpAny_bind (wpAny_callSpecial?_slot (Heap.IsTupleIter.typeIs hit) F.slot_tuple_iterator_next (wpAny_call_entry F.slot_tuple_iterator_next (Heap.IsTupleIter.typeIs hit) F.entry_tuple_iterator_next ?_ (F.args_tuple_iterator_next_1 _)))
 refine wpAny_bind (wpAny_pure ?_)
 refine wpAny_bind (wpAny_field ho hd rfl ?_)
 refine wpAny_ite_false rfl ?_
 refine wpAny_bind (wpAny_field ho hd rfl ?_)
 refine wpAny_bind (wpAny_seqItems hol hdl ?_)
 dsimp only
 rw[show items[((i:Nat):Int).toNat]?=some x from hx]
 refine wpAny_bind (wpAny_setField ho hd (by simp) ?_)
 refine wpAny_pure ⟨x,rfl,wpAny_pure (hQ _ ⟨_,Heap.get?_update_self _ ho (Obj.isFreed_of_fields (Obj.data_mapFields hd _)),(Obj.cls_mapFields o _).trans hc,?_⟩ (Heap.SameBut.update _ _ _))⟩
 rw[Obj.data_mapFields hd]
 rfl
theorem du{prog:Program}{w:World}{A:Around}{E:Value->Shared->Prop}{s:Shared}{it l:Addr}{i:Nat}{items:Array Value}{Q:Value->Shared->Prop}(hh:A.handled=none)(hit:s.heap.IsTupleIter it l i)(hl:s.heap.IsTuple l items)(hx:items[i]?=none)
  (hE:∀(h':Heap) (e:Addr),Heap.ExtBut it s.heap h'->(∃o,h'.get? e=some o/\o.cls = .type "StopIteration")->E (.ref e) {s with heap:=h'}):wpAny (model prog w) A (Builtin.SmallTypes.nextOf (.ref it)) Q E s:=by
 obtain⟨o,ho,hc,hd⟩:=id hit
 obtain⟨ol,hol,hcl,nl,hdl⟩:=hl
 unfold Builtin.SmallTypes.nextOf
 refine wpAny_bind (wpAny_callSpecial?_slot (Heap.IsTupleIter.typeIs hit) F.slot_tuple_iterator_next (wpAny_call_entry F.slot_tuple_iterator_next (Heap.IsTupleIter.typeIs hit) F.entry_tuple_iterator_next ?_ (F.args_tuple_iterator_next_1 _)))
 refine wpAny_bind (wpAny_pure ?_)
 refine wpAny_bind (wpAny_field ho hd rfl ?_)
 refine wpAny_ite_false rfl ?_
 refine wpAny_bind (wpAny_field ho hd rfl ?_)
 refine wpAny_bind (wpAny_seqItems hol hdl ?_)
 dsimp only
 rw[show items[((i:Nat):Int).toNat]?=none from hx]
 refine wpAny_bind (wpAny_rule (wpAny_bind (wpAny_setField ho hd (by simp) ?_)))
 unfold Builtin.SmallTypes.stopIteration newExc raiseNew
 refine wpAny_bind (wpAny_bind (wpAny_newTuple ?_ (by show(0:Nat)<=sizeLine;decide)))
 refine wpAny_bind (wpAny_of_eq rfl (wpAny_newObj_type ?_ ?_))
 ·refine wpAny_bind (wpAny_handled ?_)
  rw[show A.in1.handled=none from hh]
  refine wpAny_throw ?_
  exact hE _ _ (((Heap.SameBut.update _ _ _).extBut.push _).push _) ⟨_,Heap.get?_push_size _ rfl,rfl⟩
 ·exact sizeOk_excFields _ _ _ _ _ _ _ _
theorem cx{prog:Program}{w:World}{A:Around}(hh:A.handled=none)(it l:Addr)(hl:l≠it)(items:Array Value):Draws prog w A it [it,l] items.size (λi v=>items[i]?=some v) (λi h=>h.IsTupleIter it l i/\h.IsTuple l items) where
 live:=λi h st=>by obtain⟨⟨o,ho,_⟩,_⟩:=st;exact⟨o,ho⟩
 frame:=λi h h' st k=>by
  obtain⟨s1,o,s2,r⟩:=st
  exact⟨s1.at λo q=>k it (by simp) o q,o,k l (by simp) o s2,r⟩
 item:=λi s Q E hi st h=>by
  obtain⟨s1,s2⟩:=st
  refine cV s1 s2 (x:=items[i]) (by simp[hi]) λh' st' sb=>h _ _ s.toks (by simp[hi]) ⟨st',?_⟩ sb
  obtain⟨o,q,r⟩:=s2
  exact⟨o,(sb.2 l hl).trans q,r⟩
 done:=λs Q E st h=>by
  obtain⟨s1,s2⟩:=st
  exact du hh s1 s2 (by simp) h
structure ZipA(z TI TO i1 i2:Addr)(fp1 fp2:List Addr):Prop where
 TIz:TI≠z
 TOz:TO≠z
 i1z:i1≠z
 i2z:i2≠z
 TITO:TI≠TO
 TIi1:TI≠i1
 TIi2:TI≠i2
 TOi1:TO≠i1
 TOi2:TO≠i2
 i12:i1≠i2
 z1:z∉fp1
 T1:TO∉fp1
 i21:i2∉fp1
 z2:z∉fp2
 T2:TO∉fp2
 i12':i1∉fp2
theorem kw{prog:Program}{w:World}{A:Around}{E:Value->Shared->Prop}{s:Shared}{z TI TO i1 i2:Addr}{fp1 fp2:List Addr}{n1 n2 k1 k2:Nat}{P1 P2:Nat->Value->Prop}{St1 St2:Nat->Heap->Prop}{a b:Value}{Q:Value->Shared->Prop}
  (D1:Draws prog w A i1 fp1 n1 P1 St1)(D2:Draws prog w A i2 fp2 n2 P2 St2)(ap:ZipA z TI TO i1 i2 fp1 fp2)(hz:IsZip s.heap z TI TO .none)(hTI:IsPair s.heap TI (.ref i1) (.ref i2))(hTO:IsPair s.heap TO a b)
  (s1:St1 k1 s.heap)(s2:St2 k2 s.heap)(hk1:k1<n1)(hk2:k2<n2)
  (hQ:∀(x y:Value) (h':Heap) (tk:Nat),P1 k1 x->P2 k2 y->IsZip h' z TI TO (rawInt s.heap.objs.size)->IsPair h' TO x y->St1 (k1+1) h'->St2 (k2+1) h'->IsPair h' s.heap.objs.size x y->h'.objs.size=s.heap.objs.size+1->
   (∀c o,c≠z->c≠TO->c≠i1->c≠i2->s.heap.get? c=some o->h'.get? c=some o)->Q (.ref s.heap.objs.size) {s with heap:=h',toks:=tk}):
  wpAny (model prog w) A (Builtin.«zip.__next__» {pos:=[.ref z]}) (λfin s'=>∃v,fin=Fin.done (Flow.ret v)/\Q v s') E s:=by
 unfold Builtin.«zip.__next__»
 refine wpAny_bind (wpAny_pure ?_)
 refine wpAny_bind (wpAny_field hz rfl rfl ?_)
 refine wpAny_bind (wpAny_field hz rfl rfl ?_)
 refine wpAny_bind (wpAny_seqItems hTI rfl ?_)
 refine wpAny_ite_false rfl ?_
 unfold Builtin.SmallTypes.ownedTupleIsFree
 refine wpAny_bind (wpAny_bind (wpAny_field hz rfl rfl (wpAny_pure ?_)))
 refine wpAny_bind (wpAny_rule (wpAny_bind (wpAny_field hz rfl rfl ?_)))
 refine wpAny_bind (wpAny_setField_rec hz (by simp) λh1 hz1 sb1=>?_)
 rw[show #[Value.ref i1,Value.ref i2].toList.zipIdx=[(Value.ref i1,0),(Value.ref i2,1)]from rfl,List.forIn_cons,bind_assoc]
 have hTO1:IsPair h1 TO a b:=(sb1.2 TO ap.TOz).trans hTO
 have s11:St1 k1 h1:=D1.frame _ _ _ s1 λc hc o q=>(sb1.2 c (λe=>ap.z1 (e▸hc))).trans q
 have s21:St2 k2 h1:=D2.frame _ _ _ s2 λc hc o q=>(sb1.2 c (λe=>ap.z2 (e▸hc))).trans q
 refine wpAny_bind (wpAny_bind (wpAny_onRaise ?_))
 refine(show wpAny (model prog w) A (if(Value.bool false==Value.bool true)=true then Builtin.SmallTypes.nextOrEnd (.ref i1)else do let x<-Builtin.SmallTypes.nextOf (.ref i1);pure (some x)) _ _ _ from wpAny_ite_false rfl (wpAny_bind (D1.item k1 _ _ _ hk1 s11 λx h2 tk2 px s12 sb2=>wpAny_pure ?_)))
 have hTO2:IsPair h2 TO a b:=(sb2.2 TO ap.TOi1).trans hTO1
 refine wpAny_bind (wpAny_seqItems hTO2 rfl ?_)
 refine wpAny_bind (wpAny_updateSeq_pair hTO2 λh3 hTO3 sb3=>?_)
 refine wpAny_bind (wpAny_letGo (wpAny_pure ?_))
 dsimp only
 have hTO3':IsPair h3 TO x b:=hTO3
 have s13:St1 (k1+1) h3:=D1.frame _ _ _ s12 λc hc o q=>(sb3.2 c (λe=>ap.T1 (e▸hc))).trans q
 have s23:St2 k2 h3:=D2.frame _ _ _ s21 λc hc o q=>(sb3.2 c (λe=>ap.T2 (e▸hc))).trans ((sb2.2 c (λe=>ap.i12' (e▸hc))).trans q)
 rw[List.forIn_cons,bind_assoc]
 refine wpAny_bind (wpAny_bind (wpAny_onRaise ?_))
 refine(show wpAny (model prog w) A (if(Value.bool false==Value.bool true)=true then Builtin.SmallTypes.nextOrEnd (.ref i2)else do let x<-Builtin.SmallTypes.nextOf (.ref i2);pure (some x)) _ _ _ from wpAny_ite_false rfl (wpAny_bind (D2.item k2 _ _ _ hk2 s23 λy h4 tk4 py s24 sb4=>wpAny_pure ?_)))
 have hTO4:IsPair h4 TO x b:=(sb4.2 TO ap.TOi2).trans hTO3'
 refine wpAny_bind (wpAny_seqItems hTO4 rfl ?_)
 refine wpAny_bind (wpAny_updateSeq_pair hTO4 λh5 hTO5 sb5=>?_)
 refine wpAny_bind (wpAny_letGo (wpAny_pure ?_))
 dsimp only
 have hTO5':IsPair h5 TO x y:=hTO5
 rw[List.forIn_nil]
 refine wpAny_bind (wpAny_pure ?_)
 refine wpAny_bind (wpAny_seqItems hTO5' rfl ?_)
 refine wpAny_bind (wpAny_newTuple ?_ (by show 2<=sizeLine;decide))
 have hz5:h5.get? z=some {cls:=Value.type "zip",data:=Data.fields #[Value.ellipsis,Value.bool false,Value.bool false,Value.ref TI,Value.ref TO]}:=
  (sb5.2 z (Ne.symm ap.TOz)).trans ((sb4.2 z (Ne.symm ap.i2z)).trans ((sb3.2 z (Ne.symm ap.TOz)).trans ((sb2.2 z (Ne.symm ap.i1z)).trans hz1)))
 unfold Builtin.SmallTypes.ownedTupleHandOut
 dsimp only
 have hz6:=Heap.get?_push_of_some (o:={cls:=Value.type "tuple",data:=Data.seq [x,y].toArray}) hz5
 refine wpAny_bind (wpAny_bind (wpAny_setField_rec hz6 (by simp) λh7 hz7 sb7=>?_))
 refine wpAny_setField_rec hz7 (by simp) λh8 hz8 sb8=>?_
 have e5:h5.objs.size=s.heap.objs.size:=by rw[sb5.1,sb4.1,sb3.1,sb2.1,sb1.1]
 have hnew:(h5.push {cls:=Value.type "tuple",data:=Data.seq [x,y].toArray}).get? h5.objs.size=some {cls:=Value.type "tuple",data:=Data.seq [x,y].toArray}:=Heap.get?_push_size _ rfl
 have nz:h5.objs.size≠z:=Ne.symm (Nat.ne_of_lt (Heap.lt_size hz5))
 have s15:St1 (k1+1) h5:=D1.frame _ _ _ s13 λc hc o q=>(sb5.2 c (λe=>ap.T1 (e▸hc))).trans ((sb4.2 c (λe=>ap.i21 (e▸hc))).trans q)
 have s25:St2 (k2+1) h5:=D2.frame _ _ _ s24 λc hc o q=>(sb5.2 c (λe=>ap.T2 (e▸hc))).trans q
 have keep8:∀c o,c≠z->h5.get? c=some o->h8.get? c=some o:=λc o hc q=>(sb8.2 c hc).trans ((sb7.2 c hc).trans (Heap.get?_push_of_some _ q))
 refine wpAny_pure ⟨_,rfl,?_⟩
 dsimp only
 rw[e5]
 refine hQ x y h8 tk4 px py ?_ (keep8 TO _ ap.TOz hTO5') (D1.frame _ _ _ s15 λc hc o q=>keep8 c o (λe=>ap.z1 (e▸hc)) q) (D2.frame _ _ _ s25 λc hc o q=>keep8 c o (λe=>ap.z2 (e▸hc)) q) ?_ ?_ (λc o c1 c2 c3 c4 q=>?_)
 ·rw[<-e5];exact hz8
 ·rw[<-e5];exact(sb8.2 _ nz).trans ((sb7.2 _ nz).trans hnew)
 ·rw[sb8.1,sb7.1]
  show(h5.push _).objs.size=_
  unfold Heap.push
  simp[e5]
 ·exact keep8 c o c1 ((sb5.2 c c2).trans ((sb4.2 c c4).trans ((sb3.2 c c2).trans ((sb2.2 c c3).trans ((sb1.2 c c1).trans q)))))
theorem fc{prog:Program}{w:World}{A:Around}{E:Value->Shared->Prop}{s:Shared}{z:Addr}{Q:Option Value->Shared->Prop}(ht:s.TypeIs (.ref z) "zip")
  (h:wpAny (model prog w) A.in1 (Builtin.«zip.__next__» {pos:=[.ref z]}) (λfin s'=>∃v,fin=Fin.done (Flow.ret v)/\Q (some v) s') (λe s'=>(∃a o,e = .ref a/\s'.heap.get? a=some o/\o.cls = .type "StopIteration")/\Q none s') s):
  wpAny (model prog w) A (pyNext (.ref z)) Q E s:=by
 unfold pyNext
 refine wpAny_bind (wpAny_attempt (wpAny_callSpecial?_slot ht F.slot_zip_next (wpAny_call_entry F.slot_zip_next ht F.entry_zip_next ?_ (F.args_zip_next_1 _))))
 refine wpAny_mono h (λfin s' hq=>?_) (λe s' hq=>?_)
 ·obtain⟨v,e,q⟩:=hq
  exact⟨v,e,wpAny_pure q⟩
 ·obtain⟨⟨a,o,rfl,ho,hc⟩,q⟩:=hq
  refine wpAny_bind (wpAny_isInstance (T:="StopIteration") ⟨o,ho,hc⟩ isSubtype_stop ?_)
  exact wpAny_pure q
theorem k9{prog:Program}{w:World}{A:Around}{E:Value->Shared->Prop}{s:Shared}{z TI TO i1 i2:Addr}{fp1:List Addr}{n1:Nat}{P1:Nat->Value->Prop}{St1:Nat->Heap->Prop}{a b:Value}{Q:PySem.Fin->Shared->Prop}
  (D1:Draws prog w A i1 fp1 n1 P1 St1)(i1z:i1≠z)(z1:z∉fp1)(hz:IsZip s.heap z TI TO .none)(hTI:IsPair s.heap TI (.ref i1) (.ref i2))(hTO:IsPair s.heap TO a b)(s1:St1 n1 s.heap)
  (hE:∀(h':Heap) (e:Addr),(∀c o,c≠z->c≠i1->s.heap.get? c=some o->h'.get? c=some o)->(∃o,h'.get? e=some o/\o.cls = .type "StopIteration")->E (.ref e) {s with heap:=h'}):
  wpAny (model prog w) A (Builtin.«zip.__next__» {pos:=[.ref z]}) Q E s:=by
 unfold Builtin.«zip.__next__»
 refine wpAny_bind (wpAny_pure ?_)
 refine wpAny_bind (wpAny_field hz rfl rfl ?_)
 refine wpAny_bind (wpAny_field hz rfl rfl ?_)
 refine wpAny_bind (wpAny_seqItems hTI rfl ?_)
 refine wpAny_ite_false rfl ?_
 unfold Builtin.SmallTypes.ownedTupleIsFree
 refine wpAny_bind (wpAny_bind (wpAny_field hz rfl rfl (wpAny_pure ?_)))
 refine wpAny_bind (wpAny_rule (wpAny_bind (wpAny_field hz rfl rfl ?_)))
 refine wpAny_bind (wpAny_setField_rec hz (by simp) λh1 hz1 sb1=>?_)
 rw[show #[Value.ref i1,Value.ref i2].toList.zipIdx=[(Value.ref i1,0),(Value.ref i2,1)]from rfl,List.forIn_cons,bind_assoc]
 have s11:St1 n1 h1:=D1.frame _ _ _ s1 λc hc o q=>(sb1.2 c (λe=>z1 (e▸hc))).trans q
 refine wpAny_bind (wpAny_bind (wpAny_onRaise ?_))
 refine(show wpAny (model prog w) A (if(Value.bool false==Value.bool true)=true then Builtin.SmallTypes.nextOrEnd (.ref i1)else do let x<-Builtin.SmallTypes.nextOf (.ref i1);pure (some x)) _ _ _ from wpAny_ite_false rfl (wpAny_bind (D1.done _ _ _ s11 λh2 e eb2 ho=>?_)))
 have hz2:h2.get? z=some _:=eb2 z _ (Ne.symm i1z) hz1
 refine wpAny_setField_rec hz2 (by simp) λh3 hz3 sb3=>?_
 obtain⟨o,ho,hc⟩:=ho
 have nez:e≠z:=λq=>by
  rw[q,hz2]at ho
  cases ho
  exact absurd (Value.type.inj hc) (by decide)
 exact hE h3 e (λc o c1 c2 q=>(sb3.2 c c1).trans (eb2 c o c2 ((sb1.2 c c1).trans q))) ⟨o,(sb3.2 e nez).trans ho,hc⟩
def Sqx(h:Heap)(tp:Bool)(l:Addr)(items:Array Value):Prop:=if tp=true then h.IsTuple l items else h.IsList l items
def Itx(h:Heap)(tp:Bool)(it l:Addr)(i:Nat):Prop:=if tp=true then h.IsTupleIter it l i else h.IsListIter it l i
def itObj(tp:Bool)(l:Addr):Obj:={cls:= .type (if tp=true then"tuple_iterator"else"list_iterator"),data:= .fields #[.ref l,.int 0 0]}
theorem fi{prog:Program}{w:World}{A:Around}{E:Value->Shared->Prop}{s:Shared}{tp:Bool}{l:Addr}{items:Array Value}{Q:Value->Shared->Prop}(h:Sqx s.heap tp l items)(hQ:Q (.ref s.heap.objs.size) {s with heap:=s.heap.push (itObj tp l)}):wpAny (model prog w) A (pyIter (.ref l)) Q E s:=by
 cases tp with
 | true=>exact wpAny_pyIter_tuple h hQ
 | false=>exact wpAny_pyIter_list h hQ
theorem Sqx.keep{h h':Heap}{tp:Bool}{l:Addr}{items:Array Value}(q:Sqx h tp l items)(k:∀o,h.get? l=some o->h'.get? l=some o):Sqx h' tp l items:=by
 cases tp with
 | true=>obtain⟨o,q1,r⟩:=(show h.IsTuple l items from q);exact⟨o,k o q1,r⟩
 | false=>obtain⟨o,q1,r⟩:=(show h.IsList l items from q);exact⟨o,k o q1,r⟩
theorem Sqx.lt{h:Heap}{tp:Bool}{l:Addr}{items:Array Value}(q:Sqx h tp l items):l<h.objs.size:=by
 cases tp with
 | true=>obtain⟨o,q1,r⟩:=(show h.IsTuple l items from q);exact Heap.lt_size q1
 | false=>obtain⟨o,q1,r⟩:=(show h.IsList l items from q);exact Heap.lt_size q1
theorem Itx.new{h:Heap}{tp:Bool}{it l:Addr}(e:h.get? it=some (itObj tp l)):Itx h tp it l 0:=by
 cases tp with
 | true=>exact⟨_,e,rfl,rfl⟩
 | false=>exact⟨_,e,rfl,rfl⟩
theorem Itx.keep{h h':Heap}{tp:Bool}{it l:Addr}{i:Nat}(q:Itx h tp it l i)(k:∀o,h.get? it=some o->h'.get? it=some o):Itx h' tp it l i:=by
 cases tp with
 | true=>exact Heap.IsTupleIter.at q k
 | false=>exact Heap.IsListIter.at q k
theorem Itx.get{h:Heap}{tp:Bool}{it l:Addr}{i:Nat}(q:Itx h tp it l i):∃vs n,h.get? it=some {cls:= .type n,data:= .fields vs}\/∃o,h.get? it=some o/\o.data = .fields vs:=by
 cases tp with
 | true=>obtain⟨o,e,c,d⟩:=(show h.IsTupleIter it l i from q);exact⟨_,"",.inr ⟨o,e,d⟩⟩
 | false=>obtain⟨o,e,c,d⟩:=(show h.IsListIter it l i from q);exact⟨_,"",.inr ⟨o,e,d⟩⟩
theorem dR{prog:Program}{w:World}{A:Around}(hh:A.handled=none)(tp:Bool)(it l:Addr)(hl:l≠it)(items:Array Value):Draws prog w A it [it,l] items.size (λi v=>items[i]?=some v) (λi h=>Itx h tp it l i/\Sqx h tp l items):=by
 cases tp with
 | true=>exact cx hh it l hl items
 | false=>exact Draws.list hh it l hl items
theorem iU(l1 l2:Addr)(t1 t2:Bool)(xs ys:Array Value):Meets (Builtin.«zip.__new__» {pos:=[.type "zip",.ref l1,.ref l2]}) (λ_ R s=>Sqx s.heap t1 l1 xs/\Sqx s.heap t2 l2 ys/\
  R (.ok (.ret (.ref (s.heap.objs.size+4)))) {s with heap:=((((s.heap.push (itObj t1 l1)).push (itObj t2 l2)).push {cls:= .type "tuple",data:= .seq #[.ref s.heap.objs.size,.ref (s.heap.objs.size+1)]}).push {cls:= .type "tuple",data:= .seq #[.none,.none]}).push {cls:= .type "zip",data:= .fields #[.none,.bool false,.bool false,.ref (s.heap.objs.size+2),.ref (s.heap.objs.size+3)]}}):=by
 refine Meets.of_wp λprog w A R s h=>?_
 obtain⟨h1,h2,hR⟩:=h
 have hsub:=sub_zip
 unfold Builtin.«zip.__new__» Builtin.SmallTypes.newClass
 refine wpAny_bind (wpAny_bind (wpAny_pure ?_))
 refine wpAny_ite_false rfl (wpAny_bind (wpAny_of_eq hsub (wpAny_ite_false rfl (wpAny_pure ?_))))
 refine wpAny_ite_false rfl ?_
 unfold Builtin.SmallTypes.iterAll
 dsimp only
 rw[List.forIn_cons]
 refine wpAny_bind (wpAny_bind (wpAny_bind (wpAny_bind (wpAny_holding (fi h1 (wpAny_pure ?_))))))
 dsimp only
 rw[List.forIn_cons]
 have h21:Sqx (s.heap.push (itObj t1 l1)) t2 l2 ys:=h2.keep λo q=>Heap.get?_push_of_some _ q
 refine wpAny_bind (wpAny_bind (wpAny_holding (fi (s:={s with heap:=s.heap.push (itObj t1 l1)}) h21 (wpAny_pure ?_))))
 dsimp only
 rw[List.forIn_nil]
 have e1:∀(h:Heap) (o:Obj),(h.push o).objs.size=h.objs.size+1:=λh o=>by unfold Heap.push;simp
 refine wpAny_pure (wpAny_pure ?_)
 refine wpAny_bind (wpAny_newTuple ?_ (by show 2<=sizeLine;decide))
 refine wpAny_bind (wpAny_newTuple ?_ (by show 2<=sizeLine;decide))
 unfold Builtin.SmallTypes.newRecord
 refine wpAny_bind (wpAny_newObj_type ?_ (by show(5:Nat)<=sizeLine+2;decide))
 refine wpAny_pure ⟨_,rfl,?_⟩
 simp only[e1]
 exact hR
def SqB(K:PySem.W.Frag)(H:Hp)(tp:Bool)(a:Addr)(xs:List V):Prop:=if tp=true then SqT K H a xs else SqL K H a xs
structure ZipB(z TI TO i1 i2 l1 l2:Addr):Prop where
 TIz:TI≠z
 TOz:TO≠z
 i1z:i1≠z
 i2z:i2≠z
 TITO:TI≠TO
 TIi1:TI≠i1
 TIi2:TI≠i2
 TOi1:TO≠i1
 TOi2:TO≠i2
 i12:i1≠i2
 l1z:l1≠z
 l1T:l1≠TO
 l1i:l1≠i1
 l1j:l1≠i2
 l2z:l2≠z
 l2T:l2≠TO
 l2i:l2≠i1
 l2j:l2≠i2
theorem ZipB.a{z TI TO i1 i2 l1 l2:Addr}(b:ZipB z TI TO i1 i2 l1 l2):ZipA z TI TO i1 i2 [i1,l1] [i2,l2]:=
 ⟨b.TIz,b.TOz,b.i1z,b.i2z,b.TITO,b.TIi1,b.TIi2,b.TOi1,b.TOi2,b.i12,by simp[Ne.symm b.i1z,Ne.symm b.l1z],by simp[b.TOi1,Ne.symm b.l1T],by simp[Ne.symm b.i12,Ne.symm b.l1j],by simp[Ne.symm b.i2z,Ne.symm b.l2z],by simp[b.TOi2,Ne.symm b.l2T],by simp[b.i12,Ne.symm b.l2i]⟩
section
variable{X:Cx}{pins:List (Addr×Obj)}{σ:St}{H:Hp}{s:Shared}
theorem Inv.sqx(I:Inv X pins σ H s){tp:Bool}{a:Addr}{xs:List V}(h:SqB X.K H tp a xs):∃its:List Value,Vals xs its/\Sqx s.heap tp a its.toArray:=by
 cases tp with
 | true=>obtain⟨its,r,p,_⟩:=I.tuple h;exact⟨its,r,p⟩
 | false=>obtain⟨its,r,p,_⟩:=I.list h;exact⟨its,r,p.isList⟩
theorem Inv.sqb_inj(I:Inv X pins σ H s){tp:Bool}{a:Addr}{xs ys:List V}(h:SqB X.K H tp a xs)(h':SqB X.K H tp a ys):xs=ys:=by
 cases tp with
 | true=>exact I.tuple_inj h h'
 | false=>exact I.list_inj h h'
end
def Itz(K:PySem.W.Frag)(t1 t2:Bool)(a b:Addr):It:=
 ⟨λi H=>∃xs ys x y,SqB K H t1 a xs/\SqB K H t2 b ys/\xs[i]?=some x/\ys[i]?=some y,
  λi H v H'=>∃x y t,(∀xs,SqB K H t1 a xs->xs[i]?=some x)/\(∀ys,SqB K H t2 b ys->ys[i]?=some y)/\v = .ref t/\H t=none/\H'=upd H t (.tup [x,y]),
  λi H=>∃xs,SqB K H t1 a xs/\xs.length=i⟩
theorem kI{P:Program}{w:World}{K:PySem.W.Frag}{elts:List Expr}{x1:Nat}{pos:Pos}(t1 t2:Bool)(l1 l2 z TI TO i1 i2:Addr)(ap:ZipB z TI TO i1 i2 l1 l2):
  Turn P w K (.Tuple elts x1 pos) (Itz K t1 t2 l1 l2) [z,TI,TO,i1,i2] z (λi h=>IsZip h z TI TO .none/\IsPair h TI (.ref i1) (.ref i2)/\(∃a b,IsPair h TO a b)/\Itx h t1 i1 l1 i/\Itx h t2 i2 l2 i) where
 mem:=by simp
 obj:=λi h st b hb=>by
  obtain⟨q1,q2,⟨a,c,q3⟩,q4,q5⟩:=st
  simp only[List.mem_cons,List.not_mem_nil,or_false]at hb
  rcases hb with rfl|rfl|rfl|rfl|rfl
  ·exact⟨_,q1,λv z=>by cases z⟩
  ·exact⟨_,q2,λv z=>by cases z⟩
  ·exact⟨_,q3,λv z=>by cases z⟩
  ·cases t1 with
   | true=>obtain⟨o,e,_,d⟩:=(show h.IsTupleIter _ _ _ from q4);exact⟨o,e,λv z=>by rw[d]at z;cases z⟩
   | false=>obtain⟨o,e,_,d⟩:=(show h.IsListIter _ _ _ from q4);exact⟨o,e,λv z=>by rw[d]at z;cases z⟩
  ·cases t2 with
   | true=>obtain⟨o,e,_,d⟩:=(show h.IsTupleIter _ _ _ from q5);exact⟨o,e,λv z=>by rw[d]at z;cases z⟩
   | false=>obtain⟨o,e,_,d⟩:=(show h.IsListIter _ _ _ from q5);exact⟨o,e,λv z=>by rw[d]at z;cases z⟩
 keep:=λi h h' st k=>by
  obtain⟨q1,q2,⟨a,c,q3⟩,q4,q5⟩:=st
  exact⟨k z (by simp) _ q1,k TI (by simp) _ q2,⟨a,c,k TO (by simp) _ q3⟩,q4.keep λo q=>k i1 (by simp) o q,q5.keep λo q=>k i2 (by simp) o q⟩
 item:=by
  intro X hP hw hK hc i pins s σ H E I hf st hg
  subst hP hw hK
  obtain⟨xs,ys,x,y,hx1,hy1,hx,hy⟩:=hg
  obtain⟨its1,rv1,p1⟩:=I.sqx hx1
  obtain⟨its2,rv2,p2⟩:=I.sqx hy1
  obtain⟨u,hu,ru⟩:=rv1.get hx
  obtain⟨v,hv,rv⟩:=rv2.get hy
  obtain⟨q1,q2,⟨a,c,q3⟩,q4,q5⟩:=st
  have hh:=I.ok.hd hc
  have hul:i<its1.toArray.size:=by rw[List.size_toArray];exact(List.getElem?_eq_some_iff.mp hu).1
  have hvl:i<its2.toArray.size:=by rw[List.size_toArray];exact(List.getElem?_eq_some_iff.mp hv).1
  refine fc ⟨_,q1,rfl⟩ (kw (dR (A:=X.A.in1) hh t1 i1 l1 ap.l1i its1.toArray) (dR (A:=X.A.in1) hh t2 i2 l2 ap.l2j its2.toArray) ap.a q1 q2 q3 ⟨q4,p1⟩ ⟨q5,p2⟩ hul hvl λx' y' h' tk px py hz' hTO' s1' s2' hnew hsz kk=>?_)
  have ex:x'=u:=by
   have:its1.toArray[i]?=some x':=px
   rw[List.getElem?_toArray,hu]at this
   exact(Option.some.inj this).symm
  have ey:y'=v:=by
   have:its2.toArray[i]?=some y':=py
   rw[List.getElem?_toArray,hv]at this
   exact(Option.some.inj this).symm
  subst ex ey
  have lt:∀b o,s.heap.get? b=some o->b≠s.heap.objs.size:=λb o q=>Nat.ne_of_lt (Heap.lt_size q)
  have hn:H s.heap.objs.size=none:=I.hok.fresh (Nat.le_refl _)
  have lts:∀b∈[z,TI,TO,i1,i2],b≠s.heap.objs.size:=λb hb=>by
   simp only[List.mem_cons,List.not_mem_nil,or_false]at hb
   rcases hb with rfl|rfl|rfl|rfl|rfl
   ·exact lt _ _ q1
   ·exact lt _ _ q2
   ·exact lt _ _ q3
   ·obtain⟨vs,n,e|⟨o,e,_⟩⟩:=q4.get
    ·exact lt _ _ e
    ·exact lt _ _ e
   ·obtain⟨vs,n,e|⟨o,e,_⟩⟩:=q5.get
    ·exact lt _ _ e
    ·exact lt _ _ e
  have I0:Inv X pins σ (upd H s.heap.objs.size (.tup [x,y])) {s with heap:=s.heap.push {cls:= .type "tuple",data:= .seq #[x',y']},toks:=s.toks}:=
   I.laid (t':=s.toks) (λb o q=>Heap.get?_push_of_some _ q) (Nat.le_refl _) ⟨by show 2<=sizeLine;decide,[x',y'],.cons ru (.cons rv .nil),⟨_,Heap.get?_push_size _ rfl,rfl,_,rfl⟩⟩
  have hf':∀b∈[z,TI,TO,i1,i2],FpOk X pins (upd H s.heap.objs.size (.tup [x,y])) b:=λb hb=>by
   have q:=hf b hb
   exact⟨by rw[az (lts b hb)];exact q.1,q.2⟩
  have I1:Inv X pins σ (upd H s.heap.objs.size (.tup [x,y])) {s with heap:=h',toks:=tk}:=
   Inv.turnedL (s:={s with heap:=s.heap.push {cls:= .type "tuple",data:= .seq #[x',y']},toks:=s.toks}) I0 (fp:=[z,TI,TO,i1,i2]) (t':=tk) (λb o hb q=>by
    simp only[List.mem_cons,List.not_mem_nil,or_false,not_or]at hb
    rcases bL q rfl with q|⟨rfl,rfl⟩
    ·exact kk b o hb.1 hb.2.2.1 hb.2.2.2.1 hb.2.2.2.2 q
    ·exact hnew) hf'
  refine⟨_,rfl,wpAny_letOwnedTupleGo_zip (s:={s with heap:=h',toks:=tk}) hz' λh2 hz2 sb=>?_⟩
  have I2:Inv X pins σ (upd H s.heap.objs.size (.tup [x,y])) {s with heap:=h2,toks:=tk}:=
   Inv.turnedL (s:={s with heap:=h',toks:=tk}) I1 (fp:=[z,TI,TO,i1,i2]) (t':=tk) (λb o hb q=>(sb.2 b (λe=>hb (by simp[e]))).trans q) hf'
  have hTI':IsPair h' TI (.ref i1) (.ref i2):=kk TI _ ap.TIz ap.TITO ap.TIi1 ap.TIi2 q2
  refine⟨.ref s.heap.objs.size,_,I2,rfl,⟨x,y,_,λxs' h=>by rw[I.sqb_inj h hx1];exact hx,λys' h=>by rw[I.sqb_inj h hy1];exact hy,rfl,hn,rfl⟩,⟨hz2,(sb.2 TI ap.TIz).trans hTI',⟨_,_,(sb.2 TO ap.TOz).trans hTO'⟩,s1'.1.keep λo q=>(sb.2 i1 ap.i1z).trans q,s2'.1.keep λo q=>(sb.2 i2 ap.i2z).trans q⟩,λb hb=>(hf' b hb).1⟩
 done:=by
  intro X hP hw hK hc i pins s σ H E I hf st hg
  subst hP hw hK
  obtain⟨xs,hx1,hxl⟩:=hg
  obtain⟨its1,rv1,p1⟩:=I.sqx hx1
  obtain⟨q1,q2,⟨a,c,q3⟩,q4,q5⟩:=st
  have hh:=I.ok.hd hc
  have hl:=rv1.length
  have en:i=its1.toArray.size:=by rw[List.size_toArray];omega
  subst en
  refine fc ⟨_,q1,rfl⟩ (k9 (dR (A:=X.A.in1) hh t1 i1 l1 ap.l1i its1.toArray) ap.i1z (by simp[Ne.symm ap.i1z,Ne.symm ap.l1z]) q1 q2 q3 ⟨q4,p1⟩ λh' e kk ho=>?_)
  obtain⟨o,ho,hcl⟩:=ho
  exact⟨⟨e,o,rfl,ho,hcl⟩,rfl,I.turnedL (fp:=[z,TI,TO,i1,i2]) (t':=s.toks) (λb o hb q=>kk b o (λz=>hb (by simp[z])) (λz=>hb (by simp[z])) q) hf⟩
 self:=λ_ _ _ _ _ st h=>by
  obtain⟨q1,_⟩:=st
  exact wpAny_pyIter_zip q1 h
theorem jp{prog:Program}{w:World}{A:Around}{E:Value->Shared->Prop}{s:Shared}{l1 l2:Addr}{t1 t2:Bool}{xs ys:Array Value}{Q:Value->Shared->Prop}(h1:Sqx s.heap t1 l1 xs)(h2:Sqx s.heap t2 l2 ys)
  (h:∀h':Heap,IsZip h' (s.heap.objs.size+4) (s.heap.objs.size+2) (s.heap.objs.size+3) .none->IsPair h' (s.heap.objs.size+2) (.ref s.heap.objs.size) (.ref (s.heap.objs.size+1))->IsPair h' (s.heap.objs.size+3) .none .none->
   Itx h' t1 s.heap.objs.size l1 0->Itx h' t2 (s.heap.objs.size+1) l2 0->h'.objs.size=s.heap.objs.size+5->(∀c o,s.heap.get? c=some o->h'.get? c=some o)->Q (.ref (s.heap.objs.size+4)) {s with heap:=h'}):
  wpAny (model prog w) A (call (.type "zip") [.ref l1,.ref l2]) Q E s:=by
 refine callType_new F.called_zip (by decide) (F.typeCall_zip_2 _ _) (F.newCall_zip_2 _ _) (λobj=>F.args_object_init_3 obj _ _) F.entry_zip_new (iU l1 l2 t1 t2 xs ys) ⟨h1,h2,?_⟩
 have e1:∀(h:Heap) (o:Obj),(h.push o).objs.size=h.objs.size+1:=λh o=>by unfold Heap.push;simp
 have ps:∀(h:Heap) (o:Obj) (n:Nat),h.objs.size=n->o.isFreed=false->(h.push o).get? n=some o:=λh o n e f=>by rw[<-e];exact Heap.get?_push_size _ f
 have fr:∀tp l,(itObj tp l).isFreed=false:=λtp l=>rfl
 generalize ho1:itObj t1 l1=o1
 generalize ho2:itObj t2 l2=o2
 have f1:o1.isFreed=false:=by rw[<-ho1];rfl
 have f2:o2.isFreed=false:=by rw[<-ho2];rfl
 generalize hq1:s.heap.push o1=q1
 have z1:q1.objs.size=s.heap.objs.size+1:=by rw[<-hq1];exact e1 _ _
 have g1:q1.get? s.heap.objs.size=some o1:=by rw[<-hq1];exact Heap.get?_push_size _ f1
 have k1:∀c o,s.heap.get? c=some o->q1.get? c=some o:=λc o q=>by rw[<-hq1];exact Heap.get?_push_of_some _ q
 generalize hq2:q1.push o2=q2
 have z2:q2.objs.size=s.heap.objs.size+2:=by rw[<-hq2,e1,z1]
 have g2:q2.get? (s.heap.objs.size+1)=some o2:=by rw[<-hq2];exact ps _ _ _ z1 f2
 have k2:∀c o,q1.get? c=some o->q2.get? c=some o:=λc o q=>by rw[<-hq2];exact Heap.get?_push_of_some _ q
 generalize hq3:q2.push {cls:=Value.type "tuple",data:=Data.seq #[Value.ref s.heap.objs.size,Value.ref (s.heap.objs.size+1)]}=q3
 have z3:q3.objs.size=s.heap.objs.size+3:=by rw[<-hq3,e1,z2]
 have g3:q3.get? (s.heap.objs.size+2)=some {cls:=Value.type "tuple",data:=Data.seq #[Value.ref s.heap.objs.size,Value.ref (s.heap.objs.size+1)]}:=by rw[<-hq3];exact ps _ _ _ z2 rfl
 have k3:∀c o,q2.get? c=some o->q3.get? c=some o:=λc o q=>by rw[<-hq3];exact Heap.get?_push_of_some _ q
 generalize hq4:q3.push {cls:=Value.type "tuple",data:=Data.seq #[Value.none,Value.none]}=q4
 have z4:q4.objs.size=s.heap.objs.size+4:=by rw[<-hq4,e1,z3]
 have g4:q4.get? (s.heap.objs.size+3)=some {cls:=Value.type "tuple",data:=Data.seq #[Value.none,Value.none]}:=by rw[<-hq4];exact ps _ _ _ z3 rfl
 have k4:∀c o,q3.get? c=some o->q4.get? c=some o:=λc o q=>by rw[<-hq4];exact Heap.get?_push_of_some _ q
 generalize hq5:q4.push {cls:=Value.type "zip",data:=Data.fields #[Value.none,Value.bool false,Value.bool false,Value.ref (s.heap.objs.size+2),Value.ref (s.heap.objs.size+3)]}=q5
 have z5:q5.objs.size=s.heap.objs.size+5:=by rw[<-hq5,e1,z4]
 have g5:q5.get? (s.heap.objs.size+4)=some {cls:=Value.type "zip",data:=Data.fields #[Value.none,Value.bool false,Value.bool false,Value.ref (s.heap.objs.size+2),Value.ref (s.heap.objs.size+3)]}:=by rw[<-hq5];exact ps _ _ _ z4 rfl
 have k5:∀c o,q4.get? c=some o->q5.get? c=some o:=λc o q=>by rw[<-hq5];exact Heap.get?_push_of_some _ q
 exact⟨⟨_,g5,rfl⟩,h q5 g5 (k5 _ _ (k4 _ _ g3)) (k5 _ _ g4) (Itx.new (by rw[ho1];exact k5 _ _ (k4 _ _ (k3 _ _ (k2 _ _ g1))))) (Itx.new (by rw[ho2];exact k5 _ _ (k4 _ _ (k3 _ _ g2)))) z5 λc o q=>k5 _ _ (k4 _ _ (k3 _ _ (k2 _ _ (k1 _ _ q))))⟩
theorem kd{n l1 l2:Nat}(h1:l1<n)(h2:l2<n):ZipB (n+4) (n+2) (n+3) n (n+1) l1 l2:=by
 have d:∀a b:Nat,a<b->a≠b:=λa b h=>Nat.ne_of_lt h
 exact⟨d _ _ (by omega),d _ _ (by omega),d _ _ (by omega),d _ _ (by omega),d _ _ (by omega),(d _ _ (by omega)).symm,(d _ _ (by omega)).symm,(d _ _ (by omega)).symm,(d _ _ (by omega)).symm,d _ _ (by omega),
  d _ _ (by omega),d _ _ (by omega),d _ _ (by omega),d _ _ (by omega),d _ _ (by omega),d _ _ (by omega),d _ _ (by omega),d _ _ (by omega)⟩
def iZip(K:PySem.W.Frag)(ta:TA):TI:=λσ H R=>ta σ H λvs H1=>∃(t1 t2:Bool) (a b:Addr),vs=[.ref a,.ref b]/\(∃xs,SqB K H1 t1 a xs)/\(∃ys,SqB K H1 t2 b ys)/\R (Itz K t1 t2 a b) H1
section
variable{X:Cx}
theorem io{elts:List Expr}{x1:Nat}{tpos:Pos}{a b:Expr}{ta:TA}{p pos:Pos}(hg:Gl X "zip")(hm:X.mg "zip"=none)(ha:PA X [a,b] ta)(hs:starEach [a,b] X.env=[(false,eval a X.env),(false,eval b X.env)]:=by rfl)(hs2:starEach [b] X.env=[(false,eval b X.env)]:=by rfl):
  PI X (.Tuple elts x1 tpos) (.Call (.Name "zip" p) [a,b] [] pos) (iZip X.K ta):=by
 intro pins s σ H R I h
 refine Call_ (bS I hg hm PyProof.Rows.boot_zip (PyProof.Rows.callWith_type1 (thn (ha pos pins s σ H _ I h) λus s1 ⟨vs,H1,I1,r1,q1⟩=>?_) (by rw[hs,hs2]) (by rw[hs2];rfl)))
 obtain⟨t1,t2,l1,l2,e,⟨xs,hx⟩,⟨ys,hy⟩,q⟩:=q1
 subst e
 obtain⟨u,v,rfl,ru,rv⟩:=vals2 r1
 cases ru
 cases rv
 obtain⟨its1,rv1,p1⟩:=I1.sqx hx
 obtain⟨its2,rv2,p2⟩:=I1.sqx hy
 refine jp p1 p2 λh' hz hTI hTO s1' s2' hsz kk=>?_
 refine wpAny_pyIter_zip (s:={s1 with heap:=h'}) hz ?_
 have I2:Inv X pins σ H1 {s1 with heap:=h'}:=I1.kept (t':=s1.toks) kk
 refine⟨_,[s1.heap.objs.size+4,s1.heap.objs.size+2,s1.heap.objs.size+3,s1.heap.objs.size,s1.heap.objs.size+1],_,_,H1,rfl,I2,kI t1 t2 l1 l2 _ _ _ _ _ (kd p1.lt p2.lt),⟨hz,hTI,⟨_,_,hTO⟩,s1',s2'⟩,λb hb=>?_,q⟩
 have hle:s1.heap.objs.size<=b:=by
  simp only[List.mem_cons,List.not_mem_nil,or_false]at hb
  rcases hb with rfl|rfl|rfl|rfl|rfl <;> omega
 exact I1.fpOk hle (I1.hok.fresh hle)
end
theorem d5{K:PySem.W.Frag}{t1 t2:Bool}{a b:Addr}{xs ys:List V}{caps:List (Option Nat)}{g:TG}{te:TE}{σ:St}{QQ:List V->Hp->Prop}{H:Hp}(Pv:Nat->List V->Hp->Prop)(he:xs.length=ys.length)(h0:Pv 0 [] H)
  (hl:∀i zs H,i<=xs.length->Pv i zs H->SqB K H t1 a xs/\SqB K H t2 b ys)
  (hs:∀i x y zs H t,xs[i]?=some x->ys[i]?=some y->H t=none->Pv i zs H->g (.ref t) (capS caps σ) (upd H t (.tup [x,y])) λσ2 H2=>te σ2 H2 λv H4=>zs.length<sizeLine/\Pv (i+1) (zs++[v]) H4)
  (hd:∀zs H,Pv xs.length zs H->QQ zs H):tCompK caps g tTrue te σ QQ (Itz K t1 t2 a b) H:=by
 refine⟨λi m zs H=>m=xs.length-i/\i<=xs.length/\Pv i zs H,⟨xs.length,by simp,Nat.zero_le _,h0⟩,?_⟩
 rintro i m zs H ⟨rfl,hi,p⟩
 obtain⟨q1,q2⟩:=hl i zs H hi p
 by_cases hlt:i<xs.length
 ·refine .inr ⟨⟨xs,ys,xs[i],ys[i],q1,q2,by simp[hlt],by simp[show i<ys.length by omega]⟩,Pv (i+1),λys' H' p'=>⟨xs.length-(i+1),by omega,rfl,hlt,p'⟩,λx H' y=>?_⟩
  obtain⟨x',y',t,h1,h2,rfl,h3,rfl⟩:=y
  simp only[cH]
  exact hs i x' y' zs H t (h1 xs q1) (h2 ys q2) h3 p
 ·have e:i=xs.length:=by omega
  subst e
  exact .inl ⟨⟨xs,q1,rfl⟩,hd zs H p⟩
end L2
namespace L2
open PySem PySem.Spec PyProof.Rows
theorem iF{κ:Type}[DecidableEq κ]{kvs:List (κ×Value)}{k:κ}{v:Value}(h:k∉kvs.map (·.1)):stored kvs k v=kvs++[(k,v)]:=by
 unfold stored
 rw[if_neg]
 intro z
 obtain⟨p,hp,e⟩:=List.any_eq_true.mp z
 exact h (List.mem_map.mpr ⟨p,hp,of_decide_eq_true e⟩)
end L2
namespace L2
open PySem PySem.Spec PyProof.Rows
def rCatE(K:PySem.W.Frag):R2:=λx y H Q=>∃(a b:Addr) (xs ys:List V),x = .ref a/\y = .ref b/\SqT K H a xs/\SqT K H b ys/\xs.length+ys.length<=sizeLine/\
 ∀p H',Same H H'->SqT K H' p (xs++ys)->Q (.ref p) H'
theorem lP{X:Cx}:OpR X (binaryOp .Add) (rCatE X.K):=by
 intro pins s σ H x y v u Q I rx ry h
 obtain⟨a,b,xs,ys,rfl,rfl,ha,hb,hz,q⟩:=h
 by_cases hx:xs=[]
 ·cases rx
  cases ry
  obtain⟨its,r1,p1,_⟩:=I.tuple ha
  obtain⟨its2,r2,p2,_⟩:=I.tuple hb
  have hv:its=[]:=r1.nil_iff.mpr hx
  obtain⟨⟨cls,dd,data,sl⟩,ho,hc,n,hd⟩:=id p1
  obtain⟨⟨cls2,dd2,data2,sl2⟩,ho2,hc2,n2,hd2⟩:=id p2
  simp only at hc hd hc2 hd2
  subst hc hd hc2 hd2
  refine concat_meets ⟨_,ho,rfl⟩ ⟨_,ho2,rfl⟩ noFill_tuple_add seq_tuple_add PySem.F.slot_tuple_add PySem.F.entry_tuple_add (PySem.F.args_tuple_add_2 _ _)
   (tuple_addW0 a b its.toArray its2.toArray n n2 dd dd2 sl sl2 (by simp[hv])) ⟨ho,ho2,?_⟩
  exact⟨.ref b,H,I,rfl,q b H (Same.refl _) (by rw[hx];exact hb)⟩
 ·refine lI pins s σ H (.ref a) (.ref b) v u Q I rx ry ⟨a,b,xs,ys,rfl,rfl,ha,hb,hx,hz,λe=>?_,λ_ p hp=>?_⟩
  ·exact q a H (Same.refl _) (by rw[e,List.append_nil];exact ha)
  ·exact q p _ (ae hp _) (SqT.of af)
theorem kQ{xs:List V}{k:Nat}(h:k<=xs.length):cutV xs none (some (k:Int))=xs.take k:=by
 unfold cutV
 rw[HT.sIx_none,HT.sIx_nat,Nat.sub_zero,Nat.min_eq_left h]
 rfl
theorem kl{xs:List V}{k:Nat}(h:k<=xs.length):cutV xs (some (k:Int)) none=xs.drop k:=by
 unfold cutV
 rw[HT.sIx_none,HT.sIx_nat,Nat.min_eq_left h,List.take_of_length_le (by rw[List.length_drop];omega)]
structure Ws41(n:Nat)(W:List (List Int)):Prop where
 lo:1<=n
 hi:n<=6
 len:W.length=n
 pm:∀w∈W,LN.Pm n w
theorem me{K:PySem.W.Frag}{H:Hp}{a:Addr}{o:List Int}{k:Nat}{Q:VK}(hA:SqT K H a (o.map V.int))(hk:k<o.length)(q:∀p H',Same H H'->SqT K H' p ((o.take k).map V.int)->Q (.ref p) H'):rSlT K (.ref a) none (some (k:Int)) H Q:=by
 refine⟨a,_,rfl,hA,?_,λp hp=>q p _ (ae hp _) (SqT.of ?_)⟩
 ·rw[HT.sIx_nat,List.length_map]
  omega
 ·rw[af,kQ (by rw[List.length_map];omega),List.map_take]
theorem my{K:PySem.W.Frag}{H:Hp}{a b:Addr}{l m:List Int}{Q:VK}(h1:SqT K H a (l.map V.int))(h2:SqT K H b (m.map V.int))(hl:l.length+m.length<=1000)(q:∀p H',Same H H'->SqT K H' p ((l++m).map V.int)->Q (.ref p) H'):rCatE K (.ref a) (.ref b) H Q:=
 ⟨a,b,_,_,rfl,rfl,h1,h2,by rw[List.length_map,List.length_map];exact Nat.le_trans hl (by decide),λp H' S h=>q p H' S (by rw[List.map_append];exact h)⟩
end L2
namespace HM
open LM LN
def cnt(n:Nat)(S:Nat->Bool):Nat:=(List.range n).countP S
theorem bq(n:Nat)(S:Nat->Bool):cnt (n+1) S=cnt n S+if S n=true then 1 else 0:=by
 unfold cnt
 rw[List.range_succ,List.countP_append]
 simp[List.countP_cons]
theorem bB{S S':Nat->Bool}:∀{n:Nat},(∀i,i<n->S i=true->S' i=true)->cnt n S<=cnt n S'
 | 0,_=>Nat.le_refl _
 | n+1,h=>by
  have ih:=bB (n:=n) λi hi=>h i (Nat.lt_succ_of_lt hi)
  rw[bq,bq]
  by_cases e:S n=true
  ·rw[if_pos e,if_pos (h n (Nat.lt_succ_self n) e)];omega
  ·rw[if_neg e];omega
theorem dW(S S':Nat->Bool):∀n:Nat,cnt n (λi=>S i||S' i)<=cnt n S+cnt n S'
 | 0=>Nat.le_refl _
 | n+1=>by
  have ih:=dW S S' n
  rw[bq,bq,bq]
  cases S n <;> cases S' n <;> simp <;> omega
theorem cN{S S':Nat->Bool}(hd:∀i,S i=true->S' i=true->False):∀n:Nat,cnt n (λi=>S i||S' i)=cnt n S+cnt n S'
 | 0=>rfl
 | n+1=>by
  have ih:=cN hd n
  rw[bq,bq,bq,ih]
  cases h1:S n <;> cases h2:S' n <;> simp <;> try omega
  exact(hd n h1 h2).elim
theorem gP{S:Nat->Bool}:∀{n:Nat},0<cnt n S->∃i,i<n/\S i=true
 | 0,h=>absurd h (Nat.lt_irrefl _)
 | n+1,h=>by
  rw[bq]at h
  by_cases e:S n=true
  ·exact⟨n,Nat.lt_succ_self n,e⟩
  ·rw[if_neg e]at h
   obtain⟨i,h1,h2⟩:=gP (n:=n) (by omega)
   exact⟨i,Nat.lt_succ_of_lt h1,h2⟩
theorem cnt_one(c:Nat):∀n:Nat,cnt n (λi=>i==c)=if c<n then 1 else 0
 | 0=>rfl
 | n+1=>by
  rw[bq,cnt_one c n]
  by_cases e:n=c
  ·subst e;simp
  ·by_cases h:c<n
   ·simp[e,h,show c<n+1 by omega]
   ·simp[e,h,show ¬c<n+1 by omega]
theorem gy(n:Nat)(A S:Nat->Bool)(h:∀i,S i=true->A i=true):cnt n A=cnt n S+cnt n (λi=>A i && !S i):=by
 rw[<-cN (S:=S) (S':=λi=>A i && !S i) (λi h1 h2=>by simp[h1]at h2)]
 congr 1
 funext i
 cases h1:S i with
 | true=>simp[h i h1]
 | false=>simp
def nb(n:Nat)(E:Nat->Nat->Bool)(S:Nat->Bool)(c:Nat):Bool:=(List.range n).any λr=>S r&&E r c
theorem dg{n:Nat}{E:Nat->Nat->Bool}{S:Nat->Bool}{c:Nat}:nb n E S c=true↔∃r,r<n/\S r=true/\E r c=true:=by
 unfold nb
 rw[List.any_eq_true]
 constructor
 ·rintro⟨r,h1,h2⟩
  rw[Bool.and_eq_true]at h2
  exact⟨r,List.mem_range.mp h1,h2⟩
 ·rintro⟨r,h1,h2,h3⟩
  exact⟨r,List.mem_range.mpr h1,by rw[h2,h3];rfl⟩
theorem hall(n:Nat):∀(m:Nat) (A:Nat->Bool) (E:Nat->Nat->Bool),cnt n A=m->(∀S:Nat->Bool,(∀i,S i=true->A i=true)->cnt n S<=cnt n (nb n E S))->
  ∃f:Nat->Nat,(∀r,r<n->A r=true->f r<n/\E r (f r)=true)/\∀r r',r<n->r'<n->A r=true->A r'=true->f r=f r'->r=r':=by
 intro m
 induction m using Nat.strongRecOn with
 | _ m ih=>
  intro A E hA hH
  by_cases h0:m=0
  ·have no:∀r,r<n->A r=true->False:=λr hr h=>by
    have:cnt n (λi=>i==r)<=cnt n A:=bB λi _ e=>by rw[eq_of_beq e];exact h
    rw[cnt_one,if_pos hr,hA,h0]at this
    omega
   exact⟨λ_=>0,λr hr h=>(no r hr h).elim,λr _ hr _ h=>(no r hr h).elim⟩
  by_cases hc:∃S0:Nat->Bool,(∀i,S0 i=true->A i=true)/\0<cnt n S0/\cnt n S0<m/\cnt n (nb n E S0)<=cnt n S0
  ·obtain⟨S0,hs,hp,hl,hcr⟩:=hc
   obtain⟨f1,g1,g2⟩:=ih _ hl S0 E rfl λS h=>hH S λi hi=>hs i (h i hi)
   have hsp:=gy n A S0 hs
   obtain⟨f2,k1,k2⟩:=ih (cnt n λi=>A i && !S0 i) (by omega) (λi=>A i && !S0 i) (λr c=>E r c && !nb n E S0 c) rfl λS h=>by
    have hdis:∀i,S i=true->S0 i=true->False:=λi h1 h2=>by
     have:=h i h1
     simp[h2]at this
    have hT:=hH (λi=>S i||S0 i) λi hi=>by
     rcases Bool.or_eq_true_iff.mp hi with z|z
     ·have:=h i z
      rw[Bool.and_eq_true]at this
      exact this.1
     ·exact hs i z
    rw[cN hdis]at hT
    have h2:cnt n (nb n E λi=>S i||S0 i)<=cnt n (λc=>nb n (λr c=>E r c && !nb n E S0 c) S c||nb n E S0 c):=bB λc _ hc=>by
     obtain⟨r,hr,hS,hE⟩:=dg.mp hc
     cases hn:nb n E S0 c with
     | true=>simp
     | false=>
      rw[Bool.or_false]
      rcases Bool.or_eq_true_iff.mp hS with z|z
      ·exact dg.mpr ⟨r,hr,z,by simp[hE,hn]⟩
      ·exact absurd (dg.mpr ⟨r,hr,z,hE⟩) (by rw[hn];exact Bool.false_ne_true)
    have h3:=dW (nb n (λr c=>E r c && !nb n E S0 c) S) (nb n E S0) n
    omega
   have sep:∀r r',r<n->S0 r=true->r'<n->A r'=true->¬S0 r'=true->f1 r=f2 r'->False:=λr r' hr h1 hr' h2 h3 e=>by
    have a1:=(g1 r hr h1).2
    have a2:=(k1 r' hr' (by simp[h2,h3])).2
    rw[<-e,Bool.and_eq_true]at a2
    have:=dg.mpr ⟨r,hr,h1,a1⟩
    rw[this]at a2
    exact absurd a2.2 (by decide)
   refine⟨λr=>if S0 r=true then f1 r else f2 r,λr hr h=>?_,λr r' hr hr' h h' e=>?_⟩
   ·dsimp only
    by_cases z:S0 r=true
    ·rw[if_pos z];exact g1 r hr z
    ·rw[if_neg z]
     obtain⟨a1,a2⟩:=k1 r hr (by simp[h,z])
     rw[Bool.and_eq_true]at a2
     exact⟨a1,a2.1⟩
   ·dsimp only at e
    by_cases z:S0 r=true
    ·rw[if_pos z]at e
     by_cases z':S0 r'=true
     ·rw[if_pos z']at e;exact g2 r r' hr hr' z z' e
     ·rw[if_neg z']at e;exact(sep r r' hr z hr' h' z' e).elim
    ·rw[if_neg z]at e
     by_cases z':S0 r'=true
     ·rw[if_pos z']at e;exact(sep r' r hr' z' hr h z e.symm).elim
     ·rw[if_neg z']at e;exact k2 r r' hr hr' (by simp[h,z]) (by simp[h',z']) e
  ·obtain⟨r0,hr0,hA0⟩:=gP (n:=n) (S:=A) (by omega)
   have h1:=hH (λi=>i==r0) λi hi=>by rw[eq_of_beq hi];exact hA0
   rw[cnt_one,if_pos hr0]at h1
   obtain⟨c0,hc0,hn0⟩:=gP (n:=n) (S:=nb n E λi=>i==r0) (by omega)
   obtain⟨r1,hr1,e1,hE0⟩:=dg.mp hn0
   have e1:r1=r0:=eq_of_beq e1
   subst e1
   have hsp:=gy n A (λi=>i==r1) λi hi=>by rw[eq_of_beq hi];exact hA0
   rw[cnt_one,if_pos hr0]at hsp
   obtain⟨f,k1,k2⟩:=ih (cnt n λi=>A i && !(i==r1)) (by omega) (λi=>A i && !(i==r1)) (λr c=>E r c && !(c==c0)) rfl λS h=>by
    by_cases hz:cnt n S=0
    ·omega
    have hSA:∀i,S i=true->A i=true:=λi hi=>by
     have:=h i hi
     rw[Bool.and_eq_true]at this
     exact this.1
    have hlt:cnt n S<m:=by
     have:=bB (n:=n) λi _=>h i
     omega
    have hbig:cnt n S<cnt n (nb n E S):=Classical.byContradiction λz=>hc ⟨S,hSA,by omega,hlt,by omega⟩
    have h2:cnt n (nb n E S)<=cnt n (λc=>nb n (λr c=>E r c && !(c==c0)) S c||c==c0):=bB λc _ hc=>by
     obtain⟨r,hr,hS,hE⟩:=dg.mp hc
     cases hn:c==c0 with
     | true=>simp
     | false=>rw[Bool.or_false];exact dg.mpr ⟨r,hr,hS,by simp[hE,hn]⟩
    have h3:=dW (nb n (λr c=>E r c && !(c==c0)) S) (λc=>c==c0) n
    have h4:=cnt_one c0 n
    rw[if_pos hc0]at h4
    omega
   refine⟨λr=>if r=r1 then c0 else f r,λr hr h=>?_,λr r' hr hr' h h' e=>?_⟩
   ·dsimp only
    by_cases z:r=r1
    ·rw[if_pos z,z];exact⟨hc0,hE0⟩
    ·rw[if_neg z]
     obtain⟨a1,a2⟩:=k1 r hr (by simp[h,z])
     rw[Bool.and_eq_true]at a2
     exact⟨a1,a2.1⟩
   ·dsimp only at e
    by_cases z:r=r1
    ·by_cases z':r'=r1
     ·rw[z,z']
     ·rw[if_pos z,if_neg z']at e
      have:=(k1 r' hr' (by simp[h',z'])).2
      rw[<-e]at this
      simp at this
    ·by_cases z':r'=r1
     ·rw[if_neg z,if_pos z']at e
      have:=(k1 r hr (by simp[h,z])).2
      rw[e]at this
      simp at this
     ·rw[if_neg z,if_neg z']at e
      exact k2 r r' hr hr' (by simp[h,z]) (by simp[h',z']) e
def sm:Nat->(Nat->Int)->Int
 | 0,_=>0
 | n+1,f=>sm n f+f n
theorem sm_congr{f g:Nat->Int}:∀{n:Nat},(∀i,i<n->f i=g i)->sm n f=sm n g
 | 0,_=>rfl
 | n+1,h=>by
  show sm n f+f n=sm n g+g n
  rw[sm_congr λi hi=>h i (Nat.lt_succ_of_lt hi),h n (Nat.lt_succ_self n)]
theorem sm_le{f g:Nat->Int}:∀{n:Nat},(∀i,i<n->f i<=g i)->sm n f<=sm n g
 | 0,_=>Int.le_refl _
 | n+1,h=>by
  have h1:=sm_le λi hi=>h i (Nat.lt_succ_of_lt hi)
  have h2:=h n (Nat.lt_succ_self n)
  show sm n f+f n<=sm n g+g n
  omega
theorem sm_add(f g:Nat->Int):∀n:Nat,sm n (λi=>f i+g i)=sm n f+sm n g
 | 0=>rfl
 | n+1=>by
  show sm n (λi=>f i+g i)+(f n+g n)=(sm n f+f n)+(sm n g+g n)
  rw[sm_add f g n]
  omega
theorem sm_zero:∀n:Nat,sm n (λ_=>0)=0
 | 0=>rfl
 | n+1=>by show sm n (λ_=>0)+0=0;rw[sm_zero n];rfl
theorem i9(a:Nat->Nat->Int)(m:Nat):∀n:Nat,sm n (λi=>sm m (a i))=sm m (λj=>sm n λi=>a i j)
 | 0=>(sm_zero m).symm
 | n+1=>by
  show sm n (λi=>sm m (a i))+sm m (a n)=sm m (λj=>(sm n λi=>a i j)+a n j)
  rw[i9 a m n,sm_add]
theorem sm_cnt(S:Nat->Bool)(R:Int):∀n:Nat,sm n (λi=>if S i=true then R else 0)=R*cnt n S
 | 0=>by show(0:Int)=R*0;simp
 | n+1=>by
  show sm n _+(if S n=true then R else 0)=_
  rw[sm_cnt S R n,bq]
  by_cases e:S n=true
  ·rw[if_pos e,if_pos e];push_cast;rw[Int.mul_add,Int.mul_one]
  ·rw[if_neg e,if_neg e];simp
structure RegF(n:Nat)(M:Nat->Nat->Int)(R:Int):Prop where
 pos:0<R
 nn:∀i j,0<=M i j
 row:∀i,i<n->sm n (M i)=R
 col:∀j,j<n->sm n (λi=>M i j)=R
theorem lz{n:Nat}{M:Nat->Nat->Int}{R:Int}(h:RegF n M R):∃f:Nat->Nat,(∀r,r<n->f r<n/\M r (f r)≠0)/\∀r r',r<n->r'<n->f r=f r'->r=r':=by
 obtain⟨f,h1,h2⟩:=hall n _ (λ_=>true) (λr c=>decide (M r c≠0)) rfl λS _=>by
  have e1:sm n (λi=>if S i=true then R else 0)=sm n (λi=>sm n λj=>if S i=true then M i j else 0):=sm_congr λi hi=>by
   by_cases e:S i=true
   ·rw[if_pos e,<-h.row i hi]
    exact sm_congr λj _=>by rw[if_pos e]
   ·rw[if_neg e]
    exact(sm_zero n).symm.trans (sm_congr λj _=>by rw[if_neg e])
  have e2:sm n (λj=>sm n λi=>if S i=true then M i j else 0)<=sm n (λj=>if nb n (λr c=>decide (M r c≠0)) S j=true then R else 0):=sm_le λj hj=>by
   by_cases e:nb n (λr c=>decide (M r c≠0)) S j=true
   ·rw[if_pos e,<-h.col j hj]
    exact sm_le λi _=>by
     by_cases z:S i=true
     ·rw[if_pos z];exact Int.le_refl _
     ·rw[if_neg z];exact h.nn i j
   ·rw[if_neg e]
    exact Int.le_of_eq ((sm_congr λi hi=>by
     by_cases z:S i=true
     ·rw[if_pos z]
      exact Classical.byContradiction λy=>e (dg.mpr ⟨i,hi,z,decide_eq_true y⟩)
     ·rw[if_neg z]).trans (sm_zero n))
  rw[<-i9,<-e1,sm_cnt,sm_cnt]at e2
  have:=Int.le_of_mul_le_mul_left e2 h.pos
  omega
 exact⟨f,λr hr=>⟨(h1 r hr rfl).1,by simpa using(h1 r hr rfl).2⟩,λr r' hr hr' e=>h2 r r' hr hr' rfl rfl e⟩
end HM
namespace HM
open LM LN
def ent(M:List (List Int))(p t:Nat):Int:=(M.getD p []).getD t 0
structure Reg(n:Nat)(M:List (List Int))(R:Int):Prop where
 len:M.length=n
 cols:∀r∈M,r.length=n
 nn:∀p t,0<=ent M p t
 row:∀i,i<n->sm n (ent M i)=R
 col:∀j,j<n->sm n (λi=>ent M i j)=R
theorem getD_lt{α:Type}{l:List α}{i:Nat}{d:α}(h:i<l.length):l.getD i d=l[i]:=by rw[List.getD_eq_getElem?_getD,List.getElem?_eq_getElem h];rfl
theorem addDeal_len{M:List (List Int)}{d:List Int}{w:Int}(h:M.length=d.length):(addDeal M d w).length=M.length:=by simp[addDeal,h]
theorem addDeal_get{M:List (List Int)}{d:List Int}{w:Int}{p:Nat}(h:M.length=d.length)(hp:p<M.length):(addDeal M d w)[p]?=some (addOne (M.getD p []) (d.getD p 0) w):=by
 unfold addDeal
 rw[List.getElem?_zipWith,List.getElem?_eq_getElem hp,List.getElem?_eq_getElem (show p<d.length by omega),getD_lt hp,getD_lt (show p<d.length by omega)]
theorem gQ{n:Nat}{M:List (List Int)}{R:Int}{d:List Int}{w:Int}(h:Reg n M R)(hd:d.length=n)(hb:∀t∈d,0<=t/\t<n){p:Nat}(hp:p<n)(t:Nat):
  ent (addDeal M d w) p t=ent M p t+if(d.getD p 0).toNat=t then w else 0:=by
 have hl:M.length=d.length:=by rw[h.len,hd]
 have hpm:p<M.length:=by rw[h.len];exact hp
 have hrow:(M.getD p []).length=n:=by rw[getD_lt hpm];exact h.cols _ (List.getElem_mem hpm)
 have hdp:=hb (d.getD p 0) (by rw[getD_lt (show p<d.length by omega)];exact List.getElem_mem _)
 unfold ent
 rw[show(addDeal M d w).getD p []=addOne (M.getD p []) (d.getD p 0) w by rw[List.getD_eq_getElem?_getD,addDeal_get hl hpm];rfl]
 generalize M.getD p []=r at hrow
 generalize d.getD p 0=x at hdp
 unfold addOne
 rw[List.getD_eq_getElem?_getD,List.getElem?_set]
 by_cases e:x.toNat=t
 ·subst e
  rw[if_pos rfl,if_pos rfl,if_pos (by omega)]
  rfl
 ·rw[if_neg e,if_neg e,<-List.getD_eq_getElem?_getD]
  omega
theorem gH{S S':Nat->Bool}{n:Nat}(h:∀i,i<n->S i=S' i):cnt n S=cnt n S':=
 Nat.le_antisymm (bB λi hi e=>by rw[<-h i hi];exact e) (bB λi hi e=>by rw[h i hi];exact e)
theorem mE{n:Nat}{d:List Int}(h:Pm n d){t:Nat}(ht:t<n):∃p,p<n/\d.getD p 0=(t:Int)/\∀q,q<n->(d.getD q 0).toNat=t->q=p:=by
 obtain⟨p,hp,e⟩:=List.mem_iff_getElem.mp (h.mem.mpr (show(0:Int)<=(t:Int)/\(t:Int)<n by omega))
 have hl:=h.len
 refine⟨p,by omega,by rw[getD_lt hp,e],λq hq eq=>?_⟩
 have hq':q<d.length:=by omega
 have b:=h.mem.mp (List.getElem_mem hq')
 rw[getD_lt hq']at eq
 have:d[q]=d[p]:=by rw[e];omega
 exact(List.getElem?_inj hq' h.nodup).mp (by rw[List.getElem?_eq_getElem hq',List.getElem?_eq_getElem hp,this])
theorem dY{n:Nat}{p:Nat}(hp:p<n){S:Nat->Bool}(hS:∀q,q<n->(S q=true↔q=p))(w:Int):sm n (λq=>if S q=true then w else 0)=w:=by
 rw[sm_cnt,gH (S':=λq=>q==p) λi hi=>by
  rw[Bool.eq_iff_iff,hS i hi]
  exact⟨λe=>by rw[e];exact beq_self_eq_true _,λe=>eq_of_beq e⟩,cnt_one,if_pos hp]
 simp
theorem lc{n:Nat}{M:List (List Int)}{r:List Int}(hl:M.length=n)(hr:r∈M):∃p,p<n/\M.getD p []=r:=by
 obtain⟨p,hp,e⟩:=List.mem_iff_getElem.mp hr
 exact⟨p,by omega,by rw[getD_lt hp,e]⟩
theorem Reg.add{n:Nat}{M:List (List Int)}{R:Int}{d:List Int}{w:Int}(h:Reg n M R)(hd:Pm n d)(hw:∀p,p<n->0<=ent M p (d.getD p 0).toNat+w):Reg n (addDeal M d w) (R+w):=by
 have hdl:=hd.len
 have hl:M.length=d.length:=by rw[h.len,hdl]
 have hb:∀t∈d,0<=t/\t<n:=λt ht=>hd.mem.mp ht
 have hE:=λ {p} (hp:p<n) t=>gQ (w:=w) h hdl hb hp t
 have hlen:(addDeal M d w).length=n:=by rw[addDeal_len hl,h.len]
 have bd:∀p,p<n->0<=d.getD p 0/\d.getD p 0<n:=λp hp=>hb _ (by rw[getD_lt (show p<d.length by omega)];exact List.getElem_mem _)
 refine⟨hlen,λr hr=>?_,λp t=>?_,λi hi=>?_,λj hj=>?_⟩
 ·obtain⟨p,hp,e⟩:=lc hlen hr
  rw[<-e,List.getD_eq_getElem?_getD,addDeal_get hl (by rw[h.len];exact hp)]
  show(addOne _ _ _).length=n
  rw[fm]
  have hpm:p<M.length:=by rw[h.len];exact hp
  rw[getD_lt hpm]
  exact h.cols _ (List.getElem_mem hpm)
 ·by_cases hp:p<n
  ·rw[hE hp]
   by_cases e:(d.getD p 0).toNat=t
   ·rw[if_pos e,<-e];exact hw p hp
   ·rw[if_neg e,Int.add_zero];exact h.nn p t
  ·unfold ent
   rw[show(addDeal M d w).getD p []=[]by rw[List.getD_eq_getElem?_getD,List.getElem?_eq_none (by omega)];rfl]
   exact Int.le_refl 0
 ·rw[sm_congr (g:=λt=>ent M i t+if decide ((d.getD i 0).toNat=t)=true then w else 0) λt _=>by rw[hE hi];simp,sm_add,h.row i hi,dY (p:=(d.getD i 0).toNat) (by have:=bd i hi;omega) (λq _=>by rw[decide_eq_true_iff];exact eq_comm)]
 ·obtain⟨p,hp,e,hu⟩:=mE hd hj
  rw[sm_congr (g:=λi=>ent M i j+if decide ((d.getD i 0).toNat=j)=true then w else 0) λt ht=>by rw[hE ht];simp,sm_add,h.col j hj,dY (p:=p) hp (λq hq=>by
   rw[decide_eq_true_iff]
   exact⟨hu q hq,λz=>by rw[z,e];rfl⟩)]
theorem Reg.zero(n:Nat):Reg n (List.replicate n (List.replicate n 0)) 0:=by
 have e:∀p t,ent (List.replicate n (List.replicate n 0)) p t=0:=λp t=>by
  unfold ent
  by_cases hp:p<n
  ·rw[show(List.replicate n (List.replicate n (0:Int))).getD p []=List.replicate n 0 by rw[getD_lt (by simpa using hp),List.getElem_replicate]]
   by_cases ht:t<n
   ·rw[getD_lt (by simpa using ht),List.getElem_replicate]
   ·rw[List.getD_eq_getElem?_getD,List.getElem?_eq_none (by simpa using ht)];rfl
  ·rw[show(List.replicate n (List.replicate n (0:Int))).getD p []=[]by rw[List.getD_eq_getElem?_getD,List.getElem?_eq_none (by simpa using hp)];rfl]
   rfl
 refine⟨by simp,λr hr=>by rw[(List.mem_replicate.mp hr).2];simp,λp t=>by rw[e];decide,λi _=>?_,λj _=>?_⟩
 ·exact(sm_congr λt _=>e i t).trans (sm_zero n)
 ·exact(sm_congr λt _=>e t j).trans (sm_zero n)
theorem gF{ns:List Int}{at':Int}{n:Nat}{sz:Int}(h0:0<sz):∀k,Reg n (tabGo ns at' n sz k).1 (tabGo ns at' n sz k).2
 | 0=>Reg.zero n
 | k+1=>by
  have ih:=gF (ns:=ns) (at':=at') (n:=n) h0 k
  have b0:=Int.emod_nonneg (cellAt ns (at'+1+k)/5) (show sz≠0 by omega)
  exact ih.add (order_pm _ n) λp _=>by have:=ih.nn p ((order (mixed (cellAt ns (at'+1+k)) (20+k)) n).getD p 0).toNat;omega
theorem table_reg(ns:List Int)(at':Int)(many n:Nat):Reg n (table ns at' many n).1 (table ns at' many n).2:=gF (size_bd _).1 _
theorem Reg.regF{n:Nat}{M:List (List Int)}{R:Int}(h:Reg n M R)(hR:0<R):RegF n (ent M) R:=⟨hR,h.nn,h.row,h.col⟩
def within(M:List (List Int)):Nat->List Int->Option (List Int)
 | 0,b=>some b
 | k+1,b=>(List.range M.length).findSome? λt=>if ent M b.length t≠0/\(t:Int)∉b then within M k (b++[(t:Int)])else none
theorem dj{M:List (List Int)}:∀{k:Nat} {b d:List Int},within M k b=some d->b.Nodup->d.Nodup/\d.length=b.length+k/\(∀j,j<b.length->d.getD j 0=b.getD j 0)/\∀j,b.length<=j->j<b.length+k->∃t:Nat,t<M.length/\d.getD j 0=(t:Int)/\ent M j t≠0
 | 0,b,d,h,hb=>by
  cases h
  exact⟨hb,rfl,λ_ _=>rfl,λj h1 h2=>by omega⟩
 | k+1,b,d,h,hb=>by
  obtain⟨t,ht,e⟩:=List.exists_of_findSome?_eq_some h
  split at e
  ·rename_i hc
   have hb':(b++[(t:Int)]).Nodup:=List.nodup_append.mpr ⟨hb,by simp,λx hx y hy=>by rw[List.mem_singleton.mp hy];intro z;exact hc.2 (z▸hx)⟩
   obtain⟨h1,h2,h3,h4⟩:=dj e hb'
   rw[List.length_append,List.length_singleton]at h2 h3 h4
   have hat:d.getD b.length 0=(t:Int):=by
    rw[h3 b.length (by omega),List.getD_eq_getElem?_getD,List.getElem?_append_right (Nat.le_refl _),Nat.sub_self]
    rfl
   refine⟨h1,by omega,λj hj=>?_,λj hj1 hj2=>?_⟩
   ·rw[h3 j (by omega),List.getD_eq_getElem?_getD,List.getElem?_append_left hj,<-List.getD_eq_getElem?_getD]
   ·by_cases e2:j=b.length
    ·subst e2
     exact⟨t,List.mem_range.mp ht,hat,hc.1⟩
    ·exact h4 j (by omega) (by omega)
  ·cases e
theorem d9{M:List (List Int)}{f:Nat->Nat}(hf:∀j,j<M.length->f j<M.length/\ent M j (f j)≠0)(hi:∀j j',j<M.length->j'<M.length->f j=f j'->j=j'):∀{k:Nat} {b:List Int},b.length+k<=M.length->(∀j,b.length<=j->j<b.length+k->(f j:Int)∉b)->(within M k b).isSome=true
 | 0,b,_,_=>rfl
 | k+1,b,hl,hb=>by
  unfold within
  rw[List.findSome?_isSome_iff]
  obtain⟨h1,h2⟩:=hf b.length (by omega)
  refine⟨f b.length,List.mem_range.mpr h1,?_⟩
  rw[if_pos ⟨h2,hb b.length (Nat.le_refl _) (by omega)⟩]
  refine d9 hf hi (by rw[List.length_append,List.length_singleton];omega) λj hj1 hj2 z=>?_
  rw[List.length_append,List.length_singleton]at hj1 hj2
  rcases List.mem_append.mp z with z|z
  ·exact hb j (by omega) (by omega) z
  ·have:=List.mem_singleton.mp z
   have:=hi j b.length (by omega) (by omega) (by omega)
   omega
theorem mx{n:Nat}{d:List Int}(hl:d.length=n)(hn:d.Nodup)(hb:∀t∈d,0<=t/\t<n):Pm n d:=by
 unfold Pm
 have key:∀(m:Nat) (l:List Int) (r:List Int),l.length=m->r.length=m->l.Nodup->(∀t∈l,t∈r)->l.Perm r:=by
  intro m
  induction m with
  | zero=>intro l r h1 h2 _ _;rw[List.length_eq_zero_iff.mp h1,List.length_eq_zero_iff.mp h2]
  | succ m ih=>
   intro l r h1 h2 hn h
   cases l with
   | nil=>cases h1
   | cons a l=>
    have ha:=h a List.mem_cons_self
    refine(List.Perm.cons a (ih l (r.erase a) (by simpa using h1) (by rw[List.length_erase_of_mem ha,h2];rfl) (List.nodup_cons.mp hn).2 λt ht=>?_)).trans (List.perm_cons_erase ha).symm
    exact(List.mem_erase_of_ne (show t≠a from λz=>(List.nodup_cons.mp hn).1 (z▸ht))).mpr (h t (List.mem_cons_of_mem _ ht))
 exact key n d (rng n) hl (rng_len n) hn λt ht=>ja.mpr (hb t ht)
def valsM(M:List (List Int))(d:List Int):List Int:=List.zipWith (λr t=>r.getD t.toNat 0) M d
def minGo(s:Int)(l:List Int):Int:=l.foldl (λs p=>if p<s then p else s) s
def minL(l:List Int):Int:=minGo (l.headD 0) l
theorem ik:∀(l:List Int) (s:Int),minGo s l<=s/\(∀x∈l,minGo s l<=x)/\(minGo s l=s\/minGo s l∈l)
 | [],s=>⟨Int.le_refl _,(λ_ h=>nomatch h),.inl rfl⟩
 | a::l,s=>by
  obtain⟨h1,h2,h3⟩:=ik l (if a<s then a else s)
  have e:minGo s (a::l)=minGo (if a<s then a else s) l:=rfl
  rw[e]
  by_cases c:a<s
  ·rw[if_pos c]at h1 h2 h3 ⊢
   refine⟨by omega,λx hx=>?_,.inr ?_⟩
   ·rcases List.mem_cons.mp hx with z|z
    ·rw[z];exact h1
    ·exact h2 x z
   ·rcases h3 with z|z
    ·rw[z];exact List.mem_cons_self
    ·exact List.mem_cons_of_mem _ z
  ·rw[if_neg c]at h1 h2 h3 ⊢
   refine⟨h1,λx hx=>?_,?_⟩
   ·rcases List.mem_cons.mp hx with z|z
    ·rw[z];omega
    ·exact h2 x z
   ·rcases h3 with z|z
    ·exact .inl z
    ·exact .inr (List.mem_cons_of_mem _ z)
theorem minL_ok{l:List Int}(h:l≠[]):minL l∈l/\∀x∈l,minL l<=x:=by
 cases l with
 | nil=>exact absurd rfl h
 | cons a l=>
  obtain⟨h1,h2,h3⟩:=ik (a::l) a
  refine⟨?_,h2⟩
  rcases h3 with z|z
  ·show minGo a (a::l)∈_
   rw[z];exact List.mem_cons_self
  ·exact z
def dealOf(M:List (List Int)):List Int:=(within M M.length []).getD []
def wOf(M:List (List Int)):Int:=minL (valsM M (dealOf M))
theorem sm_one_le{n:Nat}{f:Nat->Int}(hf:∀i,0<=f i):∀{i:Nat},i<n->f i<=sm n f:=by
 have nn:∀m,0<=sm m f:=λm=>by
  have:=sm_le (n:=m) (f:=λ_=>0) (g:=f) λi _=>hf i
  rw[sm_zero]at this
  exact this
 induction n with
 | zero=>intro i h;exact absurd h (Nat.not_lt_zero _)
 | succ n ih=>
  intro i h
  show f i<=sm n f+f n
  by_cases e:i=n
  ·subst e;have:=nn i;omega
  ·have:=ih (i:=i) (by omega)
   have:=hf n
   omega
structure StepOk(n:Nat)(M:List (List Int))(R:Int):Prop where
 some:within M n []=some (dealOf M)
 pm:Pm n (dealOf M)
 ne:∀p,p<n->ent M p ((dealOf M).getD p 0).toNat≠0
 le:∀p,p<n->wOf M<=ent M p ((dealOf M).getD p 0).toNat
 eq:∃p,p<n/\ent M p ((dealOf M).getD p 0).toNat=wOf M
 w1:1<=wOf M
 wR:wOf M<=R
 reg:Reg n (addDeal M (dealOf M) (-wOf M)) (R-wOf M)
theorem valsM_get{n:Nat}{M:List (List Int)}{d:List Int}(hM:M.length=n)(hd:d.length=n){p:Nat}(hp:p<n):(valsM M d)[p]?=some (ent M p (d.getD p 0).toNat):=by
 unfold valsM ent
 rw[List.getElem?_zipWith,List.getElem?_eq_getElem (show p<M.length by omega),List.getElem?_eq_getElem (show p<d.length by omega),getD_lt (show p<M.length by omega),getD_lt (show p<d.length by omega)]
theorem Reg.step{n:Nat}{M:List (List Int)}{R:Int}(h:Reg n M R)(hR:0<R)(hn:1<=n):StepOk n M R:=by
 have hMl:=h.len
 obtain⟨f,f1,f2⟩:=lz (h.regF hR)
 have hs:=d9 (M:=M) (f:=f) (by rw[hMl];exact f1) (by rw[hMl];exact f2) (k:=n) (b:=[]) (by simp[hMl]) λj _ _=>List.not_mem_nil
 obtain⟨d,hd⟩:=Option.isSome_iff_exists.mp hs
 have ed:dealOf M=d:=by unfold dealOf;rw[hMl,hd];rfl
 obtain⟨s1,s2,s3,s4⟩:=dj hd List.nodup_nil
 rw[List.length_nil,Nat.zero_add]at s2 s4
 have hb:∀t∈d,0<=t/\t<n:=λt ht=>by
  obtain⟨j,hj,e⟩:=List.mem_iff_getElem.mp ht
  obtain⟨t',h1,h2,_⟩:=s4 j (Nat.zero_le _) (by omega)
  rw[getD_lt hj,e]at h2
  omega
 have pm:=mx s2 s1 hb
 have ne:∀p,p<n->ent M p (d.getD p 0).toNat≠0:=λp hp=>by
  obtain⟨t',h1,h2,h3⟩:=s4 p (Nat.zero_le _) hp
  rw[h2]
  exact h3
 have vne:valsM M d≠[]:=λz=>by
  have:=valsM_get hMl s2 (p:=0) (by omega)
  rw[z]at this
  cases this
 have vl:(valsM M d).length=n:=by unfold valsM;simp[hMl,s2]
 obtain⟨m1,m2⟩:=minL_ok vne
 have ew:wOf M=minL (valsM M d):=by unfold wOf;rw[ed]
 obtain⟨p0,hp0,e0⟩:=List.mem_iff_getElem.mp m1
 have hp0n:p0<n:=by omega
 have eq0:ent M p0 (d.getD p0 0).toNat=wOf M:=by
  have:=valsM_get hMl s2 hp0n
  rw[List.getElem?_eq_getElem hp0,e0]at this
  rw[ew]
  exact(Option.some.inj this).symm
 have le:∀p,p<n->wOf M<=ent M p (d.getD p 0).toNat:=λp hp=>by
  rw[ew]
  exact m2 _ (List.mem_of_getElem? (valsM_get hMl s2 hp))
 have w1:1<=wOf M:=by
  have:=ne p0 hp0n
  have:=h.nn p0 (d.getD p0 0).toNat
  omega
 have wR:wOf M<=R:=by
  rw[<-eq0,<-h.row p0 hp0n]
  refine sm_one_le (λi=>h.nn p0 i) ?_
  have:=hb (d.getD p0 0) (by rw[getD_lt (show p0<d.length by omega)];exact List.getElem_mem _)
  omega
 rw[<-ed]at pm ne le eq0
 refine⟨by rw[hd,ed],pm,ne,le,⟨p0,hp0n,eq0⟩,w1,wR,?_⟩
 have:=h.add (w:= -wOf M) pm λp hp=>by have:=le p hp;omega
 rw[Int.sub_eq_add_neg]
 exact this
def it(Z:List (List Int))(T:Int):Nat->List (List Int)×Int
 | 0=>(Z,T)
 | k+1=>(addDeal (it Z T k).1 (dealOf (it Z T k).1) (-wOf (it Z T k).1),(it Z T k).2-wOf (it Z T k).1)
def lotAt(Z:List (List Int))(T:Int)(k:Nat):Int×List Int:=(wOf (it Z T k).1,dealOf (it Z T k).1)
def lotsL(Z:List (List Int))(T:Int)(k:Nat):List (Int×List Int):=(List.range k).map (lotAt Z T)
def pn(n:Nat)(M:List (List Int)):Int:=sm n λp=>(cnt n λt=>decide (ent M p t≠0):Nat)
structure ItOk(n:Nat)(Z:List (List Int))(T:Int)(k:Nat):Prop where
 reg:Reg n (it Z T k).1 (it Z T k).2
 r0:0<=(it Z T k).2
 rT:(it Z T k).2<=T
 lots:∀j,j<k->StepOk n (it Z T j).1 (it Z T j).2
 ent:∀p,p<n->∀t,ent Z p t=ent (it Z T k).1 p t+sm k λj=>if((lotAt Z T j).2.getD p 0).toNat=t then(lotAt Z T j).1 else 0
 wts:sm k (λj=>(lotAt Z T j).1)=T-(it Z T k).2
 kill:∀j,j<k->∃p,p<n/\HM.ent (it Z T k).1 p ((lotAt Z T j).2.getD p 0).toNat=0
 few:(it Z T k).2≠0->pn n (it Z T k).1+k<=pn n Z
 last:(it Z T k).2=0->(k:Int)+n<=pn n Z+1
 ap:∀i j,i<j->j<k->(lotAt Z T i).2≠(lotAt Z T j).2
theorem mm{S S':Nat->Bool}{c:Nat}:∀{n:Nat},(∀i,i<n->S i=true->S' i=true)->c<n->S' c=true->S c=false->cnt n S+1<=cnt n S':=by
 intro n h hc h1 h2
 have:cnt n (λi=>S i||i==c)=cnt n S+cnt n (λi=>i==c):=cN (λi a b=>by rw[eq_of_beq b,h2]at a;cases a) n
 have h3:cnt n (λi=>S i||i==c)<=cnt n S':=bB λi hi z=>by
  rcases Bool.or_eq_true_iff.mp z with z|z
  ·exact h i hi z
  ·rw[eq_of_beq z];exact h1
 have h4:=cnt_one c n
 rw[if_pos hc]at h4
 omega
theorem mz{f g:Nat->Int}{c:Nat}:∀{n:Nat},(∀i,i<n->f i<=g i)->c<n->f c+1<=g c->sm n f+1<=sm n g:=by
 intro n
 induction n with
 | zero=>intro _ h _;exact absurd h (Nat.not_lt_zero _)
 | succ n ih=>
  intro h hc h1
  show sm n f+f n+1<=sm n g+g n
  by_cases e:c=n
  ·subst e
   have:=sm_le (n:=c) λi hi=>h i (Nat.lt_succ_of_lt hi)
   omega
  ·have:=ih (λi hi=>h i (Nat.lt_succ_of_lt hi)) (by omega) h1
   have:=h n (Nat.lt_succ_self n)
   omega
theorem it_ok{n:Nat}{Z:List (List Int)}{T:Int}(hZ:Reg n Z T)(hT:0<T)(hn:1<=n):∀k,(∀j,j<k->(it Z T j).2≠0)->ItOk n Z T k
 | 0,_=>by
  refine⟨hZ,Int.le_of_lt hT,Int.le_refl _,(λj h=>absurd h (Nat.not_lt_zero _)),(λp _ t=>?_),?_,(λj h=>absurd h (Nat.not_lt_zero _)),(λ_=>?_),(λh=>?_),(λi j _ h=>absurd h (Nat.not_lt_zero _))⟩
  ·show ent Z p t=ent Z p t+0
   omega
  ·show(0:Int)=T-T
   omega
  ·show pn n Z+0<=pn n Z
   omega
  ·exact absurd h (by show T≠0;omega)
 | k+1,hk=>by
  have I:=it_ok hZ hT hn k λj hj=>hk j (Nat.lt_succ_of_lt hj)
  have hR:=hk k (Nat.lt_succ_self k)
  have S:=I.reg.step (by have:=I.r0;omega) hn
  have hE:=λ {p} (hp:p<n) t=>gQ (w:= -wOf (it Z T k).1) I.reg S.pm.len (λt ht=>S.pm.mem.mp ht) hp t
  have bd:∀p,p<n->((dealOf (it Z T k).1).getD p 0).toNat<n:=λp hp=>by
   have hl:=S.pm.len
   have:=S.pm.mem.mp (show(dealOf (it Z T k).1).getD p 0∈_ by rw[getD_lt (show p<_ by omega)];exact List.getElem_mem _)
   omega
  have low:∀p,p<n->∀t,ent (it Z T (k+1)).1 p t<=ent (it Z T k).1 p t:=λp hp t=>by
   show ent (addDeal (it Z T k).1 (dealOf (it Z T k).1) (-wOf (it Z T k).1)) p t<=_
   rw[hE hp]
   have:=S.w1
   split <;> omega
  have nn1:=S.reg.nn
  have less:pn n (it Z T (k+1)).1+1<=pn n (it Z T k).1:=by
   have sub:∀p,p<n->∀t,t<n->decide (ent (it Z T (k+1)).1 p t≠0)=true->decide (ent (it Z T k).1 p t≠0)=true:=λp hp t _ h=>by
    have h1:=low p hp t
    have h2:0<=ent (it Z T (k+1)).1 p t:=nn1 p t
    have h3:=of_decide_eq_true h
    exact decide_eq_true (by omega)
   obtain⟨p0,hp0,e0⟩:=S.eq
   refine mz (c:=p0) (λp hp=>?_) hp0 ?_
   ·have:=bB (n:=n) λt ht=>sub p hp t ht
    exact Int.ofNat_le.mpr this
   ·have:=mm (n:=n) (c:=((dealOf (it Z T k).1).getD p0 0).toNat) (λt ht=>sub p0 hp0 t ht) (bd p0 hp0) (decide_eq_true (S.ne p0 hp0)) (by
     refine decide_eq_false λz=>z ?_
     show ent (addDeal (it Z T k).1 (dealOf (it Z T k).1) (-wOf (it Z T k).1)) p0 _=0
     rw[hE hp0,if_pos rfl,e0]
     omega)
    omega
  refine⟨S.reg,?_,?_,λj hj=>?_,λp hp t=>?_,?_,λj hj=>?_,λh=>?_,λh=>?_,λi j hij hj=>?_⟩
  ·show 0<=(it Z T k).2-wOf (it Z T k).1
   have:=S.wR
   omega
  ·show(it Z T k).2-wOf (it Z T k).1<=T
   have:=S.w1
   have:=I.rT
   omega
  ·rcases Nat.lt_succ_iff_lt_or_eq.mp hj with z|z
   ·exact I.lots j z
   ·rw[z];exact S
  ·rw[I.ent p hp t]
   show _=ent (addDeal (it Z T k).1 (dealOf (it Z T k).1) (-wOf (it Z T k).1)) p t+(sm k _+if((dealOf (it Z T k).1).getD p 0).toNat=t then wOf (it Z T k).1 else 0)
   rw[hE hp]
   split <;> omega
  ·show sm k _+wOf (it Z T k).1=T-((it Z T k).2-wOf (it Z T k).1)
   have:=I.wts
   omega
  ·rcases Nat.lt_succ_iff_lt_or_eq.mp hj with z|z
   ·obtain⟨p,hp,e⟩:=I.kill j z
    refine⟨p,hp,?_⟩
    have h1:=low p hp ((lotAt Z T j).2.getD p 0).toNat
    have h2:0<=HM.ent (it Z T (k+1)).1 p ((lotAt Z T j).2.getD p 0).toNat:=nn1 _ _
    omega
   ·subst z
    obtain⟨p0,hp0,e0⟩:=S.eq
    refine⟨p0,hp0,?_⟩
    show HM.ent (addDeal (it Z T j).1 (dealOf (it Z T j).1) (-wOf (it Z T j).1)) p0 ((dealOf (it Z T j).1).getD p0 0).toNat=0
    rw[hE hp0,if_pos rfl,e0]
    omega
  ·have:=I.few hR
   push_cast
   omega
  ·have h1:=I.few hR
   have h2:(n:Int)<=pn n (it Z T k).1:=by
    have:=sm_le (n:=n) (f:=λ_=>if(true:Bool)=true then 1 else 0) (g:=λp=>(cnt n λt=>decide (HM.ent (it Z T k).1 p t≠0):Nat)) λp hp=>by
     have h3:cnt n (λi=>i==((dealOf (it Z T k).1).getD p 0).toNat)<=cnt n λt=>decide (HM.ent (it Z T k).1 p t≠0):=bB λi _ e=>by
      rw[eq_of_beq e]
      exact decide_eq_true (S.ne p hp)
     rw[cnt_one,if_pos (bd p hp)]at h3
     rw[if_pos rfl]
     omega
    rw[sm_cnt (λ_=>true) 1 n]at this
    have e:cnt n (λ_=>true)=n:=by unfold cnt;simp
    rw[e]at this
    show(n:Int)<=sm n _
    omega
   push_cast
   omega
  ·rcases Nat.lt_succ_iff_lt_or_eq.mp hj with z|z
   ·exact I.ap i j hij z
   ·subst z
    intro e
    obtain⟨p,hp,e0⟩:=I.kill i hij
    rw[e]at e0
    exact S.ne p hp e0
def Fin(Z:List (List Int))(T:Int)(k:Nat):Prop:=(it Z T k).2=0/\∀j,j<k->(it Z T j).2≠0
theorem pn_le{n:Nat}(hn:n<=6)(M:List (List Int)):pn n M<=36:=by
 have cn:∀S:Nat->Bool,cnt n S<=n:=λS=>by
  have:=bB (n:=n) (S:=S) (S':=λ_=>true) λ_ _ _=>rfl
  have e:cnt n (λ_=>true)=n:=by unfold cnt;simp
  omega
 have:=sm_le (n:=n) (f:=λp=>(cnt n λt=>decide (ent M p t≠0):Nat)) (g:=λ_=>if(true:Bool)=true then 6 else 0) λp _=>by
  have:=cn λt=>decide (ent M p t≠0)
  rw[if_pos rfl]
  omega
 rw[sm_cnt (λ_=>true) 6 n]at this
 have:=cn λ_=>true
 show sm n _<=36
 omega
theorem kD{n:Nat}{M:List (List Int)}(h:Reg n M 0){p:Nat}(hp:p<n){t:Nat}(ht:t<n):ent M p t=0:=by
 have h1:=h.nn p t
 have h2:=sm_one_le (n:=n) (λi=>h.nn p i) ht
 rw[h.row p hp]at h2
 omega
def accM(n:Nat)(Z:List (List Int))(T:Int):Nat->List (List Int)
 | 0=>List.replicate n (List.replicate n 0)
 | i+1=>addDeal (accM n Z T i) (dealOf (it Z T i).1) (wOf (it Z T i).1)
theorem acc_ok{n:Nat}{Z:List (List Int)}{T:Int}{k:Nat}(I:ItOk n Z T k):∀i,i<=k->(∃R,Reg n (accM n Z T i) R)/\∀p,p<n->∀t,ent (accM n Z T i) p t=sm i λj=>if((lotAt Z T j).2.getD p 0).toNat=t then(lotAt Z T j).1 else 0
 | 0,_=>by
  refine⟨⟨0,Reg.zero n⟩,λp hp t=>?_⟩
  show ent (List.replicate n (List.replicate n 0)) p t=0
  unfold ent
  rw[show(List.replicate n (List.replicate n (0:Int))).getD p []=List.replicate n 0 by rw[getD_lt (by simpa using hp),List.getElem_replicate]]
  by_cases ht:t<n
  ·rw[getD_lt (by simpa using ht),List.getElem_replicate]
  ·rw[List.getD_eq_getElem?_getD,List.getElem?_eq_none (by simpa using ht)];rfl
 | i+1,hi=>by
  obtain⟨⟨R,h1⟩,h2⟩:=acc_ok I i (by omega)
  have S:=I.lots i (by omega)
  refine⟨⟨_,h1.add S.pm λp _=>?_⟩,λp hp t=>?_⟩
  ·have:=h1.nn p ((dealOf (it Z T i).1).getD p 0).toNat
   have:=S.w1
   omega
  ·show ent (addDeal (accM n Z T i) (dealOf (it Z T i).1) (wOf (it Z T i).1)) p t=sm i _+if((dealOf (it Z T i).1).getD p 0).toNat=t then wOf (it Z T i).1 else 0
   rw[gQ h1 S.pm.len (λt ht=>S.pm.mem.mp ht) hp,h2 p hp]
theorem lO{n:Nat}{M M':List (List Int)}{R R':Int}(h:Reg n M R)(h':Reg n M' R')(e:∀p,p<n->∀t,t<n->ent M p t=ent M' p t):M=M':=by
 have hl:=h.len
 have hl':=h'.len
 refine List.ext_getElem (by omega) λp h1 h2=>?_
 have c1:=h.cols _ (List.getElem_mem h1)
 have c2:=h'.cols _ (List.getElem_mem h2)
 refine List.ext_getElem (by omega) λt h3 h4=>?_
 have:=e p (by omega) t (by omega)
 unfold ent at this
 rw[getD_lt h1,getD_lt h2,getD_lt h3,getD_lt h4]at this
 exact this
theorem acc_fin{n:Nat}{Z:List (List Int)}{T:Int}{k:Nat}(hZ:Reg n Z T)(I:ItOk n Z T k)(hf:(it Z T k).2=0):accM n Z T k=Z:=by
 obtain⟨⟨R,h1⟩,h2⟩:=acc_ok I k (Nat.le_refl _)
 have hr:=I.reg
 rw[hf]at hr
 refine lO h1 hZ λp hp t ht=>?_
 rw[h2 p hp t,I.ent p hp t,kD hr hp ht,Int.zero_add]
theorem acc_bd{n:Nat}{Z:List (List Int)}{T:Int}{k:Nat}(hZ:Reg n Z T)(hT:0<T)(hn:1<=n)(hk:∀j,j<k->(it Z T j).2≠0){i:Nat}(hi:i<=k){p:Nat}(hp:p<n){t:Nat}(ht:t<n):0<=ent (accM n Z T i) p t/\ent (accM n Z T i) p t<=T:=by
 have I:=it_ok hZ hT hn i λj hj=>hk j (by omega)
 obtain⟨⟨R,h1⟩,h2⟩:=acc_ok I i (Nat.le_refl _)
 have h3:=I.ent p hp t
 have h4:=I.reg.nn p t
 have h5:=sm_one_le (n:=n) (λi=>hZ.nn p i) ht
 rw[hZ.row p hp]at h5
 refine⟨h1.nn p t,?_⟩
 rw[h2 p hp t]
 omega
theorem j5(l:List Int):∀k,sm k (λi=>l.getD i 0)=(l.take k).sum
 | 0=>by simp[sm]
 | k+1=>by
  show sm k _+l.getD k 0=_
  rw[j5 l k,List.take_add_one,List.sum_append,List.getD_eq_getElem?_getD]
  cases l[k]? <;> simp
theorem g9(r:List Int)(f:Int->Bool)(h0:f 0=false):∀k,cnt k (λt=>f (r.getD t 0))=(r.take k).countP f
 | 0=>by simp[cnt]
 | k+1=>by
  rw[bq,g9 r f h0 k,List.take_add_one,List.countP_append,List.getD_eq_getElem?_getD]
  cases r[k]? <;> simp[List.countP_cons,h0]
theorem pn_sum{n:Nat}{Z:List (List Int)}{T:Int}(h:Reg n Z T):pn n Z=(Z.map λr=>((r.countP λx=>decide (0<x):Nat):Int)).sum:=by
 have hl:=h.len
 have e:=j5 (Z.map λr=>((r.countP λx=>decide (0<x):Nat):Int)) n
 rw[List.take_of_length_le (by rw[List.length_map];omega)]at e
 rw[<-e]
 refine sm_congr λp hp=>?_
 rw[show(Z.map λr=>((r.countP λx=>decide (0<x):Nat):Int)).getD p 0=(((Z.getD p []).countP λx=>decide (0<x):Nat):Int)by rw[getD_lt (by rw[List.length_map];omega),List.getElem_map,getD_lt (by omega)]]
 have c:=h.cols _ (List.getElem_mem (show p<Z.length by omega))
 rw[<-getD_lt (d:=[]) (show p<Z.length by omega)]at c
 have e2:=g9 (Z.getD p []) (λx=>decide (0<x)) rfl n
 rw[List.take_of_length_le (by omega)]at e2
 rw[<-e2]
 refine congrArg _ (gH λt _=>?_)
 have:=h.nn p t
 unfold ent at this ⊢
 rw[Bool.eq_iff_iff,decide_eq_true_iff,decide_eq_true_iff]
 omega
end HM
namespace L2
open PySem PySem.Spec PyProof.Rows
def stepI(mask i:Nat):Nat:=(i*5+1)%(mask+1)
def itI(mask:Nat):Nat->Nat->Nat
 | 0,i=>i
 | q+1,i=>itI mask q (stepI mask i)
theorem fB(mask:Nat):∀(a b i:Nat),itI mask (a+b) i=itI mask b (itI mask a i)
 | 0,b,i=>by rw[Nat.zero_add];rfl
 | a+1,b,i=>by rw[Nat.add_right_comm];exact fB mask a b (stepI mask i)
def orbI(mask:Nat):Nat->Nat->List Nat
 | 0,_=>[]
 | q+1,i=>i::orbI mask q (stepI mask i)
theorem fz{mask e:Nat}:∀{q i:Nat},e∈orbI mask q i->∃b,b<q/\itI mask b i=e
 | 0,_,h=>nomatch h
 | q+1,i,h=>by
  rcases List.mem_cons.mp h with z|z
  ·exact⟨0,Nat.succ_pos _,z.symm⟩
  ·obtain⟨b,h1,h2⟩:=fz z
   exact⟨b+1,by omega,h2⟩
structure FullI(mask:Nat):Prop where
 back:itI mask (mask+1) 0=0
 all:∀e,e<=mask->e∈orbI mask (mask+1) 0
theorem fG{mask:Nat}(h:(itI mask (mask+1) 0==0&&(List.range (mask+1)).all λe=>(orbI mask (mask+1) 0).contains e)=true):FullI mask:=by
 rw[Bool.and_eq_true,List.all_eq_true]at h
 exact⟨eq_of_beq h.1,λe he=>by simpa using h.2 e (List.mem_range.mpr (by omega))⟩
theorem full7:FullI 7:=fG (by decide +kernel)
theorem full31:FullI 31:=fG (by decide +kernel)
theorem full127:FullI 127:=fG (by decide +kernel)
theorem FullI.reach{mask:Nat}(F:FullI mask){i e:Nat}(hi:i<=mask)(he:e<=mask):∃q,q<=mask/\itI mask q i=e:=by
 obtain⟨a,ha,ea⟩:=fz (F.all i hi)
 obtain⟨b,hb,eb⟩:=fz (F.all e he)
 by_cases h:a<=b
 ·refine⟨b-a,by omega,?_⟩
  rw[<-ea,<-fB,show a+(b-a)=b by omega,eb]
 ·refine⟨b+(mask+1)-a,by omega,?_⟩
  rw[<-ea,<-fB,show a+(b+(mask+1)-a)=(mask+1)+b by omega,fB,F.back,eb]
def Reach(mask e:Nat):Nat->Nat->Nat->Prop
 | 0,i,_=>i=e
 | m+1,i,pt=>i=e\/Reach mask e m (SetTable.leap mask i pt).1 (SetTable.leap mask i pt).2
theorem Reach.up{mask e:Nat}:∀{m m' i pt:Nat},Reach mask e m i pt->m<=m'->Reach mask e m' i pt
 | 0,0,_,_,h,_=>h
 | 0,m'+1,_,_,h,_=> .inl h
 | m+1,0,_,_,_,hm=>absurd hm (Nat.not_succ_le_zero _)
 | m+1,m'+1,i,pt,h,hm=>by
  rcases h with h|h
  ·exact .inl h
  ·exact .inr (h.up (Nat.le_of_succ_le_succ hm))
theorem lb(mask i pt:Nat):(SetTable.leap mask i pt).1<=mask:=Nat.le_of_lt_succ (Nat.mod_lt _ (Nat.succ_pos _))
theorem eU{mask e:Nat}:∀{q i:Nat},itI mask q i=e->Reach mask e q i 0
 | 0,i,h=>h
 | q+1,i,h=> .inr (eU (q:=q) (i:=stepI mask i) h)
theorem fZ{mask:Nat}(F:FullI mask){e:Nat}(he:e<=mask):∀(c i pt:Nat),i<=mask->pt<32^c->Reach mask e (mask+c) i pt
 | 0,i,pt,hi,hp=>by
  have:pt=0:=by simpa using hp
  subst this
  obtain⟨q,hq,h⟩:=F.reach hi he
  exact(eU h).up hq
 | c+1,i,pt,hi,hp=> .inr (fZ F he c _ _ (lb _ _ _) (by
   show pt/32<32^c
   rw[Nat.div_lt_iff_lt_mul (by decide)]
   rw[Nat.pow_succ]at hp
   exact hp))
theorem lR(h:Int):SetTable.bits h<32^13:=by
 unfold SetTable.bits
 have h1:=Int.emod_lt_of_pos h (show(0:Int)<2^64 by decide)
 have h0:=Int.emod_nonneg h (show(2^64:Int)≠0 by decide)
 have:(32^13:Nat)=36893488147419103232:=by decide
 rw[this]
 have:(2^64:Int)=18446744073709551616:=by decide
 rw[this]at h1 h0 ⊢
 omega
theorem fg{mask:Nat}(F:FullI mask){e:Nat}(he:e<=mask)(h:Int):Reach mask e (mask+13) (SetTable.bits h%(mask+1)) (SetTable.bits h):=
 fZ F he 13 _ _ (Nat.le_of_lt_succ (Nat.mod_lt _ (Nat.succ_pos _))) (lR h)
def Near(t:SetTable):Nat->SetTable.Probe->Prop
 | 0,p=>t.slot p.j = .empty
 | m+1,p=>t.slot p.j = .empty\/Near t m (t.advance p)
theorem Near.up{t:SetTable}:∀{m m':Nat} {p:SetTable.Probe},Near t m p->m<=m'->Near t m' p
 | 0,0,_,h,_=>h
 | 0,m'+1,_,h,_=> .inl h
 | m+1,0,_,_,hm=>absurd hm (Nat.not_succ_le_zero _)
 | m+1,m'+1,p,h,hm=>by
  rcases h with h|h
  ·exact .inl h
  ·exact .inr (h.up (Nat.le_of_succ_le_succ hm))
def stP(mask i pt:Nat)(d:Option Nat):SetTable.Probe:={j:=i,more:=SetTable.runEnd mask i-i,i,perturb:=pt,dummy:=d}
theorem hU{t:SetTable}{m:Nat}:∀(r:Nat) (p:SetTable.Probe),p.more=r->Near t m (stP t.mask (SetTable.leap t.mask p.i p.perturb).1 (SetTable.leap t.mask p.i p.perturb).2 p.dummy)->Near t (m+r+1) p
 | 0,p,hr,h=>by
  refine .inr ?_
  unfold SetTable.advance
  rw[if_neg (by omega)]
  exact h
 | r+1,p,hr,h=>by
  refine .inr ?_
  unfold SetTable.advance
  rw[if_pos (by omega)]
  exact hU r _ (by show p.more-1=r;omega) h
theorem mw(mask i:Nat):SetTable.runEnd mask i-i<=9:=by
 unfold SetTable.runEnd
 split <;> omega
theorem cF{t:SetTable}{e:Nat}(he:t.slot e = .empty):∀{m i pt:Nat} {d:Option Nat},Reach t.mask e m i pt->Near t (10*m) (stP t.mask i pt d)
 | 0,i,pt,d,h=>by
  cases(show i=e from h)
  exact he
 | m+1,i,pt,d,h=>by
  rcases h with h|h
  ·cases(show i=e from h)
   exact Near.up (m:=0) he (Nat.zero_le _)
  ·have:=hU (t:=t) (m:=10*m) _ (stP t.mask i pt d) rfl (cF he h)
   refine this.up ?_
   show 10*m+(SetTable.runEnd t.mask i-i)+1<=_
   have:=mw t.mask i
   omega
theorem lG{t:SetTable}{hashAt:Nat->Int}{h:Int}(hd:∀j,t.slot j≠ .dummy):∀{m fuel:Nat} {p:SetTable.Probe},Near t m p->m<fuel->p.dummy=none->
  (∃j,SetTable.probe.go t hashAt h fuel p=some (.empty j none))\/∃j i next m',SetTable.probe.go t hashAt h fuel p=some (.candidate j i next)/\t.slot j = .live i/\m'<m/\Near t m' next/\next.dummy=none:=by
 intro m
 induction m with
 | zero=>
  intro fuel p hn hf hp
  obtain⟨f,rfl⟩:∃f,fuel=f+1:=⟨fuel-1,by omega⟩
  refine .inl ⟨p.j,?_⟩
  unfold SetTable.probe.go
  rw[show t.slot p.j = .empty from hn]
  dsimp only
  rw[hp]
 | succ m ih=>
  intro fuel p hn hf hp
  obtain⟨f,rfl⟩:∃f,fuel=f+1:=⟨fuel-1,by omega⟩
  have hadv:(t.advance p).dummy=none:=by
   unfold SetTable.advance
   split <;> exact hp
  unfold SetTable.probe.go
  cases hs:t.slot p.j with
  | empty=>
   refine .inl ⟨p.j,?_⟩
   dsimp only
   rw[hp]
  | dummy=>exact absurd hs (hd _)
  | live i=>
   have hn':Near t m (t.advance p):=by
    rcases hn with z|z
    ·rw[hs]at z;cases z
    ·exact z
   dsimp only
   split
   ·exact .inr ⟨p.j,i,_,m,rfl,hs,Nat.lt_succ_self _,hn',hadv⟩
   ·rcases ih (fuel:=f) hn' (by omega) hadv with z|⟨j,i',next,m',z1,z2,z3,z4⟩
    ·exact .inl z
    ·exact .inr ⟨j,i',next,m',z1,z2,Nat.lt_succ_of_lt z3,z4⟩
end L2
namespace L2
open PySem PySem.Spec PyProof.Rows
theorem jG{mask e:Nat}{owner:Array (Option Nat)}(he:owner.getD e (some 0)=none):∀{m fuel i pt:Nat},Reach mask e m i pt->m<fuel->∃j,SetTable.layClean.free mask owner fuel i pt=some j/\owner.getD j (some 0)=none:=by
 intro m
 induction m with
 | zero=>
  intro fuel i pt hr hf
  obtain⟨f,rfl⟩:∃f,fuel=f+1:=⟨fuel-1,by omega⟩
  have hi:i=e:=hr
  unfold SetTable.layClean.free
  cases hq:(List.range (SetTable.runEnd mask i+1-i)).find? λk=>(owner.getD (i+k) (some 0)).isNone with
  | some k=>
   have:=List.find?_some hq
   exact⟨i+k,rfl,by simpa using this⟩
  | none=>
   exfalso
   have:=List.find?_eq_none.mp hq 0 (List.mem_range.mpr (by unfold SetTable.runEnd;split <;> omega))
   rw[Nat.add_zero,hi,he]at this
   exact this rfl
 | succ m ih=>
  intro fuel i pt hr hf
  obtain⟨f,rfl⟩:∃f,fuel=f+1:=⟨fuel-1,by omega⟩
  unfold SetTable.layClean.free
  cases hq:(List.range (SetTable.runEnd mask i+1-i)).find? λk=>(owner.getD (i+k) (some 0)).isNone with
  | some k=>
   have:=List.find?_some hq
   exact⟨i+k,rfl,by simpa using this⟩
  | none=>
   rcases hr with hr|hr
   ·exfalso
    have:=List.find?_eq_none.mp hq 0 (List.mem_range.mpr (by unfold SetTable.runEnd;split <;> omega))
    rw[Nat.add_zero,show i=e from hr,he]at this
    exact this rfl
   ·exact ih hr (by omega)
structure OwnI(mask:Nat)(owner:Array (Option Nat))(k:Nat):Prop where
 size:owner.size=mask+1
 cnt:(List.range (mask+1)).countP (λj=>(owner.getD j none).isSome)=k
 lt:∀j v,owner.getD j none=some v->v<k
theorem fk{g g':Nat->Bool}{j:Nat}(hj:g j=false)(hj':g' j=true)(he:∀i,i≠j->g' i=g i):∀n,(List.range n).countP g'=(List.range n).countP g+if j<n then 1 else 0
 | 0=>rfl
 | n+1=>by
  rw[List.range_succ,List.countP_append,List.countP_append,fk hj hj' he n]
  by_cases e:n=j
  ·subst e
   simp[List.countP_cons,hj,hj']
  ·rw[show List.countP g' [n]=List.countP g [n]by simp[List.countP_cons,he n e]]
   by_cases h:j<n
   ·simp[h,show j<n+1 by omega];omega
   ·simp[h,show ¬j<n+1 by omega]
theorem dO{g:Nat->Bool}:∀{n:Nat},(∀j,j<n->g j=true)->(List.range n).countP g=n
 | 0,_=>rfl
 | n+1,h=>by
  rw[List.range_succ,List.countP_append,dO λj hj=>h j (by omega)]
  simp[List.countP_cons,h n (Nat.lt_succ_self n)]
theorem cq{owner:Array (Option Nat)}{j:Nat}(h:j<owner.size):owner.getD j none=owner.getD j (some 0):=by
 simp[Array.getD,h]
theorem kc{mask:Nat}(F:FullI mask){owner:Array (Option Nat)}{k:Nat}(O:OwnI mask owner k)(hk:k<=mask)(h:Int):
  ∃j,SetTable.layClean.free mask owner (SetTable.turns mask) (SetTable.bits h%(mask+1)) (SetTable.bits h)=some j/\OwnI mask (owner.setIfInBounds j (some k)) (k+1):=by
 obtain⟨e,he,hf⟩:∃e,e<=mask/\owner.getD e (some 0)=none:=by
  refine Classical.byContradiction λz=>?_
  have:=dO (n:=mask+1) (g:=λj=>(owner.getD j none).isSome) λj hj=>by
   cases e:owner.getD j none with
   | some v=>rfl
   | none=>exact absurd ⟨j,by omega,by rw[<-cq (by rw[O.size];exact hj)];exact e⟩ z
  rw[O.cnt]at this
  omega
 obtain⟨j,h1,h2⟩:=jG (mask:=mask) (owner:=owner) hf (fg F he h) (fuel:=SetTable.turns mask) (by unfold SetTable.turns;omega)
 have hj:j<owner.size:=by
  refine Classical.byContradiction λz=>?_
  simp[Array.getD,z]at h2
 have hnew:∀i,(owner.setIfInBounds j (some k)).getD i none=if i=j then some k else owner.getD i none:=λi=>by
  by_cases e:i=j
  ·subst e
   rw[if_pos rfl]
   simp[Array.getD,hj]
  ·rw[if_neg e]
   simp only[Array.getD,Array.size_setIfInBounds]
   split
   ·rename_i hi
    rw[Array.getInternal_eq_getElem,Array.getInternal_eq_getElem,Array.getElem_setIfInBounds (by simpa using hi),if_neg (Ne.symm e)]
   ·rfl
 refine⟨j,h1,by rw[Array.size_setIfInBounds];exact O.size,?_,λi v hv=>?_⟩
 ·rw[fk (g:=λj=>(owner.getD j none).isSome) (j:=j) (by rw[cq hj,h2];rfl) (by show((owner.setIfInBounds j (some k)).getD j none).isSome=true;rw[hnew,if_pos rfl];rfl) (λi hi=>by show((owner.setIfInBounds j (some k)).getD i none).isSome=_;rw[hnew,if_neg hi]) (mask+1),O.cnt,if_pos (by rw[<-O.size];exact hj)]
 ·rw[hnew]at hv
  split at hv
  ·cases hv;exact Nat.lt_succ_self _
  ·exact Nat.lt_succ_of_lt (O.lt i v hv)
theorem lJ{mask finger moves:Nat}{led plain:Bool}(F:FullI mask){hashes:Array Int}(hn:hashes.size<=mask+1):
  ∃place order:Array Nat,SetTable.laid mask finger moves led plain hashes=some ({mask,place,dummies:= #[],finger,led,moves,plain},order)/\place.size=hashes.size/\order.size=hashes.size/\∀v∈order.toList,v<hashes.size:=by
 have key:∀(l:List Int) (owner:Array (Option Nat)) (k:Nat),OwnI mask owner k->k+l.length<=mask+1->
   ∃owner',l.foldl (λacc h=>do let(owner,k)<-acc;let j<-SetTable.layClean.free mask owner (SetTable.turns mask) (SetTable.bits h%(mask+1)) (SetTable.bits h);pure (owner.setIfInBounds j (some k),k+1)) (some (owner,k))=some (owner',k+l.length)/\OwnI mask owner' (k+l.length):=by
  intro l
  induction l with
  | nil=>intro owner k O _;exact⟨owner,rfl,O⟩
  | cons h l ih=>
   intro owner k O hk
   rw[List.length_cons]at hk
   obtain⟨j,h1,O'⟩:=kc F O (by omega) h
   obtain⟨owner',h2,O2⟩:=ih _ _ O' (by omega)
   refine⟨owner',?_,?_⟩
   ·rw[List.foldl_cons,List.length_cons,show k+(l.length+1)=k+1+l.length by omega,<-h2]
    congr 1
    show(SetTable.layClean.free mask owner (SetTable.turns mask) (SetTable.bits h%(mask+1)) (SetTable.bits h)).bind _=_
    rw[h1]
    rfl
   ·rw[List.length_cons,show k+(l.length+1)=k+1+l.length by omega];exact O2
 have O0:OwnI mask (Array.replicate (mask+1) none) 0:=⟨by simp,by
  rw[List.countP_eq_zero]
  intro j hj
  have hj:=List.mem_range.mp hj
  simp[Array.getD,hj],λj v hv=>by
  simp only[Array.getD]at hv
  split at hv
  ·simp at hv
  ·cases hv⟩
 obtain⟨owner,h1,O⟩:=key hashes.toList _ 0 O0 (by simpa using hn)
 rw[Nat.zero_add,Array.length_toList]at h1 O
 unfold SetTable.laid SetTable.layClean
 rw[<-Array.foldl_toList,h1]
 refine⟨_,_,rfl,?_,?_,?_⟩
 ·simp only[List.size_toArray,List.length_map]
  rw[List.length_filterMap_eq_countP]
  rw[<-O.cnt]
  congr 1
  funext j
  simp
 ·simp only[List.size_toArray,List.length_map]
  rw[List.length_filterMap_eq_countP]
  rw[<-O.cnt]
  congr 1
  funext j
  simp
 ·intro v hv
  simp only[List.mem_map,List.mem_filterMap]at hv
  obtain⟨⟨j,u⟩,⟨j',_,e⟩,rfl⟩:=hv
  obtain⟨u',h3,h4⟩:=Option.map_eq_some_iff.mp e
  cases h4
  exact O.lt j u h3
end L2
namespace L2
open PySem PySem.Spec PyProof.Rows
section
variable{prog:Program}{w:World}{A:Around}{E:Value->Shared->Prop}{s:Shared}
theorem e6{ks:List Int}{vs:List Value}(h:ItemsAre (intKind prog w) ks vs):∀v∈vs,∃i t,v=Value.int i t:=by
 induction h with
 | nil=>intro v hv;cases hv
 | @cons k v ks vs h1 _ ih=>
  intro u hu
  rcases List.mem_cons.mp hu with z|z
  ·subst z
   cases u with
   | int i t=>exact⟨i,t,rfl⟩
   | _=>exact absurd h1 (by simp[intKind,Value.isInt])
  ·exact ih u z
theorem dE{ks:List Int}{a:Addr}{Q:Bool->Shared->Prop}(hk:IsTupleKey (intKind prog w) s.heap ks a)(h:Q true s):wpAny (model prog w) A (hashByValue 8 (.ref a)) Q E s:=by
 have hT:=hk.typeIs
 obtain⟨o,items,n,ho,_,hd,hi⟩:=hk
 unfold hashByValue
 refine wpAny_bind (wpAny_specialOf hT F.slot_tuple_hash.lookup ?_)
 dsimp only
 refine wpAny_bind (wpAny_seqItems ho hd ?_)
 rw[<-Array.forIn_toList]
 refine wpAny_bind (wpAny_forIn_list _ (λrest b s'=>b.1=none/\s'=s/\∀v∈rest,∃i t,v=Value.int i t) _ ?_ ?_ _ _ ⟨rfl,rfl,e6 hi⟩)
 ·rintro x rest b s' ⟨hb,rfl,hr⟩
  obtain⟨i,t,rfl⟩:=hr x List.mem_cons_self
  exact wpAny_bind (wpAny_pure (wpAny_ite_false rfl (wpAny_pure ⟨rfl,rfl,λv hv=>hr v (List.mem_cons_of_mem _ hv)⟩)))
 ·rintro⟨b1,b2⟩ s' ⟨hb,rfl,_⟩
  cases(show b1=none from hb)
  exact wpAny_pure h
theorem eC{ks:List Int}{a:Addr}{Q:Bool->Shared->Prop}(hk:IsTupleKey (intKind prog w) s.heap ks a)(h:Q false s):wpAny (model prog w) A (ofAClassStatement 8 (.ref a)) Q E s:=by
 have hT:=hk.typeIs
 obtain⟨o,items,n,ho,_,hd,hi⟩:=hk
 unfold ofAClassStatement
 refine wpAny_bind (wpAny_typeOf hT ?_)
 dsimp only
 refine wpAny_bind (wpAny_pure ?_)
 refine wpAny_ite_false rfl ?_
 refine wpAny_bind (wpAny_seqItems ho hd ?_)
 dsimp only
 rw[<-Array.forIn_toList]
 refine wpAny_bind (wpAny_forIn_list _ (λrest b s'=>b.1=none/\s'=s/\∀v∈rest,∃i t,v=Value.int i t) _ ?_ ?_ _ _ ⟨rfl,rfl,e6 hi⟩)
 ·rintro x rest b s' ⟨hb,rfl,hr⟩
  obtain⟨i,t,rfl⟩:=hr x List.mem_cons_self
  exact wpAny_bind (wpAny_pure (wpAny_ite_false rfl (wpAny_pure ⟨rfl,rfl,λv hv=>hr v (List.mem_cons_of_mem _ hv)⟩)))
 ·rintro⟨b1,b2⟩ s' ⟨hb,rfl,_⟩
  cases(show b1=none from hb)
  exact wpAny_pure h
def TupV(prog:Program)(w:World)(h:Heap)(k:List Int)(v:Value):Prop:=∃b,v = .ref b/\IsTupleKey (intKind prog w) h k b
theorem iJ{k:List Int}{b:Addr}{stored:List Value}{Q:Bool->Shared->Prop}(hk:IsTupleKey (intKind prog w) s.heap k b)(hs:∀v∈stored,∃k',TupV prog w s.heap k' v)(h:Q false s):
  wpAny (model prog w) A (searchCouldBeSeen (.ref b) stored) Q E s:=by
 unfold searchCouldBeSeen
 refine wpAny_bind (wpAny_forIn_list _ (λrest r s'=>r.1=none/\s'=s/\∀v∈rest,∃k',TupV prog w s.heap k' v) _ ?_ ?_ _ _ ⟨rfl,rfl,hs⟩)
 ·rintro x rest r s' ⟨hb,rfl,hr⟩
  obtain⟨k',b',rfl,hk'⟩:=hr _ List.mem_cons_self
  have hr':∀v∈rest,∃k',TupV prog w s'.heap k' v:=λv hv=>hr v (List.mem_cons_of_mem _ hv)
  dsimp only
  by_cases e:(b==b'||(carriedByValue (Value.ref b)&&carriedByValue (Value.ref b')))=true
  ·exact wpAny_ite_true (by simpa using e) (wpAny_pure ⟨rfl,rfl,hr'⟩)
  ·refine wpAny_ite_false (by simpa using e) ?_
   refine wpAny_bind (wpAny_eqIsQuiet_tuple hk ?_)
   refine wpAny_ite_false rfl ?_
   refine wpAny_bind (wpAny_eqIsQuiet_tuple hk' ?_)
   refine wpAny_ite_false rfl ?_
   refine wpAny_bind (eC hk ?_)
   refine wpAny_ite_false rfl ?_
   refine wpAny_bind (eC hk' ?_)
   refine wpAny_ite_false rfl ?_
   exact wpAny_pure ⟨rfl,rfl,hr'⟩
 ·rintro⟨b1,b2⟩ s' ⟨hb,rfl,_⟩
  cases(show b1=none from hb)
  exact wpAny_pure h
theorem kv{t:SetTable}(h:t.dummies = #[])(j:Nat):t.slot j≠ .dummy:=by
 unfold SetTable.slot
 dsimp only
 rw[h]
 split
 ·exact λz=>nomatch z
 ·rw[show SetTable.has #[] j=false from rfl]
  exact λz=>nomatch z
theorem jo{t:SetTable}{j i:Nat}(h:t.slot j = .live i):i<t.place.size:=by
 unfold SetTable.slot at h
 dsimp only at h
 split at h
 ·rename_i z
  cases h
  have:=eq_of_beq z
  exact(Array.getElem?_eq_some_iff.mp this).1
 ·split at h <;> cases h
theorem iT{t:SetTable}(h:t.dummies = #[]){j:Nat}(hj:j∉t.place.toList):t.slot j = .empty:=by
 unfold SetTable.slot
 dsimp only
 rw[if_neg,if_neg]
 ·rw[h];exact Bool.false_ne_true
 ·intro z
  have:=eq_of_beq z
  exact hj (by rw[<-Array.getElem?_toList]at this;exact List.mem_of_getElem? this)
theorem iy{t:SetTable}{hashAt:Nat->Int}{h:Int}{m:Nat}{p:SetTable.Probe}{X:Option SetTable.Met}(hX:t.probe hashAt h p=X)(hd:∀j,t.slot j≠ .dummy)(hn:Near t m p)(hm:m<10*SetTable.turns t.mask)(hp:p.dummy=none):
  (∃j,X=some (.empty j none))\/∃j i next m',X=some (.candidate j i next)/\t.slot j = .live i/\m'<m/\Near t m' next/\next.dummy=none:=by
 subst hX
 exact lG hd hn hm hp
theorem gY{a b:Addr}{k:List Int}{hh:Int}{o:Obj}{es:Array (Int×Value)}{ep:Nat}{t:SetTable}{Q:SetFound->Shared->Prop}(hu:A.units<cLine)(ho:s.heap.get? a=some o)(hd:o.data = .set es ep t)(hf:t.fits es.size=true)
  (hodd:t.gaveWay=false)(hdm:t.dummies = #[])(hk:IsTupleKey (intKind prog w) s.heap k b)(hes:∀e∈es.toList,∃k',TupV prog w s.heap k' e.2/\k'≠k)(hQ:∀j,Q (.free j false) s):
  ∀(m fuel:Nat) (stand:Option SetTable.Probe),Near t m (stand.getD (t.probeStart hh))->(stand.getD (t.probeStart hh)).dummy=none->m<10*SetTable.turns t.mask->m<fuel->wpAny (model prog w) A (setSearchFrom a (.ref b) hh true fuel stand) Q E s:=by
 intro m
 induction m using Nat.strongRecOn with
 | _ m ih=>
  intro fuel stand hn hdn hm hfu
  obtain⟨f,rfl⟩:∃f,fuel=f+1:=⟨fuel-1,by omega⟩
  unfold setSearchFrom
  refine wpAny_bind (wpAny_setState_of ho hd hf ?_)
  dsimp only
  refine wpAny_ite_false (by rw[hodd];rfl) ?_
  generalize hX:t.probe _ hh (stand.getD (t.probeStart hh))=X
  rcases iy hX (kv hdm) hn hm hdn with⟨j,rfl⟩|⟨j,i,next,m',rfl,hl,hlt,hn',hdn'⟩
  ·exact wpAny_pure (hQ j)
  ·dsimp only
   have hfs:t.place.size=es.size:=by
    simp only[SetTable.fits,Bool.and_eq_true,beq_iff_eq]at hf
    exact hf.1
   have hi:i<es.size:=by rw[<-hfs];exact jo hl
   obtain⟨k',⟨b',hv,hk'⟩,hne⟩:=hes es[i] (by simp)
   have hei:es[i]?=some (es[i].1,.ref b'):=by rw[<-hv];exact Array.getElem?_eq_getElem hi
   by_cases hled:t.led=true
   ·refine wpAny_ite_false (by rw[hled];rfl) ?_
    rw[hei]
    dsimp only
    refine wpAny_bind (wpAny_holding (wpAny_eqBool_tuple hu hk' hk ?_))
    rw[decide_eq_false hne]
    refine wpAny_bind (wpAny_setState_of ho hd hf ?_)
    dsimp only
    refine wpAny_ite_false rfl ?_
    rw[show t.sameMemory t.moves t.mask=some true by unfold SetTable.sameMemory;simp]
    dsimp only
    rw[if_pos rfl,hl]
    dsimp only
    rw[hei]
    dsimp only
    unfold isSame
    dsimp only
    refine wpAny_bind (wpAny_ite_true (by simp) (wpAny_pure (wpAny_bind (wpAny_pure ?_))))
    refine wpAny_ite_false rfl ?_
    exact ih m' hlt f (some next) hn' hdn' (by omega) (by omega)
   ·refine wpAny_ite_true (by simpa using hled) ?_
    refine wpAny_bind (iJ hk (λv hv=>?_) (wpAny_ite_false rfl ?_))
    ·obtain⟨e0,he0,rfl⟩:=List.mem_map.mp hv
     have:e0∈es.toList:=by
      have:=(Array.mem_toList_iff.mp he0)
      exact Array.mem_toList_iff.mpr (Array.mem_filter.mp this).1
     obtain⟨k2,h2,_⟩:=hes e0 this
     exact⟨k2,h2⟩
    rw[hei]
    dsimp only
    refine wpAny_bind (wpAny_holding (wpAny_eqBool_tuple hu hk' hk ?_))
    rw[decide_eq_false hne]
    refine wpAny_bind (wpAny_setState_of ho hd hf ?_)
    dsimp only
    refine wpAny_ite_false rfl ?_
    rw[show t.sameMemory t.moves t.mask=some true by unfold SetTable.sameMemory;simp]
    dsimp only
    rw[if_pos rfl,hl]
    dsimp only
    rw[hei]
    dsimp only
    unfold isSame
    dsimp only
    refine wpAny_bind (wpAny_ite_true (by simp) (wpAny_pure (wpAny_bind (wpAny_pure ?_))))
    refine wpAny_ite_false rfl ?_
    exact ih m' hlt f (some next) hn' hdn' (by omega) (by omega)
end
end L2
namespace L2
open PySem PySem.Spec PyProof.Rows
structure TabQ(t:SetTable)(n:Nat):Prop where
 mask:t.mask=7\/t.mask=31\/t.mask=127
 dm:t.dummies = #[]
 sz:t.place.size=n
 room:n*5<t.mask*3
theorem TabQ.full{t:SetTable}{n:Nat}(T:TabQ t n):FullI t.mask:=by
 rcases T.mask with e|e|e <;> rw[e]
 ·exact full7
 ·exact full31
 ·exact full127
theorem TabQ.odd{t:SetTable}{n:Nat}(T:TabQ t n):t.gaveWay=false:=by
 unfold SetTable.gaveWay
 rcases T.mask with e|e|e <;> rw[e] <;> rfl
theorem TabQ.fits{t:SetTable}{n:Nat}(T:TabQ t n):t.fits n=true:=by
 unfold SetTable.fits SetTable.fill
 rw[T.dm,T.sz]
 have:=T.room
 simp
 omega
theorem pigeonN:∀(row ts:List Nat),row.Nodup->(∀t∈row,t∈ts)->row.length<=ts.length
 | [],_,_,_=>Nat.zero_le _
 | a::r,ts,hn,h=>by
  have ha:=h a List.mem_cons_self
  have:=pigeonN r (ts.erase a) (List.nodup_cons.mp hn).2 λt ht=>(List.mem_erase_of_ne (show t≠a from λz=>(List.nodup_cons.mp hn).1 (z▸ht))).mpr (h t (List.mem_cons_of_mem _ ht))
  rw[List.length_erase_of_mem ha]at this
  have:=List.length_pos_of_mem ha
  rw[List.length_cons]
  omega
theorem TabQ.near{t:SetTable}{n:Nat}(T:TabQ t n)(h:Int):∃m,m<10*SetTable.turns t.mask/\m<100000/\Near t m (t.probeStart h):=by
 obtain⟨e,he,hn⟩:∃e,e<=t.mask/\e∉t.place.toList:=by
  refine Classical.byContradiction λz=>?_
  have:=pigeonN (List.range (t.mask+1)) t.place.toList List.nodup_range λj hj=>Classical.byContradiction λy=>z ⟨j,by have:=List.mem_range.mp hj;omega,y⟩
  rw[List.length_range,Array.length_toList,T.sz]at this
  have:=T.room
  omega
 refine⟨10*(t.mask+13),by unfold SetTable.turns;omega,by rcases T.mask with e|e|e <;> rw[e] <;> decide,cF (iT T.dm hn) (fg T.full he h)⟩
def SetQ(prog:Program)(w:World)(h:Heap)(a:Addr)(ks:List (List Int))(n:Nat):Prop:=
 ∃o es ep t,h.get? a=some o/\o.ExactSet/\o.data = .set es ep t/\TabQ t es.size/\es.size=n/\∀e∈es.toList,∃k,TupV prog w h k e.2/\k∈ks
theorem TupV.keeps{prog:Program}{w:World}{h h':Heap}{k:List Int}{v:Value}{a:Addr}{o:Obj}{es ep t}(H:TupV prog w h k v)(ho:h.get? a=some o)(hd:o.data = .set es ep t)(sb:Heap.SameBut a h h'):TupV prog w h' k v:=by
 obtain⟨b,rfl,ob,items,n,h1,h2,h3,h4⟩:=H
 refine⟨b,rfl,ob,items,n,?_,h2,h3,h4⟩
 rw[sb.2 b λz=>?_]
 ·exact h1
 ·subst z
  rw[ho]at h1
  cases h1
  rw[hd]at h3
  cases h3
theorem gi{t:SetTable}{n:Nat}(hm:t.mask=7\/t.mask=31\/t.mask=127)(hr:n*5<t.mask*3)(hf:t.mask*3<=(n+1)*5)(hn:n<60):∃m,SetTable.sizeAbove (SetTable.grown (n+1))-1=m/\(m=31\/m=127)/\(n+1)*5<m*3/\¬SetTable.sizeAbove (SetTable.grown (n+1))>sizeLine:=by
 rcases hm with e|e|e
 ·have:n=4:=by omega
  subst this
  exact⟨31,by decide,.inl rfl,by decide,by decide⟩
 ·have:n=18:=by omega
  subst this
  exact⟨127,by decide,.inr rfl,by decide,by decide⟩
 ·omega
section
variable{prog:Program}{w:World}{A:Around}{E:Value->Shared->Prop}{s:Shared}
theorem iS{a b:Addr}{k:List Int}{ks:List (List Int)}{n:Nat}{Q:Bool->Shared->Prop}(hu:A.units<cLine)(hS:SetQ prog w s.heap a ks n)(hk:IsTupleKey (intKind prog w) s.heap k b)(hne:k∉ks)(hn:n<60)(hh:Int)
  (hQ:∀h',Heap.SameBut a s.heap h'->SetQ prog w h' a (k::ks) (n+1)->Q true {s with heap:=h'}):wpAny (model prog w) A (setAddHashed a (.ref b) hh) Q E s:=by
 obtain⟨o,es,ep,t,ho,hex,hd,T,hsz,hes⟩:=hS
 have hf:=T.fits
 unfold setAddHashed
 refine wpAny_holding ?_
 unfold setAddHashedIn
 refine wpAny_bind (wpAny_setState_of ho hd hf ?_)
 dsimp only
 refine wpAny_ite_false (show(byScan (.ref b) es)=false from rfl) ?_
 obtain⟨m,hm1,hm2,hnear⟩:=T.near hh
 unfold setSearch
 refine wpAny_bind (gY hu ho hd hf T.odd T.dm hk (λe he=>?_) (λj=>?_) m 100000 none hnear rfl hm1 hm2)
 ·obtain⟨k',h1,h2⟩:=hes e he
  exact⟨k',h1,λz=>hne (z▸h2)⟩
 ·dsimp only
  refine wpAny_bind (wpAny_setState_of ho hd hf ?_)
  unfold SetTable.put
  dsimp only
  rw[T.dm]
  have hplace:(SetTable.insertAt t.place (SetTable.below t.place j) j).size=es.size+1:=by
   rw[<-Array.length_toList,(SetTable.insertAt_perm _ _ _).length_eq,Array.length_toList,Array.size_push,T.sz]
  have hes1:(SetTable.insertAt es (SetTable.below t.place j) (hh,Value.ref b)).size=es.size+1:=by
   rw[<-Array.length_toList,(SetTable.insertAt_perm _ _ _).length_eq,Array.length_toList,Array.size_push]
  have hmem1:∀e∈(SetTable.insertAt es (SetTable.below t.place j) (hh,Value.ref b)).toList,e∈es.toList\/e=(hh,Value.ref b):=λe he=>by
   have:=(SetTable.insertAt_perm _ _ _).mem_iff.mp he
   rw[Array.toList_push]at this
   rcases List.mem_append.mp this with z|z
   ·exact .inl z
   ·exact .inr (List.mem_singleton.mp z)
  have tl:∀(es1:Array (Int×Value)) (t1:SetTable),es1.size=es.size+1->(∀e∈es1.toList,e∈es.toList\/e=(hh,Value.ref b))->t1.mask=t.mask->t1.dummies = #[]->t1.place.size=es.size+1->wpAny (model prog w) A (do
    storeSet a es1 t1
    if(!false&&t1.tooFull)=true then do
     setRelay a (SetTable.grown (es.size+1))
     pure true
    else pure true) Q E s:=λes1 t1 hes1 hmem1 e1 e2 hplace=>by
   have hz1:es1.size<=sizeLine:=by rw[hes1,hsz];exact Nat.le_trans (show n+1<=60 by omega) (by decide)
   refine wpAny_bind (wpAny_storeSet_of ho hd ?_ hz1)
   have hg:(s.heap.update a (Obj.putSet es1 t1)).get? a=some {o with data:= .set es1 (ep+1) t1}:=by
    have:=Heap.get?_update_self (Obj.putSet es1 t1) ho (by rw[putSet_of es1 t1 hd];rfl)
    rw[putSet_of es1 t1 hd]at this;exact this
   have sb1:=Heap.SameBut.update s.heap a (Obj.putSet es1 t1)
   generalize s.heap.update a (Obj.putSet es1 t1)=h1 at hg sb1
   have hk1:TupV prog w h1 k (.ref b):=TupV.keeps ⟨b,rfl,hk⟩ ho hd sb1
   have hes2:∀e∈es1.toList,∃k',TupV prog w h1 k' e.2/\k'∈k::ks:=λe he=>by
    rcases hmem1 e he with z|z
    ·obtain⟨k',h2,h3⟩:=hes e z
     exact⟨k',h2.keeps ho hd sb1,List.mem_cons_of_mem _ h3⟩
    ·subst z
     exact⟨k,hk1,List.mem_cons_self⟩
   have hfill:t1.fill=n+1:=by unfold SetTable.fill;rw[e2,hplace,hsz];rfl
   have hf1:t1.fits es1.size=true:=by
    unfold SetTable.fits
    rw[hplace,hes1,hfill,e1]
    have:=T.room
    simp
    omega
   by_cases htf:t1.tooFull=true
   ·refine wpAny_ite_true (by rw[htf];rfl) ?_
    have htf':t.mask*3<=(n+1)*5:=by
     unfold SetTable.tooFull at htf
     rw[hfill,e1]at htf
     simpa using htf
    have hr:=T.room
    rw[hsz]at hr
    obtain⟨m',q1,q2,q3,q4⟩:=gi T.mask hr htf' hn
    have F':FullI m':=by
     rcases q2 with e|e <;> rw[e]
     ·exact full31
     ·exact full127
    unfold setRelay
    refine wpAny_bind (wpAny_bind (wpAny_setState_of (s:={s with heap:=h1}) hg rfl hf1 ?_))
    dsimp only
    refine wpAny_ite_false (by rw[hsz];simpa using q4) ?_
    obtain⟨pl,ord,l1,l2,l3,l4⟩:=lJ (mask:=m') (finger:=t1.finger) (moves:=t1.movedTo m') (led:=t1.led) (plain:=t1.plain) F' (hashes:=es1.map (·.1)) (by rw[Array.size_map,hes1,hsz];omega)
    have hrel:t1.relaid (es1.map (·.1)) (SetTable.grown (es.size+1))=some ({mask:=m',place:=pl,dummies:= #[],finger:=t1.finger,led:=t1.led,moves:=t1.movedTo m',plain:=t1.plain},ord):=by
     unfold SetTable.relaid
     rw[hsz,q1]
     exact l1
    have hord:(ord.filterMap (es1[·]?)).size=es1.size:=by
     rw[<-Array.length_toList,Array.toList_filterMap,List.length_filterMap_eq_countP,List.countP_eq_length.mpr,Array.length_toList,l3,Array.size_map]
     intro v hv
     have:=l4 v hv
     rw[Array.size_map]at this
     simp[this]
    have hmem3:∀e∈(ord.filterMap (es1[·]?)).toList,e∈es1.toList:=λe he=>by
     rw[Array.toList_filterMap]at he
     obtain⟨v,_,h2⟩:=List.mem_filterMap.mp he
     rw[<-Array.getElem?_toList]at h2
     exact List.mem_of_getElem? h2
    rw[hrel]
    refine wpAny_bind (show wpAny (model prog w) A (if((ord.filterMap (es1[·]?)).size != es1.size)=true then _ else pure (ord.filterMap (es1[·]?),({mask:=m',place:=pl,dummies:= #[],finger:=t1.finger,led:=t1.led,moves:=t1.movedTo m',plain:=t1.plain}:SetTable))) _ _ _ from wpAny_ite_false (by rw[hord];simp) (wpAny_pure ?_))
    dsimp only
    generalize ord.filterMap (es1[·]?)=es3 at hord hmem3
    generalize ht3:({mask:=m',place:=pl,dummies:= #[],finger:=t1.finger,led:=t1.led,moves:=t1.movedTo m',plain:=t1.plain}:SetTable)=t3
    have hz3:es3.size<=sizeLine:=by rw[hord];exact hz1
    refine wpAny_storeSet_of (s:={s with heap:=h1}) hg rfl ?_ hz3
    have hg3:(h1.update a (Obj.putSet es3 t3)).get? a=some {o with data:= .set es3 (ep+1+1) t3}:=by
     have:=Heap.get?_update_self (Obj.putSet es3 t3) hg (by rw[putSet_of es3 t3 rfl];rfl)
     rw[putSet_of es3 t3 rfl]at this;exact this
    have sb3:=Heap.SameBut.update h1 a (Obj.putSet es3 t3)
    refine wpAny_pure (hQ _ (sb1.trans sb3) ⟨_,es3,ep+1+1,t3,hg3,hex,rfl,⟨?_,?_,?_,?_⟩,by rw[hord,hes1,hsz],λe he=>?_⟩)
    ·rw[<-ht3];exact .inr q2
    ·rw[<-ht3]
    ·rw[<-ht3,hord];rw[Array.size_map]at l2;exact l2
    ·rw[<-ht3,hord,hes1,hsz];exact q3
    ·obtain⟨k',h2,h3⟩:=hes2 e (hmem3 e he)
     exact⟨k',h2.keeps hg rfl sb3,h3⟩
   ·refine wpAny_ite_false (by simpa using htf) (wpAny_pure (hQ h1 sb1 ?_))
    have htf':(n+1)*5<t.mask*3:=by
     unfold SetTable.tooFull at htf
     rw[hfill,e1]at htf
     simpa using htf
    exact⟨_,es1,ep+1,t1,hg,hex,rfl,⟨by rw[e1];exact T.mask,e2,by rw[hplace,hes1],by rw[hes1,hsz,e1];exact htf'⟩,by rw[hes1,hsz],hes2⟩
  have fin:∀pl:Bool,_:=λ(pl:Bool)=>tl _ {mask:=t.mask,place:=SetTable.insertAt t.place (SetTable.below t.place j) j,dummies:=if SetTable.has #[] j=true then SetTable.eraseAt #[] (SetTable.below #[] j)else #[],finger:=t.finger,led:=t.led,moves:=t.moves,plain:=pl} hes1 hmem1 rfl rfl hplace
  by_cases hp:t.plain=true
  ·refine wpAny_ite_true (by simpa using hp) (wpAny_bind (dE hk ?_))
   rw[if_pos rfl]
   exact fin _
  ·refine wpAny_ite_false (by simpa using hp) (wpAny_bind (wpAny_pure ?_))
   rw[if_pos rfl]
   exact fin _
end
end L2
namespace L2
open PySem PySem.Spec PyProof.Rows
theorem SetQ.congr{prog:Program}{w:World}{h h':Heap}{a:Addr}{ks:List (List Int)}{n:Nat}(H:SetQ prog w h a ks n)(e:∀o,h.get? a=some o->h'.get? a=some o)(et:∀k b,k∈ks->IsTupleKey (intKind prog w) h k b->IsTupleKey (intKind prog w) h' k b):SetQ prog w h' a ks n:=by
 obtain⟨o,es,ep,t,ho,hex,hd,T,hsz,hes⟩:=H
 refine⟨o,es,ep,t,e o ho,hex,hd,T,hsz,λx hx=>?_⟩
 obtain⟨k,⟨b,h1,h2⟩,h3⟩:=hes x hx
 exact⟨k,⟨b,h1,et k b h3 h2⟩,h3⟩
theorem jn{prog:Program}{w:World}{A:Around}{R:Result->Shared->Prop}{I:Addr}{fp wr:List Addr}{G:Array GenState->Array GenState->Prop}{n:Nat}{P:Nat->Value->Prop}{St:Nat->Shared->Prop}
  (W:WalksS prog w A.in1 I fp wr G n P St)(S:Addr)(hS:S∉fp)(val:Nat->List Int)(hinj:∀i j,i<n->j<n->val i=val j->i=j)(hn:n<=60)(hu:A.units+1<cLine)(hI:∀i (s:Shared) k b,St i s->IsTupleKey (intKind prog w) s.heap k b->b∉wr):
  ∀(k i:Nat) (s:Shared) (ks:List (List Int)),n-i=k->i<=n->St i s->(∀j v,P j v->TupV prog w s.heap (val j) v)->(∀x∈ks,∃j,j<i/\x=val j)->SetQ prog w s.heap S ks i->
   (∀s' ks',Moved (S::wr) G s s'->SetQ prog w s'.heap S ks' n->R (.ok (.ret .none)) s')->
   codeAny (model prog w) A (.builtin "set.update.loop" ⟨[.ref S,.ref I],[]⟩) R s:=by
 have hSw:S∉wr:=λz=>hS (W.sub S z)
 intro k
 induction k with
 | zero=>
  intro i s ks hk hi hSt hv hks hset h
  have e:i=n:=by omega
  subst e
  refine codeAny_builtin F.entry_set_update_loop ?_
  rw[Around.under_plainId F.plain_set_update_loop _]
  unfold Builtin.«set.update.loop»
  refine wpAny_bind (W.done s _ _ hSt λs' m=>?_)
  refine wpAny_pure (h s' ks ⟨λc o hc=>m.heap c o λz=>hc (List.mem_cons_of_mem _ z),m.gens,m.drawn,m.os,m.toks⟩ (hset.congr (λo=>m.heap S o hSw) λk b _ hb=>?_))
  have hnb:=hI _ _ _ _ hSt hb
  obtain⟨o,its,n',h1,h2⟩:=hb
  exact⟨o,its,n',m.heap b o hnb h1,h2⟩
 | succ k ih=>
  intro i s ks hk hi hSt hv hks hset h
  refine codeAny_builtin F.entry_set_update_loop ?_
  rw[Around.under_plainId F.plain_set_update_loop _]
  unfold Builtin.«set.update.loop»
  refine wpAny_bind (W.item i s _ _ (by omega) hSt λv s' hP hSt' m=>?_)
  have mv:∀k b,IsTupleKey (intKind prog w) s.heap k b->IsTupleKey (intKind prog w) s'.heap k b:=λk b hb=>by
   have hnb:=hI _ _ _ _ hSt hb
   obtain⟨o,its,n',h1,h2⟩:=hb
   exact⟨o,its,n',m.heap b o hnb h1,h2⟩
  have hset':SetQ prog w s'.heap S ks i:=hset.congr (λo=>m.heap S o hSw) λk b _ hb=>mv k b hb
  obtain⟨b,rfl,hb⟩:=hv i v hP
  have hb':=mv _ _ hb
  dsimp only
  refine wpAny_bind (wpAny_holding ?_)
  unfold setAdd
  refine wpAny_holding (wpAny_bind (wpAny_pyHash_tuple (show A.units+1<cLine from hu) hb' ?_))
  have hne:val i∉ks:=λz=>by
   obtain⟨j,hj,e⟩:=hks _ z
   have:=hinj i j (by omega) (by omega) e
   omega
  refine iS (s:={s' with toks:=s'.toks+((val i).length+1)}) (show A.units+1<cLine from hu) hset' hb' hne (by omega) _ λh' sb hs'=>?_
  obtain⟨oS,esS,epS,tS,hoS,_,hdS,_⟩:=id hset'
  have kp:∀j v,P j v->TupV prog w h' (val j) v:=λj v hPj=>by
   obtain⟨b2,rfl,hb2⟩:=hv j v hPj
   exact TupV.keeps (a:=S) ⟨b2,rfl,mv _ _ hb2⟩ hoS hdS sb
  refine wpAny_pure ⟨plainId_quiet F.plain_set_update_loop _,ih (i+1) _ (val i::ks) (by omega) (by omega) (W.frame (i+1) s' h' (s'.toks+((val i).length+1)) hSt' (Nat.le_add_right _ _) λc hc o ho=>by rw[sb.2 c λz=>hS (z▸hc)];exact ho) kp (λx hx=>?_) hs' λs'' ks' m2 hset2=>h s'' ks' ?_ hset2⟩
  ·rcases List.mem_cons.mp hx with z|z
   ·exact⟨i,Nat.lt_succ_self i,z⟩
   ·obtain⟨j,hj,e⟩:=hks x z
    exact⟨j,Nat.lt_succ_of_lt hj,e⟩
  ·refine⟨λc o hc ho=>m2.heap c o hc ?_,W.gtrans _ _ _ m.gens m2.gens,m2.drawn.trans m.drawn,m2.os.trans m.os,Nat.le_trans m.toks (Nat.le_trans (Nat.le_add_right _ _) m2.toks)⟩
   show h'.get? c=some o
   rw[sb.2 c λz=>hc (by rw[z];exact List.mem_cons_self)]
   exact m.heap c o (λz=>hc (List.mem_cons_of_mem _ z)) ho
theorem fA{prog:Program}{w:World}{A:Around}{E:Value->Shared->Prop}{s:Shared}{l:Addr}{items:Array Value}{Q:Value->Shared->Prop}(hh:A.handled=none)(hu:A.units+5<cLine)(hl:s.heap.IsList l items)(val:Nat->List Int)
  (hv:∀i v,items[i]?=some v->TupV prog w s.heap (val i) v)(hinj:∀i j,i<items.size->j<items.size->val i=val j->i=j)(hn:items.size<=60)
  (h:∀(h':Heap) (tk:Nat) (ks:List (List Int)),SetQ prog w h' s.heap.objs.size ks items.size->(∀b o,s.heap.get? b=some o->h'.get? b=some o)->Q (.ref s.heap.objs.size) {s with heap:=h',toks:=tk}):
  wpAny (model prog w) A (call (.type "set") [.ref l]) Q E s:=by
 obtain⟨c,tl,hmro⟩:=F.called_set.mro
 have hmade:=F.called_set.made
 have hsub:=F.called_set.sub
 refine wpAny_call (codeAny_of_tree (wpAny_pure ⟨Code.quiet_builtin _ (by decide +kernel),codeAny_builtin F.entry_type_call ?_⟩))
 rw[Around.under_plain (weight_type_call_type "set" [.ref l] []) rfl]
 have h1:=F.called_set.notType
 have h2:=F.called_set.canCreate
 have hct:=F.typeCall_set_1 (.ref l)
 unfold Builtin.«type.__call__»
 refine wpAny_ite_false (by rw[h1];rfl) (wpAny_ite_false (by rw[h2];rfl) (wpAny_bind (wpAny_of_eq hct (wpAny_bind (wpAny_of_eq hmro (wpAny_ite_false rfl (wpAny_bind (wpAny_of_eq hmade (wpAny_bind (wpAny_pure ?_))))))))))
 refine wpAny_bind (wpAny_holding (wpAny_call (codeAny_mono (j2 (E:=E) (.ref l) (Q₁:=λv s1=>v = .ref s.heap.objs.size/\s1=_) ⟨rfl,rfl⟩) λr s₁ hr=>?_)))
 cases r with
 | error e=>exact hr
 | ok fl=>
  cases fl with
  | ret v=>
   obtain⟨rfl,rfl⟩:=(show v=_/\s₁=_ from hr)
   have hnew:(s.heap.push {cls:=Value.type "set",data:=Data.set #[] 0 (SetTable.fresh 0 0 (ledOf w))}).get? s.heap.objs.size=some {cls:=Value.type "set",data:=Data.set #[] 0 (SetTable.fresh 0 0 (ledOf w))}:=Heap.get?_push_size _ rfl
   refine wpAny_bind (wpAny_isInstance (T:="set") ⟨_,hnew,rfl⟩ hsub (wpAny_ite_false rfl (wpAny_bind (wpAny_holding ?_))))
   unfold callSpecial?
   refine wpAny_bind (wpAny_specialOf (T:="set") ⟨_,hnew,rfl⟩ F.called_set.init.lookup ?_)
   refine wpAny_holding (wpAny_bind (wpAny_of_eq (F.called_set.init.bind _) (wpAny_bind (wpAny_call (codeAny_call_builtin F.called_set.init.plain F.entry_set_init (check_set_init_1 ⟨_,hnew,rfl⟩ ?_))))))
   unfold Builtin.«set.__init__»
   refine wpAny_bind (wpAny_pure ?_)
   dsimp only[List.cons_append,List.nil_append]
   unfold typeNameOfCut
   unfold shownTypeOf
   refine wpAny_bind (wpAny_bind ?_)
   refine wpAny_bind (wpAny_typeOf (T:="set") ⟨_,hnew,rfl⟩ (wpAny_ite_false rfl (wpAny_pure (wpAny_pure (wpAny_bind (wpAny_pure (wpAny_bind (wpAny_pure ?_))))))))
   unfold setUsed
   refine wpAny_bind (wpAny_bind (wpAny_setState_of hnew rfl (by cases ledOf w <;> rfl) (wpAny_pure (wpAny_ite_false rfl ?_))))
   have hl1:=hl.push {cls:=Value.type "set",data:=Data.set #[] 0 (SetTable.fresh 0 0 (ledOf w))}
   have ht:Shared.TypeIs {s with heap:=s.heap.push {cls:=Value.type "set",data:=Data.set #[] 0 (SetTable.fresh 0 0 (ledOf w))}} (.ref l) "list":=by
    obtain⟨o,h1,h2,_⟩:=hl1
    exact⟨o,h1,h2⟩
   unfold Builtin.Frozenset.updateFrom Builtin.Frozenset.isAnySet orM
   refine wpAny_bind (wpAny_bind (wpAny_bind (wpAny_isInstance ht F.sub_list_set (wpAny_isInstance ht F.sub_list_frozenset ?_))))
   refine wpAny_ite_false rfl (wpAny_bind (wpAny_typeOf ht (wpAny_ite_false rfl (wpAny_bind (wpAny_pyIter_list hl1 ?_)))))
   refine wpAny_bind (wpAny_runValue ?_)
   have hS1:s.heap.get? s.heap.objs.size=none:=by
    cases e:s.heap.get? s.heap.objs.size with
    | none=>rfl
    | some o=>exact absurd (Heap.lt_size e) (Nat.lt_irrefl _)
   have hlS:l≠s.heap.objs.size:=λz=>by
    obtain⟨o,h1,_⟩:=hl
    rw[z,hS1]at h1;cases h1
   have hsz:(s.heap.push {cls:=Value.type "set",data:=Data.set #[] 0 (SetTable.fresh 0 0 (ledOf w))}).objs.size=s.heap.objs.size+1:=size_push' ..
   have hIl:l≠s.heap.objs.size+1:=λz=>by
    obtain⟨o,h1,_⟩:=hl
    rw[z]at h1
    exact absurd (Nat.lt_of_succ_lt (Heap.lt_size h1)) (Nat.lt_irrefl _)
   dsimp only
   rw[hsz]
   refine jn (Walks.toS (Walks.list (A:=A.in1.in1.in1) hh (s.heap.objs.size+1) l hIl items)) s.heap.objs.size (λz=>?_) val hinj hn (by show A.units+1+1+1<cLine;omega) (λi s2 k b hst hb z=>?_) items.size 0 _ [] rfl (Nat.zero_le _) ⟨?_,hl1.push _⟩ (λi v hi=>?_) (λk z=>nomatch z) ?_ λs' ks m hs=>?_
   ·rcases List.mem_cons.mp z with z|z
    ·exact absurd z (Nat.ne_of_lt (Nat.lt_succ_self _))
    ·exact hlS (List.mem_singleton.mp z).symm
   ·obtain⟨⟨oi,hi1,hi2,_⟩,_⟩:=hst
    obtain⟨ob,_,_,hb1,hb2,_⟩:=hb
    rw[List.mem_singleton.mp z,hi1]at hb1
    cases hb1
    rw[hb2]at hi2
    exact absurd hi2 (by decide)
   ·exact⟨_,(by rw[<-hsz];exact Heap.get?_push_size _ rfl),rfl,rfl⟩
   ·obtain⟨b,rfl,ob,its,n,q1,q2⟩:=hv i v hi
    exact⟨b,rfl,ob,its,n,Heap.get?_push_of_some _ (Heap.get?_push_of_some _ q1),q2⟩
   ·exact⟨_,#[],0,_,Heap.get?_push_of_some _ hnew,⟨rfl,rfl,rfl⟩,rfl,⟨.inl rfl,rfl,rfl,by show 0*5<7*3;decide⟩,rfl,λe he=>nomatch (show e∈([]:List (Int×Value))from he)⟩
   ·refine wpAny_pure (wpAny_pure (wpAny_pure (wpAny_ite_false rfl (wpAny_pure ?_))))
    obtain⟨h',g',d',t',o'⟩:=s'
    have e1:g'=s.gens:=m.gens
    have e2:d'=s.drawn:=m.drawn
    have e3:o'=s.os:=m.os
    subst e1 e2 e3
    refine h h' t' ks hs λb o hb=>m.heap b o (λz=>?_) (Heap.get?_push_of_some _ (Heap.get?_push_of_some _ hb))
    rcases List.mem_cons.mp z with z|z
    ·rw[z,hS1]at hb;cases hb
    ·rw[List.mem_singleton.mp z]at hb
     exact absurd (Nat.lt_of_succ_lt (Heap.lt_size hb)) (Nat.lt_irrefl _)
  | _=>exact hr.elim
end L2
namespace L2
open PySem PySem.Spec PyProof.Rows
theorem fE:entryFor table "set.__len__"=some Builtin.«frozenset.__len__»:=entryFor_alias (id':="frozenset.__len__") rfl rfl (by decide +kernel) rfl
theorem kz{prog:Program}{w:World}{A:Around}{E:Value->Shared->Prop}{s:Shared}{a:Addr}{ks:List (List Int)}{n:Nat}{Q:Value->Shared->Prop}(hS:SetQ prog w s.heap a ks n)(hn:n<=1000)(h:Q (.int n (s.toks+1)) {s with toks:=s.toks+1+1}):
  wpAny (model prog w) A (call (.builtin "len") [.ref a]) Q E s:=by
 obtain⟨o,es,ep,t,ho,hex,hd,T,hsz,_⟩:=hS
 have ht:s.TypeIs (.ref a) "set":=⟨o,ho,hex.1⟩
 refine Calls.call_function_entry kind_len plain_len entry_len (args_len1 _) ?_
 unfold Builtin.«len»
 refine wpAny_bind (m:=oneArg "len" _) (wpAny_pure ?_)
 refine wpAny_bind (m:=callSpecial? (.ref a) (Str.ofString "__len__")) (wpAny_callSpecial?_slot (name:=Str.ofString "__len__") ht PySem.F.slot_set_len (wpAny_call_entry PySem.F.slot_set_len ht fE ?_ (PySem.F.args_set_len_1 _)))
 unfold Builtin.«frozenset.__len__» Builtin.Frozenset.sizeOf setEntries
 refine wpAny_bind (wpAny_pure ?_)
 refine wpAny_bind (wpAny_bind (wpAny_bind (wpAny_setState_of ho hd T.fits (wpAny_pure (wpAny_pure ?_)))))
 refine wpAny_bind (wpAny_mkInt (wpAny_pure ⟨_,rfl,?_⟩))
 refine wpAny_bind (wpAny_holding (wpAny_pure ?_))
 refine wpAny_bind (wpAny_letGo ?_)
 rw[hsz]
 show wpAny _ _ (if((n:Nat):Int)<0 then _ else _) _ _ _
 rw[if_neg (by omega)]
 show wpAny _ _ (if((n:Nat):Int)>=2^63 then _ else _) _ _ _
 rw[if_neg (by omega)]
 exact wpAny_bind (wpAny_mkInt (wpAny_pure ⟨_,rfl,h⟩))
theorem cD{prog:Program}{w:World}:∀{r:List Int} {its:List Value},Vals (r.map V.int) its->ItemsAre (intKind prog w) r its
 | [],[],_=> .nil
 | i::r,v::its,h=>by
  cases h with
  | cons h1 h2=>
   obtain⟨t,rfl⟩:=h1
   exact .cons (beq_self_eq_true _) (cD h2)
theorem Inv.tupV{X:Cx}{pins:List (Addr×Obj)}{σ:St}{H:Hp}{s:Shared}(I:Inv X pins σ H s){v:V}{u:Value}{r:List Int}(h:IsR X.K H v r)(rv:RelV v u):TupV X.prog X.w s.heap r u:=by
 obtain⟨a,rfl,hq⟩:=h
 cases(show u=Value.ref a from rv)
 obtain⟨its,rs,⟨o,h1,h2,n,h3⟩,_⟩:=I.tuple hq
 exact⟨a,rfl,o,its.toArray,n,h1,h2,h3,cD rs⟩
def tLenSet(K:PySem.W.Frag)(te:TE):TE:=λσ H Q=>te σ H λx H1=>∃(l:Addr) (xs:List V) (Ks:List (List Int)),x = .ref l/\SqL K H1 l xs/\Paired (IsR K H1) xs Ks/\Ks.Nodup/\Ks.length<=60/\Q (.int (Ks.length:Nat)) H1
theorem jS{X:Cx}{k:Nat}{e:Expr}{te:TE}{p p2 pos pos2:Pos}(hr:Room k X.A)(hc:X.calm=true)(h1:Gl X "len")(m1:X.mg "len"=none)(h2:Gl X "set")(m2:X.mg "set"=none)(ha:PE X e te)
  (he:starEach [e] X.env=(false,eval e X.env)::starEach [] X.env:=by rfl):PE X (.Call (.Name "len" p) [.Call (.Name "set" p2) [e] [] pos2] [] pos) (tLenSet X.K te):=by
 intro pins s σ H Q I h
 refine wpAny_Call_Name_kw (bS I h1 m1 PySem.boot_len ?_)
 refine PyProof.Rows.callWith_builtin1 ?_ rfl rfl
 show wpAny _ _ (spliced ((false,eval (.Call (.Name "set" p2) [e] [] pos2) X.env)::[])) _ _ s
 refine Calls.spliced_cons ?_
 refine wpAny_Call_Name_kw (bS I h2 m2 Boot.set ?_)
 refine PyProof.Rows.callWith_type1 ?_ he rfl
 rw[he]
 show wpAny _ _ (spliced ((false,eval e X.env)::[])) _ _ s
 refine Calls.spliced_cons (thn (ha pins s σ H _ I h) λu s1 ⟨x,H1,I1,r1,q1⟩=>?_)
 obtain⟨l,xs,Ks,rfl,hq,hks,hnd,h60,q⟩:=q1
 cases(show u=Value.ref l from r1)
 obtain⟨its,rv,pl,hz⟩:=I1.list hq
 have hA:X.A.handled=none:=I1.ok.hd hc
 have hl1:its.length=xs.length:=rv.length.symm
 have hl2:=Paired.len hks
 refine wpAny_pure (fA hA (by have:=hr.units;omega) pl.isList (λi=>Ks.getD i []) (λi v hv=>?_) (λi j hi hj e=>?_) (by simp;omega) λh' tk ks hset hk=>wpAny_pure (kz (s:={s1 with heap:=h',toks:=tk}) hset (by simp;omega) ?_))
 ·have hv':its[i]?=some v:=by simpa using hv
  have hi:i<Ks.length:=by
   have:=(List.getElem?_eq_some_iff.mp hv').1
   omega
  obtain⟨x,hx,hR⟩:=Paired.get hks (List.getElem?_eq_getElem hi)
  obtain⟨u,hu,ru⟩:=rv.get hx
  rw[hv']at hu
  cases hu
  have e:Ks.getD i []=Ks[i]:=by rw[List.getD_eq_getElem?_getD,List.getElem?_eq_getElem hi];rfl
  rw[e]
  exact I1.tupV hR ru
 ·have hi':i<Ks.length:=by simp at hi;omega
  have hj':j<Ks.length:=by simp at hj;omega
  have e1:Ks.getD i []=Ks[i]:=by rw[List.getD_eq_getElem?_getD,List.getElem?_eq_getElem hi'];rfl
  have e2:Ks.getD j []=Ks[j]:=by rw[List.getD_eq_getElem?_getD,List.getElem?_eq_getElem hj'];rfl
  have e3:Ks[i]=Ks[j]:=by rw[<-e1,<-e2];exact e
  exact(List.getElem?_inj hi' hnd).mp (by rw[List.getElem?_eq_getElem hi',List.getElem?_eq_getElem hj',e3])
 ·have e:its.toArray.size=Ks.length:=by simp;omega
  rw[e]
  exact⟨.int (Ks.length:Nat),H1,I1.kept hk,⟨_,rfl⟩,q⟩
end L2
namespace L2
open PySem PySem.Spec PyProof.Rows
def RwFL(K:PySem.W.Frag)(H:Hp)(T:Int)(v:V)(m:List Int):Prop:=∃a gs,v = .ref a/\SqL K H a gs/\Paired (IsF K H) gs (fr T m)
theorem RwFL.mono{K:PySem.W.Frag}{H H':Hp}{T:Int}{v:V}{m:List Int}(e:Same H H')(h:RwFL K H T v m):RwFL K H' T v m:=by
 obtain⟨a,gs,rfl,h1,h2⟩:=h
 exact⟨a,gs,rfl,e.seq h1,av e h2⟩
def RwFX(K:PySem.W.Frag)(H:Hp)(T:Int)(lo:Addr)(v:V)(m:List Int):Prop:=∃a gs,v = .ref a/\a≠lo/\H a=some (.lst gs)/\Paired (IsF K H) gs (fr T m)
theorem RwFX.fl{K:PySem.W.Frag}{H:Hp}{T:Int}{lo:Addr}{v:V}{m:List Int}(h:RwFX K H T lo v m):RwFL K H T v m:=by
 obtain⟨a,gs,rfl,_,h1,h2⟩:=h
 exact⟨a,gs,rfl,SqL.of h1,h2⟩
theorem RwFX.mono{K:PySem.W.Frag}{H H':Hp}{T:Int}{lo:Addr}{v:V}{m:List Int}(e:Same H H')(h:RwFX K H T lo v m):RwFX K H' T lo v m:=by
 obtain⟨a,gs,rfl,h0,h1,h2⟩:=h
 exact⟨a,gs,rfl,h0,e _ _ h1,av e h2⟩
theorem RwFX.over{K:PySem.W.Frag}{H:Hp}{T:Int}{lo:Addr}{ys zs:List V}{v:V}{m:List Int}(h:RwFX K H T lo v m)(hp:H lo=some (.lst ys)):RwFX K (upd H lo (.lst zs)) T lo v m:=by
 obtain⟨a,gs,rfl,h0,h1,h2⟩:=h
 exact⟨a,gs,rfl,h0,by rw[az h0];exact h1,Paired.mapP h2 λ_ _ q=>q.over hp⟩
theorem IsLot.over{K:PySem.W.Frag}{H:Hp}{T:Int}{v:V}{l:Lot}{p:Addr}{ys zs:List V}(h:IsLot K H T v l)(hp:H p=some (.lst ys)):IsLot K (upd H p (.lst zs)) T v l:=by
 obtain⟨a,f,g,rfl,h1,h2,h3⟩:=h
 exact⟨a,f,g,rfl,cg h1 hp,h2.over hp,cg h3 hp⟩
theorem h9{a b T:Int}(hT:T≠0):fSub (FQ.red a T) (FQ.red b T)=FQ.red (a-b) T:=by
 have:=jB (a:=a) (b:=b) (c:=1) hT (by decide)
 rw[Int.mul_one,Int.mul_one]at this
 exact this
theorem cJ(T:Int)(m:List Int):(fr T m).length=m.length:=by unfold fr;rw[List.length_map]
structure Sq31(n:Nat)(T:Int)(M:List (List Int)):Prop where
 lo:1<=n
 hi:n<=6
 t0:0<T
 t1:T<2^80
 len:M.length=n
 cols:∀r∈M,r.length=n
def spWithin(K:PySem.W.Frag)(m:Nat):Sp:=λvs H Q _=>∃(l b:Addr) (rs:List V) (M:List (List Int)) (T:Int) (n k:Nat) (bs:List Int),vs=[.ref l,.ref b]/\SqL K H l rs/\Paired (RwFL K H T) rs M/\Sq31 n T M/\SqT K H b (bs.map V.int)/\bs.length+k=n/\k<=m/\
 (HM.within M k bs=none->∀H',Same H H'->Q .non H')/\(∀d,HM.within M k bs=some d->∀p H',Same H H'->SqT K H' p (d.map V.int)->Q (.ref p) H')
def spRowW(K:PySem.W.Frag):Sp:=λvs H Q _=>∃(r w:Addr) (gs:List V) (m:List Int) (t T x:Int),vs=[.ref r,.int t,.ref w]/\SqL K H r gs/\Paired (IsF K H) gs (fr T m)/\IsF K H (.ref w) (FQ.red x T)/\(0<T/\T<2^80)/\(0<=t/\t<m.length)/\m.length<=6/\(0<=m.getD t.toNat 0/\m.getD t.toNat 0<=T)/\(0<=x/\x<=T)/\
 ∀p gs' H',Same H H'->H p=none->H' p=some (.lst gs')->Paired (IsF K H') gs' (fr T (LM.addOne m t (-x)))->Q (.ref p) H'
structure Tb31(n:Nat)(T:Int)(Z:List (List Int)):Prop where
 lo:1<=n
 hi:n<=6
 t0:0<T
 t1:T<2^80
 reg:HM.Reg n Z T
def spLotsOf(K:PySem.W.Frag):Sp:=λvs H Q _=>∃(a:Addr) (us:List V) (Z:List (List Int)) (T:Int) (n:Nat),vs=[.ref a]/\SqL K H a us/\Paired (RwFT K H T) us Z/\Tb31 n T Z/\
 ∀k p ls H',HM.Fin Z T k->Same H H'->H p=none->H' p=some (.lst ls)->Paired (IsLot K H' T) ls (HM.lotsL Z T k)->Q (.ref p) H'
def spLotsHold(K:PySem.W.Frag):Sp:=λvs H Q _=>∃(a l:Addr) (us ls:List V) (Z:List (List Int)) (T:Int) (n k:Nat),vs=[.ref a,.ref l]/\SqL K H a us/\Paired (RwFT K H T) us Z/\Tb31 n T Z/\HM.Fin Z T k/\SqL K H l ls/\Paired (IsLot K H T) ls (HM.lotsL Z T k)/\
 ∀H',Same H H'->Q (.bl true) H'
theorem cy{T:Int}(hT:0<T):∀(l:List Int) (s:Int),leastGo (FQ.red s T) (l.map λx=>FQ.red x T)=FQ.red (HM.minGo s l) T
 | [],s=>rfl
 | a::l,s=>by
  show leastGo (if lessF (FQ.red a T) (FQ.red s T)=true then FQ.red a T else FQ.red s T) (l.map λx=>FQ.red x T)=FQ.red (HM.minGo (if a<s then a else s) l) T
  rw[dL hT hT]
  by_cases h:a<s
  ·rw[if_pos (decide_eq_true (Int.mul_lt_mul_of_pos_right h hT)),if_pos h]
   exact cy hT l a
  ·rw[if_neg (by rw[decide_eq_true_iff];exact λz=>h (Int.lt_of_mul_lt_mul_right z (Int.le_of_lt hT))),if_neg h]
   exact cy hT l s
theorem eX{T:Int}(hT:0<T){l:List Int}(h:l≠[]):leastF (l.map λx=>FQ.red x T)=FQ.red (HM.minL l) T:=by
 cases l with
 | nil=>exact absurd rfl h
 | cons a l=>exact cy hT (a::l) a
end L2
namespace L2
open PySem PySem.Spec PyProof.Rows
structure KW(κ:Type)[DecidableEq κ] where
 knd:(prog:Program)->(w:World)->HeapKind prog w κ
 at':PySem.W.Frag->Hp->κ->Addr->Prop
 ok:∀{X:Cx} {pins:List (Addr×Obj)} {σ:St} {H:Hp} {s:Shared} {k:κ} {a:Addr},Inv X pins σ H s->at' X.K H k a->(knd X.prog X.w).is s.heap k a
 map:∀{K:PySem.W.Frag} {H H':Hp} {k:κ} {a:Addr},(∀b xs,SqT K H b xs->SqT K H' b xs)->at' K H k a->at' K H' k a
 room:∀{prog:Program} {w:World} {A:Around},A.units+3<cLine->(knd prog w).room A.in1
 room':∀{prog:Program} {w:World} {A:Around},A.units+3<cLine->(knd prog w).room A
def DXe{P:Program}{w:World}{κ:Type}[DecidableEq κ](knd:HeapKind P w κ)(xs:List (κ×Addr×Value))(ep:Nat)(d:Addr)(h:Heap):Prop:=
 (d==sysModules)=false/\∃o es,h.get? d=some o/\o.ExactDict/\o.data = .dict es ep/\es.toList=xs.map (entryOfKey knd)/\(xs.map (·.1)).Nodup
def DictE{κ:Type}[DecidableEq κ](W:KW κ)(P:Program)(w:World)(K:PySem.W.Frag)(H:Hp)(d:Addr)(ep:Nat)(kvs:List (κ×Int)):Prop:=
 ∃xs,H d=some (.ext (DXe (W.knd P w) xs ep d))/\Paired (λ(p:κ×Int) (q:κ×Addr×Value)=>p.1=q.1/\(∃t,q.2.2=Value.int p.2 t)/\W.at' K H p.1 q.2.1) kvs xs
def DictI{κ:Type}[DecidableEq κ](W:KW κ)(P:Program)(w:World)(K:PySem.W.Frag)(H:Hp)(d:Addr)(kvs:List (κ×Int)):Prop:=∃ep,DictE W P w K H d ep kvs
section
variable{κ:Type}[DecidableEq κ]{W:KW κ}{P:Program}{w:World}{K:PySem.W.Frag}{H H':Hp}{d:Addr}{ep:Nat}{kvs:List (κ×Int)}
theorem DictE.mono(e:Same H H')(h:DictE W P w K H d ep kvs):DictE W P w K H' d ep kvs:=by
 obtain⟨xs,h1,h2⟩:=h
 exact⟨xs,e _ _ h1,Paired.mapP h2 λ_ _ ⟨a,b,c⟩=>⟨a,b,W.map (λ_ _ q=>e.tup q) c⟩⟩
theorem DictI.mono(e:Same H H')(h:DictI W P w K H d kvs):DictI W P w K H' d kvs:=by
 obtain⟨ep,h⟩:=h
 exact⟨ep,h.mono e⟩
theorem gG{p a:Addr}{φ:Heap->Prop}{o:HO}{xs:List V}(h:SqT K H a xs)(hp:H p=some (.ext φ)):SqT K (upd H p o) a xs:=by
 rcases h with(h|⟨u,h⟩)|h
 ·exact .inl (.inl (by rw[az (λz=>by rw[z,hp]at h;cases h)];exact h))
 ·exact .inl (.inr ⟨u,by rw[az (λz=>by rw[z,hp]at h;cases h)];exact h⟩)
 ·exact .inr h
theorem DXe.frame{knd:HeapKind P w κ}{xs:List (κ×Addr×Value)}{h1 h2:Heap}(h:DXe knd xs ep d h1)(k:∀o,h1.get? d=some o->h2.get? d=some o):DXe knd xs ep d h2:=by
 obtain⟨a,o,es,b,c⟩:=h
 exact⟨a,o,es,k o b,c⟩
theorem j9{knd:HeapKind P w κ}{xs:List (κ×Addr×Value)}{h:Heap}(hx:DXe knd xs ep d h):ObjOk P w H h d (.ext (DXe knd xs ep d)):=
 ⟨hx,let⟨_,o,_,b,_⟩:=hx;⟨o,b⟩,λ_ _ a b=>a.frame b⟩
end
section
variable{κ:Type}[DecidableEq κ]{W:KW κ}{X:Cx}{pins:List (Addr×Obj)}{σ:St}{H:Hp}{s:Shared}{d:Addr}{ep:Nat}{kvs:List (κ×Int)}{A:Around}{E:Value->Shared->Prop}
theorem Inv.dx(I:Inv X pins σ H s)(h:DictE W X.prog X.w X.K H d ep kvs):∃xs,DXe (W.knd X.prog X.w) xs ep d s.heap/\s.heap.DictOfH (W.knd X.prog X.w) d xs/\Paired (λ(p:κ×Int) (q:κ×Addr×Value)=>p.1=q.1/\(∃t,q.2.2=Value.int p.2 t)/\W.at' X.K H p.1 q.2.1) kvs xs:=by
 obtain⟨xs,h1,h2⟩:=h
 obtain⟨hx,_,_⟩:=I.hok d _ h1
 obtain⟨h3,o,es,a,b,c,e,f⟩:=id hx
 refine⟨xs,hx,⟨o,es,ep,a,b,c,e,λq hq=>?_,f⟩,h2⟩
 obtain⟨i,hi,eq⟩:=List.mem_iff_getElem.mp hq
 obtain⟨p,hp,e1,_,e3⟩:=Paired.get h2 (List.getElem?_eq_getElem hi)
 rw[eq]at e1 e3
 rw[<-e1]
 exact W.ok I e3
theorem cv{xs:List (κ×Addr×Value)}{K:PySem.W.Frag}{H:Hp}(k:κ):∀{kvs:List (κ×Int)},Paired (λ(p:κ×Int) (q:κ×Addr×Value)=>p.1=q.1/\(∃t,q.2.2=Value.int p.2 t)/\W.at' K H p.1 q.2.1) kvs xs->(kvs.lookup k=none/\atKey xs k=none)\/∃n a t,kvs.lookup k=some n/\atKey xs k=some (a,Value.int n t):=by
 induction xs with
 | nil=>
  intro kvs h
  cases h
  exact .inl ⟨rfl,rfl⟩
 | cons q xs ih=>
  intro kvs h
  cases h with
  | @cons p _ ps _ hp hr=>
   obtain⟨e1,⟨t,e2⟩,_⟩:=hp
   obtain⟨pk,pn⟩:=p
   obtain⟨qk,qa,qv⟩:=q
   dsimp only at e1 e2
   subst e1 e2
   by_cases e:pk=k
   ·subst e
    refine .inr ⟨pn,qa,t,?_,?_⟩
    ·simp[List.lookup]
    ·simp[atKey]
   ·have h1:((pk,pn)::ps).lookup k=ps.lookup k:=by
     rw[List.lookup_cons,show(k==pk)=false from beq_false_of_ne (Ne.symm e)]
    have h2:atKey ((pk,qa,Value.int pn t)::xs) k=atKey xs k:=by
     unfold atKey
     rw[List.find?_cons_of_neg (by simpa using e)]
    rw[h1,h2]
    exact ih hr
def putD(kvs:List (κ×Int))(k:κ)(n:Int):List (κ×Int):=if(kvs.lookup k).isSome=true then kvs.map (λp=>if p.1=k then(p.1,n)else p)else kvs++[(k,n)]
theorem iB{K:PySem.W.Frag}{H H':Hp}{xs:List (κ×Addr×Value)}{kvs:List (κ×Int)}{k:κ}{a:Addr}{n:Int}{t:Tok}(rel:Paired (λ(p:κ×Int) (q:κ×Addr×Value)=>p.1=q.1/\(∃t,q.2.2=Value.int p.2 t)/\W.at' K H p.1 q.2.1) kvs xs)
  (up:∀(k':κ) (b:Addr),W.at' K H k' b->W.at' K H' k' b)(hk:W.at' K H k a):Paired (λ(p:κ×Int) (q:κ×Addr×Value)=>p.1=q.1/\(∃t,q.2.2=Value.int p.2 t)/\W.at' K H' p.1 q.2.1) (putD kvs k n) (storedH xs k a (.int n t)):=by
 unfold putD
 rcases cv k rel with⟨e1,e2⟩|⟨m,b,t',e1,e2⟩
 ·rw[e1,storedH_new e2]
  exact Paired.app (Paired.mapP rel λ_ _ ⟨x1,x2,x3⟩=>⟨x1,x2,up _ _ x3⟩) (.cons ⟨rfl,⟨t,rfl⟩,up _ _ hk⟩ .nil)
 ·rw[e1,storedH_old e2]
  show Paired _ (kvs.map λp=>if p.1=k then(p.1,n)else p) (xs.map (putAt k (.int n t)))
  clear e1 e2
  induction rel with
  | nil=>exact .nil
  | @cons p q ps qs h _ ih=>
   obtain⟨x1,x2,x3⟩:=h
   refine .cons ?_ ih
   unfold putAt
   dsimp only
   by_cases e:p.1=k
   ·rw[if_pos e,if_pos (x1▸e)]
    exact⟨x1,⟨t,rfl⟩,up _ _ x3⟩
   ·rw[if_neg e,if_neg (λz=>e (x1.trans z))]
    exact⟨x1,x2,up _ _ x3⟩
def rSetX(W:KW κ)(P:Program)(w:World)(K:PySem.W.Frag):V->V->V->Hp->(Hp->Prop)->Prop:=λo i v H Q=>∃(d a:Addr) (k:κ) (n:Int) (kvs:List (κ×Int)),o = .ref d/\i = .ref a/\v = .int n/\DictI W P w K H d kvs/\W.at' K H k a/\kvs.length<=1000000/\
 ∀H',(∃φ φ',H d=some (.ext φ)/\H'=upd H d (.ext φ'))->DictI W P w K H' d (putD kvs k n)->Q H'
theorem mG{P:Program}{w:World}{K:PySem.W.Frag}{j:Nat}(hP:X.prog=P)(hw:X.w=w)(hK:X.K=K)(hr:Room j X.A):PSet X (rSetX W P w K):=by
 subst hP hw hK
 intro pins s σ H o i v ov iv u Q I ro ri rv h
 obtain⟨d,a,k,n,kvs,rfl,rfl,rfl,⟨ep,dd⟩,hk,hl,q⟩:=h
 cases ro
 cases ri
 obtain⟨t,rfl⟩:=rv
 obtain⟨xs,⟨hsys,o1,es1,g1,g2,g3,_⟩,hd,rel⟩:=I.dx dd
 have hxl:=Paired.len rel
 refine wpAny_setItem_heap (W.room (by have:=hr.units;omega)) (W.ok I hk) hd (λh' hd' sb=>?_) (Nat.le_trans (show xs.length<=1000000 by omega) (by decide))
 obtain⟨o2,es2,ep2,a1,a2,a3,a4,a5,a6⟩:=hd'
 obtain⟨xs0,h1,h2⟩:=dd
 have nx:DXe (W.knd X.prog X.w) (storedH xs k a (.int n t)) ep2 d h':=⟨hsys,o2,es2,a1,a2,a3,a4,a6⟩
 have I2:=I.write (t':=s.toks+(W.knd X.prog X.w).draws k) (x:=d) (e:=d) (o:= .ext (DXe (W.knd X.prog X.w) (storedH xs k a (.int n t)) ep2 d)) (by rw[h1];trivial) (.inl rfl) (λb ob hb qq=>(sb.2 b hb).trans qq) ⟨o2,a1⟩ (j9 nx)
 refine⟨_,I2,q _ ⟨_,_,h1,rfl⟩ ⟨ep2,storedH xs k a (.int n t),af,?_⟩⟩
 have up:∀(k':κ) (b:Addr),W.at' X.K H k' b->W.at' X.K (upd H d (.ext (DXe (W.knd X.prog X.w) (storedH xs k a (.int n t)) ep2 d))) k' b:=λk' b hb=>W.map (λ_ _ qq=>gG qq h1) hb
 generalize upd H d (.ext (DXe (W.knd X.prog X.w) (storedH xs k a (.int n t)) ep2 d))=Hn at up
 exact iB rel up hk
end
end L2
namespace L2
open PySem PySem.Spec PyProof.Rows
section
variable{κ:Type}[DecidableEq κ]{W:KW κ}{X:Cx}
theorem Inv.bigS{pins:List (Addr×Obj)}{σ:St}{H:Hp}{s:Shared}(I:Inv X pins σ H s):sysModules<s.heap.objs.size:=Nat.lt_trans (by decide) ((I.mod.glob.keeps I.bk).lt)
theorem ln{P:Program}{w:World}(knd:HeapKind P w κ)(h:Heap)(hb:sysModules<h.objs.size):DXe knd [] 0 h.objs.size (h.push {cls:= .type "dict",data:= .dict #[]}):=
 ⟨beq_eq_false_iff_ne.mpr (Ne.symm (Nat.ne_of_lt hb)),_,#[],Heap.get?_push_size _ rfl,⟨rfl,rfl,rfl⟩,rfl,rfl,List.nodup_nil⟩
def tXNew(W:KW κ)(P:Program)(w:World)(K:PySem.W.Frag):TE:=λ_ H Q=>∀d H',H d=none->(∃φ,H'=upd H d (.ext φ))->DictI W P w K H' d []->Q (.ref d) H'
theorem lH{P:Program}{w:World}{K:PySem.W.Frag}{pos:Pos}(hP:X.prog=P)(hw:X.w=w)(hK:X.K=K):PE X (.Dict [] [] pos) (tXNew W P w K):=by
 subst hP hw hK
 exact λpins s σ H Q I h=>wpAny_Dict_empty ⟨.ref s.heap.objs.size,_,I.laid (a:=s.heap.objs.size) (o:= .ext (DXe (W.knd X.prog X.w) [] 0 s.heap.objs.size)) (t':=s.toks) (λ_ _ q=>Heap.get?_push_of_some _ q) (Nat.le_refl _) (j9 (ln _ s.heap I.bigS)),rfl,
  h _ _ (I.hok.fresh (Nat.le_refl _)) ⟨_,rfl⟩ ⟨0,[],af,.nil⟩⟩
end
end L2
namespace L2
open PySem PySem.Spec PyProof.Rows
def keyR:KW (List Int) where
 knd:=λprog w=>tupleKind (intKind prog w)
 at':=λK H k a=>SqT K H a (k.map V.int)
 ok:=λ {X pins σ H s k a} I h=>by
  obtain⟨b,e,hb⟩:=I.tupV (v:= .ref a) (u:= .ref a) ⟨a,rfl,h⟩ rfl
  cases e
  exact hb
 map:=λf h=>f _ _ h
 room:=λh=>by show _+1<cLine;omega
 room':=λh=>by show _<cLine;omega
end L2
namespace TM
open LM LN
def smL{α:Type}(l:List α)(f:α->Int):Int:=(l.map f).sum
theorem b3{α:Type}(a:α)(l:List α)(f:α->Int):smL (a::l) f=f a+smL l f:=by unfold smL;simp
theorem lD{α:Type}(l m:List α)(f:α->Int):smL (l++m) f=smL l f+smL m f:=by unfold smL;simp
theorem fY{α:Type}{l:List α}{f g:α->Int}(h:∀x∈l,f x=g x):smL l f=smL l g:=by unfold smL;rw[List.map_congr_left h]
theorem ku{α β:Type}(g:α->List β)(f:β->Int):∀l:List α,smL (l.flatMap g) f=smL l λx=>smL (g x) f
 | []=>rfl
 | a::l=>by rw[List.flatMap_cons,lD,b3,ku g f l]
theorem gX{α:Type}(f g:α->Int):∀l:List α,smL l (λx=>f x+g x)=smL l f+smL l g
 | []=>rfl
 | a::l=>by rw[b3,b3,b3,gX f g l];omega
theorem gR{α:Type}(c:Int)(f:α->Int):∀l:List α,smL l (λx=>c*f x)=c*smL l f
 | []=>by show(0:Int)=c*0;rw[Int.mul_zero]
 | a::l=>by rw[b3,b3,gR c f l,Int.mul_add]
end TM
namespace L2
open TM
theorem dY{n c:Nat}(hc:c<n)(x:Int):HM.sm n (λi=>if i=c then x else 0)=x:=by
 have h:=HM.sm_cnt (λi=>i==c) x n
 rw[HM.cnt_one,if_pos hc]at h
 rw[HM.sm_congr (g:=λi=>if(i==c)=true then x else 0) λi _=>by by_cases e:i=c <;> simp[e],h]
 simp
theorem jK(b:Int):∀{l:List Int},l.Nodup->smL l (λt=>if b=t then(1:Int)else 0)=if b∈l then 1 else 0
 | [],_=>by simp[smL]
 | a::l,h=>by
  obtain⟨h1,h2⟩:=List.nodup_cons.mp h
  rw[b3,jK b h2]
  by_cases c:b=a
  ·subst c
   simp[h1]
  ·simp[c]
theorem jb{f:Nat->Int}(nn:∀i,0<=f i){n:Nat}{T:Int}(h:HM.sm n f=T){j:Nat}(hj:j<=n):0<=HM.sm j f/\HM.sm j f<=T:=by
 have h0:∀j,0<=HM.sm j f:=λj=>by
  have:=HM.sm_le (n:=j) (f:=λ_=>0) (g:=f) λi _=>nn i
  rw[HM.sm_zero]at this
  exact this
 refine⟨h0 j,?_⟩
 rw[<-h]
 clear h
 induction n with
 | zero=>rw[Nat.le_zero.mp hj];exact Int.le_refl _
 | succ n ih=>
  by_cases c:j=n+1
  ·rw[c];exact Int.le_refl _
  ·have:=ih (by omega)
   have:=nn n
   show HM.sm j f<=HM.sm n f+f n
   omega
end L2
namespace L2
open PySem PySem.Spec PyProof.Rows
theorem lF{K:PySem.W.Frag}{t1 t2:Bool}{a b:Addr}{xs ys:List V}{g:TG}{tb:TS}{D:Ends}{σ:St}{H:Hp}(Pv:Nat->St->Hp->Prop)(he:xs.length=ys.length)(h0:Pv 0 σ H)
  (hl:∀i σ H,i<=xs.length->Pv i σ H->SqB K H t1 a xs/\SqB K H t2 b ys)
  (hs:∀i x y σ H t,xs[i]?=some x->ys[i]?=some y->H t=none->Pv i σ H->g (.ref t) σ (upd H t (.tup [x,y])) λσ2 H2=>tb {D with nx:=Pv (i+1),ct:=Pv (i+1),bk:=D.nx} σ2 H2)(hd:∀σ H,Pv xs.length σ H->D.nx σ H):
  ∃W:Nat->Nat->St->Hp->Prop,(∃m,W 0 m σ H)/\∀i m σ H,W i m σ H->
   ((Itz K t1 t2 a b).stop i H/\D.nx σ H)\/((Itz K t1 t2 a b).go i H/\∃N:St->Hp->Prop,(∀σ' H',N σ' H'->∃m',m'<m/\W (i+1) m' σ' H')/\∀x H',(Itz K t1 t2 a b).yld i H x H'->g x σ H' λσ2 H2=>tb {D with nx:=N,ct:=N,bk:=D.nx} σ2 H2):=by
 refine⟨λi m σ H=>m=xs.length-i/\i<=xs.length/\Pv i σ H,⟨xs.length,by simp,Nat.zero_le _,h0⟩,?_⟩
 rintro i m σ H ⟨rfl,hi,p⟩
 obtain⟨q1,q2⟩:=hl i σ H hi p
 by_cases hlt:i<xs.length
 ·refine .inr ⟨⟨xs,ys,xs[i],ys[i],q1,q2,by simp[hlt],by simp[show i<ys.length by omega]⟩,Pv (i+1),λσ' H' p'=>⟨xs.length-(i+1),by omega,rfl,hlt,p'⟩,λx H' y=>?_⟩
  obtain⟨x',y',t,h1,h2,rfl,h3,rfl⟩:=y
  exact hs i x' y' σ H t (h1 xs q1) (h2 ys q2) h3 p
 ·have e:i=xs.length:=by omega
  subst e
  exact .inl ⟨⟨xs,q1,rfl⟩,hd σ H p⟩
section
variable{X:Cx}
theorem jt:∀{vs:List Value} {ns:List Int} (hi:IntsAre vs ns) {i:Nat} (h:i<vs.length),∃t,vs[i]=Value.int (ns[i]'(by rw[<-hi.length];exact h)) t
 | _,_,.cons n t r,0,_=>⟨t,rfl⟩
 | _,_,.cons n t r,i+1,h=>jt r (i:=i) (by simpa using h)
theorem eQ{prog:Program}{w:World}{A:Around}{E:Value->Shared->Prop}{s:Shared}{a:Addr}{vs:List Value}{ns:List Int}{k:Int}{t:Tok}{Q:Value->Shared->Prop}(ht:IsTup s.heap a vs.toArray)(hi:IntsAre vs ns)
  (hk:k∈ns)(h:Q (.int (ns.idxOf k:Nat) s.toks) {s with toks:=s.toks+1}):wpAny (model prog w) A (call (.builtin "tuple.index") [.ref a,.int k t]) Q E s:=by
 have hlen:=hi.length
 have hj:ns.idxOf k<ns.length:=List.idxOf_lt_length_iff.mpr hk
 refine call_meets PySem.F.slot_tuple_index ht.typeIs PySem.F.entry_tuple_index (PySem.F.args_tuple_index_2 _ _) (S:=λA R s=>IsTup s.heap a vs.toArray/\R (.ok (.ret (.int (ns.idxOf k:Nat) s.toks))) {s with toks:=s.toks+1}) ?_ ⟨ht,h⟩
 intro prog w A R s ⟨ht,h⟩
 show wpAny _ _ _ _ _ _
 unfold Builtin.«tuple.index»
 simp only[Std.Legacy.Range.forIn_eq_forIn_range']
 wp_walk using tupleItemsOf_ ht
 have hsz:([:min vs.toArray.size vs.toArray.size]:Std.Legacy.Range).size=vs.length:=by simp[Std.Legacy.Range.size]
 rw[hsz]
 refine wpAny_forIn_list (M:=model prog w) (A:=A.in1) _ (λl b s'=>b=((none:Option PySem.Fin),())/\s'=s/\∃i,l=List.range' i (vs.length-i)/\i<=ns.idxOf k) _ (λx rest b s' hI=>?_) (λb s' hI=>?_) _ _ ⟨rfl,rfl,0,rfl,Nat.zero_le _⟩
 ·obtain⟨rfl,rfl,i,hl,hile⟩:=hI
  have hin:i<vs.length:=by omega
  rw[show vs.length-i=(vs.length-(i+1))+1 by omega,List.range'_succ]at hl
  injection hl with hx hrest
  subst hx
  obtain⟨tv,hv⟩:∃tv,vs[x]=Value.int (ns[x]'(by omega)) tv:=jt hi hin
  have hget:vs.toArray[x]?=some (Value.int (ns[x]'(by omega)) tv):=by simp[hin,hv]
  rw[hget]
  refine wpAny_bind (wpAny_eqBool_int ?_)
  by_cases c:ns[x]'(by omega)=k
  ·have hx:ns.idxOf k=x:=by
    have h1:ns.idxOf k<=x:=by
     refine Nat.le_of_not_lt λz=>?_
     exact absurd c (by simpa using List.not_of_lt_findIdx z)
    omega
   rw[show(ns[x]'(by omega)==k)=true by simp[c],if_pos rfl]
   wp_walk
   rw[hx]at h
   exact h
  ·rw[show(ns[x]'(by omega)==k)=false by simp[c],if_neg (by decide)]
   refine wpAny_pure ⟨rfl,rfl,x+1,hrest,?_⟩
   refine Nat.lt_of_le_of_ne hile λz=>c ?_
   have:=List.getElem_idxOf hj
   simp only[<-z]at this
   exact this
 ·obtain⟨_,_,i,hl,hile⟩:=hI
  have:=congrArg List.length hl
  simp at this
  omega
theorem SqT.frz{K:PySem.W.Frag}{H:Hp}{a:Addr}{o:Obj}{xs:List V}(h:H a=some (.frz o (.tup xs))):SqT K H a xs:= .inl (.inr ⟨o,h⟩)
theorem eR:CallR X (.type "tuple") (λxs H Q=>∃p ys,xs=[.ref p]/\SqL X.K H p ys/\∀l o,H l=none->o.dict=none->Q (.ref l) (upd H l (.frz o (.tup ys)))):=by
 intro pins s σ H xs us Q I r h
 obtain⟨p,ys,rfl,hq,q⟩:=h
 obtain⟨u,rfl,rx⟩:=vals1 r
 cases rx
 obtain⟨its,r',pl,hz⟩:=I.list hq
 have hlen:=r'.length
 refine call_tuple_list pl.isList (λh' kp=>?_) (by simp only[List.size_toArray] <;> omega)
 have I1:Inv X pins σ H {s with heap:=h'}:=I.kept (t':=s.toks) kp
 have I2:Inv X pins σ (upd H h'.objs.size (.frz {cls:= .type "tuple",data:= .seq its.toArray} (.tup ys))) {s with heap:=h'.push {cls:= .type "tuple",data:= .seq its.toArray}}:=
  I1.laid (t':=s.toks) (λb o e=>Heap.get?_push_of_some _ e) (Nat.le_refl _) (show ObjOk X.prog X.w _ _ _ (.frz _ (.tup ys))from⟨Heap.get?_push_size _ rfl,hz,its,r',IsTup.new _ _⟩)
 exact⟨.ref h'.objs.size,_,I2,rfl,q _ _ (I1.hok.fresh (Nat.le_refl _)) rfl⟩
def tIdxT(K:PySem.W.Frag)(to te:TE):TE:=λσ H Q=>to σ H λx H1=>∃(l:Addr) (o:Obj) (xs:List V),x = .ref l/\H1 l=some (.frz o (.tup xs))/\o.dict=none/\te σ H1 λy H2=>∃(ns:List Int) (k:Int),y = .int k/\SqT K H2 l (ns.map V.int)/\k∈ns/\Q (.int (ns.idxOf k:Nat)) H2
theorem gL{K:PySem.W.Frag}{o e:Expr}{apos cpos:Pos}{to te:TE}(hK:X.K=K)(ho:PE X o to)(he:PE X e te)(hbase:attributeBase o "index" X.env (eval o X.env)=eval o X.env:=by rfl)
  (hfew:((backTo cpos (starEach [e] X.env)).all (λx=>!x.1)&&(backToKw cpos (keywordEach [] X.env)).all (λx=>x.1.isSome)&&decide (([e]:List Expr).length+([]:List Keyword).length+(if([]:List Keyword).isEmpty then 0 else 1)<30))=true:=by rfl)
  (hline:(apos.endLine==cpos.line)=true:=by rfl)(htrees:backTo cpos (starEach [e] X.env)=[(false,eval e X.env)]:=by rfl):PE X (.Call (.Attribute o "index" apos) [e] [] cpos) (tIdxT K to te):=by
 subst hK
 intro pins s σ H Q I h
 refine wpAny_Call_method hbase hfew hline PySem.F.plainAttrs_tuple PySem.F.slot_tuple_index PySem.F.type_tuple_index (thn (ho pins s σ H _ I h) λu s1 ⟨x,H1,I1,rx,l,ob,xs,ex,hx,hd,q1⟩=>?_)
 subst ex
 obtain rfl:u=Value.ref l:=rx
 obtain⟨g1,hz,its,r,pl⟩:=(show ObjOk X.prog X.w H1 s1.heap l (.frz ob (.tup xs))from I1.hok l _ hx)
 refine⟨pl.typeIs,λb z=>?_,?_⟩
 ·cases z
  exact⟨ob,g1,hd⟩
 rw[htrees]
 refine Calls.callWith_builtin rfl (Calls.evalArgs_plain (Calls.spliced_cons (thn (he pins s1 σ H1 _ I1 q1) λiv s2 ⟨y,H2,I2,ry,ns,k,ey,hq,hk,q2⟩=>Calls.spliced_nil ?_)))
 subst ey
 obtain⟨tk,rfl⟩:=ry
 obtain⟨its2,r2,pl2,_⟩:=I2.tuple hq
 exact eQ pl2 (bO r2) hk ⟨.int _,H2,I2.tok _,⟨_,rfl⟩,q2⟩
end
def IsRF(K:PySem.W.Frag)(H:Hp)(v:V)(row:List Int):Prop:=∃a o,v = .ref a/\H a=some (.frz o (.tup (row.map V.int)))/\o.dict=none
theorem IsRF.isR{K:PySem.W.Frag}{H:Hp}{v:V}{row:List Int}(h:IsRF K H v row):IsR K H v row:=by
 obtain⟨a,o,rfl,q,_⟩:=h
 exact⟨a,rfl,SqT.frz q⟩
theorem IsRF.mono{K:PySem.W.Frag}{H H':Hp}{v:V}{row:List Int}(e:Same H H')(h:IsRF K H v row):IsRF K H' v row:=by
 obtain⟨a,o,rfl,q,d⟩:=h
 exact⟨a,o,rfl,e _ _ q,d⟩
theorem IsRF.over{K:PySem.W.Frag}{H:Hp}{v:V}{p:Addr}{ys zs:List V}{row:List Int}(h:IsRF K H v row)(hp:H p=some (.lst ys)):IsRF K (upd H p (.lst zs)) v row:=by
 obtain⟨a,o,rfl,q,d⟩:=h
 exact⟨a,o,rfl,by rw[az (λz=>by rw[z,hp]at q;cases q)];exact q,d⟩
def spOrderF:Sp:=λvs H Q _=>∃(num:Int) (n:Nat),vs=[.int num,.int n]/\n<=63/\∀p o H',Same H H'->H p=none->H' p=some (.frz o (.tup ((LN.order num n).map V.int)))->o.dict=none->Q (.ref p) H'
def spWishesF(K:PySem.W.Frag):Sp:=λvs H Q _=>∃(a:Addr) (ns:List Int) (at':Int) (n:Nat),vs=[.ref a,.int at',.int n]/\SqL K H a (ns.map V.int)/\0<=at'/\n<=6/\
 ∀p ws H',Same H H'->H p=none->H' p=some (.lst ws)->Paired (IsRF K H') ws (LN.wishes ns at' n)->Q (.ref p) H'
def noLess(ws row1:List Int)(T1:Int)(row2:List Int)(T2:Int):Bool:=(List.range ws.length).all λi=>!decide (accs row1 ws (i+1)*T2<accs row2 ws (i+1)*T1)
def spNoLess(K:PySem.W.Frag):Sp:=λvs H Q _=>∃(w a b:Addr) (ws:List Int) (ss ts:List V) (row1 row2:List Int) (T1 T2:Int),vs=[.ref w,.ref a,.ref b]/\SqT K H w (ws.map V.int)/\SqT K H a ss/\SqT K H b ts/\
 Paired (IsF K H) ss (row1.map λx=>FQ.red x T1)/\Paired (IsF K H) ts (row2.map λx=>FQ.red x T2)/\(0<T1/\T1<2^80)/\(0<T2/\T2<2^80)/\(∀x∈row1,0<=x/\x<=T1)/\(∀x∈row2,0<=x/\x<=T2)/\
 (∀w∈ws,0<=w/\w<row1.length)/\(∀w∈ws,0<=w/\w<row2.length)/\ws.length<=63/\∀H',Same H H'->Q (.bl (noLess ws row1 T1 row2 T2)) H'
def spIsTable(K:PySem.W.Frag):Sp:=λvs H Q _=>∃(a:Addr) (us:List V) (Z:List (List Int)) (T:Int) (n:Nat),vs=[.ref a,.int n]/\SqL K H a us/\Paired (RwFT K H T) us Z/\Tb31 n T Z/\∀H',Same H H'->Q (.bl true) H'
theorem dX{ws row1 row2:List Int}{T:Int}(hT:0<T)(h:∀i,i<ws.length->accs row2 ws (i+1)<=accs row1 ws (i+1)):noLess ws row1 T row2 T=true:=by
 unfold noLess
 rw[List.all_eq_true]
 intro i hi
 have:=h i (List.mem_range.mp hi)
 have h2:¬accs row1 ws (i+1)*T<accs row2 ws (i+1)*T:=Int.not_lt.mpr (Int.mul_le_mul_of_nonneg_right this (Int.le_of_lt hT))
 simp[h2]
theorem cM{n:Nat}{Z:List (List Int)}{T:Int}(h:HM.Reg n Z T){r:List Int}(hr:r∈Z):∀x∈r,0<=x/\x<=T:=by
 intro x hx
 obtain⟨p,hp,rfl⟩:=List.mem_iff_getElem.mp hr
 obtain⟨t,ht,rfl⟩:=List.mem_iff_getElem.mp hx
 have e:HM.ent Z p t=Z[p][t]:=by unfold HM.ent;rw[HM.getD_lt hp,HM.getD_lt ht]
 have hpn:p<n:=by rw[<-h.len];exact hp
 have htn:t<n:=by rw[<-h.cols _ hr];exact ht
 refine⟨by rw[<-e];exact h.nn p t,?_⟩
 rw[<-e,<-h.row p hpn]
 have:HM.sm n (λi=>if i=t then HM.ent Z p t else 0)<=HM.sm n (HM.ent Z p):=HM.sm_le λi _=>by
  by_cases c:i=t
  ·rw[if_pos c,c];exact Int.le_refl _
  ·rw[if_neg c];exact h.nn p i
 rw[dY htn]at this
 exact this
theorem jR{T:Int}{row ws:List Int}{i:Nat}(hi:i<ws.length):(pfx T row ws)[i]?=some (FQ.red (accs row ws (i+1)) T):=by
 unfold pfx
 rw[List.getElem?_map,List.getElem?_range hi]
 rfl
theorem Paired.setP{α β:Type}{F:α->β->Prop}:∀{xs:List α} {ys:List β} {p:Nat} {x:α} {y:β},Paired F xs ys->F x y->Paired F (xs.set p x) (ys.set p y)
 | _,_,_,_,_,.nil,_=> .nil
 | _,_,0,_,_,.cons _ t,h=> .cons h t
 | _,_,p+1,_,_,.cons a t,h=> .cons a (Paired.setP t h)
end L2
namespace RG
def nx(w:List Nat)(k:Nat):Nat:=w.getD (if k+1<w.length then k+1 else 0) 0
structure Closed(n:Nat)(E:Nat->Nat->Prop)(w:List Nat):Prop where
 ne:w≠[]
 bd:∀v∈w,v<n
 ed:∀k,k<w.length->E (nx w k) (w.getD k 0)
structure Path(n:Nat)(E:Nat->Nat->Prop)(s:Nat)(w:List Nat):Prop where
 ne:w≠[]
 hd:w.getD 0 0=s
 bd:∀v∈w,v<n
 ed:∀k,k+1<w.length->E (w.getD (k+1) 0) (w.getD k 0)
def lastD(w:List Nat):Nat:=w.getD (w.length-1) 0
theorem getD_app_l{l m:List Nat}{i:Nat}(h:i<l.length):(l++m).getD i 0=l.getD i 0:=by
 rw[List.getD_eq_getElem?_getD,List.getD_eq_getElem?_getD,List.getElem?_append_left h]
theorem getD_app_r{l m:List Nat}{i:Nat}(h:l.length<=i):(l++m).getD i 0=m.getD (i-l.length) 0:=by
 rw[List.getD_eq_getElem?_getD,List.getD_eq_getElem?_getD,List.getElem?_append_right h]
theorem getD_mem{l:List Nat}{i:Nat}(h:i<l.length):l.getD i 0∈l:=by
 rw[List.getD_eq_getElem?_getD,List.getElem?_eq_getElem h]
 exact List.getElem_mem h
theorem len_pos{w:List Nat}(h:w≠[]):0<w.length:=List.length_pos_iff.mpr h
theorem lastD_snoc(w:List Nat)(g:Nat):lastD (w++[g])=g:=by
 unfold lastD
 rw[List.length_append,show w.length+[g].length-1=w.length from rfl,getD_app_r (Nat.le_refl _),Nat.sub_self]
 rfl
theorem Path.snoc{n:Nat}{E:Nat->Nat->Prop}{s:Nat}{w:List Nat}{g:Nat}(h:Path n E s w)(hg:g<n)(he:E g (lastD w)):Path n E s (w++[g]):=by
 have hp:=len_pos h.ne
 refine⟨by simp,by rw[getD_app_l hp];exact h.hd,λv hv=>?_,λk hk=>?_⟩
 ·rcases List.mem_append.mp hv with z|z
  ·exact h.bd v z
  ·rw[List.mem_singleton.mp z];exact hg
 ·rw[List.length_append]at hk
  have hk':k+1<w.length+1:=hk
  by_cases c:k+1<w.length
  ·rw[getD_app_l c,getD_app_l (by omega)];exact h.ed k c
  ·have e:k+1=w.length:=by omega
   rw[e,getD_app_r (Nat.le_refl _),Nat.sub_self,getD_app_l (by omega)]
   show E g (w.getD k 0)
   have:k=w.length-1:=by omega
   rw[this]
   exact he
theorem Path.closed{n:Nat}{E:Nat->Nat->Prop}{s:Nat}{w:List Nat}(h:Path n E s w)(he:E s (lastD w)):Closed n E w:=by
 refine⟨h.ne,h.bd,λk hk=>?_⟩
 unfold nx
 by_cases c:k+1<w.length
 ·rw[if_pos c];exact h.ed k c
 ·rw[if_neg c,h.hd,show k=w.length-1 by omega]
  exact he
structure BF(n:Nat)(E:Nat->Nat->Prop)(s:Nat)(Dn Q:List (List Nat)):Prop where
 pa:∀w∈Dn++Q,Path n E s w
 so:(Dn++Q).Pairwise λa b=>a.length<=b.length
 wi:∀a∈Q,∀b∈Q,b.length<=a.length+1
 un:((Dn++Q).map lastD).Nodup
 st:∃r,Dn++Q=[s]::r
 cl:∀w∈Dn,∀g,g<n->E g (lastD w)->g≠s/\∃v∈Dn++Q,lastD v=g/\v.length<=w.length+1
theorem BF.start{n:Nat}{E:Nat->Nat->Prop}{s:Nat}(hs:s<n):BF n E s [] [[s]]:=by
 refine⟨λw hw=>?_,?_,λa ha b hb=>?_,?_,⟨[],rfl⟩,λw hw=>by cases hw⟩
 ·rw[List.mem_singleton.mp hw]
  exact⟨by simp,rfl,λv hv=>by rw[List.mem_singleton.mp hv];exact hs,λk hk=>by simp at hk⟩
 ·simp
 ·rw[List.mem_singleton.mp ha,List.mem_singleton.mp hb];exact Nat.le_succ _
 ·simp
structure BT(n:Nat)(E:Nat->Nat->Prop)(s:Nat)(Dn:List (List Nat))(w:List Nat)(Q:List (List Nat))(i:Nat):Prop where
 pa:∀v∈Dn++w::Q,Path n E s v
 so:(Dn++w::Q).Pairwise λa b=>a.length<=b.length
 wi:∀b∈w::Q,b.length<=w.length+1
 un:((Dn++w::Q).map lastD).Nodup
 st:∃r,Dn++w::Q=[s]::r
 cl:∀v∈Dn,∀g,g<n->E g (lastD v)->g≠s/\∃u∈Dn++w::Q,lastD u=g/\u.length<=v.length+1
 cw:∀g,g<i->E g (lastD w)->g≠s/\∃u∈Dn++w::Q,lastD u=g
section
variable{n:Nat}{E:Nat->Nat->Prop}{s:Nat}{Dn Q:List (List Nat)}{w:List Nat}{i:Nat}
theorem BF.turn(h:BF n E s Dn (w::Q)):BT n E s Dn w Q 0:=
 ⟨h.pa,h.so,λb hb=>h.wi w List.mem_cons_self b hb,h.un,h.st,h.cl,λg hg=>absurd hg (Nat.not_lt_zero _)⟩
theorem BT.skip(h:BT n E s Dn w Q i)(hk:E i (lastD w)->i≠s/\∃u∈Dn++w::Q,lastD u=i):BT n E s Dn w Q (i+1):=
 ⟨h.pa,h.so,h.wi,h.un,h.st,h.cl,λg hg he=>by
  by_cases c:g=i
  ·subst c;exact hk he
  ·exact h.cw g (by omega) he⟩
theorem BT.add(h:BT n E s Dn w Q i)(hi:i<n)(he:E i (lastD w))(hs:i≠s)(hn:∀u∈Dn++w::Q,lastD u≠i):BT n E s Dn w (Q++[w++[i]]) (i+1):=by
 have hw:w∈Dn++w::Q:=List.mem_append_right _ List.mem_cons_self
 have hsub:∀{v},v∈Dn++w::Q->v∈Dn++w::(Q++[w++[i]]):=λ {v} hv=>by
  rw[show Dn++w::(Q++[w++[i]])=(Dn++w::Q)++[w++[i]]by simp]
  exact List.mem_append_left _ hv
 have hnew:w++[i]∈Dn++w::(Q++[w++[i]]):=by simp
 have e:Dn++w::(Q++[w++[i]])=(Dn++w::Q)++[w++[i]]:=by simp
 have hwl:∀a∈Dn++w::Q,a.length<=w.length+1:=λa ha=>by
  rcases List.mem_append.mp ha with z|z
  ·have:=(List.pairwise_append.mp h.so).2.2 a z w List.mem_cons_self
   omega
  ·exact h.wi a z
 refine⟨λv hv=>?_,?_,λb hb=>?_,?_,?_,λv hv g hg hge=>?_,λg hg hge=>?_⟩
 ·rw[e]at hv
  rcases List.mem_append.mp hv with z|z
  ·exact h.pa v z
  ·rw[List.mem_singleton.mp z];exact(h.pa w hw).snoc hi he
 ·rw[e]
  refine List.pairwise_append.mpr ⟨h.so,by simp,λa ha b hb=>?_⟩
  rw[List.mem_singleton.mp hb,List.length_append]
  exact hwl a ha
 ·rw[show w::(Q++[w++[i]])=(w::Q)++[w++[i]]by simp]at hb
  rcases List.mem_append.mp hb with z|z
  ·exact h.wi b z
  ·rw[List.mem_singleton.mp z,List.length_append];exact Nat.le_refl _
 ·rw[e,List.map_append]
  refine List.nodup_append.mpr ⟨h.un,by simp,λx hx y hy z=>?_⟩
  obtain⟨u,hu,rfl⟩:=List.mem_map.mp hx
  have hy':y=lastD (w++[i]):=by simpa using hy
  rw[hy',lastD_snoc]at z
  exact hn u hu z
 ·obtain⟨r,hr⟩:=h.st
  exact⟨r++[w++[i]],by rw[e,hr];rfl⟩
 ·obtain⟨h1,u,h2,h3,h4⟩:=h.cl v hv g hg hge
  exact⟨h1,u,hsub h2,h3,h4⟩
 ·by_cases c:g=i
  ·subst c
   exact⟨hs,_,hnew,lastD_snoc w g⟩
  ·obtain⟨h1,u,h2,h3⟩:=h.cw g (by omega) hge
   exact⟨h1,u,hsub h2,h3⟩
theorem BT.done(h:BT n E s Dn w Q n):BF n E s (Dn++[w]) Q:=by
 have e:(Dn++[w])++Q=Dn++w::Q:=by simp
 have hwl:∀a∈Dn++w::Q,a.length<=w.length+1:=λa ha=>by
  rcases List.mem_append.mp ha with z|z
  ·have:=(List.pairwise_append.mp h.so).2.2 a z w List.mem_cons_self
   omega
  ·exact h.wi a z
 refine⟨by rw[e];exact h.pa,by rw[e];exact h.so,λa ha b hb=>?_,by rw[e];exact h.un,by rw[e];exact h.st,λv hv g hg hge=>?_⟩
 ·have h1:=(List.pairwise_append.mp h.so).2.1
  have h2:=(List.pairwise_cons.mp h1).1 a ha
  have h3:=h.wi b (List.mem_cons_of_mem _ hb)
  omega
 ·rw[e]
  rcases List.mem_append.mp hv with z|z
  ·exact h.cl v z g hg hge
  ·have hv':v=w:=List.mem_singleton.mp z
   subst hv'
   obtain⟨h1,u,h2,h3⟩:=h.cw g hg hge
   exact⟨h1,u,h2,h3,hwl u h2⟩
theorem BF.walk(h:BF n E s Dn Q){v:List Nat}(hv:Path n E s v)(hq:∀a∈Q,v.length<a.length):∀k,k<v.length->∃u∈Dn,lastD u=v.getD k 0/\u.length<=k+1
 | 0,hk=>by
  obtain⟨r,hr⟩:=h.st
  have hm:[s]∈Dn++Q:=by rw[hr];exact List.mem_cons_self
  rcases List.mem_append.mp hm with z|z
  ·exact⟨[s],z,by rw[hv.hd];rfl,Nat.le_refl _⟩
  ·have:=hq _ z
   have:[s].length=1:=rfl
   omega
 | k+1,hk=>by
  obtain⟨u,h1,h2,h3⟩:=BF.walk h hv hq k (by omega)
  have he:=hv.ed k hk
  rw[<-h2]at he
  obtain⟨_,x,x1,x2,x3⟩:=h.cl u h1 _ (hv.bd _ (getD_mem hk)) he
  rcases List.mem_append.mp x1 with z|z
  ·exact⟨x,z,x2,by omega⟩
  ·have:=hq _ z
   omega
theorem BF.none(h:BF n E s Dn Q){v:List Nat}(hv:Closed n E v)(hs:v.getD 0 0=s)(hq:∀a∈Q,v.length<a.length):False:=by
 have hp:Path n E s v:=⟨hv.ne,hs,hv.bd,λk hk=>by
  have:=hv.ed k (by omega)
  unfold nx at this
  rw[if_pos hk]at this
  exact this⟩
 have hl:=len_pos hv.ne
 obtain⟨u,h1,h2,_⟩:=h.walk hp hq (v.length-1) (by omega)
 have he:=hv.ed (v.length-1) (by omega)
 unfold nx at he
 rw[if_neg (by omega),hs,<-h2]at he
 have hsn:s<n:=by rw[<-hs];exact hv.bd _ (getD_mem hl)
 exact(h.cl u h1 s hsn he).1 rfl
theorem BT.found(h:BT n E s Dn w Q i)(he:E s (lastD w)):Closed n E w/\w.getD 0 0=s/\∀v,Closed n E v->v.getD 0 0=s->w.length<=v.length:=by
 have hw:=h.pa w (List.mem_append_right _ List.mem_cons_self)
 refine⟨hw.closed he,hw.hd,λv hv hs=>Nat.le_of_not_lt λc=>?_⟩
 have hl:∀a∈w::Q,w.length<=a.length:=λa ha=>by
  rcases List.mem_cons.mp ha with z|z
  ·rw[z];exact Nat.le_refl _
  ·exact(List.pairwise_cons.mp (List.pairwise_append.mp h.so).2.1).1 a z
 have hb:BF n E s Dn (w::Q):=⟨h.pa,h.so,λa ha b hb=>by have:=h.wi b hb;have:=hl a ha;omega,h.un,h.st,h.cl⟩
 exact hb.none hv hs λa ha=>by have:=hl a ha;omega
theorem BF.count(h:BF n E s Dn Q):(Dn++Q).length<=n:=by
 have key:∀(l m:List Nat),l.Nodup->(∀t∈l,t∈m)->l.length<=m.length:=λl m=>by
  intro hn hs
  exact(List.Nodup.length_le_of_subset (l₁:=l) (l₂:=m) hn hs)
 have:=key ((Dn++Q).map lastD) (List.range n) h.un λt ht=>by
  obtain⟨u,hu,rfl⟩:=List.mem_map.mp ht
  have hp:=h.pa u hu
  have:=len_pos hp.ne
  exact List.mem_range.mpr (hp.bd _ (getD_mem (by omega)))
 rw[List.length_map,List.length_range]at this
 exact this
theorem BT.bf(h:BT n E s Dn w Q i):BF n E s Dn (w::Q):=by
 have hl:∀a∈w::Q,w.length<=a.length:=λa ha=>by
  rcases List.mem_cons.mp ha with z|z
  ·rw[z];exact Nat.le_refl _
  ·exact(List.pairwise_cons.mp (List.pairwise_append.mp h.so).2.1).1 a z
 exact⟨h.pa,h.so,λa ha b hb=>by have:=h.wi b hb;have:=hl a ha;omega,h.un,h.st,h.cl⟩
end
theorem nx_lt{w:List Nat}{k:Nat}(h:k+1<w.length):nx w k=w.getD (k+1) 0:=by unfold nx;rw[if_pos h]
theorem nx_end{w:List Nat}{k:Nat}(h:¬k+1<w.length):nx w k=w.getD 0 0:=by unfold nx;rw[if_neg h]
theorem getD_take{w:List Nat}{i k:Nat}(h:k<i):(w.take i).getD k 0=w.getD k 0:=by
 rw[List.getD_eq_getElem?_getD,List.getD_eq_getElem?_getD,List.getElem?_take_of_lt h]
theorem getD_drop(w:List Nat)(i k:Nat):(w.drop i).getD k 0=w.getD (i+k) 0:=by
 rw[List.getD_eq_getElem?_getD,List.getD_eq_getElem?_getD,List.getElem?_drop]
section
variable{n:Nat}{E:Nat->Nat->Prop}{w:List Nat}
theorem Closed.cut(h:Closed n E w){i j:Nat}(hij:i<j)(hj:j<w.length)(he:E (nx w j) (w.getD i 0)):∃v,Closed n E v/\v.length<w.length:=by
 have l1:(w.take (i+1)).length=i+1:=by rw[List.length_take];omega
 have hlen:(w.take (i+1)++w.drop (j+1)).length=i+1+(w.length-(j+1)):=by rw[List.length_append,l1,List.length_drop]
 have g1:∀k,k<i+1->(w.take (i+1)++w.drop (j+1)).getD k 0=w.getD k 0:=λk hk=>by rw[getD_app_l (by omega),getD_take hk]
 have g2:∀k,i+1<=k->(w.take (i+1)++w.drop (j+1)).getD k 0=w.getD (k+(j-i)) 0:=λk hk=>by
  rw[getD_app_r (by omega),l1,getD_drop,show j+1+(k-(i+1))=k+(j-i)by omega]
 refine⟨w.take (i+1)++w.drop (j+1),⟨λz=>?_,λv hv=>?_,λk hk=>?_⟩,by rw[hlen];omega⟩
 ·rw[z]at hlen;simp at hlen;omega
 ·rcases List.mem_append.mp hv with z|z
  ·exact h.bd v (List.mem_of_mem_take z)
  ·exact h.bd v (List.mem_of_mem_drop z)
 ·rw[hlen]at hk
  by_cases c1:k<i
  ·rw[nx_lt (by rw[hlen];omega),g1 _ (by omega),g1 _ (by omega),<-nx_lt (show k+1<w.length by omega)]
   exact h.ed k (by omega)
  ·by_cases c2:k=i
   ·subst c2
    rw[g1 k (by omega)]
    by_cases c3:j+1<w.length
    ·rw[nx_lt (by rw[hlen];omega),g2 _ (Nat.le_refl _),show k+1+(j-k)=j+1 by omega,<-nx_lt c3]
     exact he
    ·rw[nx_end (by rw[hlen];omega),g1 0 (by omega),<-nx_end c3]
     exact he
   ·rw[g2 k (by omega)]
    have hk2:k+(j-i)<w.length:=by omega
    have:=h.ed _ hk2
    by_cases c3:k+(j-i)+1<w.length
    ·rw[nx_lt (by rw[hlen];omega),g2 _ (by omega),show k+1+(j-i)=k+(j-i)+1 by omega,<-nx_lt c3]
     exact this
    ·rw[nx_end (by rw[hlen];omega),g1 0 (by omega),<-nx_end c3]
     exact this
theorem Closed.mid(h:Closed n E w){i j:Nat}(hij:i<j)(hj:j<w.length)(he:E (nx w i) (w.getD j 0)):∃v,Closed n E v/\v.length<w.length:=by
 have hlen:((w.drop (i+1)).take (j-i)).length=j-i:=by rw[List.length_take,List.length_drop];omega
 have g:∀k,k<j-i->((w.drop (i+1)).take (j-i)).getD k 0=w.getD (i+1+k) 0:=λk hk=>by rw[getD_take hk,getD_drop]
 refine⟨(w.drop (i+1)).take (j-i),⟨λz=>?_,λv hv=>h.bd v (List.mem_of_mem_drop (List.mem_of_mem_take hv)),λk hk=>?_⟩,by rw[hlen];omega⟩
 ·rw[z]at hlen;simp at hlen;omega
 ·rw[hlen]at hk
  rw[g k hk]
  by_cases c:k+1<j-i
  ·rw[nx_lt (by rw[hlen];exact c),g _ c,show i+1+(k+1)=i+1+k+1 by omega,<-nx_lt (show i+1+k+1<w.length by omega)]
   exact h.ed _ (by omega)
  ·rw[nx_end (by rw[hlen];exact c),g 0 (by omega),show i+1+k=j by omega,Nat.add_zero,<-nx_lt (show i+1<w.length by omega)]
   exact he
theorem Closed.once(h:Closed n E w)(hm:∀v,Closed n E v->w.length<=v.length){A:Nat->Nat->Prop}{pos:Nat->Nat->Nat}(hE:∀p g t,A p g->pos p t<pos p g->g<n->t<n->E g t)
  {pr:Nat->Nat}(hp:∀k,k<w.length->A (pr k) (nx w k)/\pos (pr k) (w.getD k 0)<pos (pr k) (nx w k)){i j:Nat}(hij:i<j)(hj:j<w.length):pr i≠pr j:=by
 intro e
 obtain⟨a1,a2⟩:=hp i (by omega)
 obtain⟨b1,b2⟩:=hp j hj
 rw[<-e]at b1 b2
 have hb:∀k,k<w.length->w.getD k 0<n:=λk hk=>h.bd _ (getD_mem hk)
 have hx:∀k,k<w.length->nx w k<n:=λk hk=>by
  unfold nx
  split
  ·exact hb _ (by assumption)
  ·exact hb 0 (by omega)
 by_cases c:pos (pr i) (nx w i)<=pos (pr i) (nx w j)
 ·obtain⟨v,h1,h2⟩:=h.cut hij hj (hE _ _ _ b1 (by omega) (hx j hj) (hb i (by omega)))
  have:=hm v h1
  omega
 ·obtain⟨v,h1,h2⟩:=h.mid hij hj (hE _ _ _ a1 (by omega) (hx i (by omega)) (hb j hj))
  have:=hm v h1
  omega
end
theorem kept_ex{n:Nat}{E:Nat->Nat->Prop}(hno:∀v,¬Closed n E v){ts:List Nat}(hne:ts≠[])(hb:∀t∈ts,t<n):∃g∈ts,∀t∈ts,¬E g t:=by
 refine Classical.byContradiction λz=>?_
 have hex:∀g,g∈ts->∃t,t∈ts/\E g t:=λg hg=>Classical.byContradiction λy=>z ⟨g,hg,λt ht he=>y ⟨t,ht,he⟩⟩
 have:∃f:Nat->Nat,∀g,g∈ts->f g∈ts/\E g (f g):=
  ⟨λg=>if h:g∈ts then Classical.choose (hex g h)else 0,λg hg=>by dsimp only;rw[dif_pos hg];exact Classical.choose_spec (hex g hg)⟩
 obtain⟨f,hf⟩:=this
 obtain⟨x,hx⟩:=List.exists_mem_of_ne_nil ts hne
 let sq:Nat->Nat:=λk=>Nat.rec x (λ_ y=>f y) k
 have s0:sq 0=x:=rfl
 have ss:∀k,sq (k+1)=f (sq k):=λk=>rfl
 have sm:∀k,sq k∈ts:=λk=>by
  induction k with
  | zero=>exact hx
  | succ k ih=>rw[ss];exact(hf _ ih).1
 have hrep:∃a b,a<b/\sq a=sq b:=by
  refine Classical.byContradiction λy=>?_
  have hnd:((List.range (ts.length+1)).map sq).Nodup:=by
   refine List.pairwise_map.mpr (List.nodup_range.imp_of_mem λ {a b} ha hb hab e=>?_)
   rcases Nat.lt_or_gt_of_ne hab with c|c
   ·exact y ⟨a,b,c,e⟩
   ·exact y ⟨b,a,c,e.symm⟩
  have:=hnd.length_le_of_subset (l₂:=ts) λt ht=>by
   obtain⟨k,_,rfl⟩:=List.mem_map.mp ht
   exact sm k
  rw[List.length_map,List.length_range]at this
  omega
 obtain⟨a,b,hab,e⟩:=hrep
 have hg:∀k,k<b-a->((List.range (b-a)).map λk=>sq (b-k)).getD k 0=sq (b-k):=λk hk=>by
  rw[List.getD_eq_getElem?_getD,List.getElem?_map,List.getElem?_range hk];rfl
 have hl:((List.range (b-a)).map λk=>sq (b-k)).length=b-a:=by simp
 refine hno ((List.range (b-a)).map λk=>sq (b-k)) ⟨λy=>?_,λv hv=>?_,λk hk=>?_⟩
 ·rw[y]at hl;simp at hl;omega
 ·obtain⟨k,_,rfl⟩:=List.mem_map.mp hv
  exact hb _ (sm _)
 ·rw[hl]at hk
  rw[hg k hk]
  by_cases c:k+1<b-a
  ·rw[nx_lt (by rw[hl];exact c),hg _ c]
   have:=(hf (sq (b-(k+1))) (sm _)).2
   rw[<-ss,show b-(k+1)+1=b-k by omega]at this
   exact this
  ·rw[nx_end (by rw[hl];exact c),hg 0 (by omega),Nat.sub_zero,<-e,show b-k=a+1 by omega,ss]
   exact(hf (sq a) (sm a)).2
structure Ord(n:Nat)(E:Nat->Nat->Prop)(os ts:List Nat):Prop where
 pm:(os++ts).Perm (List.range n)
 ed:∀i,i<os.length->∀t,t<n->E (os.getD i 0) t->∃j,j<i/\os.getD j 0=t
theorem Ord.start(n:Nat)(E:Nat->Nat->Prop):Ord n E [] (List.range n):=⟨List.Perm.refl _,λi hi=>by simp at hi⟩
theorem Ord.step{n:Nat}{E:Nat->Nat->Prop}{os ts:List Nat}(h:Ord n E os ts){g:Nat}(hg:g∈ts)(hk:∀t∈ts,¬E g t):Ord n E (os++[g]) (ts.erase g):=by
 refine⟨?_,λi hi t ht he=>?_⟩
 ·refine List.Perm.trans ?_ h.pm
  rw[List.append_assoc]
  exact List.Perm.append_left os (List.perm_cons_erase hg).symm
 ·rw[List.length_append]at hi
  have hi':i<os.length+1:=hi
  by_cases c:i<os.length
  ·rw[getD_app_l c]at he
   obtain⟨j,hj,e⟩:=h.ed i c t ht he
   exact⟨j,hj,by rw[getD_app_l (by omega)];exact e⟩
  ·have e:i=os.length:=by omega
   subst e
   rw[getD_app_r (Nat.le_refl _),Nat.sub_self]at he
   have hm:t∈os++ts:=h.pm.mem_iff.mpr (List.mem_range.mpr ht)
   rcases List.mem_append.mp hm with z|z
   ·obtain⟨j,hj,e⟩:=List.mem_iff_getElem.mp z
    exact⟨j,hj,by rw[getD_app_l hj,List.getD_eq_getElem?_getD,List.getElem?_eq_getElem hj,e];rfl⟩
   ·exact absurd he (hk t z)
theorem Ord.idx{n:Nat}{E:Nat->Nat->Prop}{os:List Nat}(h:Ord n E os []){g t:Nat}(hg:g<n)(ht:t<n)(he:E g t):os.idxOf t<os.idxOf g:=by
 have hp:os.Perm (List.range n):=by have:=h.pm;rwa[List.append_nil]at this
 have hm:g∈os:=hp.mem_iff.mpr (List.mem_range.mpr hg)
 have hl:=List.idxOf_lt_length_iff.mpr hm
 have eg:os.getD (os.idxOf g) 0=g:=by rw[List.getD_eq_getElem?_getD,List.getElem?_eq_getElem hl];exact List.getElem_idxOf hl
 obtain⟨j,hj,ej⟩:=h.ed _ hl t ht (by rw[eg];exact he)
 have hjl:j<os.length:=by omega
 have nd:os.Nodup:=hp.nodup_iff.mpr List.nodup_range
 have:os.idxOf t=j:=by
  rw[<-ej,List.getD_eq_getElem?_getD,List.getElem?_eq_getElem hjl]
  exact nd.idxOf_getElem j hjl
 omega
end RG
namespace L2
section
variable{κ:Type}[DecidableEq κ]
def look(kvs:List (κ×Int))(k:κ):Option Int:=kvs.lookup k
theorem bG(a:κ)(m:Int)(kvs:List (κ×Int))(k:κ):look ((a,m)::kvs) k=if k=a then some m else look kvs k:=by
 unfold look
 rw[List.lookup_cons]
 by_cases e:k=a
 ·subst e;rw[beq_self_eq_true,if_pos rfl]
 ·rw[show(k==a)=false from beq_false_of_ne e,if_neg e]
theorem g7{k k':κ}{x:Int}:∀{kvs:List (κ×Int)},look (kvs.map λp=>if p.1=k then(p.1,x)else p) k'=if k'=k then(look kvs k').map (λ_=>x)else look kvs k'
 | []=>by unfold look;simp[List.lookup]
 | (a,m)::kvs=>by
  rw[List.map_cons]
  have ih:=g7 (k:=k) (k':=k') (x:=x) (kvs:=kvs)
  by_cases e:a=k
  ·subst e
   show look ((if a=a then(a,x)else(a,m))::_) k'=_
   rw[if_pos rfl,bG,bG,ih]
   by_cases c:k'=a
   ·rw[if_pos c,if_pos c,if_pos c];rfl
   ·rw[if_neg c,if_neg c,if_neg c,if_neg c]
  ·show look ((if a=k then(a,x)else(a,m))::_) k'=_
   rw[if_neg e,bG,bG,ih]
   by_cases c:k'=a
   ·subst c
    rw[if_pos rfl,if_pos rfl,if_neg e]
   ·rw[if_neg c,if_neg c]
theorem ic{k k':κ}{x:Int}:∀{kvs:List (κ×Int)},look kvs k=none->look (kvs++[(k,x)]) k'=if k'=k then some x else look kvs k'
 | [],_=>by
  rw[List.nil_append,bG]
 | (a,m)::kvs,h=>by
  rw[bG]at h
  by_cases e:k=a
  ·rw[if_pos e]at h;cases h
  ·rw[if_neg e]at h
   rw[List.cons_append,bG,bG,ic h]
   by_cases c:k'=a
   ·rw[if_pos c,if_pos c,if_neg (λz=>e (z.symm.trans c))]
   ·rw[if_neg c,if_neg c]
theorem hG(kvs:List (κ×Int))(k k':κ)(x:Int):look (putD kvs k x) k'=if k'=k then some x else look kvs k':=by
 unfold putD
 cases e:kvs.lookup k with
 | none=>
  rw[if_neg (by simp)]
  exact ic e
 | some m=>
  rw[if_pos (by simp),g7]
  by_cases c:k'=k
  ·subst c
   rw[if_pos rfl,if_pos rfl]
   unfold look
   rw[e]
   rfl
  ·rw[if_neg c,if_neg c]
end
structure Can(n:Nat)(W Z:List (List Int))(c:Int)(p g t:Nat):Prop where
 hp:p<n
 hg:g<n
 ht:t<n
 sh:c<HM.ent Z p g
 lk:(W.getD p []).idxOf (t:Int)<(W.getD p []).idxOf (g:Int)
def Edge(C:List (List Int×Int))(g t:Nat):Prop:=(look C [(g:Int),(t:Int)]).isSome=true
structure ChOk(n:Nat)(W Z:List (List Int))(c:Int)(C:List (List Int×Int)):Prop where
 can:∀g t x,look C [g,t]=some x->∃p g' t':Nat,x=p/\g=g'/\t=t'/\Can n W Z c p g' t'
 all:∀p g t,Can n W Z c p g t->Edge C g t
 len:C.length<=1000
theorem ChOk.edge{n:Nat}{W Z:List (List Int)}{c:Int}{C:List (List Int×Int)}(h:ChOk n W Z c C){g t:Nat}(he:Edge C g t):∃p,look C [(g:Int),(t:Int)]=some ((p:Nat):Int)/\Can n W Z c p g t:=by
 unfold Edge at he
 obtain⟨x,hx⟩:=Option.isSome_iff_exists.mp he
 obtain⟨p,g',t',e1,e2,e3,hc⟩:=h.can _ _ _ hx
 have:g=g':=by omega
 subst this
 have:t=t':=by omega
 subst this
 exact⟨p,by rw[hx,e1],hc⟩
structure ChI(n:Nat)(W Z:List (List Int))(c:Int)(i j k:Nat)(C:List (List Int×Int)):Prop where
 can:∀g t x,look C [g,t]=some x->∃p g' t':Nat,x=p/\g=g'/\t=t'/\Can n W Z c p g' t'
 all:∀p g t,Can n W Z c p g t->(p<i\/(p=i/\(W.getD p []).idxOf (g:Int)<j)\/(p=i/\(W.getD p []).idxOf (g:Int)=j/\(W.getD p []).idxOf (t:Int)<k))->Edge C g t
 len:C.length<=i*36+j*6+k
section
variable{n:Nat}{W Z:List (List Int)}{c:Int}{i j k:Nat}{C:List (List Int×Int)}
theorem ChI.start:ChI n W Z c 0 0 0 []:=⟨λg t x h=>by unfold look at h;simp[List.lookup]at h,λp g t _ h=>by rcases h with z|z|z <;> omega,Nat.zero_le _⟩
theorem ChI.done(hn:n<=6)(h:ChI n W Z c n 0 0 C):ChOk n W Z c C:=⟨h.can,λp g t hc=>h.all p g t hc (.inl hc.hp),by have:=h.len;omega⟩
theorem ChI.person(hj:j<=6)(hW:∀p g t,Can n W Z c p g t->(W.getD p []).idxOf (g:Int)<j)(h:ChI n W Z c i j 0 C):ChI n W Z c (i+1) 0 0 C:=
 ⟨h.can,λp g t hc z=>h.all p g t hc (by
  rcases z with z|z|z
  ·by_cases e:p=i
   ·exact .inr (.inl ⟨e,hW p g t hc⟩)
   ·exact .inl (by omega)
  ·omega
  ·omega),by have:=h.len;omega⟩
theorem ChI.place(hk:k<=6)(hW:∀g t,Can n W Z c i g t->(W.getD i []).idxOf (g:Int)=j->(W.getD i []).idxOf (t:Int)<k)(h:ChI n W Z c i j k C):ChI n W Z c i (j+1) 0 C:=
 ⟨h.can,λp g t hc z=>h.all p g t hc (by
  rcases z with z|z|z
  ·exact .inl z
  ·by_cases e:(W.getD p []).idxOf (g:Int)=j
   ·obtain⟨rfl,_⟩:=z
    exact .inr (.inr ⟨rfl,e,hW g t hc e⟩)
   ·exact .inr (.inl ⟨z.1,by omega⟩)
  ·omega),by have:=h.len;omega⟩
theorem ChI.put{g t:Nat}(hc:Can n W Z c i g t)(hW:∀g' t',Can n W Z c i g' t'->(W.getD i []).idxOf (g':Int)=j->(W.getD i []).idxOf (t':Int)=k->g'=g/\t'=t)(h:ChI n W Z c i j k C):ChI n W Z c i j (k+1) (putD C [(g:Int),(t:Int)] i):=by
 refine⟨λg1 t1 x hx=>?_,λp g1 t1 hc1 z=>?_,?_⟩
 ·rw[hG]at hx
  by_cases e:[g1,t1]=[(g:Int),(t:Int)]
  ·rw[if_pos e]at hx
   injection e with e1 e2
   injection e2 with e2 _
   exact⟨i,g,t,(Option.some.inj hx).symm,e1,e2,hc⟩
  ·rw[if_neg e]at hx
   exact h.can g1 t1 x hx
 ·unfold Edge
  rw[hG]
  by_cases e:[(g1:Int),(t1:Int)]=[(g:Int),(t:Int)]
  ·rw[if_pos e];rfl
  ·rw[if_neg e]
   refine h.all p g1 t1 hc1 ?_
   rcases z with z|z|z
   ·exact .inl z
   ·exact .inr (.inl z)
   ·by_cases ek:(W.getD p []).idxOf (t1:Int)=k
    ·obtain⟨rfl,z2,_⟩:=z
     obtain⟨e1,e2⟩:=hW g1 t1 hc1 z2 ek
     exact absurd (by rw[e1,e2]) e
    ·exact .inr (.inr ⟨z.1,z.2.1,by omega⟩)
 ·have:(putD C [(g:Int),(t:Int)] i).length<=C.length+1:=by
   unfold putD
   split
   ·rw[List.length_map];omega
   ·rw[List.length_append];exact Nat.le_refl _
  have:=h.len
  omega
end
end L2
namespace L2
abbrev Tri:=Nat×Nat×Nat
structure RingOk(n:Nat)(W Z:List (List Int))(c:Int)(R:List Tri):Prop where
 two:2<=R.length
 can:∀x∈R,Can n W Z c x.1 x.2.1 x.2.2
 nxt:∀k x y,R[k]?=some x->R[(k+1)%R.length]?=some y->y.2.2=x.2.1
 once:(R.map Prod.fst).Nodup
def Edge0(n:Nat)(W Z:List (List Int))(g t:Nat):Prop:=∃p,Can n W Z 0 p g t
theorem Can.mono{n:Nat}{W Z:List (List Int)}{c c':Int}{p g t:Nat}(h:Can n W Z c p g t)(hc:c'<=c):Can n W Z c' p g t:=⟨h.hp,h.hg,h.ht,by have:=h.sh;omega,h.lk⟩
theorem RingOk.mono{n:Nat}{W Z:List (List Int)}{c c':Int}{R:List Tri}(h:RingOk n W Z c R)(hc:c'<=c):RingOk n W Z c' R:=⟨h.two,λx hx=>(h.can x hx).mono hc,h.nxt,h.once⟩
def triOf(C:List (List Int×Int))(w:List Nat):List Tri:=(List.range w.length).map λk=>(((look C [(RG.nx w k:Int),(w.getD k 0:Int)]).getD 0).toNat,RG.nx w k,w.getD k 0)
theorem jm{C:List (List Int×Int)}{w:List Nat}{k:Nat}(hk:k<w.length):(triOf C w)[k]?=some (((look C [(RG.nx w k:Int),(w.getD k 0:Int)]).getD 0).toNat,RG.nx w k,w.getD k 0):=by
 unfold triOf;rw[List.getElem?_map,List.getElem?_range hk];rfl
theorem cX(C:List (List Int×Int))(w:List Nat):(triOf C w).length=w.length:=by unfold triOf;simp
section
variable{n:Nat}{W Z:List (List Int)}{c:Int}{C:List (List Int×Int)}{w:List Nat}
theorem mi(hC:ChOk n W Z c C)(h:RG.Closed n (Edge C) w)(hm:∀v,RG.Closed n (Edge C) v->w.length<=v.length):RingOk n W Z c (triOf C w):=by
 have hp:∀k,k<w.length->∃p,look C [(RG.nx w k:Int),(w.getD k 0:Int)]=some ((p:Nat):Int)/\Can n W Z c p (RG.nx w k) (w.getD k 0):=λk hk=>hC.edge (h.ed k hk)
 have hpr:∀k,k<w.length->Can n W Z c ((look C [(RG.nx w k:Int),(w.getD k 0:Int)]).getD 0).toNat (RG.nx w k) (w.getD k 0):=λk hk=>by
  obtain⟨p,e,hc⟩:=hp k hk
  rw[e]
  exact hc
 have hl:=RG.len_pos h.ne
 refine⟨?_,λx hx=>?_,λk x y hx hy=>?_,?_⟩
 ·rw[cX]
  refine Nat.le_of_not_lt λz=>?_
  have h1:w.length=1:=by omega
  have:=(hpr 0 (by omega)).lk
  rw[RG.nx_end (by omega)]at this
  omega
 ·unfold triOf at hx
  obtain⟨k,hk,rfl⟩:=List.mem_map.mp hx
  exact hpr k (List.mem_range.mp hk)
 ·have hk:k<w.length:=by have:=(List.getElem?_eq_some_iff.mp hx).1;rw[cX]at this;exact this
  rw[jm hk]at hx
  have hx':=Option.some.inj hx
  rw[cX]at hy
  have hj:(k+1)%w.length<w.length:=Nat.mod_lt _ hl
  rw[jm hj]at hy
  have hy':=Option.some.inj hy
  rw[<-hx',<-hy']
  show w.getD ((k+1)%w.length) 0=RG.nx w k
  by_cases e:k+1<w.length
  ·rw[RG.nx_lt e,Nat.mod_eq_of_lt e]
  ·rw[RG.nx_end e,show k+1=w.length by omega,Nat.mod_self]
 ·unfold triOf
  rw[List.map_map]
  refine List.pairwise_map.mpr (List.nodup_range.imp_of_mem λ {a b} ha hb hab z=>?_)
  have ha':=List.mem_range.mp ha
  have hb':=List.mem_range.mp hb
  have key:∀i j,i<j->j<w.length->((look C [(RG.nx w i:Int),(w.getD i 0:Int)]).getD 0).toNat≠((look C [(RG.nx w j:Int),(w.getD j 0:Int)]).getD 0).toNat:=λi j hij hj=>
   h.once hm (A:=λp g=>p<n/\c<HM.ent Z p g) (pos:=λp t=>(W.getD p []).idxOf (t:Int)) (λp g t hA hpos hg ht=>hC.all p g t ⟨hA.1,hg,ht,hA.2,hpos⟩)
    (pr:=λk=>((look C [(RG.nx w k:Int),(w.getD k 0:Int)]).getD 0).toNat) (λk hk=>⟨⟨(hpr k hk).hp,(hpr k hk).sh⟩,(hpr k hk).lk⟩) hij hj
  rcases Nat.lt_or_gt_of_ne hab with q|q
  ·exact key a b q hb' z
  ·exact key b a q ha' z.symm
theorem eO(hC:ChOk n W Z c C)(h0:0<=c)(h:∀v,¬RG.Closed n (Edge0 n W Z) v):∀v,¬RG.Closed n (Edge C) v:=λv hv=>
 h v ⟨hv.ne,hv.bd,λk hk=>by
  obtain⟨p,_,hc⟩:=hC.edge (hv.ed k hk)
  exact⟨p,hc.mono h0⟩⟩
theorem eP(hC:ChOk n W Z 0 C)(h:∀v,¬RG.Closed n (Edge C) v):∀v,¬RG.Closed n (Edge0 n W Z) v:=λv hv=>
 h v ⟨hv.ne,hv.bd,λk hk=>by
  obtain⟨p,hc⟩:=hv.ed k hk
  exact hC.all p _ _ hc⟩
end
def moveR(r:List Int)(g t:Nat)(m:Int):List Int:=(r.set g (r.getD g 0-m)).set t (r.getD t 0+m)
def behind(Z:List (List Int))(m:Int)(R:List Tri)(k:Nat):List (List Int):=(R.take k).foldl (λY x=>Y.set x.1 (moveR (Z.getD x.1 []) x.2.1 x.2.2 m)) Z
theorem bw{Z:List (List Int)}{m:Int}{R:List Tri}{k:Nat}{x:Tri}(h:R[k]?=some x):behind Z m R (k+1)=(behind Z m R k).set x.1 (moveR (Z.getD x.1 []) x.2.1 x.2.2 m):=by
 unfold behind
 rw[List.take_add_one,h,List.foldl_append]
 rfl
theorem bD(Z:List (List Int))(m:Int)(R:List Tri):∀k,(behind Z m R k).length=Z.length
 | 0=>rfl
 | k+1=>by
  cases h:R[k]? with
  | none=>
   have e:behind Z m R (k+1)=behind Z m R k:=by unfold behind;rw[List.take_add_one,h];simp
   rw[e,bD Z m R k]
  | some x=>rw[bw h,List.length_set,bD Z m R k]
theorem dM{Z:List (List Int)}{m:Int}{R:List Tri}{p:Nat}:∀k,(∀j x,j<k->R[j]?=some x->x.1≠p)->(behind Z m R k)[p]?=Z[p]?
 | 0,_=>rfl
 | k+1,h=>by
  have ih:=dM (Z:=Z) (m:=m) (R:=R) (p:=p) k λj x hj hx=>h j x (by omega) hx
  cases e:R[k]? with
  | none=>
   have e:behind Z m R (k+1)=behind Z m R k:=by unfold behind;rw[List.take_add_one,e];simp
   rw[e,ih]
  | some x=>rw[bw e,List.getElem?_set_ne (h k x (Nat.lt_succ_self k) e),ih]
theorem i7{R:List Tri}(h:(R.map Prod.fst).Nodup){k j:Nat}{x y:Tri}(hx:R[k]?=some x)(hy:R[j]?=some y)(e:y.1=x.1):j=k:=by
 have h1:(R.map Prod.fst)[k]?=some x.1:=by rw[List.getElem?_map,hx];rfl
 have h2:(R.map Prod.fst)[j]?=some x.1:=by rw[List.getElem?_map,hy,<-e];rfl
 obtain⟨a1,a2⟩:=List.getElem?_eq_some_iff.mp h1
 obtain⟨b1,b2⟩:=List.getElem?_eq_some_iff.mp h2
 exact(List.getElem_inj h).mp (b2.trans a2.symm)
theorem fh{Z:List (List Int)}{m:Int}{R:List Tri}(h:(R.map Prod.fst).Nodup){k:Nat}{x:Tri}(hx:R[k]?=some x):(behind Z m R k)[x.1]?=Z[x.1]?:=
 dM k λj y hj hy e=>by have:=i7 h hx hy e;omega
theorem kK(r:List Int)(g t:Nat)(m:Int):(moveR r g t m).length=r.length:=by unfold moveR;simp
theorem cA{n:Nat}{Z:List (List Int)}{m:Int}{R:List Tri}(h:∀r∈Z,r.length=n)(hb:∀x∈R,x.1<Z.length):∀k,∀r∈behind Z m R k,r.length=n
 | 0,r,hr=>h r hr
 | k+1,r,hr=>by
  cases e:R[k]? with
  | none=>
   have e:behind Z m R (k+1)=behind Z m R k:=by unfold behind;rw[List.take_add_one,e];simp
   rw[e]at hr
   exact cA h hb k r hr
  | some x=>
   rw[bw e]at hr
   rcases List.mem_or_eq_of_mem_set hr with z|z
   ·exact cA h hb k r z
   ·rw[z,kK]
    have hx:=hb x (List.mem_of_getElem? e)
    rw[HM.getD_lt hx]
    exact h _ (List.getElem_mem hx)
end L2
namespace L2
open PySem PySem.Spec PyProof.Rows
section
variable{κ:Type}[DecidableEq κ]{W:KW κ}{X:Cx}
def rInX(W:KW κ)(P:Program)(w:World)(K:PySem.W.Frag):R2:=λx y H Q=>∃(a d:Addr) (k:κ) (kvs:List (κ×Int)),x = .ref a/\y = .ref d/\DictI W P w K H d kvs/\W.at' K H k a/\Q (.bl (kvs.lookup k).isSome) H
theorem kY{P:Program}{w:World}{K:PySem.W.Frag}{j:Nat}(hP:X.prog=P)(hw:X.w=w)(hK:X.K=K)(hr:Room j X.A):OpR X (compareOp .In) (rInX W P w K):=by
 subst hP hw hK
 intro pins s σ H x y v u Q I rx ry h
 obtain⟨a,d,k,kvs,rfl,rfl,⟨ep,dd⟩,hk,q⟩:=h
 cases rx
 cases ry
 obtain⟨xs,⟨hsys,_⟩,hd,rel⟩:=I.dx dd
 refine wpAny_in_heap (W.room (by have:=hr.units;omega)) (W.ok I hk) hsys hd ?_
 refine⟨.bl _,H,I.tok _,rfl,?_⟩
 rcases cv k rel with⟨e1,e2⟩|⟨m,b,t,e1,e2⟩
 ·rw[e2];rw[e1]at q;exact q
 ·rw[e2];rw[e1]at q;exact q
def rIxX(W:KW κ)(P:Program)(w:World)(K:PySem.W.Frag):R2:=λx y H Q=>∃(d a:Addr) (k:κ) (kvs:List (κ×Int)) (n:Int),x = .ref d/\y = .ref a/\DictI W P w K H d kvs/\W.at' K H k a/\kvs.lookup k=some n/\Q (.int n) H
theorem mH{P:Program}{w:World}{K:PySem.W.Frag}{j:Nat}(hP:X.prog=P)(hw:X.w=w)(hK:X.K=K)(hr:Room j X.A):IxR X (rIxX W P w K):=by
 subst hP hw hK
 intro value slice pins s σ H x y v u Q I rx ry h hs
 obtain⟨d,a,k,kvs,n,rfl,rfl,⟨ep,dd⟩,hk,hn,q⟩:=h
 cases rx
 cases ry
 obtain⟨xs,⟨hsys,_⟩,hd,rel⟩:=I.dx dd
 rcases cv k rel with⟨e1,e2⟩|⟨m,b,t,e1,e2⟩
 ·rw[e1]at hn;cases hn
 ·rw[e1]at hn
  cases hn
  refine subscriptTail_builtinR (x:= .int n t) hd.typeIs PySem.F.slot_dict_getitem.lookup ?_ hs
  refine wpAny_getItem_heap (W.room (by have:=hr.units;omega)) (W.ok I hk) hd e2 ⟨rfl,?_⟩
  exact⟨.int n,H,I.tok _,⟨_,rfl⟩,q⟩
end
section
variable{X:Cx}
def trueK(R:List Int):List (Key×V):=R.map λi=>(Sum.inl i,V.bl true)
def tTrueNew:TE:=λ_ H Q=>∀p,H p=none->Q (.ref p) (upd H p (.dK (trueK [])))
theorem iK{pos:Pos}:PE X (.Dict [] [] pos) tTrueNew:=λpins s σ H Q I h=>
 wpAny_Dict_empty ⟨.ref s.heap.objs.size,_,I.laid (a:=s.heap.objs.size) (o:= .dK []) (t':=s.toks) (λ_ _ q=>Heap.get?_push_of_some _ q) (Nat.le_refl _)
  (show ObjOk X.prog X.w _ _ _ (.dK [])from⟨Nat.zero_le _,beq_eq_false_iff_ne.mpr (Ne.symm (Nat.ne_of_lt I.bigS)),[],.nil,Heap.DictOf.new s.heap⟩),rfl,h _ (I.hok.fresh (Nat.le_refl _))⟩
def rNotInTrue:R2:=λx y H Q=>∃(d:Addr) (R:List Int) (i:Int),x = .int i/\y = .ref d/\H d=some (.dK (trueK R))/\Q (.bl (!decide (i∈R))) H
theorem lw{R:List Int}{vs:List (Key×Value)}(r:KV (trueK R) vs)(i:Int):(valueAt vs (Sum.inl i)).isSome=decide (i∈R):=by
 induction R generalizing vs with
 | nil=>cases r;rfl
 | cons a R ih=>
  cases vs with
  | nil=>cases r
  | cons q vs=>
   obtain⟨k,v⟩:=q
   cases r with
   | cons h t=>
    obtain⟨h1,_⟩:=h
    have hk:k=Sum.inl a:=h1.symm
    subst hk
    have ih':=ih t
    unfold valueAt at ih' ⊢
    rw[List.find?_cons]
    by_cases c:a=i
    ·subst c
     simp
    ·have:(decide ((Sum.inl a:Key)=Sum.inl i))=false:=by simp[c]
     rw[this]
     dsimp only
     rw[ih']
     simp[Ne.symm c]
theorem f7:OpR X (compareOp .NotIn) rNotInTrue:=by
 intro pins s σ H x y v u Q I rx ry h
 obtain⟨d,R,i,rfl,rfl,hd,q⟩:=h
 obtain⟨t,rfl⟩:=rx
 cases ry
 obtain⟨_,hsys,vs,rel,dd⟩:=(show ObjOk X.prog X.w H s.heap d (.dK (trueK R))from I.hok d _ hd)
 refine wpAny_notIn_of (d8 X.prog X.w i t) hsys dd.mapOf ?_
 rw[lw rel]
 exact⟨.bl _,H,I.tok _,rfl,q⟩
def rSetTrue:V->V->V->Hp->(Hp->Prop)->Prop:=λo i v H Q=>∃(d:Addr) (R:List Int) (k:Int),o = .ref d/\i = .int k/\v = .bl true/\H d=some (.dK (trueK R))/\k∉R/\R.length<1000/\Q (upd H d (.dK (trueK (R++[k]))))
theorem kC:PSet X rSetTrue:=by
 intro pins s σ H o i v ov iv u Q I ro ri rv h
 obtain⟨d,R,k,rfl,rfl,rfl,hd,hk,hl,q⟩:=h
 cases ro
 obtain⟨t,rfl⟩:=ri
 cases rv
 obtain⟨hz,hsys,vs,rel,dd⟩:=(show ObjOk X.prog X.w H s.heap d (.dK (trueK R))from I.hok d _ hd)
 have hvl:=Paired.len rel
 have hRl:(trueK R).length=R.length:=by unfold trueK;rw[List.length_map]
 refine wpAny_setItem_pairs (hsz:=by omega) (d8 X.prog X.w k t) dd λh' dd' hs=>?_
 have hno:(Sum.inl k:Key)∉vs.map λx=>x.1:=λz=>by
  obtain⟨x,hx,e⟩:=List.mem_map.mp z
  obtain⟨j,hj,ej⟩:=List.mem_iff_getElem.mp hx
  obtain⟨p,hp,hpq⟩:=Paired.get rel (show vs[j]?=some x by rw[List.getElem?_eq_getElem hj,ej])
  unfold trueK at hp
  rw[List.getElem?_map]at hp
  cases hR:R[j]? with
  | none=>rw[hR]at hp;cases hp
  | some r=>
   rw[hR]at hp
   have hp':(Sum.inl r,V.bl true)=p:=Option.some.inj hp
   have e2:(Sum.inl r:Key)=Sum.inl k:=by rw[<-e,<-hpq.1,<-hp']
   injection e2 with e3
   exact hk (e3▸List.mem_of_getElem? hR)
 rw[iF hno]at dd'
 have he:∃ob,h'.get? d=some ob:=let⟨ob,_,_,hq,_⟩:=dd';⟨ob,hq⟩
 refine⟨_,I.write (x:=d) (e:=d) (by rw[hd];trivial) (.inl rfl) (λb ob hb z=>(hs.2 b hb).trans z) he (show ObjOk X.prog X.w _ _ _ (.dK (trueK (R++[k])))from⟨?_,hsys,_,?_,dd'⟩),q⟩
 ·unfold trueK
  rw[List.length_map,List.length_append]
  exact Nat.le_of_lt (small1000 (by show R.length+1<=1000;omega))
 ·unfold trueK
  rw[List.map_append]
  exact Paired.app rel (.cons ⟨rfl,rfl⟩ .nil)
end
end L2
namespace L2
open PySem PySem.Spec PyProof.Rows
section
variable{X:Cx}
theorem kh:MtM X "list.index" (λx vs H Q=>∃(l:Addr) (ns:List Int) (k:Int),x = .ref l/\vs=[.int k]/\SqL X.K H l (ns.map V.int)/\k∈ns/\Q (.int (ns.idxOf k:Nat)) H):=by
 intro pins s σ H x vs v us Q I rx rv h
 obtain⟨l,ns,k,rfl,rfl,hq,hk,q⟩:=h
 cases rx
 obtain⟨u,rfl,tk,rfl⟩:=rv.one
 obtain⟨its,r,pl,hz⟩:=I.list hq
 have hi:=bO r
 have hlen:=hi.length
 have hz':its.length<=sizeLine:=by rw[<-r.length];exact hz
 rw[sizeLine_eq]at hz'
 obtain⟨⟨cls,dd,data,sl⟩,n,ho,hc,hdn,hd⟩:=id pl
 simp only at hc hd
 subst hc hd
 have hj:ns.idxOf k<ns.length:=List.idxOf_lt_length_iff.mpr hk
 refine call_meets PySem.F.slot_list_index ⟨_,ho,rfl⟩ PySem.F.entry_list_index (PySem.F.args_list_index_2 _ _)
  (SeqAt.list_indexAt l its.toArray n dd sl (.int k tk) (isInt k) (ns.idxOf k) (by simpa [hlen]using hj) (by omega) ?_ ?_) ⟨ho,λy hy=>(eq_isInt k tk hi y (by simpa using hy)).at _ _,⟨.int _,H,I.tok _,⟨_,rfl⟩,q⟩⟩
 ·show isInt k its[ns.idxOf k]=true
  rw[isInt_at k hi _ (by omega) hj]
  simpa using List.getElem_idxOf hj
 ·intro j hjs hlt
  show isInt k its[j]=false
  rw[isInt_at k hi j (by simpa using hjs) (by omega)]
  exact ne_of_lt_idxOf hlt _
theorem gt{K:PySem.W.Frag}(h:X.K=K):MtM X "list.index" (λx vs H Q=>∃(l:Addr) (ns:List Int) (k:Int),x = .ref l/\vs=[.int k]/\SqL K H l (ns.map V.int)/\k∈ns/\Q (.int (ns.idxOf k:Nat)) H):=by
 subst h;exact kh
theorem gc{k:Int}:∀{ns:List Int},k∈ns->ns.eraseIdx (ns.idxOf k)=ns.erase k
 | [],h=>by cases h
 | a::ns,h=>by
  by_cases c:a=k
  ·subst c;rw[List.idxOf_cons_self];simp
  ·have hm:k∈ns:=by rcases List.mem_cons.mp h with e|e;exact absurd e.symm c;exact e
   rw[List.idxOf_cons,show(a==k)=false from beq_false_of_ne c,List.erase_cons_tail (by simpa using c)]
   show a::ns.eraseIdx (ns.idxOf k)=_
   rw[gc hm]
theorem eH:MtM X "list.remove" (λx vs H Q=>∃(l:Addr) (ns:List Int) (k:Int),x = .ref l/\vs=[.int k]/\H l=some (.lst (ns.map V.int))/\k∈ns/\Q .non (upd H l (.lst ((ns.erase k).map V.int)))):=by
 intro pins s σ H x vs v us Q I rx rv h
 obtain⟨l,ns,k,rfl,rfl,hH,hk,q⟩:=h
 cases rx
 obtain⟨u,rfl,tk,rfl⟩:=rv.one
 obtain⟨z,its,n,r,hl,e⟩:=I.lstM hH
 have hi:=bO r
 have hlen:=hi.length
 have hj:ns.idxOf k<ns.length:=List.idxOf_lt_length_iff.mpr hk
 refine call_meets PySem.F.slot_list_remove ⟨_,e,rfl⟩ PySem.F.entry_list_remove (PySem.F.args_list_remove_2 _ _)
  (MeetsSeq.list_remove l its.toArray n (.int k tk) (isInt k) (λy hy=>eq_isInt k tk hi y (by simpa using hy)) (ns.idxOf k) (by simpa [hlen]using hj) ?_ ?_ (by rw[List.size_toArray];omega)) ⟨e,?_⟩
 ·show isInt k its[ns.idxOf k]=true
  rw[isInt_at k hi _ (by omega) hj]
  simpa using List.getElem_idxOf hj
 ·intro j hjs hlt
  show isInt k its[j]=false
  rw[isInt_at k hi j (by simpa using hjs) (by omega)]
  exact ne_of_lt_idxOf hlt _
 ·have er:(ns.map V.int).eraseIdx (ns.idxOf k)=(ns.erase k).map V.int:=by rw[<-eJ,gc hk]
  rw[<-er]at q
  refine⟨.non,_,I.lset (its':=its.eraseIdx (ns.idxOf k)) hH e ?_ (r.eraseIdx _) ?_,rfl,q⟩
  ·show its.toArray.eraseIdxIfInBounds (ns.idxOf k)=(its.eraseIdx (ns.idxOf k)).toArray
   rw[List.eraseIdxIfInBounds_toArray]
  ·have:=dU (ns.map V.int) (ns.idxOf k)
   omega
theorem kJ(hc:X.calm=true):CallR X (.builtin "any") (λxs H Q=>∃(p:Addr) (bs:List Bool),xs=[.ref p]/\SqL X.K H p (bs.map V.bl)/\Q (.bl (bs.any id)) H):=by
 intro pins s σ H xs us Q I r h
 obtain⟨p,bs,rfl,hq,q⟩:=h
 obtain⟨u,rfl,rx⟩:=vals1 r
 cases(show u=Value.ref p from rx)
 obtain⟨its,rv,pl,hz⟩:=I.list hq
 have hl:=rv.length
 rw[List.length_map]at hl
 have hp:p<s.heap.objs.size:=by obtain⟨_,e,_⟩:=pl.isList;exact Heap.lt_size e
 have htr:TruthOf X.prog X.w X.A.in1 (λi v=>its.toArray[i]?=some v) (λi=>bs.getD i false):=λi v s Q E hv hQ=>by
  dsimp only at hv hQ
  rw[List.getElem?_toArray]at hv
  obtain⟨x,hx,rx⟩:=j0 rv hv
  rw[List.getElem?_map]at hx
  cases hb:bs[i]? with
  | none=>rw[hb]at hx;cases hx
  | some b=>
   rw[hb]at hx
   cases hx
   cases(show v=Value.bool b from rx)
   have e:bs.getD i false=b:=by simp[List.getD_eq_getElem?_getD,hb]
   rw[e]at hQ
   exact wpAny_pure hQ
 refine call_any_walk (wpAny_pyIter_list pl.isList ⟨s.heap.objs.size,_,_,_,_,_,_,rfl,Walks.list (A:=X.A.in1) (I.ok.hd hc) s.heap.objs.size p (Nat.ne_of_lt hp) its.toArray,⟨⟨_,Heap.get?_push_size _ rfl,rfl,rfl⟩,pl.isList.push _⟩,htr,λh' tk hk=>?_⟩)
 have e:(List.range its.toArray.size).any (λi=>bs.getD i false)=bs.any id:=by
  rw[List.size_toArray,<-hl]
  apply Bool.eq_iff_iff.mpr
  rw[List.any_eq_true,List.any_eq_true]
  constructor
  ·rintro⟨i,hi,hb⟩
   have hi':=List.mem_range.mp hi
   exact⟨bs[i],List.getElem_mem hi',by simpa [hi']using hb⟩
  ·rintro⟨x,hx,hb⟩
   obtain⟨i,hi,rfl⟩:=List.mem_iff_getElem.mp hx
   exact⟨i,List.mem_range.mpr hi,by simpa [hi]using hb⟩
 rw[e]
 refine⟨.bl _,H,I.kept λb o ho=>hk b o (λhm=>?_) (Heap.get?_push_of_some _ ho),rfl,q⟩
 rw[List.mem_singleton]at hm
 subst hm
 exact absurd (Heap.lt_size ho) (Nat.lt_irrefl _)
end
end L2
namespace L2
open PySem PySem.Spec PyProof.Rows
section
variable{prog:Program}{w:World}{A:Around}{E:Value->Shared->Prop}{s:Shared}{h0:Heap}{l It Sv:Addr}{vs:List Value}{R:Result->Shared->Prop}
theorem b8{a:Addr}{items:Array Value}{h1 h2:Heap}(x:h1.IsList a items)(kp:∀o,h1.get? a=some o->h2.get? a=some o):h2.IsList a items:=by
 obtain⟨o,e,r⟩:=x
 exact⟨o,kp o e,r⟩
theorem gK(kf:Nat->Int)(hh:A.handled=none)(n1:l≠It)(n2:Sv≠It)(n3:l≠Sv)(hls:h0.IsList l vs.toArray)
  (item:∀i v,vs[i]?=some v->∃r items,v = .ref r/\r≠It/\r≠Sv/\h0.IsList r items/\(items.size:Int)<2^63/\kf i=items.size)
  (hR:∀i v h' tk',vs[i]?=some v->(∀j,j<vs.length->kf i<=kf j/\(j<i->kf i<kf j))->(∀b o,b≠It->b≠Sv->h0.get? b=some o->h'.get? b=some o)->R (.ok (.ret v)) {s with heap:=h',toks:=tk'}):
  ∀(r j i:Nat) (h:Heap) (tk:Nat) (vb:Value) (tb:Tok) (c:Nat),vs.length-(j+1)=r->j+1<=vs.length->(∀b o,b≠It->b≠Sv->h0.get? b=some o->h.get? b=some o)->
   h.get? Sv=some (seqObj "list" #[vb,.int (kf i) tb] c)->h.IsListIter It l (j+1)->vs[i]?=some vb->i<=j->(∀j',j'<=j->kf i<=kf j'/\(j'<i->kf i<kf j'))->
   codeAny (model prog w) A (.builtin "min.loop" ⟨[.ref It,.builtin "len",.ref Sv],[]⟩) R {s with heap:=h,toks:=tk}:=by
 have nm:(toString "min"++toString ".loop":String)="min.loop":=by decide
 have Wk:=Walks.list (prog:=prog) (w:=w) (A:=A.in1) hh It l n1 vs.toArray
 have sz:vs.toArray.size=vs.length:=List.size_toArray ..
 intro r
 induction r with
 | zero=>
  intro j i h tk vb tb c hr hj kp hS hit hvb hij hbest
  have hin:j+1=vs.length:=by omega
  refine codeAny_builtin (R:=R) PySem.F.entry_min_loop ?_
  rw[Around.under_plainId (A:=A) PySem.F.plain_min_loop _]
  show wpAny _ A.in1 (seqItems? (.ref Sv) >>= _) _ _ _
  refine wpAny_bind (wpAny_seqItems hS rfl ?_)
  show wpAny _ A.in1 (tryCatch (pyNext (.ref It)) _ >>= _) _ _ _
  refine wpAny_bind (wpAny_tryCatch (Wk.done _ _ _ ⟨by rw[sz,<-hin];exact hit,b8 hls λo e=>kp l o n1 n3 e⟩ λh' tk' hk'=>?_))
  have hS':=hk' Sv _ (by simpa using n2) hS
  have s1:=Heap.SameBut.update h' Sv (Obj.mapSeq λ_=>(#[]:Array Value))
  show wpAny _ A.in1 (updateSeq Sv (λ_=> #[]) >>= _) _ _ _
  refine wpAny_bind ?_
  refine wpAny_updateSeq hS' rfl (wpAny_bind (wpAny_letGo (wpAny_pure ?_)))
  exact hR i vb _ _ hvb (λj' hj'=>hbest j' (by omega)) λb o b1 b2 e=>(s1.2 b b2).trans (hk' b o (by simpa using b1) (kp b o b1 b2 e))
 | succ r ih=>
  intro j i h tk vb tb c hr hj kp hS hit hvb hij hbest
  have hlt:j+1<vs.length:=by omega
  refine codeAny_builtin (R:=R) PySem.F.entry_min_loop ?_
  rw[Around.under_plainId (A:=A) PySem.F.plain_min_loop _]
  show wpAny _ A.in1 (seqItems? (.ref Sv) >>= _) _ _ _
  refine wpAny_bind (wpAny_seqItems hS rfl ?_)
  show wpAny _ A.in1 (tryCatch (pyNext (.ref It)) _ >>= _) _ _ _
  refine wpAny_bind (wpAny_tryCatch (Wk.item (j+1) _ _ _ (by rw[sz];exact hlt) ⟨hit,b8 hls λo e=>kp l o n1 n3 e⟩ λv h' tk' hP hst' hk'=>?_))
  have hv:vs[j+1]?=some v:=by simpa using(hP)
  have hit':=hst'.1
  have kp':∀b o,b≠It->b≠Sv->h0.get? b=some o->h'.get? b=some o:=λb o b1 b2 e=>hk' b o (by simpa using b1) (kp b o b1 b2 e)
  have hS':=hk' Sv _ (by simpa using n2) hS
  obtain⟨rr,items,rfl,r1,r2,r3,r4,r5⟩:=item (j+1) v hv
  show wpAny _ A.in1 (tryCatch (holding [Value.ref rr] (call (.builtin "len") [Value.ref rr])) _ >>= _) _ _ _
  refine wpAny_bind (wpAny_tryCatch (wpAny_holding (Calls.call_len_list (b8 r3 λo e=>kp' rr o r1 r2 e) r4 ?_)))
  rw[show(items.size:Int)=kf (j+1)from r5.symm]
  show wpAny _ A.in1 (tryCatch (holding [Value.ref rr,.int (kf (j+1)) _] (richCompare .Lt (.int (kf (j+1)) _) (.int (kf i) tb) >>= _)) _ >>= _) _ _ _
  refine wpAny_bind (wpAny_tryCatch (wpAny_holding (wpAny_bind (CmpOf.ints_lt (prog:=prog) (w:=w) (A:=A.in1) (P:=λi v=>∃t,v = .int (kf i) t) kf (λi v h=>h) (j+1) i _ _ _ _ _ ⟨_,rfl⟩ ⟨_,rfl⟩ ?_))))
  refine wpAny_bind (wpAny_holding (wpAny_truthy_bool ?_))
  refine wpAny_bind (wpAny_letGo (wpAny_pure ?_))
  by_cases lt:kf (j+1)<kf i
  ·simp only[lt,decide_true,if_true]
   refine wpAny_bind ?_
   refine wpAny_updateSeq hS' rfl (wpAny_bind (wpAny_letGo ?_))
   rw[nm]
   refine wpAny_pure ⟨plainId_quiet PySem.F.plain_min_loop _,ih (j+1) (j+1) _ _ _ _ _ (by omega) hlt (λb o b1 b2 e=>((Heap.SameBut.update h' Sv _).2 b b2).trans (kp' b o b1 b2 e)) (get?_update_seq hS' λ_=>_) ?_ hv (Nat.le_refl _) λj' hj'=>?_⟩
   ·obtain⟨oI,q1,q2⟩:=hit'
    exact⟨oI,((Heap.SameBut.update h' Sv _).2 It n2.symm).trans q1,q2⟩
   ·by_cases e:j'=j+1
    ·subst e
     exact⟨Int.le_refl _,λz=>absurd z (Nat.lt_irrefl _)⟩
    ·have hb:=(hbest j' (by omega)).1
     exact⟨by omega,λ_=>by omega⟩
  ·simp only[lt,decide_false,Bool.false_eq_true,if_false]
   refine wpAny_bind (wpAny_letGo ?_)
   rw[nm]
   refine wpAny_pure ⟨plainId_quiet PySem.F.plain_min_loop _,ih (j+1) i _ _ _ _ _ (by omega) hlt kp' hS' hit' hvb (by omega) λj' hj'=>?_⟩
   by_cases e:j'=j+1
   ·subst e
    exact⟨by omega,λz=>absurd z (by omega)⟩
   ·exact hbest j' (by omega)
theorem gU{Q:Value->Shared->Prop}(kf:Nat->Int)(hh:A.handled=none)(hls:s.heap.IsList l vs.toArray)(hne:0<vs.length)
  (item:∀i v,vs[i]?=some v->∃r items,v = .ref r/\s.heap.IsList r items/\(items.size:Int)<2^63/\kf i=items.size)
  (hQ:∀i v h' tk',vs[i]?=some v->(∀j,j<vs.length->kf i<=kf j/\(j<i->kf i<kf j))->(∀b o,s.heap.get? b=some o->h'.get? b=some o)->Q v {s with heap:=h',toks:=tk'}):
  wpAny (model prog w) A (call (.builtin "min") [.ref l] [(Str.ofString "key",.builtin "len")]) Q E s:=by
 have nm:(toString "min"++toString ".loop":String)="min.loop":=by decide
 have lt0:∀b o,s.heap.get? b=some o->b<s.heap.objs.size:=λb o e=>Heap.lt_size e
 have hll:l<s.heap.objs.size:=by obtain⟨o,e,_⟩:=hls;exact lt0 l o e
 refine kmb_tree (id:="min") PySem.F.kind_min PySem.F.plain_min PySem.F.entry_min (kmb_min_key _ _) ?_
 show wpAny _ A.in1 (Builtin.Builtins.bindParams "min" ["key","default"] 0 ⟨[],[(Str.ofString "key",.builtin "len")]⟩ >>= _) _ _ s
 refine wpAny_bind (wpAny_of_eq (show Builtin.Builtins.bindParams "min" ["key","default"] 0 ⟨[],[(Str.ofString "key",.builtin "len")]⟩=pure [some (.builtin "len"),none]from rfl) ?_)
 refine wpAny_bind (wpAny_pure ?_)
 refine wpAny_bind (wpAny_pyIter_list hls ?_)
 refine wpAny_bind (wpAny_newList ?_ (Nat.zero_le _))
 rw[nm]
 generalize hIo:({cls:= .type "list_iterator",data:= .fields #[.ref l,.int 0 0]}:Obj)=oI
 have fI:oI.isFreed=false:=by rw[<-hIo];rfl
 have e1:(s.heap.push oI).objs.size=s.heap.objs.size+1:=by unfold Heap.push;simp
 have n1:l≠s.heap.objs.size:=Nat.ne_of_lt hll
 have n2:(s.heap.push oI).objs.size≠s.heap.objs.size:=by rw[e1];exact Nat.ne_of_gt (Nat.lt_succ_self _)
 have n3:l≠(s.heap.push oI).objs.size:=by rw[e1];exact Nat.ne_of_lt (Nat.lt_succ_of_lt hll)
 refine wpAny_pure ⟨plainId_quiet PySem.F.plain_min_loop _,?_⟩
 have gI:((s.heap.push oI).push (seqObj "list" #[] 0)).get? s.heap.objs.size=some oI:=Heap.get?_push_of_some _ (Heap.get?_push_size _ fI)
 have gS:((s.heap.push oI).push (seqObj "list" #[] 0)).get? (s.heap.push oI).objs.size=some (seqObj "list" #[] 0):=Heap.get?_push_size _ rfl
 have kp0:∀b o,s.heap.get? b=some o->((s.heap.push oI).push (seqObj "list" #[] 0)).get? b=some o:=λb o e=>Heap.get?_push_of_some _ (Heap.get?_push_of_some _ e)
 have sz:vs.toArray.size=vs.length:=List.size_toArray ..
 have Wk:=Walks.list (prog:=prog) (w:=w) (A:=A.in1) hh s.heap.objs.size l n1 vs.toArray
 refine codeAny_builtin PySem.F.entry_min_loop (R:=_) ?_
 rw[Around.under_plainId (A:=A) PySem.F.plain_min_loop _]
 show wpAny _ A.in1 (seqItems? (.ref _) >>= _) _ _ _
 refine wpAny_bind (wpAny_seqItems gS rfl ?_)
 show wpAny _ A.in1 (tryCatch (pyNext (.ref s.heap.objs.size)) _ >>= _) _ _ _
 refine wpAny_bind (wpAny_tryCatch (Wk.item 0 _ _ _ (by rw[sz];exact hne) ⟨⟨_,gI,by rw[<-hIo],by rw[<-hIo];rfl⟩,b8 hls λo e=>kp0 l o e⟩ λv h' tk' hP hst' hk'=>?_))
 have hv:vs[0]?=some v:=by simpa using(hP)
 have kp':∀b o,s.heap.get? b=some o->h'.get? b=some o:=λb o e=>hk' b o (by simpa using Nat.ne_of_lt (lt0 b o e)) (kp0 b o e)
 have hS':=hk' _ _ (by simpa using n2) gS
 obtain⟨rr,items,rfl,r3,r4,r5⟩:=item 0 v hv
 show wpAny _ A.in1 (tryCatch (holding [Value.ref rr] (call (.builtin "len") [Value.ref rr])) _ >>= _) _ _ _
 refine wpAny_bind (wpAny_tryCatch (wpAny_holding (Calls.call_len_list (b8 r3 λo e=>kp' rr o e) r4 ?_)))
 rw[show(items.size:Int)=kf 0 from r5.symm]
 show wpAny _ A.in1 (updateSeq _ (λ_=> #[Value.ref rr,.int (kf 0) _]) >>= _) _ _ _
 refine wpAny_bind ?_
 refine wpAny_updateSeq hS' rfl ?_
 rw[nm]
 refine wpAny_pure ⟨plainId_quiet PySem.F.plain_min_loop _,gK (h0:=s.heap) (s:=s) kf hh n1 n2 n3 hls (λi v hv=>?_) (λi v h'' tk'' hv hb kp=>hQ i v h'' tk'' hv hb λb o e=>kp b o (Nat.ne_of_lt (lt0 b o e)) (by rw[e1];exact Nat.ne_of_lt (Nat.lt_succ_of_lt (lt0 b o e))) e) _ 0 0 _ _ _ _ _ rfl hne (λb o b1 b2 e=>((Heap.SameBut.update h' _ _).2 b b2).trans (kp' b o e)) (get?_update_seq hS' λ_=>_) ?_ hv (Nat.le_refl _) λj' hj'=>?_⟩
 ·obtain⟨r,its,e,q1,q2,q3⟩:=item i v hv
  have hr:r<s.heap.objs.size:=by obtain⟨o,e,_⟩:=q1;exact lt0 r o e
  exact⟨r,its,e,Nat.ne_of_lt hr,by rw[e1];exact Nat.ne_of_lt (Nat.lt_succ_of_lt hr),q1,q2,q3⟩
 ·obtain⟨oI',q1,q2⟩:=hst'.1
  exact⟨oI',((Heap.SameBut.update h' _ _).2 _ n2.symm).trans q1,q2⟩
 ·have e:j'=0:=by omega
  subst e
  exact⟨Int.le_refl _,λz=>absurd z (Nat.lt_irrefl _)⟩
end
section
variable{X:Cx}
def tMinLen(K:PySem.W.Frag)(t:TA):TE:=λσ H Q=>t σ H λxs H1=>∃(p:Addr) (rs:List Addr) (M:List (List V)),xs=[.ref p]/\SqL K H1 p (rs.map V.ref)/\rs≠[]/\Paired (λr m=>SqL K H1 r m) rs M/\
 ∀(i:Nat) (r:Addr) (m:List V),rs[i]?=some r->M[i]?=some m->(∀m'∈M,m.length<=m'.length)->Q (.ref r) H1
theorem jl{K:PySem.W.Frag}{e:Expr}{p kp kpos pos:Pos}{t:TA}(hK:X.K=K)(hc:X.calm=true)(g1:Gl X "min")(m1:X.mg "min"=none)(g2:Gl X "len")(m2:X.mg "len"=none)(he:PA X [e] t)
  (h1:backTo pos (starEach [e] X.env)=(false,eval e X.env)::backTo pos (starEach [] X.env):=by rfl)(h2:(backTo pos (starEach [e] X.env)).any (·.1)=false:=by rfl)(h3:((backToKw pos (keywordEach [⟨some "key",.Name "len" kp,kpos⟩] X.env)).filterMap (·.1))=[Str.ofString "key"]:=by rfl)
  (h4:(backToKw pos (keywordEach [⟨some "key",.Name "len" kp,kpos⟩] X.env)).all (·.1.isSome)=true:=by rfl)(h5:(backToKw pos (keywordEach [⟨some "key",.Name "len" kp,kpos⟩] X.env)).any (·.1.isNone)=false:=by rfl):
  PE X (.Call (.Name "min" p) [e] [⟨some "key",.Name "len" kp,kpos⟩] pos) (tMinLen K t):=by
 subst hK
 intro pins s σ H Q I h
 refine wpAny_Call_Name_kw (bS I g1 m1 Boot.«min» ?_)
 refine callWith_kw (thn (he pos pins s σ H _ I h) λus s1 ⟨xs,H1,I1,r1,q1⟩=>kws_cons (bS I1 g2 m2 PySem.boot_len (kws_nil ?_))) h1 h2 h4 h5
 rw[h3]
 obtain⟨a,rs,M,ex,hq,hne,hM,q⟩:=q1
 subst ex
 obtain⟨u,rfl,rx⟩:=vals1 r1
 cases rx
 obtain⟨its,rv,pl,hz⟩:=I1.list hq
 have hl:=rv.length
 rw[List.length_map]at hl
 have hml:=Paired.len hM
 have hrs:=List.length_pos_iff.mpr hne
 have hat:∀i v,its[i]?=some v->∃r m,rs[i]?=some r/\M[i]?=some m/\v=Value.ref r/\SqL X.K H1 r m:=λi v hv=>by
  have hi:i<rs.length:=by have:=(List.getElem?_eq_some_iff.mp hv).1;omega
  obtain⟨r,hr⟩:∃r,rs[i]?=some r:=⟨_,List.getElem?_eq_getElem hi⟩
  obtain⟨m,hm,hrm⟩:=Paired.get' hM hr
  obtain⟨u,hu,ru⟩:=rv.get (show(rs.map V.ref)[i]?=some (.ref r)by rw[List.getElem?_map,hr];rfl)
  rw[hv]at hu
  cases hu
  exact⟨r,m,hr,hm,ru,hrm⟩
 have hsz:=line63
 refine gU (λi=>((M.getD i []).length:Int)) (I1.ok.hd hc) pl.isList (by omega) (λi v hv=>?_) λi v h' tk' hv hb kp=>?_
 ·obtain⟨r,m,_,hm,rfl,hrm⟩:=hat i v hv
  obtain⟨its2,rv2,pl2,hz2⟩:=I1.list hrm
  have hl2:=rv2.length
  refine⟨r,its2.toArray,rfl,pl2.isList,by rw[List.size_toArray];omega,?_⟩
  show((M.getD i []).length:Int)=_
  rw[List.getD_eq_getElem?_getD,hm,List.size_toArray,<-hl2]
  rfl
 ·obtain⟨r,m,hr,hm,rfl,hrm⟩:=hat i v hv
  refine⟨.ref r,H1,I1.kept kp,rfl,q i r m hr hm λm' hm'=>?_⟩
  obtain⟨j,hj,ej⟩:=List.mem_iff_getElem.mp hm'
  have:=(hb j (by omega)).1
  rw[List.getD_eq_getElem?_getD,hm,List.getD_eq_getElem?_getD,List.getElem?_eq_getElem hj,ej]at this
  exact Int.ofNat_le.mp this
end
end L2
namespace L2
open PySem PySem.Spec PyProof.Rows
section
variable{X:Cx}
def tLenSetI(K:PySem.W.Frag)(te:TE):TE:=λσ H Q=>te σ H λx H1=>∃(p:Addr) (ns:List Int),x = .ref p/\SqL K H1 p (ns.map V.int)/\(∀i∈ns,0<=i/\i<6)/\ns.Nodup/\Q (.int ns.length) H1
theorem gg{ns:List Int}(hb:∀i∈ns,0<=i/\i<6)(hn:ns.Nodup):(smallS λx=>(List.range' 0 ns.length).any λj=>x==(ns.getD j 0).toNat).length=ns.length:=by
 have hp:((smallS λx=>(List.range' 0 ns.length).any λj=>x==(ns.getD j 0).toNat).map Int.ofNat).Perm ns:=by
  refine(List.perm_ext_iff_of_nodup ?_ hn).mpr λi=>?_
  ·refine List.pairwise_map.mpr (List.Pairwise.imp (R:=λa b:Nat=>a≠b) (λ {a b} hab z=>hab (Int.ofNat.inj z)) ?_)
   unfold smallS
   exact List.nodup_range.filter _
  ·rw[List.mem_map]
   constructor
   ·rintro⟨u,hu,rfl⟩
    obtain⟨_,hb2⟩:=bF.mp hu
    obtain⟨j,hj,e⟩:=List.any_eq_true.mp hb2
    have e':u=(ns.getD j 0).toNat:=eq_of_beq e
    have hj':j<ns.length:=by
     have:=List.mem_range'.mp hj
     simp at this
     omega
    have hm:ns.getD j 0∈ns:=by rw[List.getD_eq_getElem?_getD,List.getElem?_eq_getElem hj'];exact List.getElem_mem hj'
    have:=hb _ hm
    rw[e',show Int.ofNat (ns.getD j 0).toNat=ns.getD j 0 by show((ns.getD j 0).toNat:Int)=_;omega]
    exact hm
   ·intro hi
    have hib:=hb i hi
    obtain⟨j,hj,e⟩:=List.mem_iff_getElem.mp hi
    refine⟨i.toNat,bF.mpr ⟨by omega,List.any_eq_true.mpr ⟨j,List.mem_range'.mpr ⟨j,hj,by omega⟩,?_⟩⟩,by show((i.toNat:Nat):Int)=i;omega⟩
    rw[List.getD_eq_getElem?_getD,List.getElem?_eq_getElem hj,e]
    simp
 have:=hp.length_eq
 rw[List.length_map]at this
 exact this
theorem iq{e:Expr}{te:TE}{p p2 pos pos2:Pos}(hc:X.calm=true)(h1:Gl X "len")(m1:X.mg "len"=none)(h2:Gl X "set")(m2:X.mg "set"=none)(ha:PE X e te)
  (he:starEach [e] X.env=(false,eval e X.env)::starEach [] X.env:=by rfl):PE X (.Call (.Name "len" p) [.Call (.Name "set" p2) [e] [] pos2] [] pos) (tLenSetI X.K te):=by
 intro pins s σ H Q I h
 refine wpAny_Call_Name_kw (bS I h1 m1 PySem.boot_len ?_)
 refine PyProof.Rows.callWith_builtin1 ?_ rfl rfl
 show wpAny _ _ (spliced ((false,eval (.Call (.Name "set" p2) [e] [] pos2) X.env)::[])) _ _ s
 refine Calls.spliced_cons ?_
 refine wpAny_Call_Name_kw (bS I h2 m2 Boot.set ?_)
 refine PyProof.Rows.callWith_type1 ?_ he rfl
 rw[he]
 show wpAny _ _ (spliced ((false,eval e X.env)::[])) _ _ s
 refine Calls.spliced_cons (thn (ha pins s σ H _ I h) λu s1 ⟨x,H1,I1,r1,q1⟩=>?_)
 obtain⟨l,ns,rfl,hq,hb,hn,q⟩:=q1
 cases(show u=Value.ref l from r1)
 obtain⟨its,rv,pl,hz⟩:=I1.list hq
 have hI:=bO rv
 have hlen:its.length=ns.length:=hI.length
 have hA:X.A.handled=none:=I1.ok.hd hc
 refine wpAny_pure (eK hA pl.isList (λi=>(ns.getD i 0).toNat) (λi v hv=>?_) λh' tk hset hk=>wpAny_pure ?_)
 ·rw[<-Array.getElem?_toList]at hv
  obtain⟨hi,t,e⟩:=fO hI i v (by simpa using hv)
  have hm:ns.getD i 0∈ns:=by
   rw[List.getD_eq_getElem?_getD,List.getElem?_eq_getElem hi]
   exact List.getElem_mem hi
  have:=hb _ hm
  refine⟨by omega,t,?_⟩
  rw[e]
  congr 1
  omega
 ·obtain⟨o,es,ep,tok,g1,g2,g3,g4⟩:=hset
  rw[show its.toArray.size=ns.length by rw[List.size_toArray,hlen]]at g3 g4
  have hes:es.size=ns.length:=by
   have:=congrArg List.length g4
   rw[List.length_map,gg hb hn,Array.length_toList]at this
   exact this
  have h6:=ii (λx=>(List.range' 0 ns.length).any λj=>x==(ns.getD j 0).toNat)
  have hft:=eT (λx=>(List.range' 0 ns.length).any λj=>x==(ns.getD j 0).toNat) (ledOf X.w)
  rw[gg hb hn]at h6 hft
  refine call_len_set (s:={s1 with heap:=h',toks:=tk}) g1 g2 g3 (by rw[hes];exact hft) (by rw[hes];omega) ⟨.int ns.length,H1,I1.kept hk,⟨_,by rw[hes]⟩,q⟩
end
end L2
namespace L2
open PySem PySem.Spec PyProof.Rows
section
variable{X:Cx}
theorem j8(hc:X.calm=true):CallR X (.builtin "min") (λxs H Q=>∃(p:Addr) (ns:List Int),xs=[.ref p]/\SqT X.K H p (ns.map V.int)/\ns≠[]/\∀m,m∈ns->(∀y∈ns,m<=y)->Q (.int m) H):=by
 intro pins s σ H xs us Q I r h
 obtain⟨p,ns,rfl,hq,hne,q⟩:=h
 obtain⟨u,rfl,rx⟩:=vals1 r
 cases(show u=Value.ref p from rx)
 obtain⟨its,rv,pl,hz⟩:=I.tuple hq
 have hI:=bO rv
 have hl:its.length=ns.length:=hI.length
 have hpos:0<ns.length:=List.length_pos_iff.mpr hne
 have hp:p<s.heap.objs.size:=pl.lt
 have hat:∀i v,its.toArray[i]?=some v->∃t,v=Value.int (ns.getD i 0) t:=λi v hv=>by
  rw[List.getElem?_toArray]at hv
  obtain⟨hi,t,e⟩:=fO hI i v hv
  exact⟨t,e⟩
 refine call_min_walk (wpAny_pyIter_tuple (show s.heap.IsTuple p its.toArray from pl) ⟨s.heap.objs.size,_,_,_,_,_,_,rfl,Walks.tuple (A:=X.A.in1) (I.ok.hd hc) s.heap.objs.size p (Nat.ne_of_lt hp) its.toArray,⟨⟨_,Heap.get?_push_size _ rfl,rfl,rfl⟩,pl.push _⟩,?_,by simp;omega,CmpOf.ints_lt (λi=>ns.getD i 0) hat,λv h' tk hv hk=>?_⟩)
 ·intro b hb
  have e1:(s.heap.push {cls:=Value.type "tuple_iterator",data:=Data.fields #[Value.ref p,Value.int 0 0]}).objs.size=s.heap.objs.size+1:=by unfold Heap.push;simp
  show b<(s.heap.push _).objs.size
  rw[e1]
  rcases List.mem_cons.mp hb with z|z
  ·rw[z];exact Nat.lt_succ_self _
  ·rw[List.mem_singleton.mp z];exact Nat.lt_succ_of_lt hp
 ·obtain⟨t,rfl⟩:=hat _ v hv
  have hb:=argBest_lt (λi=>ns.getD i 0) (its.toArray.size-1)
  have hsz:its.toArray.size=ns.length:=by rw[List.size_toArray,hl]
  rw[hsz]at hb ⊢
  refine⟨.int _,H,I.kept λb o ho=>hk b o (λhm=>?_) (Heap.get?_push_of_some _ ho),⟨_,rfl⟩,q _ ?_ λy hy=>?_⟩
  ·rw[List.mem_singleton.mp hm]at ho
   exact absurd (Heap.lt_size ho) (Nat.lt_irrefl _)
  ·generalize argBest _ (ns.length-1)=k at hb ⊢
   have hk':k<ns.length:=by have:=hb.1;omega
   rw[List.getD_eq_getElem?_getD,List.getElem?_eq_getElem hk']
   exact List.getElem_mem _
  ·obtain⟨j,hj,rfl⟩:=List.mem_iff_getElem.mp hy
   have:=hb.2 j (by omega)
   have e5:ns.getD j 0=ns[j]:=by rw[List.getD_eq_getElem?_getD,List.getElem?_eq_getElem hj];rfl
   rw[e5]at this
   exact this
theorem jU(hc:X.calm=true):CallR X (.builtin "max") (λxs H Q=>∃(p:Addr) (ns:List Int),xs=[.ref p]/\SqT X.K H p (ns.map V.int)/\ns≠[]/\∀m,m∈ns->(∀y∈ns,y<=m)->Q (.int m) H):=by
 intro pins s σ H xs us Q I r h
 obtain⟨p,ns,rfl,hq,hne,q⟩:=h
 obtain⟨u,rfl,rx⟩:=vals1 r
 cases(show u=Value.ref p from rx)
 obtain⟨its,rv,pl,hz⟩:=I.tuple hq
 have hI:=bO rv
 have hl:its.length=ns.length:=hI.length
 have hpos:0<ns.length:=List.length_pos_iff.mpr hne
 have hp:p<s.heap.objs.size:=pl.lt
 have hat:∀i v,its.toArray[i]?=some v->∃t,v=Value.int (ns.getD i 0) t:=λi v hv=>by
  rw[List.getElem?_toArray]at hv
  obtain⟨hi,t,e⟩:=fO hI i v hv
  exact⟨t,e⟩
 refine call_max_walk (wpAny_pyIter_tuple (show s.heap.IsTuple p its.toArray from pl) ⟨s.heap.objs.size,_,_,_,_,_,_,rfl,Walks.tuple (A:=X.A.in1) (I.ok.hd hc) s.heap.objs.size p (Nat.ne_of_lt hp) its.toArray,⟨⟨_,Heap.get?_push_size _ rfl,rfl,rfl⟩,pl.push _⟩,?_,by simp;omega,CmpOf.ints_gt (λi=>ns.getD i 0) hat,λv h' tk hv hk=>?_⟩)
 ·intro b hb
  have e1:(s.heap.push {cls:=Value.type "tuple_iterator",data:=Data.fields #[Value.ref p,Value.int 0 0]}).objs.size=s.heap.objs.size+1:=by unfold Heap.push;simp
  show b<(s.heap.push _).objs.size
  rw[e1]
  rcases List.mem_cons.mp hb with z|z
  ·rw[z];exact Nat.lt_succ_self _
  ·rw[List.mem_singleton.mp z];exact Nat.lt_succ_of_lt hp
 ·obtain⟨t,rfl⟩:=hat _ v hv
  have hb:=argBest_gt (λi=>ns.getD i 0) (its.toArray.size-1)
  have hsz:its.toArray.size=ns.length:=by rw[List.size_toArray,hl]
  rw[hsz]at hb ⊢
  refine⟨.int _,H,I.kept λb o ho=>hk b o (λhm=>?_) (Heap.get?_push_of_some _ ho),⟨_,rfl⟩,q _ ?_ λy hy=>?_⟩
  ·rw[List.mem_singleton.mp hm]at ho
   exact absurd (Heap.lt_size ho) (Nat.lt_irrefl _)
  ·generalize argBest _ (ns.length-1)=k at hb ⊢
   have hk':k<ns.length:=by have:=hb.1;omega
   rw[List.getD_eq_getElem?_getD,List.getElem?_eq_getElem hk']
   exact List.getElem_mem _
  ·obtain⟨j,hj,rfl⟩:=List.mem_iff_getElem.mp hy
   have:=hb.2 j (by omega)
   have e5:ns.getD j 0=ns[j]:=by rw[List.getD_eq_getElem?_getD,List.getElem?_eq_getElem hj];rfl
   rw[e5]at this
   exact this
end
end L2
namespace L2
open PySem PySem.Spec PyProof.Rows
open PySem.AutoSeq1 (wpAny_loadPart')
theorem iY{h:Heap}{l:Addr}{o:Obj}(e:o={cls:= .type "tuple_iterator",data:= .fields #[.ref l,.int 0 0]}):(h.push o).IsTupleIter h.objs.size l 0:=by
 subst e
 exact⟨_,Heap.get?_push_size _ rfl,rfl,rfl⟩
theorem dI(l:Addr)(items:Array Value)(n:Nat)(dct:Option Addr)(sl:Array (Option Value)):
  Meets (Builtin.«enumerate.__new__» ⟨[.type "enumerate",.ref l],[]⟩) (λ_ R s=>s.heap.get? l=some {cls:= .type "tuple",dict:=dct,data:= .seq items n,slots:=sl}/\
   R (.ok (.ret (.ref (s.heap.push {cls:= .type "tuple_iterator",data:= .fields #[.ref l,.int 0 0]}).objs.size)))
    {s with heap:=(s.heap.push {cls:= .type "tuple_iterator",data:= .fields #[.ref l,.int 0 0]}).push {cls:= .type "enumerate",data:= .fields #[.none,.bool false,.ref s.heap.objs.size,rawInt 0,.none,.none]}}):=
 .of_wp λprog w A R s h=>by
  obtain⟨hp,g,d,tk,os⟩:=s;obtain⟨hl,h⟩:=h
  have hsub:=sub_enumerate
  have hT:Heap.IsTuple (Shared.heap ⟨hp,g,d,tk,os⟩) l items:=⟨_,hl,rfl,n,rfl⟩
  wp_walk using wpAny_loadPart' hl
  refine wpAny_stack_any λst=>wpAny_pure ?_
  split
  ·rename_i c _ _ _ _ _
   cases(c==Value.type "enumerate")
   ·wp_walk using wpAny_loadPart' hl,wpAny_pyIter_tuple hT
    exact⟨_,rfl,h⟩
   ·wp_walk using wpAny_loadPart' hl,wpAny_pyIter_tuple hT
    exact⟨_,rfl,h⟩
  ·wp_walk using wpAny_loadPart' hl,wpAny_pyIter_tuple hT
   exact⟨_,rfl,h⟩
section
variable{prog:Program}{w:World}{A:Around}{E:Value->Shared->Prop}{s:Shared}
theorem cQ{l:Addr}{items:Array Value}{Q:Value->Shared->Prop}(hL:IsTup s.heap l items)
  (h:∀h',IsEnum h' (s.heap.objs.size+1) s.heap.objs.size 0 .none->h'.IsTupleIter s.heap.objs.size l 0->h'.objs.size=s.heap.objs.size+2->(∀b o,s.heap.get? b=some o->h'.get? b=some o)->Q (.ref (s.heap.objs.size+1)) {s with heap:=h'}):
  wpAny (model prog w) A (call (.type "enumerate") [.ref l]) Q E s:=by
 obtain⟨⟨c,dct,dt,sl⟩,hl,hc,n,hd⟩:=hL
 obtain rfl:c = .type "tuple":=hc
 obtain rfl:dt = .seq items n:=hd
 refine callType_new F.called_enumerate (by decide) (F.typeCall_enumerate_1 _) (F.newCall_enumerate_1 _) (λobj=>F.args_object_init_2 obj _) F.entry_enumerate_new (dI l items n dct sl) ⟨hl,?_⟩
 generalize hI:({cls:= .type "tuple_iterator",data:= .fields #[.ref l,.int 0 0]}:Obj)=oI
 have hti:=iY (h:=s.heap) hI.symm
 have hz:(s.heap.push oI).objs.size=s.heap.objs.size+1:=by unfold Heap.push;simp
 show _/\_
 rw[hz]
 have he:IsEnum ((s.heap.push oI).push {cls:= .type "enumerate",data:= .fields #[.none,.bool false,.ref s.heap.objs.size,rawInt 0,.none,.none]}) (s.heap.objs.size+1) s.heap.objs.size 0 .none:=by
  have q:=Heap.get?_push_size (s.heap.push oI) (o:={cls:= .type "enumerate",data:= .fields #[.none,.bool false,.ref s.heap.objs.size,rawInt 0,.none,.none]}) rfl
  rw[hz]at q
  exact q
 exact⟨⟨_,he,rfl⟩,h _ he (hti.at λo q=>Heap.get?_push_of_some _ q) (by unfold Heap.push;simp) λb o x=>Heap.get?_push_of_some _ (Heap.get?_push_of_some _ x)⟩
end
section
variable{X:Cx}
def IteT(K:PySem.W.Frag)(a:Addr):It:=
 ⟨λi H=>∃xs x,SqT K H a xs/\xs[i]?=some x,λi H x H'=>∃y t,(∀xs,SqT K H a xs->xs[i]?=some y)/\x = .ref t/\H t=none/\H'=upd H t (.tup [.int i,y]),λi H=>∃xs,SqT K H a xs/\xs.length=i⟩
theorem iV{P:Program}{w:World}{K:PySem.W.Frag}{elts:List Expr}{x1:Nat}{pos:Pos}(a it e:Addr)(hne:e≠it)(hae:a≠e)(hai:a≠it):Turn P w K (.Tuple elts x1 pos) (IteT K a) [e,it] e (λi h=>(∃old,IsEnum h e it i old)/\h.IsTupleIter it a i) where
 mem:=by simp
 obj:=λi h st b hb=>by
  obtain⟨⟨old,s1⟩,o,s2,c,d⟩:=st
  rcases List.mem_cons.mp hb with z|z
  ·subst z
   exact⟨_,s1,λv z=>by cases z⟩
  ·have e:=List.mem_singleton.mp z
   subst e
   exact⟨o,s2,λv z=>by rw[d]at z;cases z⟩
 keep:=λi h h' st k=>by
  obtain⟨⟨old,s1⟩,s2⟩:=st
  exact⟨⟨old,k e (by simp) _ s1⟩,s2.at λo q=>k it (by simp) o q⟩
 item:=by
  intro X hP hw hK hc i pins s σ H E I hf st hg
  subst hP hw hK
  obtain⟨xs,x,hq,hx⟩:=hg
  obtain⟨its,rv,p,hz⟩:=I.tuple hq
  obtain⟨u,hu,ru⟩:=rv.get hx
  have hil:i<its.length:=(List.getElem?_eq_some_iff.mp hu).1
  obtain⟨⟨old,s1⟩,s2⟩:=st
  refine wpAny_pyNext_enum_itemD (cx (prog:=X.prog) (w:=X.w) (A:=X.A.in1) (I.ok.hd hc) it a hai its.toArray) s1 ⟨s2,p⟩ (by simpa using hil) hne (by simp only[List.mem_cons,List.not_mem_nil,or_false,not_or];exact⟨hne,Ne.symm hae⟩) λu' h' tk hu' so si ht hsz kk=>?_
  have eu:u'=u:=by
   have:its[i]?=some u':=by simpa using hu'
   rw[hu]at this
   exact(Option.some.inj this).symm
  subst eu
  have lt:∀b o,s.heap.get? b=some o->b≠s.heap.objs.size:=λb o q=>Nat.ne_of_lt (Heap.lt_size q)
  have le:e≠s.heap.objs.size:=lt _ _ s1
  have li:it≠s.heap.objs.size:=by obtain⟨o,q,_⟩:=s2;exact lt _ _ q
  have hn:H s.heap.objs.size=none:=I.hok.fresh (Nat.le_refl _)
  have I0:Inv X pins σ (upd H s.heap.objs.size (.tup [.int i,x])) {s with heap:=s.heap.push {cls:= .type "tuple",data:= .seq #[.int i tk,u']},toks:=s.toks}:=
   I.laid (t':=s.toks) (λb o q=>Heap.get?_push_of_some _ q) (Nat.le_refl _) ⟨by show 2<=sizeLine;decide,[.int i tk,u'],.cons ⟨_,rfl⟩ (.cons ru .nil),⟨_,Heap.get?_push_size _ rfl,rfl,_,rfl⟩⟩
  have hf':∀b∈[e,it],FpOk X pins (upd H s.heap.objs.size (.tup [.int i,x])) b:=λb hb=>by
   have q:=hf b hb
   refine⟨?_,q.2⟩
   have hb':b≠s.heap.objs.size:=by
    rcases List.mem_cons.mp hb with z|z
    ·rw[z];exact le
    ·rw[List.mem_singleton.mp z];exact li
   rw[az hb']
   exact q.1
  have I1:Inv X pins σ (upd H s.heap.objs.size (.tup [.int i,x])) {s with heap:=h',toks:=tk+1}:=
   Inv.turnedL (s:={s with heap:=s.heap.push {cls:= .type "tuple",data:= .seq #[.int i tk,u']},toks:=s.toks}) I0 (fp:=[e,it]) (t':=tk+1) (λb o hb q=>by
    rcases bL q rfl with q|⟨rfl,rfl⟩
    ·exact kk b o (λz=>hb (by simp[z])) (λz=>hb (by simp[z])) q
    ·exact ht) hf'
  refine⟨_,rfl,wpAny_letOwnedTupleGo_enum (s:={s with heap:=h',toks:=tk+1}) so λh2 se sb=>?_⟩
  have I2:Inv X pins σ (upd H s.heap.objs.size (.tup [.int i,x])) {s with heap:=h2,toks:=tk+1}:=
   Inv.turnedL (s:={s with heap:=h',toks:=tk+1}) I1 (fp:=[e,it]) (t':=tk+1) (λb o hb q=>(sb.2 b (λz=>hb (by simp[z]))).trans q) hf'
  refine⟨.ref s.heap.objs.size,_,I2,rfl,⟨x,_,λys hy=>by rw[I.tuple_inj hy hq];exact hx,rfl,hn,rfl⟩,⟨⟨_,se⟩,si.1.at λo q=>(sb.2 it (Ne.symm hne)).trans q⟩,λb hb=>(hf' b hb).1⟩
 done:=by
  intro X hP hw hK hc i pins s σ H E I hf st hg
  subst hP hw hK
  obtain⟨xs,hq,hx⟩:=hg
  obtain⟨its,rv,p,hz⟩:=I.tuple hq
  obtain⟨⟨old,s1⟩,s2⟩:=st
  have hl:=rv.length
  have hii:i=its.toArray.size:=by rw[List.size_toArray];omega
  refine wpAny_pyNext_enum_endD (cx (prog:=X.prog) (w:=X.w) (A:=X.A.in1) (I.ok.hd hc) it a hai its.toArray) s1 ⟨by rw[<-hii];exact s2,p⟩ λh' eb=>⟨rfl,I.turnedL (fp:=[e,it]) (t':=s.toks) (λb o hb q=>eb b o (λz=>hb (by simp[z])) q) hf⟩
 self:=λ_ _ _ _ _ st h=>by
  obtain⟨⟨old,s1⟩,s2⟩:=st
  exact wpAny_pyIter_enum s1 h
def iEnumT(K:PySem.W.Frag)(ta:TA):TI:=λσ H R=>ta σ H λvs H1=>∃a,vs=[.ref a]/\(∃xs,SqT K H1 a xs)/\R (IteT K a) H1
theorem kL{elts:List Expr}{x1:Nat}{tpos:Pos}{a:Expr}{ta:TA}{p pos:Pos}(hg:Gl X "enumerate")(hm:X.mg "enumerate"=none)(ha:PA X [a] ta)(hs:starEach [a] X.env=[(false,eval a X.env)]:=by rfl):
  PI X (.Tuple elts x1 tpos) (.Call (.Name "enumerate" p) [a] [] pos) (iEnumT X.K ta):=by
 intro pins s σ H R I h
 refine Call_ (bS I hg hm PyProof.Rows.boot_enumerate (PyProof.Rows.callWith_type1 (thn (ha pos pins s σ H _ I h) λus s1 ⟨vs,H1,I1,r1,q1⟩=>?_) hs rfl))
 obtain⟨l,e,⟨xs,hq⟩,q⟩:=q1
 subst e
 cases r1 with
 | cons r rr=>
  cases rr
  cases r
  obtain⟨its,rv,pl,hz⟩:=I1.tuple hq
  have hll:=pl.lt
  refine cQ pl λh' se si hsz kk=>?_
  refine wpAny_pyIter_enum (s:={s1 with heap:=h'}) se ?_
  have I2:Inv X pins σ H1 {s1 with heap:=h'}:=I1.kept (t':=s1.toks) kk
  refine⟨_,[s1.heap.objs.size+1,s1.heap.objs.size],_,_,H1,rfl,I2,iV l _ _ (Nat.succ_ne_self _) (Nat.ne_of_lt (Nat.lt_succ_of_lt hll)) (Nat.ne_of_lt hll),⟨⟨_,se⟩,si⟩,λb hb=>?_,q⟩
  rcases List.mem_cons.mp hb with z|z
  ·subst z
   exact I1.fpOk (Nat.le_succ _) (I1.hok.fresh (Nat.le_succ _))
  ·rw[List.mem_singleton.mp z]
   exact I1.fpOk (Nat.le_refl _) (I1.hok.fresh (Nat.le_refl _))
end
theorem j7{K:PySem.W.Frag}{a:Addr}{xs:List V}{g:TG}{tb:TS}{D:Ends}{σ:St}{H:Hp}(Pv:Nat->St->Hp->Prop)(h0:Pv 0 σ H)(hl:∀i σ H,i<=xs.length->Pv i σ H->SqT K H a xs)
  (hs:∀i x σ H t,xs[i]?=some x->H t=none->Pv i σ H->g (.ref t) σ (upd H t (.tup [.int i,x])) λσ2 H2=>tb {D with nx:=Pv (i+1),ct:=Pv (i+1),bk:=D.nx} σ2 H2)(hd:∀σ H,Pv xs.length σ H->D.nx σ H):
  ∃W:Nat->Nat->St->Hp->Prop,(∃m,W 0 m σ H)/\∀i m σ H,W i m σ H->
   ((IteT K a).stop i H/\D.nx σ H)\/((IteT K a).go i H/\∃N:St->Hp->Prop,(∀σ' H',N σ' H'->∃m',m'<m/\W (i+1) m' σ' H')/\∀x H',(IteT K a).yld i H x H'->g x σ H' λσ2 H2=>tb {D with nx:=N,ct:=N,bk:=D.nx} σ2 H2):=by
 refine⟨λi m σ H=>m=xs.length-i/\i<=xs.length/\Pv i σ H,⟨xs.length,by simp,Nat.zero_le _,h0⟩,?_⟩
 rintro i m σ H ⟨rfl,hi,p⟩
 have q:=hl i σ H hi p
 by_cases hlt:i<xs.length
 ·refine .inr ⟨⟨xs,xs[i],q,by simp[hlt]⟩,Pv (i+1),λσ' H' p'=>⟨xs.length-(i+1),by omega,rfl,hlt,p'⟩,λx H' y=>?_⟩
  obtain⟨y',t,h1,rfl,h3,rfl⟩:=y
  exact hs i y' σ H t (h1 xs q) h3 p
 ·have e:i=xs.length:=by omega
  subst e
  exact .inl ⟨⟨xs,q,rfl⟩,hd σ H p⟩
end L2
namespace L2
open PySem PySem.Spec PyProof.Rows
def ni(l:List Nat):List Int:=l.map λ(x:Nat)=>(x:Int)
theorem aZ(l:List Nat):(ni l).length=l.length:=by unfold ni;simp
theorem eF{l:List Nat}{i:Nat}(h:i<l.length):((ni l).map V.int)[i]?=some (.int (l.getD i 0:Nat)):=by
 unfold ni
 rw[List.map_map,List.getElem?_map,List.getElem?_eq_getElem h,List.getD_eq_getElem?_getD,List.getElem?_eq_getElem h]
 rfl
theorem d4(l m:List Nat):ni (l++m)=ni l++ni m:=by unfold ni;rw[List.map_append]
structure Tw(n:Nat)(W:List (List Int))(T:Int)(Z:List (List Int)):Prop where
 w:Ws41 n W
 z:Tb31 n T Z
theorem Tw.ent{n:Nat}{W:List (List Int)}{T:Int}{Z:List (List Int)}(h:Tw n W T Z){p g:Nat}(hp:p<n)(hg:g<n):0<=HM.ent Z p g/\HM.ent Z p g<=T:=by
 have hpZ:p<Z.length:=by rw[h.z.reg.len];exact hp
 have hl:=h.z.reg.cols _ (List.getElem_mem hpZ)
 refine cM h.z.reg (List.getElem_mem hpZ) _ ?_
 unfold HM.ent
 rw[HM.getD_lt hpZ,HM.getD_lt (by omega)]
 exact List.getElem_mem _
theorem dB{K:PySem.W.Frag}{H:Hp}{T:Int}{us:List V}{Z:List (List Int)}{n:Nat}(hZ:Paired (RwFT K H T) us Z)(reg:HM.Reg n Z T){p g:Nat}(hp:p<n)(hg:g<n):
  ∃ra gs fa,us[p]?=some (.ref ra)/\SqT K H ra gs/\gs[g]?=some (.ref fa)/\SqT K H fa [.int (FQ.red (HM.ent Z p g) T).1,.int (FQ.red (HM.ent Z p g) T).2]:=by
 have hpZ:p<Z.length:=by rw[reg.len];exact hp
 have hl:=reg.cols _ (List.getElem_mem hpZ)
 obtain⟨u,hu,ra,gs,rfl,h1,h2⟩:=Paired.get hZ (List.getElem?_eq_getElem hpZ)
 have e:(fr T Z[p])[g]?=some (FQ.red (HM.ent Z p g) T):=by
  unfold fr HM.ent
  rw[List.getElem?_map,List.getElem?_eq_getElem (by omega),HM.getD_lt hpZ,HM.getD_lt (by omega)]
  rfl
 obtain⟨v,hv,fa,rfl,h3⟩:=Paired.get h2 e
 exact⟨ra,gs,fa,hu,h1,hv,h3⟩
def spChangers(P:Program)(w:World)(K:PySem.W.Frag):Sp:=λvs H Q _=>∃(a b f:Addr) (ws us:List V) (W Z:List (List Int)) (T c:Int) (n:Nat),vs=[.ref a,.ref b,.ref f]/\SqL K H a ws/\Paired (IsR K H) ws W/\SqL K H b us/\Paired (RwFT K H T) us Z/\Tw n W T Z/\
 SqT K H f [.int (FQ.red c T).1,.int (FQ.red c T).2]/\0<=c/\c<=T/\∀d C H',Same H H'->DictI keyR P w K H' d C->ChOk n W Z c C->Q (.ref d) H'
def spWayBack(P:Program)(w:World)(K:PySem.W.Frag):Sp:=λvs H Q _=>∃(d:Addr) (C:List (List Int×Int)) (s n:Nat),vs=[.ref d,.int s,.int n]/\DictI keyR P w K H d C/\s<n/\n<=6/\
 ((∀v,RG.Closed n (Edge C) v->v.getD 0 0=s->False)->∀H',Same H H'->Q .non H')/\
 ∀wy p H',Same H H'->H p=none->H' p=some (.lst ((ni wy).map V.int))->RG.Closed n (Edge C) wy->wy.getD 0 0=s->(∀v,RG.Closed n (Edge C) v->v.getD 0 0=s->wy.length<=v.length)->Q (.ref p) H'
structure ReachOk(n s:Nat)(R:List Int)(L:List (List Nat)):Prop where
 nd:R.Nodup
 bd:∀x∈R,0<=x/\x<(n:Int)
 mem:∀g:Nat,(g:Int)∈R↔g≠s/\∃u∈L,RG.lastD u=g
theorem ReachOk.start(n s:Nat):ReachOk n s [] [[s]]:=⟨List.nodup_nil,(λ_ h=>nomatch h),λg=>⟨λh=>(nomatch h),λ⟨h1,u,h2,h3⟩=>by
 rw[List.mem_singleton.mp h2]at h3
 exact absurd h3.symm h1⟩⟩
theorem ReachOk.len{n s:Nat}{R:List Int}{L:List (List Nat)}(h:ReachOk n s R L):R.length<=n:=EM.nodup_len n h.nd h.bd
theorem ReachOk.add{n s:Nat}{R:List Int}{L L2:List (List Nat)}{w:List Nat}{i:Nat}(h:ReachOk n s R L)(hi:i<n)(hs:i≠s)(hn:(i:Int)∉R)(hL:∀u,u∈L2↔u∈L\/u=w++[i]):ReachOk n s (R++[(i:Int)]) L2:=by
 refine⟨List.nodup_append.mpr ⟨h.nd,by simp,λx hx y hy z=>hn (by rw[List.mem_singleton.mp hy]at z;rw[<-z];exact hx)⟩,λx hx=>?_,λg=>?_⟩
 ·rcases List.mem_append.mp hx with z|z
  ·exact h.bd x z
  ·rw[List.mem_singleton.mp z];omega
 ·constructor
  ·intro hg
   rcases List.mem_append.mp hg with z|z
   ·obtain⟨h1,u,h2,h3⟩:=(h.mem g).mp z
    exact⟨h1,u,(hL u).mpr (.inl h2),h3⟩
   ·have e:g=i:=by have:=List.mem_singleton.mp z;omega
    subst e
    exact⟨hs,_,(hL _).mpr (.inr rfl),RG.lastD_snoc w g⟩
  ·rintro⟨h1,u,h2,h3⟩
   rcases(hL u).mp h2 with z|z
   ·exact List.mem_append_left _ ((h.mem g).mpr ⟨h1,u,z,h3⟩)
   ·rw[z,RG.lastD_snoc]at h3
    subst h3
    exact List.mem_append_right _ (List.mem_singleton.mpr rfl)
theorem jx{w:List Nat}(h:w≠[]):atI ((ni w).map V.int) (-1)=some (.int (RG.lastD w:Nat)):=by
 have hl:=RG.len_pos h
 have e:((ni w).map V.int)[w.length-1]?=some (.int (RG.lastD w:Nat)):=eF (by omega)
 have hlen:((ni w).map V.int).length=w.length:=by rw[List.length_map,aZ]
 unfold atI ixN
 rw[hlen,if_neg (by decide),if_pos (by omega),show(-1+(w.length:Int)).toNat=w.length-1 by omega]
 exact e
def IsTri(K:PySem.W.Frag)(H:Hp)(v:V)(x:Tri):Prop:=∃a,v = .ref a/\SqT K H a [.int x.1,.int x.2.1,.int x.2.2]
theorem IsTri.mono{K:PySem.W.Frag}{H H':Hp}{v:V}{x:Tri}(e:Same H H')(h:IsTri K H v x):IsTri K H' v x:=by
 obtain⟨a,rfl,q⟩:=h
 exact⟨a,rfl,e.tup q⟩
def spRingOf(P:Program)(w:World)(K:PySem.W.Frag):Sp:=λvs H Q _=>∃(d:Addr) (C:List (List Int×Int)) (W Z:List (List Int)) (c:Int) (n:Nat),vs=[.ref d,.int n]/\DictI keyR P w K H d C/\ChOk n W Z c C/\1<=n/\n<=6/\
 ((∀v,¬RG.Closed n (Edge C) v)->∀H',Same H H'->Q .non H')/\
 ∀R p ls H',Same H H'->H p=none->H' p=some (.lst ls)->Paired (IsTri K H') ls R->RingOk n W Z c R->Q (.ref p) H'
structure WayOk(n:Nat)(E:Nat->Nat->Prop)(k:Nat)(wy:List Nat):Prop where
 cl:RG.Closed n E wy
 hd:wy.getD 0 0=k
 mn:∀v,RG.Closed n E v->v.getD 0 0=k->wy.length<=v.length
def WayV(n:Nat)(E:Nat->Nat->Prop)(H:Hp)(k:Nat)(v:V):Prop:=(v = .non/\∀u,RG.Closed n E u->u.getD 0 0=k->False)\/∃wy p,v = .ref p/\H p=some (.lst ((ni wy).map V.int))/\WayOk n E k wy
theorem WayV.mono{n:Nat}{E:Nat->Nat->Prop}{H H':Hp}{k:Nat}{v:V}(e:Same H H')(h:WayV n E H k v):WayV n E H' k v:=by
 rcases h with h|⟨wy,p,h1,h2,h3⟩
 ·exact .inl h
 ·exact .inr ⟨wy,p,h1,e _ _ h2,h3⟩
def gifts(w:List Nat):List Nat:=w.drop 1++w.take 1
theorem jz{w:List Nat}(h:w≠[]):(gifts w).length=w.length:=by
 have:=RG.len_pos h
 unfold gifts
 rw[List.length_append,List.length_drop,List.length_take]
 omega
theorem ke{w:List Nat}(h:w≠[]){k:Nat}(hk:k<w.length):(gifts w).getD k 0=RG.nx w k:=by
 have hl:=RG.len_pos h
 unfold gifts
 by_cases c:k+1<w.length
 ·rw[RG.nx_lt c,RG.getD_app_l (by rw[List.length_drop];omega),RG.getD_drop,Nat.add_comm]
 ·rw[RG.nx_end c,RG.getD_app_r (by rw[List.length_drop];omega),List.length_drop,show k-(w.length-1)=0 by omega,RG.getD_take (by omega)]
theorem jF(w:List Nat):cutV ((ni w).map V.int) (some 1) none=(ni (w.drop 1)).map V.int:=by
 by_cases h:1<=w.length
 ·rw[show(1:Int)=((1:Nat):Int)from rfl,kl (by rw[List.length_map,aZ];exact h)]
  unfold ni
  rw[List.map_drop,List.map_drop]
 ·have:w=[]:=List.eq_nil_of_length_eq_zero (by omega)
  subst this
  rfl
theorem jQ{w:List Nat}(h:1<=w.length):cutV ((ni w).map V.int) none (some 1)=(ni (w.take 1)).map V.int:=by
 rw[show(1:Int)=((1:Nat):Int)from rfl,kQ (by rw[List.length_map,aZ];exact h)]
 unfold ni
 rw[List.map_take,List.map_take]
theorem Paired.mapR{α β γ:Type}{F:α->β->Prop}{G:α->γ->Prop}{g:β->γ}(h:∀x y,F x y->G x (g y)):∀{xs:List α} {ys:List β},Paired F xs ys->Paired G xs (ys.map g)
 | _,_,.nil=> .nil
 | _,_,.cons a t=> .cons (h _ _ a) (Paired.mapR h t)
theorem RingOk.len{n:Nat}{W Z:List (List Int)}{c:Int}{R:List Tri}(h:RingOk n W Z c R):R.length<=n:=by
 have h2:=EM.nodup_len n (l:=ni (R.map Prod.fst)) (List.pairwise_map.mpr (h.once.imp λhab z=>hab (by omega))) (λx hx=>by
  unfold ni at hx
  obtain⟨y,hy,rfl⟩:=List.mem_map.mp hx
  obtain⟨t,ht,rfl⟩:=List.mem_map.mp hy
  have:=(h.can t ht).hp
  omega)
 rw[aZ,List.length_map]at h2
 exact h2
theorem RingOk.ne{n:Nat}{W Z:List (List Int)}{c:Int}{R:List Tri}(h:RingOk n W Z c R):R≠[]:=λz=>by have:=h.two;rw[z]at this;simp at this
def stepR(Z:List (List Int))(R:List Tri):Int:=HM.minL (R.map λx=>HM.ent Z x.1 x.2.1)
theorem eI{n:Nat}{W Z:List (List Int)}{c:Int}{R:List Tri}(h:RingOk n W Z c R):c<stepR Z R/\(∀x∈R,stepR Z R<=HM.ent Z x.1 x.2.1)/\∃x∈R,stepR Z R=HM.ent Z x.1 x.2.1:=by
 have hne:(R.map λx=>HM.ent Z x.1 x.2.1)≠[]:=λz=>h.ne (List.map_eq_nil_iff.mp z)
 obtain⟨m1,m2⟩:=HM.minL_ok hne
 obtain⟨x,hx,e⟩:=List.mem_map.mp m1
 have e2:stepR Z R=HM.ent Z x.1 x.2.1:=e.symm
 exact⟨by rw[e2];exact(h.can x hx).sh,λy hy=>m2 _ (List.mem_map.mpr ⟨y,hy,rfl⟩),x,hx,e2⟩
def spStepOf(K:PySem.W.Frag):Sp:=λvs H Q _=>∃(b r:Addr) (us ls:List V) (W Z:List (List Int)) (T c:Int) (n:Nat) (R:List Tri),vs=[.ref b,.ref r]/\SqL K H b us/\Paired (RwFT K H T) us Z/\Tw n W T Z/\SqL K H r ls/\Paired (IsTri K H) ls R/\RingOk n W Z c R/\
 ∀v H',Same H H'->IsF K H' v (FQ.red (stepR Z R) T)->Q v H'
def spWidest(P:Program)(w:World)(K:PySem.W.Frag):Sp:=λvs H Q _=>∃(a b:Addr) (ws us:List V) (W Z:List (List Int)) (T:Int) (n:Nat),vs=[.ref a,.ref b]/\SqL K H a ws/\Paired (IsR K H) ws W/\SqL K H b us/\Paired (RwFT K H T) us Z/\Tw n W T Z/\
 ((∀v,¬RG.Closed n (Edge0 n W Z) v)->∀H',Same H H'->Q .non H')/\∀R p ls H',Same H H'->H p=none->H' p=some (.lst ls)->Paired (IsTri K H') ls R->RingOk n W Z 0 R->Q (.ref p) H'
def RingV(K:PySem.W.Frag)(H0 H:Hp)(n:Nat)(W Z:List (List Int))(c:Int)(v:V):Prop:=∃R p ls,v = .ref p/\H0 p=none/\H p=some (.lst ls)/\Paired (IsTri K H) ls R/\RingOk n W Z c R
theorem RingV.mono{K:PySem.W.Frag}{H0 H H':Hp}{n:Nat}{W Z:List (List Int)}{c c':Int}{v:V}(h:RingV K H0 H n W Z c v)(e:Same H H')(hc:c'<=c):RingV K H0 H' n W Z c' v:=by
 obtain⟨R,p,ls,h1,h2,h3,h4,h5⟩:=h
 exact⟨R,p,ls,h1,h2,e _ _ h3,Paired.mapP h4 λ_ _ q=>q.mono e,h5.mono hc⟩
def spRowB(K:PySem.W.Frag):Sp:=λvs H Q _=>∃(r w:Addr) (gs:List V) (m:List Int) (g t:Nat) (T x:Int),vs=[.ref r,.int g,.int t,.ref w]/\SqT K H r gs/\Paired (IsF K H) gs (fr T m)/\IsF K H (.ref w) (FQ.red x T)/\(0<T/\T<2^80)/\g<m.length/\t<m.length/\g≠t/\m.length<=6/\(∀y∈m,0<=y/\y<=T)/\(0<=x/\x<=T)/\
 ∀v H',Same H H'->RwFT K H' T v (moveR m g t x)->Q v H'
def spTabB(K:PySem.W.Frag):Sp:=λvs H Q _=>∃(b r:Addr) (us ls:List V) (W Z:List (List Int)) (T:Int) (n:Nat) (R:List Tri),vs=[.ref b,.ref r]/\SqL K H b us/\Paired (RwFT K H T) us Z/\Tw n W T Z/\SqL K H r ls/\Paired (IsTri K H) ls R/\RingOk n W Z 0 R/\
 ∀p us' H',Same H H'->H p=none->H' p=some (.lst us')->Paired (RwFT K H' T) us' (behind Z (stepR Z R) R R.length)->Q (.ref p) H'
def spKept(P:Program)(w:World)(K:PySem.W.Frag):Sp:=λvs H Q _=>∃(d l:Addr) (C:List (List Int×Int)) (ts:List Nat) (g:Nat),vs=[.int g,.ref l,.ref d]/\DictI keyR P w K H d C/\SqL K H l ((ni ts).map V.int)/\ts.length<=60/\
 ∀H',Same H H'->Q (.bl (!(ts.any λt=>(look C [(g:Int),(t:Int)]).isSome))) H'
def spFirstK(P:Program)(w:World)(K:PySem.W.Frag):Sp:=λvs H Q _=>∃(d l:Addr) (C:List (List Int×Int)) (ts:List Nat),vs=[.ref l,.ref d]/\DictI keyR P w K H d C/\SqL K H l ((ni ts).map V.int)/\ts.length<=60/\(∃g∈ts,∀t∈ts,¬Edge C g t)/\
 ∀(g:Nat) H',g∈ts->(∀t∈ts,¬Edge C g t)->Same H H'->Q (.int g) H'
def spOrderOf(P:Program)(w:World)(K:PySem.W.Frag):Sp:=λvs H Q _=>∃(d:Addr) (C:List (List Int×Int)) (n:Nat),vs=[.ref d,.int n]/\DictI keyR P w K H d C/\n<=6/\(∀v,¬RG.Closed n (Edge C) v)/\
 ∀os p H',Same H H'->H p=none->H' p=some (.lst ((ni os).map V.int))->RG.Ord n (Edge C) os []->Q (.ref p) H'
def WI(K:PySem.W.Frag)(H0 H:Hp)(n:Nat)(W Z:List (List Int))(T:Int)(m:Nat)(v2 v3:V):Prop:=
 (v3 = .non/\m=0/\((v2 = .non/\∀v,¬RG.Closed n (Edge0 n W Z) v)\/RingV K H0 H n W Z 0 v2))\/∃c,0<=c/\c<=T/\RingV K H0 H n W Z c v3/\m=(T-c).toNat+1
theorem RwFT.over{K:PySem.W.Frag}{H:Hp}{T:Int}{v:V}{p:Addr}{ys zs:List V}{m:List Int}(h:RwFT K H T v m)(hp:H p=some (.lst ys)):RwFT K (upd H p (.lst zs)) T v m:=by
 obtain⟨a,gs,rfl,h1,h2⟩:=h
 exact⟨a,gs,rfl,cg h1 hp,Paired.mapP h2 λ_ _ h=>h.over hp⟩
theorem lM(T:Int)(m:List Int)(g t:Nat)(x:Int):fr T (moveR m g t x)=((fr T m).set g (FQ.red (m.getD g 0-x) T)).set t (FQ.red (m.getD t 0+x) T):=by
 unfold fr moveR
 rw[List.map_set,List.map_set]
theorem fT(ts:List Nat)(g:Nat):(ni ts).erase (g:Int)=ni (ts.erase g):=by
 unfold ni
 induction ts with
 | nil=>rfl
 | cons a l ih=>
  rw[List.map_cons]
  by_cases c:a=g
  ·subst c;simp
  ·rw[List.erase_cons_tail (by simpa using(show(a:Int)≠g by omega)),ih,List.erase_cons_tail (by simpa using c),List.map_cons]
theorem cj{ts:List Nat}{g:Nat}:(g:Int)∈ni ts↔g∈ts:=by
 unfold ni
 rw[List.mem_map]
 exact⟨λ⟨x,h,e⟩=>(show x=g by omega)▸h,λh=>⟨g,h,rfl⟩⟩
theorem Ord.mono{n:Nat}{E E':Nat->Nat->Prop}{os ts:List Nat}(h:RG.Ord n E os ts)(hE:∀g t,E' g t->E g t):RG.Ord n E' os ts:=⟨h.pm,λi hi t ht he=>h.ed i hi t ht (hE _ _ he)⟩
structure RO0(K:PySem.W.Frag)(H0 H:Hp)(n:Nat)(W Z:List (List Int))(v:V)(o:Addr)(os:List Nat):Prop where
 at':∃a,v = .ref a/\SqT K H a [.bl true,.ref o]
 fr:H0 o=none
 ls:H o=some (.lst ((ni os).map V.int))
 ok:RG.Ord n (Edge0 n W Z) os []
structure RO1(K:PySem.W.Frag)(H0 H:Hp)(n:Nat)(W Z:List (List Int))(T:Int)(v:V)(pr r t:Addr)(R:List Tri)(ls us:List V):Prop where
 at':∃a,v = .ref a/\SqT K H a [.bl false,.ref pr]
 pr:SqT K H pr [.ref r,.ref t]
 fr:H0 r=none
 ft:H0 t=none
 ne:r≠t
 lr:H r=some (.lst ls)
 tr:Paired (IsTri K H) ls R
 ok:RingOk n W Z 0 R
 lt:H t=some (.lst us)
 rw':Paired (RwFT K H T) us (behind Z (stepR Z R) R R.length)
def spRO(K:PySem.W.Frag):Sp:=λvs H Q _=>∃(a b:Addr) (ws us:List V) (W Z:List (List Int)) (T:Int) (n:Nat),vs=[.ref a,.ref b]/\SqL K H a ws/\Paired (IsR K H) ws W/\SqL K H b us/\Paired (RwFT K H T) us Z/\Tw n W T Z/\
 ((∀v,¬RG.Closed n (Edge0 n W Z) v)->∀v o os H',Same H H'->RO0 K H H' n W Z v o os->Q v H')/\
 ∀v pr r t R ls us' H',Same H H'->RO1 K H H' n W Z T v pr r t R ls us'->Q v H'
theorem eG{z T:Int}(hT:0<T):0<(FQ.red z T).1↔0<z:=by
 have hT0:T≠0:=by omega
 have low:=FQ.red_low (t:=z) hT0
 have h5:=FQ.red_worth (t:=z) hT0
 constructor
 ·intro y
  refine Classical.byContradiction λx=>?_
  have h6:=Int.mul_pos y hT
  have h7:=Int.mul_le_mul_of_nonneg_right (show z<=0 by omega) (Int.le_of_lt low.pos)
  rw[Int.zero_mul]at h7
  omega
 ·intro y
  refine Classical.byContradiction λx=>?_
  have h6:=Int.mul_pos y low.pos
  have h7:=Int.mul_le_mul_of_nonneg_right (show(FQ.red z T).1<=0 by omega) (Int.le_of_lt hT)
  rw[Int.zero_mul]at h7
  omega
theorem kN(os:List Nat)(x:Nat):(ni os).idxOf (x:Int)=os.idxOf x:=by
 unfold ni
 induction os with
 | nil=>rfl
 | cons a l ih=>
  rw[List.map_cons,List.idxOf_cons,List.idxOf_cons,ih]
  by_cases c:a=x
  ·subst c;simp
  ·have:(a:Int)≠x:=by omega
   rw[show((a:Int)==(x:Int))=false from beq_false_of_ne this,show(a==x)=false from beq_false_of_ne c]
theorem mf{n:Nat}{E:Nat->Nat->Prop}{os:List Nat}(h:RG.Ord n E os []):LN.Pm n (ni os):=by
 have hp:os.Perm (List.range n):=by have:=h.pm;rwa[List.append_nil]at this
 exact List.Perm.map (λ(x:Nat)=>(x:Int)) hp
def spOrdH(K:PySem.W.Frag):Sp:=λvs H Q _=>∃(a b o:Addr) (ws us:List V) (W Z:List (List Int)) (T:Int) (n:Nat) (os:List Nat),vs=[.ref a,.ref b,.ref o]/\SqL K H a ws/\Paired (IsRF K H) ws W/\SqL K H b us/\Paired (RwFT K H T) us Z/\Tw n W T Z/\H o=some (.lst ((ni os).map V.int))/\RG.Ord n (Edge0 n W Z) os []/\
 ∀H',Same H H'->Q (.bl true) H'
def spRingH(K:PySem.W.Frag):Sp:=λvs H Q _=>∃(a b r:Addr) (ws us ls:List V) (W Z:List (List Int)) (T:Int) (n:Nat) (R:List Tri),vs=[.ref a,.ref b,.ref r]/\SqL K H a ws/\Paired (IsRF K H) ws W/\SqL K H b us/\Paired (RwFT K H T) us Z/\Tw n W T Z/\SqL K H r ls/\Paired (IsTri K H) ls R/\RingOk n W Z 0 R/\
 ∀H',Same H H'->Q (.bl true) H'
end L2
namespace L2
open PySem PySem.Spec PyProof.Rows
theorem fv{f:Int->Bool}{b g:Int}{r:List Int}:∀{row:List Int},row.Nodup->row.filter f=b::r->g∈row->f g=true->g≠b->row.idxOf b<row.idxOf g
 | [],_,h,_,_,_=>by cases h
 | a::l,hn,h,hg,hf,hne=>by
  obtain⟨n1,n2⟩:=List.nodup_cons.mp hn
  by_cases c:f a=true
  ·rw[List.filter_cons_of_pos c]at h
   have e:a=b:=by injection h
   subst e
   rw[List.idxOf_cons_self,List.idxOf_cons,show(a==g)=false from beq_false_of_ne (Ne.symm hne)]
   exact Nat.succ_pos _
  ·rw[List.filter_cons_of_neg c]at h
   have hga:g≠a:=λz=>c (z▸hf)
   have hba:b≠a:=λz=>by
    have:b∈l.filter f:=by rw[h];exact List.mem_cons_self
    exact n1 (z▸(List.mem_filter.mp this).1)
   have hg':g∈l:=by rcases List.mem_cons.mp hg with e|e;exact absurd e hga;exact e
   have ih:=fv n2 h hg' hf hne
   rw[List.idxOf_cons,List.idxOf_cons,show(a==b)=false from beq_false_of_ne (Ne.symm hba),show(a==g)=false from beq_false_of_ne (Ne.symm hga)]
   simpa using ih
def leftF(row:List Int)(ts:List Nat):List Int:=row.filter λt=>decide (t∈ni ts)
def bestIn(row:List Int)(ts:List Nat):Int:=(leftF row ts).getD 0 0
structure ByT(n:Nat)(d:List Int)(ps ts:List Nat):Prop where
 pn:ps.Nodup
 pb:∀p∈ps,p<n
 tn:ts.Nodup
 tb:∀t∈ts,t<n
 to:∀p∈ps,∃t∈ts,d.getD p 0=(t:Nat)
 fr:∀t∈ts,∃p∈ps,d.getD p 0=(t:Nat)
theorem ByT.start{n:Nat}{d:List Int}(h:LN.Pm n d):ByT n d (List.range n) (List.range n):=by
 have hl:=h.len
 refine⟨List.nodup_range,λp hp=>List.mem_range.mp hp,List.nodup_range,λt ht=>List.mem_range.mp ht,λp hp=>?_,λt ht=>?_⟩
 ·have hp':=List.mem_range.mp hp
  have:=h.mem.mp (show d.getD p 0∈d by rw[HM.getD_lt (by omega)];exact List.getElem_mem _)
  exact⟨(d.getD p 0).toNat,List.mem_range.mpr (by omega),by omega⟩
 ·have ht':=List.mem_range.mp ht
  obtain⟨p,hp,e⟩:=List.mem_iff_getElem.mp (h.mem.mpr (show(0:Int)<=(t:Int)/\(t:Int)<n by omega))
  exact⟨p,List.mem_range.mpr (by omega),by rw[HM.getD_lt hp,e]⟩
theorem ByT.step{n:Nat}{d:List Int}{ps ts:List Nat}(hd:LN.Pm n d)(h:ByT n d ps ts){p t:Nat}(hp:p∈ps)(ht:d.getD p 0=(t:Int)):ByT n d (ps.erase p) (ts.erase t):=by
 have hl:=hd.len
 refine⟨h.pn.erase p,λq hq=>h.pb q (List.mem_of_mem_erase hq),h.tn.erase t,λu hu=>h.tb u (List.mem_of_mem_erase hu),λq hq=>?_,λu hu=>?_⟩
 ·obtain⟨hne,hq'⟩:=(h.pn.mem_erase_iff).mp hq
  obtain⟨u,hu,e⟩:=h.to q hq'
  refine⟨u,(h.tn.mem_erase_iff).mpr ⟨λz=>hne ?_,hu⟩,e⟩
  have hpn:=h.pb p hp
  have hqn:=h.pb q hq'
  have e2:d.getD q 0=d.getD p 0:=by rw[e,ht,z]
  rw[HM.getD_lt (by omega),HM.getD_lt (by omega)]at e2
  exact(List.getElem_inj hd.nodup).mp e2
 ·obtain⟨hne,hu'⟩:=(h.tn.mem_erase_iff).mp hu
  obtain⟨q,hq,e⟩:=h.fr u hu'
  refine⟨q,(h.pn.mem_erase_iff).mpr ⟨λz=>hne ?_,hq⟩,e⟩
  rw[z,ht]at e
  omega
theorem ByT.ready{n:Nat}{W Z:List (List Int)}{d:List Int}{ps ts:List Nat}(hw:Ws41 n W)(hno:∀v,¬RG.Closed n (Edge0 n W Z) v)(hpos:∀p,p<n->0<HM.ent Z p (d.getD p 0).toNat)(h:ByT n d ps ts)(hne:ps≠[]):
  ∃p∈ps,bestIn (W.getD p []) ts=d.getD p 0:=by
 obtain⟨p0,hp0⟩:=List.exists_mem_of_ne_nil ps hne
 obtain⟨t0,ht0,_⟩:=h.to p0 hp0
 obtain⟨g,hg,hk⟩:=RG.kept_ex hno (λz=>by rw[z]at ht0;cases ht0) h.tb
 obtain⟨p,hp,e⟩:=h.fr g hg
 refine⟨p,hp,?_⟩
 have hpn:=h.pb p hp
 have hpW:p<W.length:=by rw[hw.len];exact hpn
 have hpm:LN.Pm n (W.getD p []):=by rw[HM.getD_lt hpW];exact hw.pm _ (List.getElem_mem hpW)
 have hgn:=h.tb g hg
 have hgr:(g:Int)∈W.getD p []:=hpm.mem.mpr ⟨by omega,by omega⟩
 have hgf:decide ((g:Int)∈ni ts)=true:=decide_eq_true (cj.mpr hg)
 have hm:(g:Int)∈leftF (W.getD p []) ts:=List.mem_filter.mpr ⟨hgr,hgf⟩
 rw[e]
 unfold bestIn
 cases hf:leftF (W.getD p []) ts with
 | nil=>rw[hf]at hm;cases hm
 | cons b r=>
  show b=(g:Int)
  refine Classical.byContradiction λc=>?_
  have hlt:=fv hpm.nodup hf hgr hgf (Ne.symm c)
  have hbm:b∈leftF (W.getD p []) ts:=by rw[hf];exact List.mem_cons_self
  obtain⟨b1,b2⟩:=List.mem_filter.mp hbm
  have bb:=hpm.mem.mp b1
  have hbt:=of_decide_eq_true b2
  obtain⟨bn,rfl⟩:∃bn:Nat,b=bn:=⟨b.toNat,by omega⟩
  have hs:=hpos p hpn
  rw[e]at hs
  exact hk bn (cj.mp hbt) ⟨p,hpn,hgn,by omega,hs,hlt⟩
def spByT(K:PySem.W.Frag):Sp:=λvs H Q _=>∃(a l:Addr) (ws:List V) (W Z:List (List Int)) (n:Nat) (d:List Int),vs=[.ref a,.ref l]/\SqL K H a ws/\Paired (IsR K H) ws W/\Ws41 n W/\SqT K H l (d.map V.int)/\LN.Pm n d/\(∀v,¬RG.Closed n (Edge0 n W Z) v)/\(∀p,p<n->0<HM.ent Z p (d.getD p 0).toNat)/\
 ∀H',Same H H'->Q (.bl true) H'
end L2
namespace L2
open PySem PySem.Spec PyProof.Rows TM
theorem lE{n k j:Nat}{T:Int}{Z:List (List Int)}(tb:Tb31 n T Z)(hf:HM.Fin Z T k)(hj:j<k):LN.Pm n (HM.lotAt Z T j).2/\∀p,p<n->0<HM.ent Z p ((HM.lotAt Z T j).2.getD p 0).toNat:=by
 have I:=HM.it_ok tb.reg tb.t0 tb.lo k hf.2
 have S:=I.lots j hj
 have J:=HM.it_ok tb.reg tb.t0 tb.lo j λi hi=>hf.2 i (by omega)
 refine⟨S.pm,λp hp=>?_⟩
 have h1:=S.le p hp
 have h2:=S.w1
 have h3:0<=HM.sm j λi=>if((HM.lotAt Z T i).2.getD p 0).toNat=((HM.lotAt Z T j).2.getD p 0).toNat then(HM.lotAt Z T i).1 else 0:=by
  have:=HM.sm_le (n:=j) (f:=λ_=>0) (g:=λi=>if((HM.lotAt Z T i).2.getD p 0).toNat=((HM.lotAt Z T j).2.getD p 0).toNat then(HM.lotAt Z T i).1 else 0) λi hi=>by
   have:=(J.lots i hi).w1
   show(0:Int)<=if _ then HM.wOf (HM.it Z T i).1 else 0
   split <;> omega
  rwa[HM.sm_zero]at this
 rw[J.ent p hp]
 show 0<HM.ent (HM.it Z T j).1 p ((HM.dealOf (HM.it Z T j).1).getD p 0).toNat+_
 omega
theorem kX{f:Nat->Int}:∀{n:Nat} {l:List Int},l.length=n->(∀i,i<n->l.getD i 0=f i)->l.sum=HM.sm n f:=by
 intro n
 induction n with
 | zero=>intro l hl _;rw[List.eq_nil_of_length_eq_zero hl];rfl
 | succ n ih=>
  intro l hl h
  have hne:l≠[]:=λz=>by rw[z]at hl;cases hl
  have e:l.dropLast++[l.getLast hne]=l:=List.dropLast_concat_getLast hne
  have hdl:l.dropLast.length=n:=by rw[List.length_dropLast,hl];rfl
  show l.sum=HM.sm n f+f n
  rw[<-ih hdl λi hi=>?_,<-h n (Nat.lt_succ_self n)]
  ·conv=>lhs;rw[<-e]
   have e2:l.getD n 0=l.getLast hne:=by
    conv=>lhs;rw[<-e]
    rw[List.getD_eq_getElem?_getD,List.getElem?_append_right (by omega),hdl,Nat.sub_self]
    rfl
   rw[e2,List.sum_append]
   simp
  ·rw[<-h i (by omega)]
   conv=>rhs;rw[<-e]
   rw[List.getD_eq_getElem?_getD,List.getD_eq_getElem?_getD,List.getElem?_append_left (by omega)]
theorem lY{n:Nat}{T:Int}{Z:List (List Int)}(z:Tb31 n T Z):LM.OkT Z T:=by
 have hl:=z.reg.len
 refine⟨by rw[hl];exact z.lo,by rw[hl];exact z.hi,λr hr=>by rw[hl];exact z.reg.cols r hr,λr hr=>cM z.reg hr,λr hr=>?_,λj hj=>?_⟩
 ·obtain⟨p,hp,rfl⟩:=List.mem_iff_getElem.mp hr
  rw[kX (f:=HM.ent Z p) (z.reg.cols _ hr) λi _=>by unfold HM.ent;rw[HM.getD_lt hp],z.reg.row p (by omega)]
 ·rw[kX (f:=λi=>HM.ent Z i j) (n:=n) (by rw[List.length_map,hl]) λi hi=>?_,z.reg.col j (by omega)]
  unfold HM.ent
  have hiZ:i<Z.length:=by omega
  rw[HM.getD_lt (l:=Z.map λr=>r.getD j 0) (by rw[List.length_map];exact hiZ),List.getElem_map,HM.getD_lt hiZ]
theorem mF{n:Nat}{T:Int}{Z:List (List Int)}(z:Tb31 n T Z):∀r∈Z,LM.Bd 90 r/\r.length<=60:=λr hr=>by
 refine⟨λx hx=>?_,by have:=z.reg.cols r hr;have:=z.hi;omega⟩
 have h1:=cM z.reg hr x hx
 have h2:=z.t1
 have h3:(x.natAbs:Int)<2^90:=by omega
 exact_mod_cast h3
def spTotG(K:PySem.W.Frag):Sp:=λvs H Q _=>∃(a:Addr) (gs:List V) (ps:List (Int×Int)),vs=[.ref a]/\(SqL K H a gs\/SqT K H a gs)/\Paired (IsF K H) gs ps/\(∀i,Sz 4000 (totF (ps.take i)))/\(∀p∈ps,Sz 4000 p)/\∀v H',Same H H'->IsF K H' v (totF ps)->Q v H'
theorem mD{K:PySem.W.Frag}{vs:List V}{H:Hp}{Q:VK}{E:XK}(h:spTotal K vs H Q E):spTotG K vs H Q E:=by
 obtain⟨a,gs,m,T,rfl,hq,hg,⟨hT,hT2⟩,hB,hl,q⟩:=h
 have hT0:T≠0:=by omega
 have zT:T.natAbs<2^100:=by omega
 refine⟨a,gs,fr T m,rfl,hq,hg,λi=>?_,λp hp=>?_,λv H' S h=>q v H' S ?_⟩
 ·have e:(fr T m).take i=fr T (m.take i):=by unfold fr;rw[List.map_take]
  rw[e,jc hT0]
  exact ba hT0 (dQ ((hB.take i).sum (by rw[List.length_take];omega)) (by decide)) zT
 ·unfold fr at hp
  obtain⟨z,hz,rfl⟩:=List.mem_map.mp hp
  exact ba hT0 (dQ (hB z hz) (by decide)) zT
 ·rwa[jc hT0]at h
end L2
namespace L2
open PySem PySem.Spec PyProof.Rows TM
def dl(x:Tri)(m:Int)(t:Nat):Int:=(if t=x.2.2 then m else 0)-if t=x.2.1 then m else 0
theorem jY{r:List Int}{g t:Nat}{m:Int}(hg:g<r.length)(ht:t<r.length)(hne:g≠t)(j:Nat):(moveR r g t m).getD j 0=r.getD j 0+((if j=t then m else 0)-if j=g then m else 0):=by
 unfold moveR
 rw[List.getD_eq_getElem?_getD,List.getElem?_set,List.getElem?_set]
 by_cases e1:t=j
 ·subst e1
  rw[if_pos rfl,if_pos (by rw[List.length_set];exact ht),if_pos rfl,if_neg (λz=>hne z.symm)]
  show r.getD t 0+m=_
  omega
 ·rw[if_neg e1]
  have e3:¬j=t:=λz=>e1 z.symm
  by_cases e2:g=j
  ·subst e2
   rw[if_pos rfl,if_pos hg,if_neg e3,if_pos rfl]
   show r.getD g 0-m=_
   omega
  ·rw[if_neg e2,if_neg e3,if_neg (λz=>e2 z.symm),<-List.getD_eq_getElem?_getD]
   omega
section
variable{n:Nat}{W Z:List (List Int)}{T m:Int}{R:List Tri}
theorem jq{c:Int}{p g t:Nat}(h:Can n W Z c p g t):g≠t:=λz=>by have:=h.lk;rw[z]at this;omega
theorem db(h:RingOk n W Z 0 R)(reg:HM.Reg n Z T){k:Nat}{x:Tri}(hx:R[k]?=some x)(p t:Nat):HM.ent (behind Z m R (k+1)) p t=HM.ent (behind Z m R k) p t+if p=x.1 then dl x m t else 0:=by
 have hc:=h.can x (List.mem_of_getElem? hx)
 have hl:x.1<(behind Z m R k).length:=by rw[bD,reg.len];exact hc.hp
 have hpZ:x.1<Z.length:=by rw[reg.len];exact hc.hp
 unfold HM.ent
 rw[bw hx]
 by_cases e:p=x.1
 ·subst e
  have own:=fh (m:=m) (Z:=Z) h.once hx
  have e1:((behind Z m R k).set x.1 (moveR (Z.getD x.1 []) x.2.1 x.2.2 m)).getD x.1 []=moveR (Z.getD x.1 []) x.2.1 x.2.2 m:=by
   rw[List.getD_eq_getElem?_getD,List.getElem?_set_self hl]
   rfl
  have e2:(behind Z m R k).getD x.1 []=Z.getD x.1 []:=by rw[List.getD_eq_getElem?_getD,own,<-List.getD_eq_getElem?_getD]
  have hrl:(Z.getD x.1 []).length=n:=by rw[HM.getD_lt hpZ];exact reg.cols _ (List.getElem_mem hpZ)
  rw[e1,e2,if_pos rfl,jY (by rw[hrl];exact hc.hg) (by rw[hrl];exact hc.ht) (jq hc)]
  rfl
 ·rw[if_neg e,Int.add_zero,List.getD_eq_getElem?_getD (l:=List.set _ _ _),List.getElem?_set_ne (λz=>e z.symm),<-List.getD_eq_getElem?_getD]
theorem l5{x:Tri}{c:Int}(hc:Can n W Z c x.1 x.2.1 x.2.2):HM.sm n (λt=>dl x m t)=0:=by
 unfold dl
 have e:HM.sm n (λt=>(if t=x.2.2 then m else 0)-if t=x.2.1 then m else 0)=HM.sm n (λt=>(if t=x.2.2 then m else 0)+if t=x.2.1 then -m else 0):=HM.sm_congr λt _=>by
  by_cases c:t=x.2.1
  ·rw[if_pos c,if_pos c];omega
  ·rw[if_neg c,if_neg c];omega
 rw[e,HM.sm_add,dY hc.ht,dY hc.hg]
 omega
theorem fu(h:RingOk n W Z 0 R)(reg:HM.Reg n Z T){p:Nat}(hp:p<n):∀k,k<=R.length->HM.sm n (HM.ent (behind Z m R k) p)=T
 | 0,_=>reg.row p hp
 | k+1,hk=>by
  have hx:R[k]?=some R[k]:=List.getElem?_eq_getElem hk
  have ih:=fu h reg hp k (by omega)
  rw[HM.sm_congr λt _=>db h reg hx p t,HM.sm_add (HM.ent (behind Z m R k) p),ih]
  by_cases e:p=R[k].1
  ·rw[HM.sm_congr (g:=λt=>dl R[k] m t) λt _=>by rw[if_pos e],l5 (h.can _ (List.getElem_mem hk))]
   omega
  ·rw[HM.sm_congr (g:=λ_=>0) λt _=>by rw[if_neg e],HM.sm_zero]
   omega
theorem fb(h:RingOk n W Z 0 R)(reg:HM.Reg n Z T){t:Nat}(ht:t<n):∀k,k<=R.length->HM.sm n (λp=>HM.ent (behind Z m R k) p t)=T+HM.sm k λj=>dl (R.getD j (0,0,0)) m t
 | 0,_=>by
  show HM.sm n (λp=>HM.ent Z p t)=T+0
  rw[reg.col t ht]
  omega
 | k+1,hk=>by
  have hx:R[k]?=some R[k]:=List.getElem?_eq_getElem hk
  have ih:=fb h reg ht k (by omega)
  have hc:=h.can _ (List.getElem_mem hk)
  rw[HM.sm_congr λp _=>db h reg hx p t,HM.sm_add (λp=>HM.ent (behind Z m R k) p t),ih,dY hc.hp]
  show _=T+(HM.sm k _+dl (R.getD k (0,0,0)) m t)
  rw[List.getD_eq_getElem?_getD,hx]
  show _=T+(_+dl R[k] m t)
  omega
theorem jH(f:Nat->Int):∀l,HM.sm (l+1) f=f 0+HM.sm l λk=>f (k+1)
 | 0=>by show(0:Int)+f 0=f 0+0;omega
 | l+1=>by
  show HM.sm (l+1) f+f (l+1)=f 0+(HM.sm l (λk=>f (k+1))+f (l+1))
  rw[jH f l]
  omega
theorem lv(f:Nat->Int):∀L,HM.sm L (λk=>f ((k+1)%L))=HM.sm L f
 | 0=>rfl
 | l+1=>by
  show HM.sm l (λk=>f ((k+1)%(l+1)))+f ((l+1)%(l+1))=HM.sm (l+1) f
  rw[jH f l,Nat.mod_self,HM.sm_congr (g:=λk=>f (k+1)) λk hk=>by rw[Nat.mod_eq_of_lt (by omega)]]
  omega
theorem j6(h:RingOk n W Z 0 R)(t:Nat):HM.sm R.length (λj=>dl (R.getD j (0,0,0)) m t)=0:=by
 have e1:HM.sm R.length (λj=>if t=(R.getD j (0,0,0)).2.1 then -m else 0) = - HM.sm R.length λj=>if t=(R.getD j (0,0,0)).2.2 then m else 0:=by
  rw[<-lv (λj=>if t=(R.getD j (0,0,0)).2.2 then m else 0)]
  have:∀(f:Nat->Int) (k:Nat),HM.sm k (λj=> - f j) = - HM.sm k f:=λf k=>by
   induction k with
   | zero=>rfl
   | succ k ih=>show HM.sm k _ + - f k = - (HM.sm k f+f k);rw[ih];omega
  rw[<-this]
  refine HM.sm_congr λj hj=>?_
  have hL:0<R.length:=by omega
  have hj2:(j+1)%R.length<R.length:=Nat.mod_lt _ hL
  have e:=h.nxt j _ _ (List.getElem?_eq_getElem hj) (List.getElem?_eq_getElem hj2)
  rw[HM.getD_lt hj,HM.getD_lt hj2,e]
  by_cases c:t=R[j].2.1
  ·rw[if_pos c,if_pos c]
  ·rw[if_neg c,if_neg c];rfl
 have e2:HM.sm R.length (λj=>dl (R.getD j (0,0,0)) m t)=HM.sm R.length (λj=>(if t=(R.getD j (0,0,0)).2.2 then m else 0)+if t=(R.getD j (0,0,0)).2.1 then -m else 0):=HM.sm_congr λj _=>by
  unfold dl
  by_cases c:t=(R.getD j (0,0,0)).2.1
  ·rw[if_pos c,if_pos c];omega
  ·rw[if_neg c,if_neg c];omega
 rw[e2,HM.sm_add (λj=>if t=(R.getD j (0,0,0)).2.2 then m else 0),e1]
 omega
theorem gv(h:RingOk n W Z 0 R)(reg:HM.Reg n Z T)(hm:0<=m)(hle:∀x∈R,m<=HM.ent Z x.1 x.2.1)(p t:Nat):∀k,k<=R.length->0<=HM.ent (behind Z m R k) p t
 | 0,_=>reg.nn p t
 | k+1,hk=>by
  have hx:R[k]?=some R[k]:=List.getElem?_eq_getElem hk
  have ih:=gv h reg hm hle p t k (by omega)
  rw[db h reg hx p t]
  by_cases e:p=R[k].1
  ·rw[if_pos e]
   have own:=fh (m:=m) (Z:=Z) h.once hx
   have e2:HM.ent (behind Z m R k) p t=HM.ent Z p t:=by
    unfold HM.ent
    rw[e,List.getD_eq_getElem?_getD (l:=behind Z m R k),own,<-List.getD_eq_getElem?_getD]
   have hz:=reg.nn p t
   have hl:=hle _ (List.getElem_mem hk)
   rw[e2]
   unfold dl
   by_cases c:t=R[k].2.1
   ·rw[if_neg (λz=>jq (h.can _ (List.getElem_mem hk)) (c.symm.trans z)),if_pos c,e,c]
    omega
   ·rw[if_neg c]
    split <;> omega
  ·rw[if_neg e]
   omega
theorem ix(h:RingOk n W Z 0 R)(reg:HM.Reg n Z T):HM.Reg n (behind Z (stepR Z R) R R.length) T:=by
 obtain⟨h0,hle,_⟩:=eI h
 refine⟨by rw[bD];exact reg.len,cA reg.cols (λx hx=>by rw[reg.len];exact(h.can x hx).hp) _,λp t=>gv h reg (by omega) hle p t _ (Nat.le_refl _),λi hi=>fu h reg hi _ (Nat.le_refl _),λj hj=>?_⟩
 rw[fb h reg hj _ (Nat.le_refl _),j6 h]
 omega
theorem fW(h:RingOk n W Z 0 R)(z:Tb31 n T Z):Tb31 n T (behind Z (stepR Z R) R R.length):=⟨z.lo,z.hi,z.t0,z.t1,ix h z.reg⟩
theorem iP{p:Nat}(hp:p∉R.map Prod.fst):(behind Z m R R.length)[p]?=Z[p]?:=
 dM _ λj x _ hx e=>hp (List.mem_map.mpr ⟨x,List.mem_of_getElem? hx,e⟩)
theorem dG{k:Nat}{x:Tri}(hon:(R.map Prod.fst).Nodup)(hx:R[k]?=some x)(hl:x.1<Z.length):∀d,k+1+d<=R.length->(behind Z m R (k+1+d))[x.1]?=some (moveR (Z.getD x.1 []) x.2.1 x.2.2 m)
 | 0,_=>by rw[Nat.add_zero,bw hx,List.getElem?_set_self (by rw[bD];exact hl)]
 | d+1,hd=>by
  have hy:R[k+1+d]?=some R[k+1+d]:=List.getElem?_eq_getElem (by omega)
  have ih:=dG hon hx hl d (by omega)
  rw[show k+1+(d+1)=k+1+d+1 by omega,bw hy,List.getElem?_set_ne (λz=>?_),ih]
  have:=i7 hon hx hy z
  omega
theorem jV(h:RingOk n W Z 0 R)(reg:HM.Reg n Z T){x:Tri}(hx:x∈R):(behind Z m R R.length)[x.1]?=some (moveR (Z.getD x.1 []) x.2.1 x.2.2 m):=by
 obtain⟨k,hk,e⟩:=List.mem_iff_getElem.mp hx
 have:=dG (m:=m) (Z:=Z) h.once (k:=k) (x:=x) (by rw[List.getElem?_eq_getElem hk,e]) (by rw[reg.len];exact(h.can x hx).hp) (R.length-(k+1)) (by omega)
 rwa[show k+1+(R.length-(k+1))=R.length by omega]at this
end
theorem cC{a:Int}:∀{l:List Int} {k:Nat},a∈l.take k↔a∈l/\l.idxOf a<k
 | [],k=>by simp
 | b::l,0=>by simp
 | b::l,k+1=>by
  rw[List.take_succ_cons,List.mem_cons,List.mem_cons,List.idxOf_cons,cC]
  by_cases e:a=b
  ·subst e;simp
  ·rw[show(b==a)=false from beq_false_of_ne (Ne.symm e)]
   simp only[e,false_or,cond_false]
   exact and_congr_right λ_=>by omega
theorem jT{row ws:List Int}{g t:Nat}{m:Int}(hn:ws.Nodup)(hb:∀w∈ws,0<=w)(hg:g<row.length)(ht:t<row.length)(hne:g≠t)(k:Nat):
  accs (moveR row g t m) ws k=accs row ws k+((if(t:Int)∈ws.take k then m else 0)-if(g:Int)∈ws.take k then m else 0):=by
 have hnk:(ws.take k).Nodup:=hn.sublist (List.take_sublist _ _)
 have ind:∀b:Nat,smL (ws.take k) (λw=>if w.toNat=b then m else 0)=if(b:Int)∈ws.take k then m else 0:=λb=>by
  rw[fY (g:=λw=>m*if(b:Int)=w then 1 else 0) λw hw=>?_,gR,jK _ hnk]
  ·split
   ·rw[Int.mul_one]
   ·rw[Int.mul_zero]
  ·have:=hb w (List.mem_of_mem_take hw)
   by_cases c:w.toNat=b
   ·rw[if_pos c,if_pos (by omega),Int.mul_one]
   ·rw[if_neg c,if_neg (by omega),Int.mul_zero]
 show smL (ws.take k) (λw=>(moveR row g t m).getD w.toNat 0)=smL (ws.take k) (λw=>row.getD w.toNat 0)+_
 rw[fY (g:=λw=>row.getD w.toNat 0+((if w.toNat=t then m else 0)+(-1)*if w.toNat=g then m else 0)) λw _=>by rw[jY hg ht hne];omega,gX,gX (λw=>if Int.toNat w=t then m else 0),gR,ind t,ind g]
 omega
theorem iZ{n:Nat}{W Z:List (List Int)}{T m:Int}{x:Tri}(hw:Ws41 n W)(z:Tb31 n T Z)(hm:0<m)(hc:Can n W Z 0 x.1 x.2.1 x.2.2):
  noLess (W.getD x.1 []) (moveR (Z.getD x.1 []) x.2.1 x.2.2 m) T (Z.getD x.1 []) T=true/\noLess (W.getD x.1 []) (Z.getD x.1 []) T (moveR (Z.getD x.1 []) x.2.1 x.2.2 m) T=false:=by
 have hpW:x.1<W.length:=by rw[hw.len];exact hc.hp
 have hpZ:x.1<Z.length:=by rw[z.reg.len];exact hc.hp
 have hpm:LN.Pm n (W.getD x.1 []):=by rw[HM.getD_lt hpW];exact hw.pm _ (List.getElem_mem hpW)
 have hrl:(Z.getD x.1 []).length=n:=by rw[HM.getD_lt hpZ];exact z.reg.cols _ (List.getElem_mem hpZ)
 have hlk:=hc.lk
 have htm:(x.2.2:Int)∈W.getD x.1 []:=hpm.mem.mpr ⟨by omega,by have:=hc.ht;omega⟩
 have acc:=λk=>jT (m:=m) hpm.nodup (λw hw=>(hpm.mem.mp hw).1) (row:=Z.getD x.1 []) (by rw[hrl];exact hc.hg) (by rw[hrl];exact hc.ht) (jq hc) k
 have hT:=z.t0
 refine⟨dX hT λi _=>?_,?_⟩
 ·rw[acc]
  by_cases c:(x.2.1:Int)∈(W.getD x.1 []).take (i+1)
  ·rw[if_pos c,if_pos (cC.mpr ⟨htm,by have:=(cC.mp c).2;omega⟩)]
   omega
  ·rw[if_neg c]
   split <;> omega
 ·refine Bool.eq_false_iff.mpr λc=>?_
  unfold noLess at c
  have hi:(W.getD x.1 []).idxOf (x.2.2:Int)<(W.getD x.1 []).length:=List.idxOf_lt_length_iff.mpr htm
  have:=List.all_eq_true.mp c _ (List.mem_range.mpr hi)
  rw[acc,if_pos (cC.mpr ⟨htm,Nat.lt_succ_self _⟩),if_neg (λz=>by have:=(cC.mp z).2;omega)]at this
  have h2:accs (Z.getD x.1 []) (W.getD x.1 []) ((W.getD x.1 []).idxOf (x.2.2:Int)+1)*T<(accs (Z.getD x.1 []) (W.getD x.1 []) ((W.getD x.1 []).idxOf (x.2.2:Int)+1)+(m-0))*T:=Int.mul_lt_mul_of_pos_right (by omega) hT
  rw[decide_eq_true h2]at this
  cases this
theorem kE(T:Int)(m:List Int):okD 2 (.tuple (dFr T m))=true:=by
 show(dFr T m).all (okD 1)=true
 rw[List.all_eq_true]
 exact ji T m
def spBetter(K:PySem.W.Frag):Sp:=λvs H Q _=>∃(a b r l:Addr) (ws us ls us':List V) (W Z:List (List Int)) (T:Int) (n:Nat) (R:List Tri),vs=[.ref a,.ref b,.ref r,.ref l]/\SqL K H a ws/\Paired (IsR K H) ws W/\SqL K H b us/\Paired (RwFT K H T) us Z/\Tw n W T Z/\SqL K H r ls/\Paired (IsTri K H) ls R/\RingOk n W Z 0 R/\
 SqL K H l us'/\Paired (RwFT K H T) us' (behind Z (stepR Z R) R R.length)/\∀H',Same H H'->Q (.bl true) H'
end L2
namespace Nk62
open PySem PySem.Spec PyProof.Rows L2
def top(i:Nat):Stmt:=PySem.Challenge.pw_wishlots_k62_whole_any_table.main.body.getD i (.Pass ⟨0,0,0,0⟩)
structure Md(K:PySem.W.Frag)(mg:Str->Option Value)(x:Xs):Prop where
 f_is_whole:Def K mg "is_whole" (top 7)
 f_common_divisor:Def K mg "common_divisor" (top 8)
 f_fraction:Def K mg "fraction" (top 9)
 f_is_fraction:Def K mg "is_fraction" (top 10)
 f_plus:Def K mg "plus" (top 11)
 f_minus:Def K mg "minus" (top 12)
 f_before:Def K mg "before" (top 13)
 f_total:Def K mg "total" (top 14)
 f_least:Def K mg "least" (top 15)
 f_deal_within:Def K mg "deal_within" (top 36)
 f_row_without:Def K mg "row_without" (top 37)
 f_lots_of:Def K mg "lots_of" (top 38)
 f_is_listing:Def K mg "is_listing" (top 18)
 f_has_people:Def K mg "has_people" (top 19)
 f_is_share:Def K mg "is_share" (top 20)
 f_is_share_row:Def K mg "is_share_row" (top 21)
 f_table_of:Def K mg "table_of" (top 22)
 f_changers_of:Def K mg "changers_of" (top 24)
 f_way_back:Def K mg "way_back" (top 25)
 f_ring_of:Def K mg "ring_of" (top 26)
 f_step_of:Def K mg "step_of" (top 27)
 f_widest_ring:Def K mg "widest_ring" (top 28)
 f_row_behind:Def K mg "row_behind" (top 29)
 f_table_behind:Def K mg "table_behind" (top 30)
 f_is_kept:Def K mg "is_kept" (top 31)
 f_first_kept:Def K mg "first_kept" (top 32)
 f_order_of:Def K mg "order_of" (top 33)
 f_ring_or_order:Def K mg "ring_or_order" (top 34)
 f__law_cell_at:Def K mg "_law_cell_at" (top 40)
 f__law_mixed:Def K mg "_law_mixed" (top 41)
 f__law_divisor:Def K mg "_law_divisor" (top 42)
 f__law_lowest:Def K mg "_law_lowest" (top 43)
 f__law_plus:Def K mg "_law_plus" (top 44)
 f__law_less:Def K mg "_law_less" (top 45)
 f__law_whole:Def K mg "_law_whole" (top 46)
 f__law_is_fraction:Def K mg "_law_is_fraction" (top 47)
 f__law_order:Def K mg "_law_order" (top 48)
 f__law_wishes:Def K mg "_law_wishes" (top 49)
 f__law_deals:Def K mg "_law_deals" (top 50)
 f__law_table:Def K mg "_law_table" (top 51)
 f__law_prefixes:Def K mg "_law_prefixes" (top 52)
 f__law_no_less:Def K mg "_law_no_less" (top 53)
 f__law_is_table:Def K mg "_law_is_table" (top 54)
 f__law_order_holds:Def K mg "_law_order_holds" (top 55)
 f__law_ring_holds:Def K mg "_law_ring_holds" (top 56)
 f__law_lots_hold:Def K mg "_law_lots_hold" (top 58)
 f__law_same:Def K mg "_law_same" (top 59)
 f__law_better:Def K mg "_law_better" (top 60)
 f__law_by_turns:Def K mg "_law_by_turns" (top 61)
 f_law:Def K mg "law" (top 62)
 b_isinstance:mg "isinstance"=none
 b_int:mg "int"=none
 b_bool:mg "bool"=none
 b_str:mg "str"=none
 b_list:mg "list"=none
 b_tuple:mg "tuple"=none
 b_abs:mg "abs"=none
 b_len:mg "len"=none
 b_range:mg "range"=none
 b_sorted:mg "sorted"=none
 b_set:mg "set"=none
 b_enumerate:mg "enumerate"=none
 b_zip:mg "zip"=none
 b_any:mg "any"=none
 b_all:mg "all"=none
 b_min:mg "min"=none
 b_max:mg "max"=none
 b_sum:mg "sum"=none
 c_NOTHING:GTup K mg "NOTHING" [.int 0,.int 1]
 c_WHOLE:GTup K mg "WHOLE" [.int 1,.int 1]
 c_MOST_PEOPLE:∃t,mg "MOST_PEOPLE"=some (.int 6 t)
 x_WishError:XCls K mg "WishError" x.WishError
 x_NoFraction:XCls K mg "NoFraction" x.NoFraction
 x_NoTable:XCls K mg "NoTable" x.NoTable
 i_NoTable:XIs K x.NoTable
 s_NoTable:PySem.W.mroIn K x.NoTable (.ref x.WishError)=some true
section
variable{P:Program}{w:World}{K:PySem.W.Frag}{mg:Str->Option Value}{base:Heap}{x:Xs}
theorem sc_is_whole:FnScope ["value"] ["value"] (defScope (top 7)):=⟨rfl,rfl,rfl,by decide +kernel,rfl,by decide +kernel,by decide +kernel⟩
set_option maxHeartbeats 4000000 in
theorem d_is_whole(M:Md K mg x):Dn P w K mg base CX0 1 "is_whole" ["value"] (spWhole):=by
 have nd:=(sc_is_whole).nd
 refine M.f_is_whole.ok sc_is_whole (λvs H Q E h=>?_) (λ_ _ _ _ _ _ us hl=>match us,hl with|[_],_=>rfl) (λf cdv A outer s H vs Q E hr h=>?_)
 ·obtain⟨i,rfl,q⟩:=h
  rfl
 obtain⟨i,rfl,q⟩:=h
 refine⟨_,(ag (ao (bP (ai aE rfl M.b_isinstance Boot.«isinstance» (aa (pv 0) (aa (bv rfl M.b_int Boot.«int») ac))) (b6 (eY (ai aE rfl M.b_isinstance Boot.«isinstance» (aa (pv 0) (aa (bv rfl M.b_bool Boot.«bool») ac)))))))),?_⟩
 refine⟨_,rfl,.int i,"int","int",rfl,by decide,rfl,_,rfl,?_⟩
 refine iteT ⟨_,rfl,.int i,"bool","int",rfl,by decide,rfl,_,rfl,q⟩
theorem sc_common_divisor:FnScope ["one","two","greater","smaller","rest"] ["one","two"] (defScope (top 8)):=⟨rfl,rfl,rfl,by decide +kernel,rfl,by decide +kernel,by decide +kernel⟩
set_option maxHeartbeats 4000000 in
theorem d_common_divisor(M:Md K mg x):Dn P w K mg base CX0 1 "common_divisor" ["one","two"] (spGcd):=by
 have nd:=(sc_common_divisor).nd
 refine M.f_common_divisor.ok sc_common_divisor (λvs H Q E h=>?_) (λ_ _ _ _ _ _ us hl=>match us,hl with|[_,_],_=>rfl) (λf cdv A outer s H vs Q E hr h=>?_)
 ·obtain⟨i,j,rfl,q⟩:=h
  rfl
 obtain⟨i,j,rfl,q⟩:=h
 refine⟨_,(ad (aw (i:=2) nd rfl (Or.inl rfl) (ai fR rfl M.b_abs Boot.«abs» (aa (pv 0) ac)))
   (ad (aw (i:=3) nd rfl (Or.inl rfl) (ai fR rfl M.b_abs Boot.«abs» (aa (pv 1) ac)))
   (ad (bW PassesOwn.never (aq cu (pv 3) ah (nomark _)) (ad (aw (i:=4) nd rfl (Or.inl rfl) (aF bI (pv 2) (pv 3)))
   (ad (aw (i:=2) nd rfl (Or.inl rfl) (pv 3))
   (ag (aw (i:=3) nd rfl (Or.inl rfl) (pv 4))))))
   (ag (ao (pv 2)))))),?_⟩
 refine⟨_,rfl,i,rfl,_,rfl,j,rfl,?_⟩
 refine bX (λm σ H'=>H'=H/\∃(a b:Int) (r:Option V),σ=[some (.int i),some (.int j),some (.int a),some (.int b),r]/\0<=a/\0<=b/\Int.gcd a b=Int.gcd i j/\m=b.toNat)
  ⟨_,rfl,_,_,_,rfl,?_,?_,?_,rfl⟩ (λm σ H' hP=>?_) (λσ H' Q1 Q2 hQ h=>?_)
 ·split <;> omega
 ·split <;> omega
 ·split <;> split <;> simp
 ·obtain⟨rfl,a,b,r,rfl,ha,hb,hg,rfl⟩:=hP
  refine⟨_,rfl,rfl,_,rfl,?_⟩
  refine ite2 (λc=>?_) (λc=>?_)
  ·have hb0:b≠0:=λz=>by subst z;simp at c
   refine⟨_,rfl,_,rfl,a,b,rfl,rfl,by show(0:Int)<b;omega,_,rfl,_,rfl,?_⟩
   refine⟨(a%b).toNat,?_,rfl,b,a%b,_,rfl,hb,Int.emod_nonneg _ hb0,?_,rfl⟩
   ·have:=Int.emod_lt_of_pos a (show 0<b by omega)
    have:=Int.emod_nonneg a hb0
    omega
   ·rw[FQ.gcd_turn,hg]
  ·have hb0:b=0:=by
    by_cases z:b=0
    ·exact z
    ·exact absurd (by simpa using z) c
   subst hb0
   refine⟨_,rfl,?_⟩
   have e:(a:Int)=(Int.gcd i j:Int):=by rw[<-hg];simp;omega
   rw[e]
   exact q
 ·obtain⟨v,e,sc,k,ek,q⟩:=h
  exact⟨v,e,sc,k,ek,hQ _ _ q⟩
theorem sc_fraction:FnScope ["top","bottom","divisor"] ["top","bottom"] (defScope (top 9)):=⟨rfl,rfl,rfl,by decide +kernel,rfl,by decide +kernel,by decide +kernel⟩
set_option maxHeartbeats 4000000 in
theorem d_fraction(M:Md K mg x)
  (Gis_whole:Dn P w K mg base CX0 1 "is_whole" ["value"] (spWhole))
  (Gcommon_divisor:Dn P w K mg base CX0 1 "common_divisor" ["one","two"] (spGcd)):Dn P w K mg base (CXE P w) 2 "fraction" ["top","bottom"] (spFractionE x):=by
 have nd:=(sc_fraction).nd
 refine M.f_fraction.okE sc_fraction (λvs H Q E h=>?_) (λ_ _ _ _ _ _ us hl=>match us,hl with|[_,_],_=>rfl) (λf cdv A outer s H vs Q E hr h=>?_)
 ·obtain⟨t,b,rfl,hE,q⟩:=h
  rfl
 obtain⟨t,b,rfl,hE,q⟩:=h
 refine⟨_,(ad (aJ (PW.pt (bA (aM (aH (aA Gis_whole hr (by decide) rfl pass0 (aa (pv 0) ac)))) (bA (aM (aH (aA Gis_whole hr (by decide) rfl pass0 (aa (pv 1) ac)))) (bo (aq cY (pv 1) ah (nomark _)))))) (ag (cO M.x_NoFraction rfl (aa gE ac))) ar)
   (ad (aw (i:=2) nd rfl (Or.inl rfl) (aA Gcommon_divisor hr (by decide) rfl pass0 (aa (pv 0) (aa (pv 1) ac))))
   (ad (aJ (aq gb (pv 1) ah (nomark _)) (ag (aw (i:=2) nd rfl (Or.inl rfl) (md kS (pv 2)))) ar)
   (ag (ao (bp (aa (aF jP (pv 0) (pv 2)) (aa (aF jP (pv 1) (pv 2)) ac)))))))),?_⟩
 refine⟨_,rfl,t,rfl,_,rfl,iteF ⟨_,rfl,b,rfl,_,rfl,iteF ⟨_,rfl,rfl,_,rfl,iteD2 (λc=>?_) (λc=>?_)⟩⟩⟩
 ·exact⟨by show 1<=sizeLine;decide,hE (Veq c)⟩
 have hb:b≠0:=λz=>c (by rw[z])
 obtain⟨hz,q⟩:=q hb
 refine⟨_,rfl,_,rfl,t,b,rfl,?_⟩
 refine⟨_,rfl,b,0,rfl,rfl,_,rfl,?_⟩
 have hs:=dk (t:=t) hb hz
 refine ite2 (λc=>?_) (λc=>?_)
 ·have hneg:b<0:=of_decide_eq_true c
  have e:=hs.1 hneg
  refine⟨_,rfl,_,rfl,?_⟩
  refine⟨_,rfl,_,rfl,t,_,rfl,rfl,e.1,_,rfl,_,rfl,b,_,rfl,rfl,e.1,by show 2<=sizeLine;decide,λp hp=>q p _ (ae hp _) ?_⟩
  rw[af]
  show some (HO.tup [V.int (t.fdiv _),V.int (b.fdiv _)])=_
  rw[e.2.1,e.2.2]
  rfl
 ·have hpos:¬b<0:=of_decide_eq_false (Bool.eq_false_iff.mpr c)
  have e:=hs.2 hpos
  refine⟨_,rfl,_,rfl,t,_,rfl,rfl,e.1,_,rfl,_,rfl,b,_,rfl,rfl,e.1,by show 2<=sizeLine;decide,λp hp=>q p _ (ae hp _) ?_⟩
  rw[af]
  show some (HO.tup [V.int (t.fdiv _),V.int (b.fdiv _)])=_
  rw[e.2.1,e.2.2]
  rfl
theorem sc_is_fraction:FnScope ["value"] ["value"] (defScope (top 10)):=⟨rfl,rfl,rfl,by decide +kernel,rfl,by decide +kernel,by decide +kernel⟩
set_option maxHeartbeats 4000000 in
theorem d_is_fraction(M:Md K mg x)
  (Gis_whole:Dn P w K mg base CX0 1 "is_whole" ["value"] (spWhole))
  (Gcommon_divisor:Dn P w K mg base CX0 1 "common_divisor" ["one","two"] (spGcd)):Dn P w K mg base CX0 2 "is_fraction" ["value"] (spIsFr K):=by
 have nd:=(sc_is_fraction).nd
 refine M.f_is_fraction.ok sc_is_fraction (λvs H Q E h=>?_) (λ_ _ _ _ _ _ us hl=>match us,hl with|[_],_=>rfl) (λf cdv A outer s H vs Q E hr h=>?_)
 ·obtain⟨a,p,rfl,hs,hp,q⟩:=h
  rfl
 obtain⟨a,p,rfl,hs,hp,q⟩:=h
 refine⟨_,(ad (aJ (PW.pt (bA (aM (aH (ai aE rfl M.b_isinstance Boot.«isinstance» (aa (pv 0) (aa (bv rfl M.b_tuple Boot.«tuple») ac))))) (bo (aq cu (ai al rfl M.b_len PySem.boot_len (aa (pv 0) ac)) ah (nomark _))))) (ag (ao aT)) ar)
   (ad (aJ (PW.pt (bA (aM (aH (aA Gis_whole hr (by decide) rfl pass0 (aa (au ax (pv 0) ah (λ_ _=>rfl)) ac)))) (bA (aM (aH (aA Gis_whole hr (by decide) rfl pass0 (aa (au ax (pv 0) ah (λ_ _=>rfl)) ac)))) (bo (aq gb (au ax (pv 0) ah (λ_ _=>rfl)) ah (nomark _)))))) (ag (ao aT)) ar)
   (ag (ao (bu cY (aA Gcommon_divisor hr (by decide) rfl pass0 (aa (au ax (pv 0) ah (λ_ _=>rfl)) (aa (au ax (pv 0) ah (λ_ _=>rfl)) ac))) ah (nomark _)))))),?_⟩
 have hpos:=hp.pos
 refine⟨_,rfl,_,"tuple","tuple",rfl,by decide,.inr ⟨rfl,_,hs⟩,_,rfl,iteF ⟨_,rfl,a,_,rfl,.inr hs,rfl,_,rfl,iteNS rfl ?_⟩⟩
 refine⟨_,rfl,a,_,0,_,rfl,rfl,hs,rfl,p.1,rfl,_,rfl,iteF ⟨_,rfl,a,_,1,_,rfl,rfl,hs,rfl,p.2,rfl,_,rfl,iteF ⟨_,rfl,a,_,1,_,rfl,rfl,hs,rfl,_,_,rfl,rfl,_,rfl,iteDF (by omega) ?_⟩⟩⟩
 refine⟨_,rfl,a,_,0,_,rfl,rfl,hs,rfl,_,rfl,a,_,1,_,rfl,rfl,hs,rfl,p.1,p.2,rfl,rfl,?_⟩
 rw[hp.cop]
 exact q
theorem sc_plus:FnScope ["one","two"] ["one","two"] (defScope (top 11)):=⟨rfl,rfl,rfl,by decide +kernel,rfl,by decide +kernel,by decide +kernel⟩
set_option maxHeartbeats 4000000 in
theorem d_plus(M:Md K mg x)
  (Gfraction:Dn P w K mg base (CXE P w) 2 "fraction" ["top","bottom"] (spFractionE x)):Dn P w K mg base CX0 3 "plus" ["one","two"] (sp2F fAdd K):=by
 have nd:=(sc_plus).nd
 refine M.f_plus.ok sc_plus (λvs H Q E h=>?_) (λ_ _ _ _ _ _ us hl=>match us,hl with|[_,_],_=>rfl) (λf cdv A outer s H vs Q E hr h=>?_)
 ·obtain⟨a,b,x,y,rfl,ha,hb,bx,b_y,q⟩:=h
  rfl
 obtain⟨a,b,x,y,rfl,ha,hb,bx,b_y,q⟩:=h
 refine⟨_,(ag (ao (aA Gfraction hr (by decide) rfl passN (aa (aF bz (aF aY (au ax (pv 0) ah (λ_ _=>rfl)) (au ax (pv 1) ah (λ_ _=>rfl))) (aF aY (au ax (pv 1) ah (λ_ _=>rfl)) (au ax (pv 0) ah (λ_ _=>rfl)))) (aa (aF aY (au ax (pv 0) ah (λ_ _=>rfl)) (au ax (pv 1) ah (λ_ _=>rfl))) ac))))),?_⟩
 obtain⟨x1,x2,x0⟩:=bx
 obtain⟨y1,y2,y0⟩:=b_y
 refine⟨_,rfl,a,_,0,_,rfl,rfl,ha,rfl,?_⟩
 refine⟨_,rfl,b,_,1,_,rfl,rfl,hb,rfl,?_⟩
 refine⟨_,_,rfl,rfl,mul4 x1 y2,?_⟩
 refine⟨_,rfl,b,_,0,_,rfl,rfl,hb,rfl,?_⟩
 refine⟨_,rfl,a,_,1,_,rfl,rfl,ha,rfl,?_⟩
 refine⟨_,_,rfl,rfl,mul4 y1 x2,?_⟩
 refine⟨_,_,rfl,rfl,?_⟩
 refine⟨_,rfl,a,_,1,_,rfl,rfl,ha,rfl,?_⟩
 refine⟨_,rfl,b,_,1,_,rfl,rfl,hb,rfl,?_⟩
 refine⟨_,_,rfl,rfl,mul4 x2 y2,?_⟩
 exact⟨_,_,rfl,λz=>absurd z (Int.mul_ne_zero x0 y0),λ_=>⟨bot4 x2 y2,q⟩⟩
theorem sc_minus:FnScope ["one","two"] ["one","two"] (defScope (top 12)):=⟨rfl,rfl,rfl,by decide +kernel,rfl,by decide +kernel,by decide +kernel⟩
set_option maxHeartbeats 4000000 in
theorem d_minus(M:Md K mg x)
  (Gfraction:Dn P w K mg base (CXE P w) 2 "fraction" ["top","bottom"] (spFractionE x)):Dn P w K mg base CX0 3 "minus" ["one","two"] (sp2F fSub K):=by
 have nd:=(sc_minus).nd
 refine M.f_minus.ok sc_minus (λvs H Q E h=>?_) (λ_ _ _ _ _ _ us hl=>match us,hl with|[_,_],_=>rfl) (λf cdv A outer s H vs Q E hr h=>?_)
 ·obtain⟨a,b,x,y,rfl,ha,hb,bx,b_y,q⟩:=h
  rfl
 obtain⟨a,b,x,y,rfl,ha,hb,bx,b_y,q⟩:=h
 refine⟨_,(ag (ao (aA Gfraction hr (by decide) rfl passN (aa (aF kR (aF aY (au ax (pv 0) ah (λ_ _=>rfl)) (au ax (pv 1) ah (λ_ _=>rfl))) (aF aY (au ax (pv 1) ah (λ_ _=>rfl)) (au ax (pv 0) ah (λ_ _=>rfl)))) (aa (aF aY (au ax (pv 0) ah (λ_ _=>rfl)) (au ax (pv 1) ah (λ_ _=>rfl))) ac))))),?_⟩
 obtain⟨x1,x2,x0⟩:=bx
 obtain⟨y1,y2,y0⟩:=b_y
 refine⟨_,rfl,a,_,0,_,rfl,rfl,ha,rfl,?_⟩
 refine⟨_,rfl,b,_,1,_,rfl,rfl,hb,rfl,?_⟩
 refine⟨_,_,rfl,rfl,mul4 x1 y2,?_⟩
 refine⟨_,rfl,b,_,0,_,rfl,rfl,hb,rfl,?_⟩
 refine⟨_,rfl,a,_,1,_,rfl,rfl,ha,rfl,?_⟩
 refine⟨_,_,rfl,rfl,mul4 y1 x2,?_⟩
 refine⟨_,_,rfl,rfl,?_⟩
 refine⟨_,rfl,a,_,1,_,rfl,rfl,ha,rfl,?_⟩
 refine⟨_,rfl,b,_,1,_,rfl,rfl,hb,rfl,?_⟩
 refine⟨_,_,rfl,rfl,mul4 x2 y2,?_⟩
 exact⟨_,_,rfl,λz=>absurd z (Int.mul_ne_zero x0 y0),λ_=>⟨bot4 x2 y2,q⟩⟩
theorem sc_before:FnScope ["one","two"] ["one","two"] (defScope (top 13)):=⟨rfl,rfl,rfl,by decide +kernel,rfl,by decide +kernel,by decide +kernel⟩
set_option maxHeartbeats 4000000 in
theorem d_before(M:Md K mg x):Dn P w K mg base CX0 1 "before" ["one","two"] (spBefore K):=by
 have nd:=(sc_before).nd
 refine M.f_before.ok sc_before (λvs H Q E h=>?_) (λ_ _ _ _ _ _ us hl=>match us,hl with|[_,_],_=>rfl) (λf cdv A outer s H vs Q E hr h=>?_)
 ·obtain⟨a,b,x,y,rfl,ha,hb,bx,b_y,q⟩:=h
  rfl
 obtain⟨a,b,x,y,rfl,ha,hb,bx,b_y,q⟩:=h
 refine⟨_,(ag (ao (bu gb (aF aY (au ax (pv 0) ah (λ_ _=>rfl)) (au ax (pv 1) ah (λ_ _=>rfl))) (aF aY (au ax (pv 1) ah (λ_ _=>rfl)) (au ax (pv 0) ah (λ_ _=>rfl))) (nomark _)))),?_⟩
 obtain⟨x1,x2,x0⟩:=bx
 obtain⟨y1,y2,y0⟩:=b_y
 refine⟨_,rfl,a,_,0,_,rfl,rfl,ha,rfl,?_⟩
 refine⟨_,rfl,b,_,1,_,rfl,rfl,hb,rfl,?_⟩
 refine⟨_,_,rfl,rfl,mul4 x1 y2,?_⟩
 refine⟨_,rfl,b,_,0,_,rfl,rfl,hb,rfl,?_⟩
 refine⟨_,rfl,a,_,1,_,rfl,rfl,ha,rfl,?_⟩
 exact⟨_,_,rfl,rfl,mul4 y1 x2,_,_,rfl,rfl,q⟩
theorem sc_total:FnScope ["parts","so_far","part"] ["parts"] (defScope (top 14)):=⟨rfl,rfl,rfl,by decide +kernel,rfl,by decide +kernel,by decide +kernel⟩
set_option maxHeartbeats 4000000 in
theorem d_total(M:Md K mg x)
  (Gplus:Dn P w K mg base CX0 3 "plus" ["one","two"] (sp2F fAdd K)):Dn P w K mg base CX0 4 "total" ["parts"] (spTotG K):=by
 have nd:=(sc_total).nd
 refine M.f_total.ok sc_total (λvs H Q E h=>?_) (λ_ _ _ _ _ _ us hl=>match us,hl with|[_],_=>rfl) (λf cdv A outer s H vs Q E hr h=>?_)
 ·obtain⟨a,gs,ps,rfl,hq,hg,hz,hy0,q⟩:=h
  rfl
 obtain⟨a,gs,ps,rfl,hq,hg,hz,hy0,q⟩:=h
 refine⟨_,(ad (aw (i:=1) nd rfl (Or.inl rfl) (bR M.c_NOTHING))
   (ad (aV PassesOwn.never rfl (kO (pv 0)) (am (i:=2) nd rfl (Or.inl rfl)) (ag (aw (i:=1) nd rfl (Or.inl rfl) (aA Gplus hr (by decide) rfl pass0 (aa (pv 1) (aa (pv 2) ac))))))
   (ag (ao (pv 1))))),?_⟩
 refine λc0 hc0=>?_
 rcases hq with hq|hq
 ·refine .inl ⟨_,rfl,a,rfl,⟨_,hq⟩,?_⟩
  refine bZ (xs:=gs) (λi σ H'=>Same H H'/\∃sf r,σ=[some (.ref a),some sf,r]/\IsF K H' sf (totF (ps.take i)))
   ⟨Same.refl _,.ref c0,_,rfl,c0,rfl,hc0 _⟩ (λi σ H' _ hP=>hP.1.seq hq) (λi v σ H' hx hP=>?_) (λσ H' hP=>?_)
  ·obtain⟨S1,sf,r,rfl,hsf⟩:=hP
   obtain⟨y,hy,hv⟩:=Paired.get' hg hx
   obtain⟨sfa,rfl,hsf⟩:=hsf
   obtain⟨va,rfl,hv⟩:=hv
   refine⟨_,rfl,_,rfl,sfa,va,totF (ps.take i),y,rfl,hsf,S1.tup hv,hz i,hy0 y (List.mem_of_getElem? hy),λp H2 S2 hp=>?_⟩
   refine⟨S1.trans S2,.ref p,_,rfl,p,rfl,?_⟩
   rw[List.take_add_one,hy]
   show SqT K H2 p [.int (totF (ps.take i++[y])).1,.int (totF (ps.take i++[y])).2]
   rw[ge]
   exact SqT.of hp
  ·obtain⟨S1,sf,r,rfl,hsf⟩:=hP
   have hgl:=Paired.len hg
   rw[hgl,List.take_length]at hsf
   exact⟨_,rfl,q sf H' S1 hsf⟩
 ·refine .inr ⟨_,rfl,a,rfl,⟨_,hq⟩,?_⟩
  refine fM (xs:=gs) (λi σ H'=>Same H H'/\∃sf r,σ=[some (.ref a),some sf,r]/\IsF K H' sf (totF (ps.take i)))
   ⟨Same.refl _,.ref c0,_,rfl,c0,rfl,hc0 _⟩ (λi σ H' _ hP=>hP.1.tup hq) (λi v σ H' hx hP=>?_) (λσ H' hP=>?_)
  ·obtain⟨S1,sf,r,rfl,hsf⟩:=hP
   obtain⟨y,hy,hv⟩:=Paired.get' hg hx
   obtain⟨sfa,rfl,hsf⟩:=hsf
   obtain⟨va,rfl,hv⟩:=hv
   refine⟨_,rfl,_,rfl,sfa,va,totF (ps.take i),y,rfl,hsf,S1.tup hv,hz i,hy0 y (List.mem_of_getElem? hy),λp H2 S2 hp=>?_⟩
   refine⟨S1.trans S2,.ref p,_,rfl,p,rfl,?_⟩
   rw[List.take_add_one,hy]
   show SqT K H2 p [.int (totF (ps.take i++[y])).1,.int (totF (ps.take i++[y])).2]
   rw[ge]
   exact SqT.of hp
  ·obtain⟨S1,sf,r,rfl,hsf⟩:=hP
   have hgl:=Paired.len hg
   rw[hgl,List.take_length]at hsf
   exact⟨_,rfl,q sf H' S1 hsf⟩
theorem sc_least:FnScope ["parts","smallest","part"] ["parts"] (defScope (top 15)):=⟨rfl,rfl,rfl,by decide +kernel,rfl,by decide +kernel,by decide +kernel⟩
set_option maxHeartbeats 4000000 in
theorem d_least(M:Md K mg x)
  (Gbefore:Dn P w K mg base CX0 1 "before" ["one","two"] (spBefore K)):Dn P w K mg base CX0 2 "least" ["parts"] (spLeast K):=by
 have nd:=(sc_least).nd
 refine M.f_least.ok sc_least (λvs H Q E h=>?_) (λ_ _ _ _ _ _ us hl=>match us,hl with|[_],_=>rfl) (λf cdv A outer s H vs Q E hr h=>?_)
 ·obtain⟨a,gs,ps,rfl,hq,hg,hne,hl,hz,q⟩:=h
  rfl
 obtain⟨a,gs,ps,rfl,hq,hg,hne,hl,hz,q⟩:=h
 refine⟨_,(ad (aw (i:=1) nd rfl (Or.inl rfl) (au aB (pv 0) ah (λ_ _=>rfl)))
   (ad (aV PassesOwn.never rfl (aN (pv 0)) (am (i:=2) nd rfl (Or.inl rfl)) (ag (aJ (aH (aA Gbefore hr (by decide) rfl pass0 (aa (pv 2) (aa (pv 1) ac)))) (ag (aw (i:=1) nd rfl (Or.inl rfl) (pv 2))) ar)))
   (ag (ao (pv 1))))),?_⟩
 obtain⟨p0,hp0⟩:∃p,ps[0]?=some p:=by
  cases ps with
  | nil=>exact absurd rfl hne
  | cons p r=>exact⟨p,rfl⟩
 have hhd:ps.headD (0,1)=p0:=by
  cases ps with
  | nil=>exact absurd rfl hne
  | cons p r=>exact Option.some.inj hp0
 have sz:∀i,Sz 4000 (leastGo p0 (ps.take i)):=λi=>by
  have:∀(l:List (Int×Int)) (s:Int×Int),Sz 4000 s->(∀p∈l,Sz 4000 p)->Sz 4000 (leastGo s l):=by
   intro l
   induction l with
   | nil=>intro s hs _;exact hs
   | cons x r ih=>
    intro s hs hl
    refine ih _ ?_ λp hp=>hl p (List.mem_cons_of_mem _ hp)
    show Sz 4000 (if lessF x s=true then x else s)
    split
    ·exact hl x List.mem_cons_self
    ·exact hs
  exact this _ _ (hz _ (List.mem_of_getElem? hp0)) λp hp=>hz p (List.mem_of_mem_take hp)
 obtain⟨v0,hv0,hF0⟩:=Paired.get hg hp0
 refine⟨_,rfl,a,gs,0,v0,rfl,rfl,hq,ay hv0,?_⟩
 refine⟨_,rfl,a,rfl,⟨_,hq⟩,?_⟩
 refine bZ (xs:=gs) (λi σ H'=>H'=H/\∃sf r,σ=[some (.ref a),some sf,r]/\IsF K H sf (leastGo p0 (ps.take i)))
  ⟨rfl,v0,_,rfl,hF0⟩ (λi σ H' _ hP=>by rw[hP.1];exact hq) (λi v σ H' hx hP=>?_) (λσ H' hP=>?_)
 ·obtain⟨rfl,sf,r,rfl,hsf⟩:=hP
  obtain⟨y,hy,hv⟩:=Paired.get' hg hx
  have e:leastGo p0 (ps.take (i+1))=if lessF y (leastGo p0 (ps.take i))=true then y else leastGo p0 (ps.take i):=by
   rw[List.take_add_one,hy]
   unfold leastGo
   rw[List.foldl_append]
   rfl
  obtain⟨sfa,rfl,hsf'⟩:=id hsf
  obtain⟨va,rfl,hv'⟩:=id hv
  refine⟨_,rfl,_,rfl,va,sfa,y,leastGo p0 (ps.take i),rfl,hv',hsf',hz y (List.mem_of_getElem? hy),sz i,_,rfl,?_⟩
  rw[e]
  show if lessF y (leastGo p0 (ps.take i))=true then _ else _
  refine ite2 (λc=>?_) (λc=>?_)
  ·refine⟨_,rfl,rfl,.ref va,_,rfl,?_⟩
   rw[if_pos c]
   exact hv
  ·refine⟨rfl,.ref sfa,_,rfl,?_⟩
   rw[if_neg c]
   exact hsf
 ·obtain⟨rfl,sf,r,rfl,hsf⟩:=hP
  have hgl:=Paired.len hg
  rw[hgl,List.take_length]at hsf
  refine⟨_,rfl,q sf ?_⟩
  unfold leastF
  rw[hhd]
  exact hsf
theorem sc_deal_within:FnScope ["left","begun","person","thing","part","deal"] ["left","begun"] (defScope (top 36)):=⟨rfl,rfl,rfl,by decide +kernel,rfl,by decide +kernel,by decide +kernel⟩
set_option maxHeartbeats 4000000 in
theorem d_deal_within{m:Nat}(M:Md K mg x)
  (Gdeal_within:Dn P w K mg base CX0 m "deal_within" ["left","begun"] (spPrev (spWithin K) m)):Dn P w K mg base CX0 (m+1) "deal_within" ["left","begun"] (spWithin K m):=by
 have nd:=(sc_deal_within).nd
 refine M.f_deal_within.ok sc_deal_within (λvs H Q E h=>?_) (λ_ _ _ _ _ _ us hl=>match us,hl with|[_,_],_=>rfl) (λf cdv A outer s H vs Q E hr h=>?_)
 ·obtain⟨l,b,rs,M0,T,n,k,bs,rfl,hL,hM,ok,hb,hbk,hkm,q0,q1⟩:=h
  rfl
 obtain⟨l,b,rs,M0,T,n,k,bs,rfl,hL,hM,ok,hb,hbk,hkm,q0,q1⟩:=h
 refine⟨_,(ad (aw (i:=2) nd rfl (Or.inl rfl) (ai al rfl M.b_len PySem.boot_len (aa (pv 1) ac)))
   (ad (aJ (aq cY (pv 2) (ai al rfl M.b_len PySem.boot_len (aa (pv 0) ac)) (nomark _)) (ag (ao (pv 1))) ar)
   (ad (aV PassesOwn.never rfl (jh rfl M.b_enumerate (aa (au aB (pv 0) (pv 2) (λ_ _=>rfl)) ac)) (de rfl (aG (am (i:=3) nd rfl (Or.inl rfl)) (aG (am (i:=4) nd rfl (Or.inl rfl)) bH))) (ag (aJ (PW.pt (gA (aq (ck hr) (pv 4) (bR M.c_NOTHING) (nomark _)) (ez (aq dn (pv 3) (pv 1) (by with_unfolding_all rfl))))) (ad (aw (i:=5) nd rfl (Or.inl rfl) (aA Gdeal_within hr (Nat.le_refl _) rfl pass0 (aa (pv 0) (aa (aF lP (pv 1) (bp (aa (pv 3) ac))) ac))))
   (ag (aJ (aq gO (pv 5) b7 (nomark _)) (ag (ao (pv 5))) ar))) ar)))
   (ag (ao b7))))),?_⟩
 have hrl:=Paired.len hM
 have hn6:=ok.hi
 have hMn:=ok.len
 have hT:=ok.t0
 have hbl:(bs.map V.int).length=bs.length:=List.length_map _
 refine⟨_,rfl,b,_,rfl,.inr hb,?_⟩
 refine⟨_,rfl,_,rfl,l,rs,rfl,.inl hL,rfl,_,rfl,iteD2 (λc=>?_) (λc=>?_)⟩
 ·have c':(bs.map V.int).length=rs.length:=by have:=Veq c;omega
  have hk0:k=0:=by omega
  subst hk0
  exact⟨_,rfl,q1 bs rfl b H (Same.refl _) hb⟩
 have c':bs.length≠rs.length:=λz=>c (by show V.int _=V.int _;rw[hbl,z])
 obtain⟨k,rfl⟩:∃k',k=k'+1:=⟨k-1,by omega⟩
 obtain⟨m,rfl⟩:∃m',m=m'+1:=⟨m-1,by omega⟩
 have hbn:bs.length<M0.length:=by omega
 obtain⟨rv,hrv,ra,gs,rfl,hra,hgs⟩:=Paired.get hM (List.getElem?_eq_getElem hbn)
 have hcl:=ok.cols _ (List.getElem_mem hbn)
 have eM:M0.getD bs.length []=M0[bs.length]:=HM.getD_lt hbn
 have eE:∀t,HM.ent M0 bs.length t=(M0[bs.length]).getD t 0:=λt=>by unfold HM.ent;rw[eM]
 generalize M0[bs.length]=row at hgs hcl eE
 have hgl:=Paired.len hgs
 rw[cJ]at hgl
 refine⟨_,rfl,_,rfl,l,rs,_,_,rfl,rfl,hL,by rw[hbl];exact ay hrv,ra,rfl,⟨_,hra⟩,?_⟩
 refine g8 (xs:=gs) (λi σ H'=>Same H H'/\(List.range i).findSome? (λt=>if HM.ent M0 bs.length t≠0/\(t:Int)∉bs then HM.within M0 k (bs++[(t:Int)])else none)=none/\∃r3 r4 r5,σ=[some (.ref l),some (.ref b),some (.int (bs.map V.int).length),r3,r4,r5])
  ⟨Same.refl _,rfl,_,_,_,rfl⟩ (λi σ H' _ hP=>hP.1.seq hra) (λi v σ H' t hv ht hP=>?_) (λσ H' hP=>?_)
 ·obtain⟨S1,hno,r3,r4,r5,rfl⟩:=hP
  have hi:i<row.length:=by
   have:=(List.getElem?_eq_some_iff.mp hv).1
   omega
  obtain⟨p,hp,hF⟩:=Paired.get' hgs hv
  rw[ei hi]at hp
  cases hp
  have S2:Same H (upd H' t (.tup [.int i,v])):=S1.trans (ae ht _)
  have htt:upd H' t (.tup [.int i,v]) t=some (.tup [.int i,v]):=af
  generalize upd H' t (.tup [.int i,v])=H2 at S2 htt ⊢
  refine⟨t,_,rfl,SqT.of htt,rfl,_,_,rfl,_,_,rfl,rfl,?_⟩
  refine⟨_,rfl,λc0 hc0=>⟨dF (FQ.red (row.getD i 0) T),dF (0,1),(hF.mono S2).rep,IsF.rep ⟨c0,rfl,hc0 _⟩,cS _,cS _,_,rfl,?_⟩⟩
  rw[jC]
  refine iteN2 (λc1=>?_) (λc1=>?_)
  case refine_2=>
   have hz:row.getD i 0=0:=(dS (by omega)).mp c1
   refine⟨S2,?_,_,_,_,rfl⟩
   rw[LN.findSome_snoc hno,if_neg (λz=>z.1 (by rw[eE];exact hz))]
  have hz:row.getD i 0≠0:=λz=>c1 ((dS (by omega)).mpr z)
  refine⟨_,rfl,_,rfl,b,_,rfl,.inr (S2.tup hb),rfl,bV _,_,rfl,?_⟩
  show if(!inV (.int (i:Int)) (bs.map V.int))=true then _ else _
  rw[cB]
  refine iteN2 (λc2=>?_) (λc2=>?_)
  case refine_2=>
   refine⟨S2,?_,_,_,_,rfl⟩
   rw[LN.findSome_snoc hno,if_neg (λz=>z.2 c2)]
  have hon:HM.ent M0 bs.length i≠0/\(i:Int)∉bs:=⟨by rw[eE];exact hz,c2⟩
  refine⟨_,rfl,_,rfl,_,rfl,by show 1<=sizeLine;decide,λt1 ht1=>?_⟩
  have S3:Same H2 (upd H2 t1 (.tup [.int i])):=ae ht1 _
  have ht3:SqT K (upd H2 t1 (.tup [.int i])) t1 (([(i:Int)]:List Int).map V.int):=SqT.of af
  generalize upd H2 t1 (.tup [.int i])=H3 at S3 ht3 ⊢
  have S03:=S2.trans S3
  refine my (S03.tup hb) ht3 (by simp;omega) λp4 H4 S4 h4=>?_
  have S04:=S03.trans S4
  refine⟨l,p4,rs,M0,T,n,k,bs++[(i:Int)],rfl,S04.seq hL,Paired.mapP hM (λ_ _ h=>h.mono S04),ok,h4,by rw[List.length_append];simp;omega,by omega,λe5 H5 S5=>?_,λd e5 p5 H5 S5 h5=>?_⟩
  ·refine⟨_,rfl,rfl,_,rfl,iteF ?_⟩
   refine⟨S04.trans S5,?_,_,_,_,rfl⟩
   rw[LN.findSome_snoc hno,if_pos hon]
   exact e5
  ·refine⟨_,rfl,rfl,_,rfl,iteT ?_⟩
   refine⟨_,rfl,q1 d ?_ p5 H5 (S04.trans S5) h5⟩
   show(List.range M0.length).findSome? _=some d
   exact LN.findSome_up (i:=i+1) (by rw[LN.findSome_snoc hno,if_pos hon];exact e5) (by omega)
 ·obtain⟨S1,hno,r3,r4,r5,rfl⟩:=hP
  refine q0 ?_ _ S1
  show(List.range M0.length).findSome? _=none
  rw[show M0.length=gs.length by omega]
  exact hno
theorem sc_row_without:FnScope ["row","thing","weight","rest"] ["row","thing","weight"] (defScope (top 37)):=⟨rfl,rfl,rfl,by decide +kernel,rfl,by decide +kernel,by decide +kernel⟩
set_option maxHeartbeats 4000000 in
theorem d_row_without(M:Md K mg x)
  (Gminus:Dn P w K mg base CX0 3 "minus" ["one","two"] (sp2F fSub K)):Dn P w K mg base CX0 4 "row_without" ["row","thing","weight"] (spRowW K):=by
 have nd:=(sc_row_without).nd
 refine M.f_row_without.ok sc_row_without (λvs H Q E h=>?_) (λ_ _ _ _ _ _ us hl=>match us,hl with|[_,_,_],_=>rfl) (λf cdv A outer s H vs Q E hr h=>?_)
 ·obtain⟨r,w,gs,m,t,T,x,rfl,hro,hg,hw,⟨hT,hT2⟩,⟨ht0,ht1⟩,hm6,⟨hx0,hx1⟩,⟨hw0,hw1⟩,q⟩:=h
  rfl
 obtain⟨r,w,gs,m,t,T,x,rfl,hro,hg,hw,⟨hT,hT2⟩,⟨ht0,ht1⟩,hm6,⟨hx0,hx1⟩,⟨hw0,hw1⟩,q⟩:=h
 refine⟨_,(ad (aw (i:=3) nd rfl (Or.inl rfl) (aD be rfl M.b_list Boot.«list» (aa (pv 0) ac)))
   (ad (cp (aA Gminus hr (by decide) rfl pass0 (aa (au aB (pv 0) (pv 1) (λ_ _=>rfl)) (aa (pv 2) ac))) (dh (pv 3) (pv 1) b9))
   (ag (ao (pv 3))))),?_⟩
 have hT0:T≠0:=by omega
 have hgl:=Paired.len hg
 rw[cJ]at hgl
 obtain⟨_,e0,hw'⟩:=id hw
 cases e0
 have htn:t.toNat<m.length:=by omega
 refine⟨_,rfl,r,gs,rfl,.inl hro,λp hp=>?_⟩
 have S1:Same H (upd H p (.lst gs)):=ae hp _
 have hp1:upd H p (.lst gs) p=some (.lst gs):=af
 generalize upd H p (.lst gs)=H1 at S1 hp1 ⊢
 obtain⟨v,hv,va,rfl,hva⟩:=Paired.get hg (ei (D:=T) htn)
 refine⟨_,rfl,_,rfl,r,gs,t,_,rfl,rfl,S1.seq hro,cm ht0 hv,_,rfl,va,w,_,_,rfl,S1.tup hva,S1.tup hw',ba hT0 (by omega) (by omega),ba hT0 (by omega) (by omega),λpf H2 S2 hpf=>?_⟩
 rw[h9 hT0]at hpf
 have hp2:=S2 _ _ hp1
 have hix:ixN gs.length t=some t.toNat:=by
  unfold ixN
  rw[if_pos ht0,if_pos (by omega)]
 refine⟨_,rfl,_,rfl,p,_,_,_,rfl,rfl,hp2,hix,?_⟩
 refine⟨_,rfl,q p _ _ ((S1.trans S2).over hp _) hp af ?_⟩
 have e:fr T (LM.addOne m t (-x))=(fr T m).set t.toNat (FQ.red (m.getD t.toNat 0-x) T):=by
  unfold fr LM.addOne
  rw[List.map_set,Int.sub_eq_add_neg]
 rw[e]
 exact Paired.mapP (bT (av (S1.trans S2) hg) ⟨pf,rfl,SqT.of hpf⟩) λ_ _ h=>h.over hp2
theorem sc_lots_of:FnScope ["table","left","spent","lots","deal","weight"] ["table"] (defScope (top 38)):=⟨rfl,rfl,rfl,by decide +kernel,rfl,by decide +kernel,by decide +kernel⟩
set_option maxHeartbeats 4000000 in
theorem d_lots_of(M:Md K mg x)
  (Gdeal_within:Dn P w K mg base CX0 7 "deal_within" ["left","begun"] (spWithin K 6))
  (Gleast:Dn P w K mg base CX0 2 "least" ["parts"] (spLeast K))
  (Grow_without:Dn P w K mg base CX0 4 "row_without" ["row","thing","weight"] (spRowW K))
  (Gplus:Dn P w K mg base CX0 3 "plus" ["one","two"] (sp2F fAdd K)):Dn P w K mg base CX0 8 "lots_of" ["table"] (spLotsOf K):=by
 have nd:=(sc_lots_of).nd
 refine M.f_lots_of.ok sc_lots_of (λvs H Q E h=>?_) (λ_ _ _ _ _ _ us hl=>match us,hl with|[_],_=>rfl) (λf cdv A outer s H vs Q E hr h=>?_)
 ·obtain⟨a,us,Z,T,n,rfl,hA,hZ,ok,q⟩:=h
  rfl
 obtain⟨a,us,Z,T,n,rfl,hA,hZ,ok,q⟩:=h
 refine⟨_,(ad (bi (i:=1) nd rfl rfl rfl rfl (N:=["row"]) (caps:=[none]) (CompOk.of (by kernel_rfl)) (aC rfl) (aN (pv 0)) (λ_ _ _ _=>(am (i:=0) (show(["row"]:List Str).Nodup by decide +kernel) rfl (Or.inl rfl) (Or.inr rfl))) (λ_ _ _ _=>aL) (λ_ _ _ _=>(aD (fC (K:=K) rfl) rfl M.b_list Boot.«list» (aa (pv 0) ac))))
   (ad (aw (i:=2) nd rfl (Or.inl rfl) (bR M.c_NOTHING))
   (ad (aw (i:=3) nd rfl (Or.inl rfl) (cL ac))
   (ad (bW PassesOwn.never (aq (ck hr) (pv 2) (bR M.c_WHOLE) (nomark _)) (ad (aw (i:=4) nd rfl (Or.inl rfl) (aA Gdeal_within hr (by decide) rfl pass0 (aa (pv 1) (aa (bp ac) ac))))
   (ad (aw (i:=5) nd rfl (Or.inr rfl) (aA Gleast hr (by decide) rfl pass0 (aa (aQ rfl (N:=["row","thing"]) (caps:=[none,none]) (CompOk.of (by kernel_rfl)) (gw (bC aW (aC rfl) (bC aW (aC rfl) dP))) (io rfl M.b_zip (aa (pv 1) (aa (pv 4) ac))) (λ_ _ _ _=>(eh (K:=K) rfl 2 rfl (aG (am (i:=0) (show(["row","thing"]:List Str).Nodup by decide +kernel) rfl (Or.inl rfl) (Or.inr rfl)) (aG (am (i:=1) (show(["row","thing"]:List Str).Nodup by decide +kernel) rfl (Or.inl rfl) (Or.inr rfl)) bH)))) (λ_ _ _ _=>aL) (λ_ _ _ _=>(au (dz (K:=K) rfl) (pv 0) (pv 1) (λ_ _=>rfl)))) ac)))
   (ad (bi (i:=1) nd rfl rfl rfl rfl (N:=["row","thing","weight"]) (caps:=[none,none,some 5]) (CompOk.of (by kernel_rfl)) (gw (bC aW (aC rfl) (bC aW (aC rfl) dP))) (io rfl M.b_zip (aa (pv 1) (aa (pv 4) ac))) (λ_ _ _ _=>(eh (K:=K) rfl 2 rfl (aG (am (i:=0) (show(["row","thing","weight"]:List Str).Nodup by decide +kernel) rfl (Or.inl rfl) (Or.inr rfl)) (aG (am (i:=1) (show(["row","thing","weight"]:List Str).Nodup by decide +kernel) rfl (Or.inl rfl) (Or.inr rfl)) bH)))) (λ_ _ _ _=>aL) (λ_ _ _ _=>(aA Grow_without hr (by decide) rfl pass0 (aa (pv 0) (aa (pv 1) (aa (pv 2) ac))))))
   (ad (aw (i:=2) nd rfl (Or.inl rfl) (aA Gplus hr (by decide) rfl pass0 (aa (pv 2) (aa (pv 5) ac))))
   (ag (bQ (cW PySem.F.plainAttrs_list PySem.F.slot_list_append PySem.F.type_list_append bN (pv 3) (aa (bp (aa (pv 5) (aa (pv 4) ac))) ac)))))))))
   (ag (ao (pv 3))))))),?_⟩
 have hul:=Paired.len hZ
 have hn1:=ok.lo
 have hn6:=ok.hi
 have hT:=ok.t0
 have hT2:=ok.t1
 have hT0:T≠0:=by omega
 have hZn:=ok.reg.len
 have small0:(0:Nat)<=sizeLine:=by decide
 refine⟨_,rfl,a,rfl,⟨_,hA⟩,?_⟩
 refine aI (xs:=us) (λi ys H'=>Same H H'/\Paired (λv (m:List Int)=>∃a gs,v = .ref a/\H' a=some (.lst gs)/\Paired (IsF K H') gs (fr T m)) ys (Z.take i)) ⟨Same.refl _,by rw[List.take_zero];exact .nil⟩ (λi ys H' _ hP=>hP.1.seq hA) (λi x ys H' hx hP=>?_) (λys H' hP l0 hl0=>?_)
 ·obtain⟨S1,hys⟩:=hP
  obtain⟨r,hr',ta,gs,rfl,hta,hgs⟩:=Paired.get' hZ hx
  have hyl:=Paired.len hys
  rw[List.length_take]at hyl
  refine⟨_,rfl,ta,gs,rfl,.inr (S1.tup hta),λp hp=>⟨small1000 (by omega),S1.trans (ae hp _),?_⟩⟩
  rw[List.take_add_one,hr']
  exact Paired.app (Paired.mapP hys λ_ _ ⟨a',gs',e1,e2,e3⟩=>⟨a',gs',e1,ae hp _ _ _ e2,av (ae hp _) e3⟩) (.cons ⟨p,gs,rfl,af,av (S1.trans (ae hp _)) hgs⟩ .nil)
 obtain⟨S1,hys⟩:=hP
 rw[hul,List.take_length]at hys
 refine λc0 hc0=>?_
 refine⟨small0,λlo hlo=>?_⟩
 have Sl:Same H' (upd (upd H' l0 (.lst ys)) lo (.lst [])):=(ae hl0 _).trans (ae hlo _)
 have hl1:upd (upd H' l0 (.lst ys)) lo (.lst []) l0=some (.lst ys):=ae hlo _ _ _ af
 have hlo1:upd (upd H' l0 (.lst ys)) lo (.lst []) lo=some (.lst []):=af
 have hlo0:H' lo=none:=(ae hl0 _).free hlo
 have hloH:H lo=none:=S1.free hlo0
 generalize upd (upd H' l0 (.lst ys)) lo (.lst [])=H1 at Sl hl1 hlo1 ⊢
 refine⟨λm σ H2=>∃(i:Nat) (lf sp:Addr) (rs ls:List V) (r4 r5:Option V),m=(HM.it Z T i).2.toNat/\σ=[some (.ref a),some (.ref lf),some (.ref sp),some (.ref lo),r4,r5]/\Same H' H2/\(∀j,j<i->(HM.it Z T j).2≠0)/\SqL K H2 lf rs/\Paired (RwFX K H2 T lo) rs (HM.it Z T i).1/\
   IsF K H2 (.ref sp) (FQ.red (T-(HM.it Z T i).2) T)/\H2 lo=some (.lst ls)/\Paired (IsLot K H2 T) ls (HM.lotsL Z T i),
  ⟨_,0,l0,c0,ys,[],_,_,rfl,rfl,Sl,(λj hj=>absurd hj (Nat.not_lt_zero _)),SqL.of hl1,Paired.mapP hys (λ_ _ ⟨a',gs',e1,e2,e3⟩=>⟨a',gs',e1,(λz=>by rw[z,hlo0]at e2;cases e2),Sl _ _ e2,av Sl e3⟩),⟨c0,rfl,by rw[show T-(HM.it Z T 0).2=0 from Int.sub_self T,bJ hT0];exact hc0 _⟩,hlo1,.nil⟩,λm σ H2 hP=>?_⟩
 clear Sl hl1 hlo1
 obtain⟨i,lf,sp,rs,ls,r4,r5,rfl,rfl,S2,hne,hlf,hrs,hsp,hlo2,hls⟩:=hP
 obtain⟨_,e0,hsp'⟩:=id hsp
 cases e0
 have I:=HM.it_ok ok.reg hT hn1 i hne
 have hr0:=I.r0
 have hrT:=I.rT
 refine⟨_,rfl,λc1 hc1=>⟨_,_,hsp.rep,IsF.rep (p:=(1,1)) ⟨c1,rfl,hc1 _⟩,cS _,cS _,_,rfl,?_⟩⟩
 rw[jC]
 by_cases hz:(HM.it Z T i).2=0
 ·rw[decide_eq_true (by rw[hz,Int.sub_zero];exact i5 hT0)]
  exact⟨_,rfl,q i lo ls H2 ⟨hz,hne⟩ (S1.trans S2) hloH hlo2 hls⟩
 rw[decide_eq_false (λz=>hz (by have:=(je hT0).mp z;omega))]
 refine⟨_,(λσ' H' z=>z),?_⟩
 have S:=I.reg.step (by omega) hn1
 have eN:(HM.it Z T (i+1))=(LM.addDeal (HM.it Z T i).1 (HM.dealOf (HM.it Z T i).1) (-HM.wOf (HM.it Z T i).1),(HM.it Z T i).2-HM.wOf (HM.it Z T i).1):=rfl
 have eL:HM.lotsL Z T (i+1)=HM.lotsL Z T i++[(HM.wOf (HM.it Z T i).1,HM.dealOf (HM.it Z T i).1)]:=by
  unfold HM.lotsL
  rw[List.range_succ,List.map_append]
  rfl
 have hne':∀j,j<i+1->(HM.it Z T j).2≠0:=λj hj=>by
  rcases Nat.lt_succ_iff_lt_or_eq.mp hj with z|z
  ·exact hne j z
  ·rw[z];exact hz
 have hi60:i<=60:=by
  have h1:=I.few hz
  have h2:=HM.pn_le hn6 Z
  have h3:0<=HM.pn n (HM.it Z T i).1:=by
   have:=HM.sm_le (n:=n) (f:=λ_=>0) (g:=λp=>(HM.cnt n λt=>decide (HM.ent (HM.it Z T i).1 p t≠0):Nat)) λp _=>Int.natCast_nonneg _
   rw[HM.sm_zero]at this
   exact this
  omega
 have hreg:=I.reg
 clear I
 generalize HM.it Z T i=MR at *
 obtain⟨M,R⟩:=MR
 dsimp only at hz S eN eL hreg hr0 hrT hrs hsp hsp' ⊢
 have hMl:=hreg.len
 have hrl:=Paired.len hrs
 have hpm:=S.pm
 have hdl:=hpm.len
 have hw1:=S.w1
 have hwR:=S.wR
 have hM31:Sq31 n T M:=⟨hn1,hn6,hT,hT2,hMl,hreg.cols⟩
 -- the deal
 refine⟨_,rfl,small0,λpe hpe=>?_⟩
 have S3:Same H2 (upd H2 pe (.tup [])):=ae hpe _
 have hpe3:SqT K (upd H2 pe (.tup [])) pe (([]:List Int).map V.int):=SqT.of af
 generalize upd H2 pe (.tup [])=H3 at S3 hpe3 ⊢
 refine⟨lf,pe,rs,M,T,n,n,[],rfl,S3.seq hlf,Paired.mapP hrs (λ_ _ h=>(h.mono S3).fl),hM31,hpe3,by simp,by omega,λz=>absurd (S.some.symm.trans z) (by simp),λd ed pd H4 S4 hpd=>?_⟩
 rw[S.some]at ed
 cases ed
 have S24:=S3.trans S4
 -- the weight
 have hwv:∀p,p<n->HM.ent M p ((HM.dealOf M).getD p 0).toNat<=T:=λp hp=>by
  have hb:=hpm.mem.mp (show(HM.dealOf M).getD p 0∈HM.dealOf M by rw[HM.getD_lt (by omega)];exact List.getElem_mem _)
  have h1:=HM.sm_one_le (n:=n) (λi=>hreg.nn p i) (show((HM.dealOf M).getD p 0).toNat<n by omega)
  rw[hreg.row p hp]at h1
  omega
 have vl:(HM.valsM M (HM.dealOf M)).length=n:=by unfold HM.valsM;simp[hMl,hdl]
 have hrow:∀j,j<n->∃ra gs,rs[j]?=some (.ref ra)/\SqL K H2 ra gs/\Paired (IsF K H2) gs (fr T (M.getD j [])):=λj hj=>by
  obtain⟨rv,hrv,ra,gs,rfl,_,h1,h2⟩:=Paired.get hrs (List.getElem?_eq_getElem (show j<M.length by omega))
  exact⟨ra,gs,hrv,SqL.of h1,by rw[HM.getD_lt (by omega)];exact h2⟩
 have hcol:∀j,j<n->(M.getD j []).length=n:=λj hj=>by rw[HM.getD_lt (by omega)];exact hreg.cols _ (List.getElem_mem _)
 have hdb:∀j,j<n->0<=(HM.dealOf M).getD j 0/\(HM.dealOf M).getD j 0<n:=λj hj=>hpm.mem.mp (by rw[HM.getD_lt (by omega)];exact List.getElem_mem _)
 have hxy:rs.length=((HM.dealOf M).map V.int).length:=by rw[List.length_map];omega
 refine⟨_,rfl,_,rfl,false,true,lf,pd,rfl,⟨_,S24.seq hlf⟩,⟨_,hpd⟩,?_⟩
 refine d5 (xs:=rs) (ys:=(HM.dealOf M).map V.int) (λj zs Hx=>Same H4 Hx/\Paired (IsF K Hx) zs (fr T ((HM.valsM M (HM.dealOf M)).take j))) hxy ⟨Same.refl _,by rw[List.take_zero];exact .nil⟩ (λj zs Hx _ hP=>⟨(S24.trans hP.1).seq hlf,hP.1.tup hpd⟩) (λj x y zs Hx t hx hy ht hP=>?_) (λzs Hx hP Dd hDd=>?_)
 ·obtain⟨S5,hzs⟩:=hP
  have hj:j<n:=by have:=(List.getElem?_eq_some_iff.mp hx).1;omega
  obtain⟨ra,gs,hrv,h1,h2⟩:=hrow j hj
  rw[hrv]at hx
  cases hx
  rw[aS (by omega)]at hy
  cases hy
  have hb:=hdb j hj
  have htn:((HM.dealOf M).getD j 0).toNat<(M.getD j []).length:=by rw[hcol j hj];omega
  have S6:Same Hx (upd Hx t (.tup [.ref ra,.int ((HM.dealOf M).getD j 0)])):=ae ht _
  have htt:upd Hx t (.tup [.ref ra,.int ((HM.dealOf M).getD j 0)]) t=some (.tup [.ref ra,.int ((HM.dealOf M).getD j 0)]):=af
  generalize upd Hx t (.tup [.ref ra,.int ((HM.dealOf M).getD j 0)])=Hy at S6 htt ⊢
  obtain⟨v,hv,hF⟩:=Paired.get h2 (ei (D:=T) htn)
  have S26:=S24.trans (S5.trans S6)
  have hzl:=Paired.len hzs
  rw[cJ,List.length_take]at hzl
  refine⟨t,_,rfl,SqT.of htt,rfl,_,_,rfl,_,_,rfl,rfl,?_⟩
  refine⟨_,rfl,_,rfl,ra,gs,_,v,rfl,rfl,S26.seq h1,cm hb.1 hv,small1000 (by omega),S5.trans S6,?_⟩
  rw[List.take_add_one,HM.valsM_get hMl hdl hj]
  unfold fr
  rw[List.map_append]
  exact Paired.app (av S6 hzs) (.cons (hF.mono S26) .nil)
 obtain⟨S5,hzs⟩:=hP
 rw[show rs.length=(HM.valsM M (HM.dealOf M)).length by omega,List.take_length]at hzs
 have S6:Same Hx (upd Hx Dd (.lst zs)):=ae hDd _
 have hD6:SqL K (upd Hx Dd (.lst zs)) Dd zs:=SqL.of af
 generalize upd Hx Dd (.lst zs)=H6 at S6 hD6 ⊢
 have vne:HM.valsM M (HM.dealOf M)≠[]:=λz=>by rw[z]at vl;simp at vl;omega
 refine⟨Dd,zs,fr T (HM.valsM M (HM.dealOf M)),rfl,hD6,av S6 hzs,(λz=>vne (by unfold fr at z;exact List.map_eq_nil_iff.mp z)),by rw[cJ];omega,λp hp=>?_,λv hv=>?_⟩
 ·unfold fr at hp
  obtain⟨x,hx,rfl⟩:=List.mem_map.mp hp
  obtain⟨j,hj,e⟩:=List.mem_iff_getElem.mp hx
  have hjn:j<n:=by omega
  have e2:=HM.valsM_get hMl hdl hjn
  rw[List.getElem?_eq_getElem hj,e]at e2
  have e3:x=HM.ent M j ((HM.dealOf M).getD j 0).toNat:=Option.some.inj e2
  have h1:=hwv j hjn
  have h2:=hreg.nn j ((HM.dealOf M).getD j 0).toNat
  rw[<-e3]at h1 h2
  exact ba hT0 (by omega) (by omega)
 have ew:leastF (fr T (HM.valsM M (HM.dealOf M)))=FQ.red (HM.wOf M) T:=by
  unfold fr HM.wOf
  exact eX hT vne
 rw[ew]at hv
 obtain⟨wa,rfl,hwa⟩:=hv
 have S26:=S24.trans (S5.trans S6)
 -- what is left
 refine⟨_,rfl,_,rfl,false,true,lf,pd,rfl,⟨_,S26.seq hlf⟩,⟨_,(S5.trans S6).tup hpd⟩,?_⟩
 refine d5 (xs:=rs) (ys:=(HM.dealOf M).map V.int) (λj zs Hx=>Same H6 Hx/\Paired (RwFX K Hx T lo) zs ((LM.addDeal M (HM.dealOf M) (-HM.wOf M)).take j)) hxy ⟨Same.refl _,by rw[List.take_zero];exact .nil⟩ (λj zs Hx _ hP=>⟨(S26.trans hP.1).seq hlf,(S5.trans (S6.trans hP.1)).tup hpd⟩) (λj x y zs Hx t hx hy ht hP=>?_) (λzs H7 hP l7 hl7=>?_)
 ·obtain⟨S7,hzs⟩:=hP
  have hj:j<n:=by have:=(List.getElem?_eq_some_iff.mp hx).1;omega
  obtain⟨ra,gs,hrv,h1,h2⟩:=hrow j hj
  rw[hrv]at hx
  cases hx
  rw[aS (by omega)]at hy
  cases hy
  have hb:=hdb j hj
  have S8:Same Hx (upd Hx t (.tup [.ref ra,.int ((HM.dealOf M).getD j 0)])):=ae ht _
  have htt:upd Hx t (.tup [.ref ra,.int ((HM.dealOf M).getD j 0)]) t=some (.tup [.ref ra,.int ((HM.dealOf M).getD j 0)]):=af
  generalize upd Hx t (.tup [.ref ra,.int ((HM.dealOf M).getD j 0)])=Hy at S8 htt ⊢
  have S28:=S26.trans (S7.trans S8)
  have hzl:=Paired.len hzs
  rw[List.length_take,HM.addDeal_len (by omega)]at hzl
  have h3:=hwv j hj
  have h4:=hreg.nn j ((HM.dealOf M).getD j 0).toNat
  refine⟨t,_,rfl,SqT.of htt,rfl,_,_,rfl,_,_,rfl,rfl,?_⟩
  refine⟨_,rfl,_,rfl,_,rfl,ra,wa,gs,M.getD j [],_,T,HM.wOf M,rfl,S28.seq h1,av S28 h2,⟨wa,rfl,(S7.trans S8).tup hwa⟩,⟨hT,hT2⟩,⟨hb.1,by rw[hcol j hj];exact hb.2⟩,by rw[hcol j hj];exact hn6,⟨h4,h3⟩,⟨by omega,by omega⟩,λp gs' Hw Sw hp0 hp hgs'=>⟨small1000 (by omega),S7.trans (S8.trans Sw),?_⟩⟩
  rw[List.take_add_one,HM.addDeal_get (by omega) (by omega)]
  exact Paired.app (Paired.mapP hzs λ_ _ h=>h.mono (S8.trans Sw)) (.cons ⟨p,gs',rfl,(λz=>by rw[z,S28 _ _ hlo2]at hp0;cases hp0),hp,hgs'⟩ .nil)
 obtain⟨S7,hzs⟩:=hP
 rw[List.take_of_length_le (by rw[HM.addDeal_len (by omega)];omega)]at hzs
 have S8:Same H7 (upd H7 l7 (.lst zs)):=ae hl7 _
 have hl8:upd H7 l7 (.lst zs) l7=some (.lst zs):=af
 generalize upd H7 l7 (.lst zs)=H8 at S8 hl8 ⊢
 have S68:=S7.trans S8
 have S28:=S26.trans S68
 -- spent
 refine⟨_,rfl,_,rfl,sp,wa,_,_,rfl,S28.tup hsp',S68.tup hwa,ba hT0 (by omega) (by omega),ba hT0 (by omega) (by omega),λpf H9 S9 hpf=>?_⟩
 rw[b4 hT0]at hpf
 have S29:=S28.trans S9
 -- the lot
 have hlo9:=S29 _ _ hlo2
 have hlsl:=Paired.len hls
 unfold HM.lotsL at hlsl
 rw[List.length_map,List.length_range]at hlsl
 refine⟨_,rfl,.inl ⟨rfl,_,SqL.of hlo9⟩,_,rfl,_,rfl,by show 2<=sizeLine;decide,λpt hpt=>?_⟩
 have SA:Same H9 (upd H9 pt (.tup [.ref wa,.ref pd])):=ae hpt _
 have hptA:upd H9 pt (.tup [.ref wa,.ref pd]) pt=some (.tup [.ref wa,.ref pd]):=af
 generalize upd H9 pt (.tup [.ref wa,.ref pd])=HA at SA hptA ⊢
 have S2A:=S29.trans SA
 have hloA:=S2A _ _ hlo2
 refine⟨lo,ls,_,rfl,rfl,hloA,small1000 (by omega),?_⟩
 have S9A:=S9.trans SA
 have S6A:=S68.trans S9A
 refine⟨(R-HM.wOf M).toNat,by omega,i+1,l7,pf,zs,ls++[.ref pt],_,_,by rw[eN],rfl,(S2.trans S2A).over hlo0 _,hne',?_,?_,?_,af,?_⟩
 ·exact SqL.over (SqL.of (S9A _ _ hl8)) (λz=>by rw[z]at hl7;rw[(S26.trans S7) _ _ hlo2]at hl7;cases hl7)
 ·rw[eN]
  exact Paired.mapP hzs λ_ _ h=>(h.mono (S8.trans S9A)).over hloA
 ·rw[eN]
  refine IsF.over ⟨pf,rfl,SqT.of (SA _ _ ?_)⟩ hloA
  rw[hpf]
  show some (tupF (FQ.red (T-R+HM.wOf M) T))=some (tupF (FQ.red (T-(R-HM.wOf M)) T))
  rw[show T-R+HM.wOf M=T-(R-HM.wOf M)by omega]
 ·rw[eL]
  refine Paired.app (Paired.mapP hls λ_ _ h=>(h.mono S2A).over hloA) (.cons (IsLot.over ⟨pt,wa,pd,rfl,SqT.of hptA,⟨wa,rfl,S6A.tup hwa⟩,((S5.trans S6).trans S6A).tup hpd⟩ hloA) .nil)
theorem sc_is_listing:FnScope ["value"] ["value"] (defScope (top 18)):=⟨rfl,rfl,rfl,by decide +kernel,rfl,by decide +kernel,by decide +kernel⟩
set_option maxHeartbeats 4000000 in
theorem d_is_listing(M:Md K mg x):Dn P w K mg base CX0 1 "is_listing" ["value"] (spListing K):=by
 have nd:=(sc_is_listing).nd
 refine M.f_is_listing.ok sc_is_listing (λvs H Q E h=>?_) (λ_ _ _ _ _ _ us hl=>match us,hl with|[_],_=>rfl) (λf cdv A outer s H vs Q E hr h=>?_)
 ·obtain⟨v,t,rfl,ty,q⟩:=h
  rfl
 obtain⟨v,t,rfl,ty,q⟩:=h
 refine⟨_,(ag (ao (ai jg rfl M.b_isinstance Boot.«isinstance» (aa (pv 0) (aa (bp (aa (bv rfl M.b_list Boot.«list») (aa (bv rfl M.b_tuple Boot.«tuple») ac))) ac))))),?_⟩
 refine⟨_,rfl,by show 2<=sizeLine;decide,λtp htp=>?_⟩
 exact⟨v,tp,t,rfl,SqT.of af,ty.mono (ae htp _),q _ (ae htp _)⟩
theorem sc_has_people:FnScope ["rows"] ["rows"] (defScope (top 19)):=⟨rfl,rfl,rfl,by decide +kernel,rfl,by decide +kernel,by decide +kernel⟩
set_option maxHeartbeats 4000000 in
theorem d_has_people(M:Md K mg x)
  (Gis_listing:Dn P w K mg base CX0 1 "is_listing" ["value"] (spListing K)):Dn P w K mg base CX0 2 "has_people" ["rows"] (spPeople K):=by
 have nd:=(sc_has_people).nd
 refine M.f_has_people.ok sc_has_people (λvs H Q E h=>?_) (λ_ _ _ _ _ _ us hl=>match us,hl with|[_],_=>rfl) (λf cdv A outer s H vs Q E hr h=>?_)
 ·obtain⟨a,us,rfl,hq,q⟩:=h
  rfl
 obtain⟨a,us,rfl,hq,q⟩:=h
 refine⟨_,(ag (ao (bP (aA Gis_listing hr (by decide) rfl pass0 (aa (pv 0) ac)) (b6 (kH ky ky ah (ai al rfl M.b_len PySem.boot_len (aa (pv 0) ac)) (lB M.c_MOST_PEOPLE)))))),?_⟩
 have hty:∃t,tyOf K H (.ref a) t/\(isTy t "list"||isTy t "tuple")=true:=by
  rcases hq with hq|hq
  ·exact⟨"list",.inl ⟨rfl,_,hq⟩,rfl⟩
  ·exact⟨"tuple",.inr ⟨rfl,_,hq⟩,rfl⟩
 obtain⟨t,ty,ht⟩:=hty
 refine⟨_,rfl,.ref a,t,rfl,ty,λH1 S1=>⟨_,rfl,?_⟩⟩
 rw[ht]
 refine iteT ?_
 have hq1:SqL K H1 a us\/SqT K H1 a us:=hq.imp S1.seq S1.tup
 refine⟨_,rfl,a,us,rfl,hq1,_,_,rfl,rfl,_,rfl,?_⟩
 have q1:=q H1 S1
 refine iteD2 (λc=>?_) (λc=>?_)
 ·refine⟨_,_,rfl,rfl,?_⟩
  have e:decide ((us.length:Int)<=6)=decide (1<=us.length/\us.length<=6):=by
   apply Bool.eq_iff_iff.mpr;simp only[decide_eq_true_eq];omega
  dsimp only
  rw[e]
  exact q1
 ·have e:decide (1<=us.length/\us.length<=6)=false:=decide_eq_false (by omega)
  rw[e]at q1
  exact q1
theorem sc_is_share:FnScope ["value"] ["value"] (defScope (top 20)):=⟨rfl,rfl,rfl,by decide +kernel,rfl,by decide +kernel,by decide +kernel⟩
set_option maxHeartbeats 4000000 in
theorem d_is_share(M:Md K mg x)
  (Gis_fraction:Dn P w K mg base CX0 2 "is_fraction" ["value"] (spIsFr K))
  (Gbefore:Dn P w K mg base CX0 1 "before" ["one","two"] (spBefore K)):Dn P w K mg base CX0 3 "is_share" ["value"] (spShare K):=by
 have nd:=(sc_is_share).nd
 refine M.f_is_share.ok sc_is_share (λvs H Q E h=>?_) (λ_ _ _ _ _ _ us hl=>match us,hl with|[_],_=>rfl) (λf cdv A outer s H vs Q E hr h=>?_)
 ·obtain⟨v,y,T,rfl,hv,hT,hy,q⟩:=h
  rfl
 obtain⟨v,y,T,rfl,hv,hT,hy,q⟩:=h
 refine⟨_,(ag (ao (bP (aA Gis_fraction hr (by decide) rfl pass0 (aa (pv 0) ac)) (bP (eY (aA Gbefore hr (by decide) rfl pass0 (aa (pv 0) (aa (bR M.c_NOTHING) ac)))) (b6 (eY (aA Gbefore hr (by decide) rfl pass0 (aa (bR M.c_WHOLE) (aa (pv 0) ac))))))))),?_⟩
 obtain⟨a,rfl,hs⟩:=hv
 have hT0:T≠0:=by omega
 have zT:T.natAbs<2^100:=by omega
 have low:=FQ.red_low (t:=y) hT0
 have sz:=ba (a:=y) hT0 (dQ hy (by decide)) zT
 have n1:=FQ.red_neg_iff (x:=y) hT.1
 have n2:=FQ.red_gt_iff (x:=y) hT.1
 refine⟨_,rfl,a,FQ.red y T,rfl,hs,low,_,rfl,iteT ?_⟩
 refine⟨_,rfl,λc0 hc0=>⟨a,c0,FQ.red y T,(0,1),rfl,hs,hc0 _,sz,⟨by decide,by decide,by decide⟩,_,rfl,_,rfl,?_⟩⟩
 have e1:decide ((FQ.red y T).1*1<0*(FQ.red y T).2)=decide (y<0):=by
  apply Bool.eq_iff_iff.mpr;rw[decide_eq_true_eq,decide_eq_true_eq,Int.mul_one,Int.zero_mul];exact n1
 show if(!decide ((FQ.red y T).1*1<0*(FQ.red y T).2))=true then _ else _
 rw[e1]
 refine iteN2 (λh=>?_) (λh=>?_)
 ·refine λc1 hc1=>⟨_,rfl,c1,a,(1,1),FQ.red y T,rfl,hc1 _,hs,⟨by decide,by decide,by decide⟩,sz,_,rfl,?_⟩
  have e2:decide (1*(FQ.red y T).2<(FQ.red y T).1*1)=decide (T<y):=by
   apply Bool.eq_iff_iff.mpr;rw[decide_eq_true_eq,decide_eq_true_eq,Int.mul_one,Int.one_mul];exact n2
  show Q (.bl (!decide (1*(FQ.red y T).2<(FQ.red y T).1*1))) H
  rw[e2,show(!decide (T<y))=decide (0<=y/\y<=T)by apply Bool.eq_iff_iff.mpr;simp;omega]
  exact q
 ·rw[decide_eq_false (show ¬(0<=y/\y<=T)by omega)]at q
  exact q
theorem sc_is_share_row:FnScope ["row","count"] ["row","count"] (defScope (top 21)):=⟨rfl,rfl,rfl,by decide +kernel,rfl,by decide +kernel,by decide +kernel⟩
set_option maxHeartbeats 4000000 in
theorem d_is_share_row(M:Md K mg x)
  (Gis_listing:Dn P w K mg base CX0 1 "is_listing" ["value"] (spListing K))
  (Gis_share:Dn P w K mg base CX0 3 "is_share" ["value"] (spShare K)):Dn P w K mg base CX0 4 "is_share_row" ["row","count"] (spShareRow K):=by
 have nd:=(sc_is_share_row).nd
 refine M.f_is_share_row.ok sc_is_share_row (λvs H Q E h=>?_) (λ_ _ _ _ _ _ us hl=>match us,hl with|[_,_],_=>rfl) (λf cdv A outer s H vs Q E hr h=>?_)
 ·obtain⟨v,m,T,n,rfl,hv,hT,hB,hl,q⟩:=h
  rfl
 obtain⟨v,m,T,n,rfl,hv,hT,hB,hl,q⟩:=h
 refine⟨_,(ag (ao (bP (aA Gis_listing hr (by decide) rfl pass0 (aa (pv 0) ac)) (bP (bu cY (ai al rfl M.b_len PySem.boot_len (aa (pv 0) ac)) (pv 1) (nomark _)) (b6 (ai (cK rfl) rfl M.b_all Boot.«all» (aa (aQ rfl (N:=["share"]) (caps:=[none]) (CompOk.of (by kernel_rfl)) (aC rfl) (kO (pv 0)) (λ_ _ _ _=>(am (i:=0) (show(["share"]:List Str).Nodup by decide +kernel) rfl (Or.inl rfl) (Or.inr rfl))) (λ_ _ _ _=>aL) (λ_ _ _ _=>(aA Gis_share hr (by decide) rfl pass0 (aa (pv 0) ac)))) ac))))))),?_⟩
 obtain⟨a,gs,rfl,hq,hg⟩:=hv
 have hgl:=Paired.len hg
 rw[fr,List.length_map]at hgl
 have hty:∃t,tyOf K H (.ref a) t/\(isTy t "list"||isTy t "tuple")=true:=by
  rcases hq with hq|hq
  ·exact⟨"list",.inl ⟨rfl,_,hq⟩,rfl⟩
  ·exact⟨"tuple",.inr ⟨rfl,_,hq⟩,rfl⟩
 obtain⟨t,ty,ht⟩:=hty
 refine⟨_,rfl,.ref a,t,rfl,ty,λH1 S1=>⟨_,rfl,?_⟩⟩
 rw[ht]
 refine iteT ?_
 have hq1:SqL K H1 a gs\/SqT K H1 a gs:=hq.imp S1.seq S1.tup
 refine⟨_,rfl,a,gs,rfl,hq1,_,rfl,rfl,_,rfl,iteD2 (λhn=>?_) (λhn=>?_)⟩
 ·have hn':m.length=n:=by have:=Veq hn;omega
  rcases hq1 with hq1|hq1
  ·refine .inl ⟨_,rfl,a,rfl,⟨_,hq1⟩,?_⟩
   refine aI (xs:=gs) (λi ys H2=>H2=H1/\ys=((m.take i).map λy=>decide (0<=y/\y<=T)).map V.bl) ⟨rfl,by rw[List.take_zero];rfl⟩ (λi ys H2 _ hP=>by rw[hP.1];exact hq1) (λi v ys H2 hx hP=>?_) (λys H2 hP D hD=>?_)
   ·obtain⟨rfl,rfl⟩:=hP
    obtain⟨y,hy,hv⟩:=Paired.get' hg hx
    unfold fr at hy
    rw[List.getElem?_map]at hy
    cases hmi:m[i]? with
    | none=>rw[hmi]at hy;cases hy
    | some z=>
     rw[hmi]at hy
     have ey:FQ.red z T=y:=Option.some.inj hy
     subst ey
     refine⟨_,rfl,v,z,T,rfl,hv.mono S1,hT,hB z (List.mem_of_getElem? hmi),small1000 (by rw[List.length_map,List.length_map,List.length_take];omega),rfl,?_⟩
     rw[List.take_add_one,hmi,List.map_append,List.map_append]
     rfl
   ·obtain⟨rfl,rfl⟩:=hP
    rw[hgl,List.take_length]
    refine⟨D,m.map λy=>decide (0<=y/\y<=T),rfl,SqL.of af,q _ _ (S1.trans (ae hD _)) ?_⟩
    rw[List.all_map,List.all_eq_true]
    simp only[Function.comp_def,id,decide_eq_true_eq]
    exact⟨λh=>⟨hn',h⟩,λh=>h.2⟩
  ·refine .inr ⟨_,rfl,a,rfl,⟨_,hq1⟩,?_⟩
   refine cR (xs:=gs) (λi ys H2=>H2=H1/\ys=((m.take i).map λy=>decide (0<=y/\y<=T)).map V.bl) ⟨rfl,by rw[List.take_zero];rfl⟩ (λi ys H2 _ hP=>by rw[hP.1];exact hq1) (λi v ys H2 hx hP=>?_) (λys H2 hP D hD=>?_)
   ·obtain⟨rfl,rfl⟩:=hP
    obtain⟨y,hy,hv⟩:=Paired.get' hg hx
    unfold fr at hy
    rw[List.getElem?_map]at hy
    cases hmi:m[i]? with
    | none=>rw[hmi]at hy;cases hy
    | some z=>
     rw[hmi]at hy
     have ey:FQ.red z T=y:=Option.some.inj hy
     subst ey
     refine⟨_,rfl,v,z,T,rfl,hv.mono S1,hT,hB z (List.mem_of_getElem? hmi),small1000 (by rw[List.length_map,List.length_map,List.length_take];omega),rfl,?_⟩
     rw[List.take_add_one,hmi,List.map_append,List.map_append]
     rfl
   ·obtain⟨rfl,rfl⟩:=hP
    rw[hgl,List.take_length]
    refine⟨D,m.map λy=>decide (0<=y/\y<=T),rfl,SqL.of af,q _ _ (S1.trans (ae hD _)) ?_⟩
    rw[List.all_map,List.all_eq_true]
    simp only[Function.comp_def,id,decide_eq_true_eq]
    exact⟨λh=>⟨hn',h⟩,λh=>h.2⟩
 ·have hn':¬m.length=n:=λz=>hn (by show V.int (gs.length:Int)=V.int (n:Int);rw[hgl,z])
  exact q false H1 S1 ⟨λz=>(by cases z),λz=>absurd z.1 hn'⟩
theorem sc_table_of:FnScope ["rows","row","thing"] ["rows"] (defScope (top 22)):=⟨rfl,rfl,rfl,by decide +kernel,rfl,by decide +kernel,by decide +kernel⟩
set_option maxHeartbeats 4000000 in
theorem d_table_of(M:Md K mg x)
  (Ghas_people:Dn P w K mg base CX0 2 "has_people" ["rows"] (spPeople K))
  (Gis_share_row:Dn P w K mg base CX0 4 "is_share_row" ["row","count"] (spShareRow K))
  (Gtotal:Dn P w K mg base CX0 4 "total" ["parts"] (spTotal K)):Dn P w K mg base (CXE P w) 6 "table_of" ["rows"] (spTableOf K x):=by
 have nd:=(sc_table_of).nd
 refine M.f_table_of.okE sc_table_of (λvs H Q E h=>?_) (λ_ _ _ _ _ _ us hl=>match us,hl with|[_],_=>rfl) (λf cdv A outer s H vs Q E hr h=>?_)
 ·obtain⟨a,us,Z,T,rfl,hS,hM,hT,hl,hB,hE,q⟩:=h
  rfl
 obtain⟨a,us,Z,T,rfl,hS,hM,hT,hl,hB,hE,q⟩:=h
 refine⟨_,(ad (aJ (aM (aH (aA Ghas_people hr (by decide) rfl pass0 (aa (pv 0) ac)))) (ag (cO M.x_NoTable rfl (aa gE ac))) ar)
   (ad (aV PassesOwn.leaving rfl (aN (pv 0)) (am (i:=1) nd rfl (Or.inl rfl)) (ad (aJ (aM (aH (aA Gis_share_row hr (by decide) rfl pass0 (aa (pv 1) (aa (ai al rfl M.b_len PySem.boot_len (aa (pv 0) ac)) ac))))) (ag (cO M.x_NoTable rfl (aa gE ac))) ar)
   (ag (aJ (aq (ck hr) (aA Gtotal hr (by decide) rfl pass0 (aa (pv 1) ac)) (bR M.c_WHOLE) (nomark _)) (ag (cO M.x_NoTable rfl (aa gE ac))) ar))))
   (ad (aV PassesOwn.leaving rfl (aK rfl M.b_range (aa (ai al rfl M.b_len PySem.boot_len (aa (pv 0) ac)) ac)) (am (i:=2) nd rfl (Or.inr rfl)) (ag (aJ (aq (ck hr) (aA Gtotal hr (by decide) rfl pass0 (aa (aQ rfl (N:=["row","thing"]) (caps:=[none,some 2]) (CompOk.of (by kernel_rfl)) (aC rfl) (aN (pv 0)) (λ_ _ _ _=>(am (i:=0) (show(["row","thing"]:List Str).Nodup by decide +kernel) rfl (Or.inl rfl) (Or.inr rfl))) (λ_ _ _ _=>aL) (λ_ _ _ _=>(au (lh (K:=K) rfl) (pv 0) (pv 1) (λ_ _=>rfl)))) ac)) (bR M.c_WHOLE) (nomark _)) (ag (cO M.x_NoTable rfl (aa gE ac))) ar)))
   (ag (ao (aQ rfl (N:=["row"]) (caps:=[none]) (CompOk.of (by kernel_rfl)) (aC rfl) (aN (pv 0)) (λ_ _ _ _=>(am (i:=0) (show(["row"]:List Str).Nodup by decide +kernel) rfl (Or.inl rfl) (Or.inr rfl))) (λ_ _ _ _=>aL) (λ_ _ _ _=>(aD (bE (K:=K) rfl) rfl M.b_tuple Boot.«tuple» (aa (pv 0) ac))))))))),?_⟩
 have hlen:=Paired.len hM
 have hT0:T≠0:=by omega
 refine⟨_,rfl,a,us,rfl,.inl hS,λH1 S1=>⟨_,rfl,?_⟩⟩
 by_cases hok:1<=us.length/\us.length<=6
 case neg=>
  rw[decide_eq_false hok]
  refine iteT ⟨by show 1<=sizeLine;decide,hE (λo=>hok ?_) H1 S1⟩
  rw[hlen]
  exact⟨o.lo,o.hi⟩
 rw[decide_eq_true hok]
 refine iteF ?_
 refine⟨_,rfl,a,rfl,⟨_,S1.seq hS⟩,?_⟩
 refine bZ (xs:=us) (λi σ H2=>Same H1 H2/\(∀j,j<i->∀r,Z[j]?=some r->r.length=Z.length/\(∀y∈r,0<=y/\y<=T)/\r.sum=T)/\∃r1 r2,σ=[some (.ref a),r1,r2])
  ⟨Same.refl _,(λj hj=>absurd hj (Nat.not_lt_zero _)),_,_,rfl⟩ (λi σ H2 _ hP=>(S1.trans hP.1).seq hS) (λi v σ H2 hx hP=>?_) (λσ H2 hP=>?_)
 ·obtain⟨S2,hrows,r1,r2,rfl⟩:=hP
  obtain⟨m,hm,hv⟩:=Paired.get' hM hx
  have hmem:=List.mem_of_getElem? hm
  have hb:=hB m hmem
  refine⟨_,rfl,_,rfl,a,us,rfl,.inl ((S1.trans S2).seq hS),v,m,T,us.length,rfl,hv.mono (S1.trans S2),hT,hb.1,hb.2,λb H3 S3 hb3=>⟨_,rfl,?_⟩⟩
  rw[hlen]at hb3
  cases b with
  | false=>
   refine iteT ⟨by show 1<=sizeLine;decide,hE (λo=>?_) H3 (S1.trans (S2.trans S3))⟩
   have:=hb3.mpr ⟨o.len m hmem,o.bd m hmem⟩
   cases this
  | true=>
   refine iteF ?_
   obtain⟨c,gs,rfl,hq,hg⟩:=hv.mono (S1.trans (S2.trans S3))
   refine⟨_,rfl,c,gs,m,T,rfl,hq,hg,hT,hb.1,hb.2,λw H4 S4 hw=>?_⟩
   refine λc1 hc1=>⟨dF (FQ.red m.sum T),dF (1,1),hw.rep,.tup (hc1 _) (.cons (.int 1) (.cons (.int 1) .nil)) (by decide),aR (n:=1) (by simp[dF,okD]) (by decide),by decide,_,rfl,?_⟩
   rw[k6]
   refine iteN2 (λne=>?_) (λeq=>?_)
   ·exact⟨by show 1<=sizeLine;decide,hE (λo=>ne ((FQ.red_one_iff hT.1).mpr (o.rs m hmem))) H4 (S1.trans (S2.trans (S3.trans S4)))⟩
   ·refine⟨S2.trans (S3.trans S4),λj hj r hr=>?_,_,_,rfl⟩
    rcases Nat.lt_succ_iff_lt_or_eq.mp hj with hj|hj
    ·exact hrows j hj r hr
    ·subst hj
     rw[hm]at hr
     cases hr
     have z:=hb3.mp rfl
     exact⟨z.1,z.2,(FQ.red_one_iff hT.1).mp eq⟩
 ·obtain⟨S2,hrows,r1,r2,rfl⟩:=hP
  have hall:∀r∈Z,r.length=Z.length/\(∀y∈r,0<=y/\y<=T)/\r.sum=T:=λr hr=>by
   obtain⟨j,hj,e⟩:=List.mem_iff_getElem.mp hr
   exact hrows j (by omega) r (by rw[List.getElem?_eq_getElem hj,e])
  have S12:=S1.trans S2
  refine⟨_,rfl,a,us,rfl,.inl (S12.seq hS),_,rfl,by omega,by omega,?_⟩
  refine aO (λi σ H3=>Same H2 H3/\(∀j,j<i->(Z.map λr=>r.getD j 0).sum=T)/\∃r1 r2,σ=[some (.ref a),r1,r2])
   ⟨Same.refl _,(λj hj=>absurd hj (Nat.not_lt_zero _)),_,_,rfl⟩ (λi σ H3 hi hP=>?_) (λσ H3 hP=>?_)
  ·obtain⟨S3,hcols,r1,r2,rfl⟩:=hP
   have hi':i<Z.length:=by omega
   have S13:=S12.trans S3
   refine⟨_,rfl,a,rfl,⟨_,S13.seq hS⟩,?_⟩
   refine aI (xs:=us) (λk ys H4=>Same H3 H4/\Paired (IsF K H4) ys (fr T ((Z.take k).map λr=>r.getD i 0))) ⟨Same.refl _,by rw[List.take_zero];exact .nil⟩ (λk ys H4 _ hP=>(S13.trans hP.1).seq hS) (λk v ys H4 hx hP=>?_) (λys H4 hP D hD=>?_)
   ·obtain⟨S4,hys⟩:=hP
    obtain⟨m,hm,hv⟩:=Paired.get' hM hx
    have hmem:=List.mem_of_getElem? hm
    obtain⟨c,gs,rfl,hq,hg⟩:=hv.mono (S13.trans S4)
    have hyl:=Paired.len hys
    rw[fr,List.length_map,List.length_map,List.length_take]at hyl
    have hml:=(hall m hmem).1
    have hmi:(fr T m)[i]?=some (FQ.red (m.getD i 0) T):=by unfold fr;simp[show i<m.length by omega]
    obtain⟨g,hgi,hgF⟩:=Paired.get hg hmi
    have ex:atI gs (0+(i:Int))=some g:=by rw[Int.zero_add];exact ay hgi
    have fin:ys.length<sizeLine/\Same H3 H4/\Paired (IsF K H4) (ys++[g]) (fr T ((Z.take (k+1)).map λr=>r.getD i 0)):=by
     refine⟨small1000 (by omega),S4,?_⟩
     rw[List.take_add_one,hm,List.map_append]
     unfold fr
     rw[List.map_append]
     exact Paired.app hys (.cons hgF .nil)
    rcases hq with hq|hq
    ·exact⟨_,rfl,_,rfl,.inl ⟨c,gs,_,g,rfl,rfl,hq,ex,fin⟩⟩
    ·exact⟨_,rfl,_,rfl,.inr (.inl ⟨c,gs,_,g,rfl,rfl,hq,ex,fin⟩)⟩
   ·obtain⟨S4,hys⟩:=hP
    rw[hlen,List.take_length]at hys
    have bc:LM.Bd 90 (Z.map λr=>r.getD i 0):=λy hy=>by
     obtain⟨r,hr,rfl⟩:=List.mem_map.mp hy
     exact(hB r hr).1.getD i
    refine⟨D,ys,Z.map λr=>r.getD i 0,T,rfl,.inl (SqL.of af),av (ae hD _) hys,hT,bc,by rw[List.length_map];omega,λw H5 S5 hw=>?_⟩
    refine λc1 hc1=>⟨_,dF (1,1),hw.rep,.tup (hc1 _) (.cons (.int 1) (.cons (.int 1) .nil)) (by decide),aR (n:=1) (by simp[dF,okD]) (by decide),by decide,_,rfl,?_⟩
    rw[k6]
    have S35:Same H3 H5:=S4.trans ((ae hD _).trans S5)
    refine iteN2 (λne=>?_) (λeq=>?_)
    ·exact⟨by show 1<=sizeLine;decide,hE (λo=>ne ((FQ.red_one_iff hT.1).mpr (o.cs i hi'))) H5 (S13.trans S35)⟩
    ·refine⟨S3.trans S35,λj hj=>?_,_,_,rfl⟩
     rcases Nat.lt_succ_iff_lt_or_eq.mp hj with hj|hj
     ·exact hcols j hj
     ·subst hj
      exact(FQ.red_one_iff hT.1).mp eq
  ·obtain⟨S3,hcols,r1,r2,rfl⟩:=hP
   have ok:LM.OkT Z T:=⟨by omega,by omega,λr hr=>(hall r hr).1,λr hr=>(hall r hr).2.1,λr hr=>(hall r hr).2.2,λj hj=>hcols j (by omega)⟩
   have S13:=S12.trans S3
   refine⟨_,rfl,a,rfl,⟨_,S13.seq hS⟩,?_⟩
   refine aI (xs:=us) (λi ys H4=>Same H3 H4/\Paired (RwFT K H4 T) ys (Z.take i)) ⟨Same.refl _,by rw[List.take_zero];exact .nil⟩ (λi ys H4 _ hP=>(S13.trans hP.1).seq hS) (λi v ys H4 hx hP=>?_) (λys H4 hP D hD=>?_)
   ·obtain⟨S4,hys⟩:=hP
    obtain⟨m,hm,hv⟩:=Paired.get' hM hx
    obtain⟨c,gs,rfl,hq,hg⟩:=hv.mono (S13.trans S4)
    have hyl:=Paired.len hys
    rw[List.length_take]at hyl
    have step:∀w H5,Same H4 H5->RwFT K H5 T w m->ys.length<sizeLine/\Same H3 H5/\Paired (RwFT K H5 T) (ys++[w]) (Z.take (i+1)):=λw H5 S5 hw=>by
     refine⟨small1000 (by omega),S4.trans S5,?_⟩
     rw[List.take_add_one,hm]
     exact Paired.app (Paired.mapP hys λ_ _ h=>h.mono S5) (.cons hw .nil)
    rcases hq with hq|hq
    ·exact⟨_,rfl,c,_,rfl,.inl ⟨hq,λl hl'=>step (.ref l) _ (ae hl' _) ⟨l,gs,rfl,SqT.of af,av (ae hl' _) hg⟩⟩⟩
    ·exact⟨_,rfl,c,_,rfl,.inr ⟨hq,step (.ref c) _ (Same.refl _) ⟨c,gs,rfl,hq,hg⟩⟩⟩
   ·obtain⟨S4,hys⟩:=hP
    rw[hlen,List.take_length]at hys
    exact q ok D ys _ ((S13.trans S4).trans (ae hD _)) ((S13.trans S4).free hD) af (Paired.mapP hys λ_ _ h=>h.mono (ae hD _))
theorem sc_changers_of:FnScope ["wishes","table","floor","changers","person","wish","place","given","taken"] ["wishes","table","floor"] (defScope (top 24)):=⟨rfl,rfl,rfl,by decide +kernel,rfl,by decide +kernel,by decide +kernel⟩
set_option maxHeartbeats 4000000 in
theorem d_changers_of(M:Md K mg x)
  (Gbefore:Dn P w K mg base CX0 1 "before" ["one","two"] (spBefore K)):Dn P w K mg base CX0 2 "changers_of" ["wishes","table","floor"] (spChangers P w K):=by
 have nd:=(sc_changers_of).nd
 refine M.f_changers_of.ok sc_changers_of (λvs H Q E h=>?_) (λ_ _ _ _ _ _ us hl=>match us,hl with|[_,_,_],_=>rfl) (λf cdv A outer s H vs Q E hr h=>?_)
 ·obtain⟨a,b,f,ws,us,W,Z,T,c,n,rfl,hA,hW,hB,hZ,tw,hf,hc0,hcT,q⟩:=h
  rfl
 obtain⟨a,b,f,ws,us,W,Z,T,c,n,rfl,hA,hW,hB,hZ,tw,hf,hc0,hcT,q⟩:=h
 refine⟨_,(ad (aw (i:=3) nd rfl (Or.inl rfl) (lH (W:=keyR) (P:=P) (w:=w) (K:=K) rfl rfl rfl))
   (ad (aV PassesOwn.never rfl (jh rfl M.b_enumerate (aa (pv 0) ac)) (de rfl (aG (am (i:=4) nd rfl (Or.inl rfl)) (aG (am (i:=5) nd rfl (Or.inl rfl)) bH))) (ag (aV PassesOwn.never rfl (kL rfl M.b_enumerate (aa (pv 5) ac)) (de rfl (aG (am (i:=6) nd rfl (Or.inl rfl)) (aG (am (i:=7) nd rfl (Or.inl rfl)) bH))) (ag (aJ (aH (aA Gbefore hr (by decide) rfl pass0 (aa (pv 2) (aa (au ax (au aB (pv 1) (pv 4) (λ_ _=>rfl)) (pv 7) (λ_ _=>rfl)) ac)))) (ag (aV PassesOwn.never rfl (df (dA kP (pv 5) fJ (fK (pv 6)))) (am (i:=8) nd rfl (Or.inl rfl)) (ag (cp (pv 4) (dh (pv 3) (bp (aa (pv 7) (aa (pv 8) ac))) (mG (W:=keyR) (P:=P) (w:=w) (K:=K) rfl rfl rfl hr)))))) ar)))))
   (ag (ao (pv 3))))),?_⟩
 have hwl:=Paired.len hW
 have hn1:=tw.w.lo
 have hn6:=tw.w.hi
 have hWn:=tw.w.len
 have hT:=tw.z.t0
 have hT80:=tw.z.t1
 have hT0:T≠0:=by omega
 have zT:T.natAbs<2^100:=by omega
 have hwn:ws.length=n:=by omega
 have small2:(2:Nat)<=sizeLine:=by decide
 refine λd H1 hd0 hφ1 hD0=>?_
 have S1:Same H H1:=by obtain⟨φ,rfl⟩:=hφ1;exact ae hd0 _
 clear hφ1
 refine⟨_,rfl,a,rfl,⟨_,S1.seq hA⟩,?_⟩
 refine g8 (xs:=ws) (λi σ H2=>Same H H2/\∃(C:List (List Int×Int)) (r4 r5 r6 r7 r8:Option V),σ=[some (.ref a),some (.ref b),some (.ref f),some (.ref d),r4,r5,r6,r7,r8]/\DictI keyR P w K H2 d C/\ChI n W Z c i 0 0 C)
  ⟨S1,[],_,_,_,_,_,rfl,hD0,ChI.start⟩ (λi σ H2 _ hP=>hP.1.seq hA) (λi x σ H2 t hx ht hP=>?_) (λσ H2 hP=>?_)
 ·obtain⟨S2,C,r4,r5,r6,r7,r8,rfl,hC,hI⟩:=hP
  have hiW:i<W.length:=by have:=(List.getElem?_eq_some_iff.mp hx).1;omega
  have hin:i<n:=by omega
  obtain⟨row0,hrow,wa,rfl,hwa⟩:=Paired.get' hW hx
  have erow:W.getD i []=row0:=by rw[List.getD_eq_getElem?_getD,hrow];rfl
  have hpm:=tw.w.pm _ (List.mem_of_getElem? hrow)
  generalize row0=row at hwa hpm erow
  have hrl:=hpm.len
  have hnd:=hpm.nodup
  have hrb:∀j,j<n->0<=row.getD j 0/\row.getD j 0<n:=λj hj=>hpm.mem.mp (by rw[HM.getD_lt (by omega)];exact List.getElem_mem _)
  have hidx:∀j,j<n->row.idxOf (row.getD j 0)=j:=λj hj=>by rw[HM.getD_lt (by omega)];exact hnd.idxOf_getElem j (by omega)
  have hat:∀(g j:Nat),g<n->row.idxOf (g:Int)=j->j<n/\row.getD j 0=g:=λg j hg e=>by
   have hm:(g:Int)∈row:=hpm.mem.mpr ⟨by omega,by omega⟩
   have hl:=List.idxOf_lt_length_iff.mpr hm
   subst e
   exact⟨by omega,by rw[HM.getD_lt hl];exact List.getElem_idxOf hl⟩
  have S3:Same H2 (upd H2 t (.tup [.int i,.ref wa])):=ae ht _
  have htt:SqT K (upd H2 t (.tup [.int i,.ref wa])) t [.int i,.ref wa]:=SqT.of af
  generalize upd H2 t (.tup [.int i,.ref wa])=H3 at S3 htt ⊢
  refine⟨t,_,rfl,htt,rfl,_,_,rfl,_,_,rfl,rfl,?_⟩
  refine⟨_,rfl,wa,rfl,⟨_,(S2.trans S3).tup hwa⟩,?_⟩
  refine j7 (xs:=row.map V.int) (λj σ H4=>Same H H4/\∃(C:List (List Int×Int)) (r6 r7 r8:Option V),σ=[some (.ref a),some (.ref b),some (.ref f),some (.ref d),some (.int i),some (.ref wa),r6,r7,r8]/\DictI keyR P w K H4 d C/\ChI n W Z c i j 0 C)
   ⟨S2.trans S3,C,_,_,_,rfl,hC.mono S3,hI⟩ (λj σ H4 _ hP=>hP.1.tup hwa) (λj y σ H4 t2 hy ht2 hP=>?_) (λσ H4 hP=>?_)
  ·obtain⟨S4,C2,r6',r7',r8',rfl,hC2,hI2⟩:=hP
   have hjr:j<row.length:=by
    have:=(List.getElem?_eq_some_iff.mp hy).1
    rw[List.length_map]at this
    exact this
   have hjn:j<n:=by omega
   rw[aS hjr]at hy
   cases hy
   have hgb:=hrb j hjn
   have hgi:=hidx j hjn
   obtain⟨g,hg⟩:∃g:Nat,row.getD j 0=g:=⟨(row.getD j 0).toNat,by omega⟩
   rw[hg]at hgi hgb ⊢
   have hgn:g<n:=by omega
   have S5:Same H4 (upd H4 t2 (.tup [.int j,.int g])):=ae ht2 _
   have ht5:SqT K (upd H4 t2 (.tup [.int j,.int g])) t2 [.int j,.int g]:=SqT.of af
   generalize upd H4 t2 (.tup [.int j,.int g])=H5 at S5 ht5 ⊢
   refine⟨t2,_,rfl,ht5,rfl,_,_,rfl,_,_,rfl,rfl,?_⟩
   have S05:=S4.trans S5
   obtain⟨ra,gs,fa,hus,hra,hgs,hfa⟩:=dB hZ tw.z.reg hin hgn
   have eb:=tw.ent hin hgn
   refine⟨_,rfl,_,rfl,_,rfl,b,_,_,_,rfl,rfl,S05.seq hB,ay hus,_,rfl,ra,_,_,_,rfl,rfl,S05.tup hra,ay hgs,?_⟩
   refine⟨f,fa,FQ.red c T,FQ.red (HM.ent Z i g) T,rfl,S05.tup hf,S05.tup hfa,ba hT0 (by omega) zT,ba hT0 (by omega) zT,_,rfl,?_⟩
   show if lessF (FQ.red c T) (FQ.red (HM.ent Z i g) T)=true then _ else _
   rw[dL hT hT]
   refine iteD2 (λcc=>?_) (λcc=>?_)
   ·have hcz:c<HM.ent Z i g:=Int.lt_of_mul_lt_mul_right cc (Int.le_of_lt hT)
    have hrow5:=S05.tup hwa
    refine⟨_,rfl,_,rfl,_,rfl,me hrow5 hjr λps H6 S6 hps=>⟨ps,rfl,⟨_,hps⟩,?_⟩⟩
    have hlt:((row.take j).map V.int).length=j:=by rw[List.length_map,List.length_take];omega
    refine fM (xs:=(row.take j).map V.int) (λk σ H7=>Same H H7/\SqT K H7 ps ((row.take j).map V.int)/\∃(C:List (List Int×Int)) (r8:Option V),σ=[some (.ref a),some (.ref b),some (.ref f),some (.ref d),some (.int i),some (.ref wa),some (.int j),some (.int g),r8]/\DictI keyR P w K H7 d C/\ChI n W Z c i j k C)
     ⟨S05.trans S6,hps,C2,_,rfl,hC2.mono (S5.trans S6),hI2⟩ (λk σ H7 _ hP=>hP.2.1) (λk z σ H7 hz hP=>?_) (λσ H7 hP=>?_)
    ·obtain⟨S7,hps7,C3,r8',rfl,hC3,hI3⟩:=hP
     have hkj:k<j:=by have:=(List.getElem?_eq_some_iff.mp hz).1;omega
     have hkr:k<row.length:=by omega
     rw[List.getElem?_map,List.getElem?_take_of_lt hkj,List.getElem?_eq_getElem hkr]at hz
     have hz2:V.int row[k]=z:=Option.some.inj hz
     subst hz2
     have htb:=hrb k (by omega)
     have hti:=hidx k (by omega)
     rw[HM.getD_lt hkr]at htb hti
     obtain⟨tt,htt2⟩:∃tt:Nat,row[k]=tt:=⟨row[k].toNat,by omega⟩
     rw[htt2]at hti htb ⊢
     refine⟨_,rfl,_,rfl,_,rfl,_,rfl,small2,λpk hpk=>?_⟩
     have S8:Same H7 (upd H7 pk (.tup [.int g,.int tt])):=ae hpk _
     have hpk8:SqT K (upd H7 pk (.tup [.int g,.int tt])) pk (([(g:Int),(tt:Int)]:List Int).map V.int):=SqT.of af
     generalize upd H7 pk (.tup [.int g,.int tt])=H8 at S8 hpk8 ⊢
     refine⟨d,pk,[(g:Int),(tt:Int)],(i:Int),C3,rfl,rfl,rfl,hC3.mono S8,hpk8,by have:=hI3.len;omega,λH9 hφ hC9=>?_⟩
     obtain⟨φ,φ2,h1,rfl⟩:=hφ
     refine⟨(S7.trans S8).over hd0 _,gG (S8.tup hps7) h1,_,_,rfl,hC9,hI3.put ⟨hin,hgn,by omega,hcz,by rw[erow];omega⟩ λg2 t2 hcan e1 e2=>?_⟩
     rw[erow]at e1 e2
     obtain⟨_,f1⟩:=hat g2 j hcan.hg e1
     obtain⟨_,f2⟩:=hat t2 k hcan.ht e2
     rw[hg]at f1
     rw[HM.getD_lt hkr,htt2]at f2
     exact⟨by omega,by omega⟩
    ·obtain⟨S7,hps7,C3,r8',rfl,hC3,hI3⟩:=hP
     rw[hlt]at hI3
     refine⟨S7,C3,_,_,_,rfl,hC3,hI3.place (by omega) λg2 t2 hcan e=>?_⟩
     have:=hcan.lk
     omega
   ·have hcz:¬c<HM.ent Z i g:=λz=>cc (Int.mul_lt_mul_of_pos_right z hT)
    refine⟨S05,C2,_,_,_,rfl,hC2.mono S5,ChI.place (Nat.zero_le _) (λg2 t2 hcan e=>?_) hI2⟩
    rw[erow]at e
    obtain⟨_,e2⟩:=hat g2 j hcan.hg e
    rw[hg]at e2
    have:g2=g:=by omega
    subst this
    exact absurd hcan.sh hcz
  ·obtain⟨S4,C2,r6',r7',r8',rfl,hC2,hI2⟩:=hP
   rw[List.length_map,hrl]at hI2
   refine⟨S4,C2,_,_,_,_,_,rfl,hC2,ChI.person hn6 (λp g t hcan=>?_) hI2⟩
   have hpW:p<W.length:=by have:=hcan.hp;omega
   have hpm2:=tw.w.pm _ (List.getElem_mem hpW)
   rw[HM.getD_lt hpW]
   have hm:(g:Int)∈W[p]:=hpm2.mem.mpr ⟨by omega,by have:=hcan.hg;omega⟩
   have hl2:=List.idxOf_lt_length_iff.mpr hm
   rw[hpm2.len]at hl2
   exact hl2
 ·obtain⟨S2,C,r4,r5,r6,r7,r8,rfl,hC,hI⟩:=hP
  rw[hwn]at hI
  exact⟨_,rfl,q d C H2 S2 hC (hI.done hn6)⟩
theorem sc_way_back:FnScope ["changers","start","count","ways","reached","way","given"] ["changers","start","count"] (defScope (top 25)):=⟨rfl,rfl,rfl,by decide +kernel,rfl,by decide +kernel,by decide +kernel⟩
set_option maxHeartbeats 4000000 in
theorem d_way_back(M:Md K mg x):Dn P w K mg base CX0 1 "way_back" ["changers","start","count"] (spWayBack P w K):=by
 have nd:=(sc_way_back).nd
 refine M.f_way_back.ok sc_way_back (λvs H Q E h=>?_) (λ_ _ _ _ _ _ us hl=>match us,hl with|[_,_,_],_=>rfl) (λf cdv A outer s H vs Q E hr h=>?_)
 ·obtain⟨d,C,s0,n,rfl,hC,hs,hn6,q0,q1⟩:=h
  rfl
 obtain⟨d,C,s0,n,rfl,hC,hs,hn6,q0,q1⟩:=h
 refine⟨_,(ad (aw (i:=3) nd rfl (Or.inl rfl) (cL (aa (cL (aa (pv 1) ac)) ac)))
   (ad (aw (i:=4) nd rfl (Or.inl rfl) iK)
   (ad (bW PassesOwn.never (fN (pv 3) (λ_=>rfl)) (ad (aw (i:=5) nd rfl (Or.inl rfl) (cW PySem.F.plainAttrs_list PySem.F.slot_list_pop PySem.F.type_list_pop ip (pv 3) (aa ah ac)))
   (ag (aV PassesOwn.never rfl (aK rfl M.b_range (aa (pv 2) ac)) (am (i:=6) nd rfl (Or.inl rfl)) (ag (aJ (PW.pt (gA (aq f7 (pv 6) (pv 4) (by with_unfolding_all rfl)) (ez (aq (kY (W:=keyR) (P:=P) (w:=w) (K:=K) rfl rfl rfl hr) (bp (aa (pv 6) (aa (au aB (pv 5) (md kS ah) (λ_ _=>rfl)) ac))) (pv 0) (by with_unfolding_all rfl))))) (ad (aJ (aq cY (pv 6) (pv 1) (nomark _)) (ag (ao (pv 5))) ar)
   (ad (cp aT (dh (pv 4) (pv 6) kC))
   (ag (bQ (cW PySem.F.plainAttrs_list PySem.F.slot_list_append PySem.F.type_list_append bN (pv 3) (aa (aF k7 (pv 5) (cL (aa (pv 6) ac))) ac)))))) ar))))))
   (ag (ao b7))))),?_⟩
 have small1:(1:Nat)<=sizeLine:=by decide
 have small2:(2:Nat)<=sizeLine:=by decide
 refine⟨_,rfl,small1,λr0 hr0=>⟨small1,λlq hlq=>?_⟩⟩
 have S1:Same H (upd (upd H r0 (.lst [.int s0])) lq (.lst [.ref r0])):=(ae hr0 _).trans (ae hlq _)
 have hlq0:H lq=none:=(ae hr0 _).free hlq
 have hne:r0≠lq:=λz=>by rw[<-z,af]at hlq;cases hlq
 have hr1:upd (upd H r0 (.lst [.int s0])) lq (.lst [.ref r0]) r0=some (.lst ((ni [s0]).map V.int)):=by rw[az hne];exact af
 have hq1:upd (upd H r0 (.lst [.int s0])) lq (.lst [.ref r0]) lq=some (.lst (([r0]:List Addr).map V.ref)):=af
 generalize upd (upd H r0 (.lst [.int s0])) lq (.lst [.ref r0])=H1 at S1 hr1 hq1 ⊢
 refine λdr hdr=>?_
 have hdr0:H dr=none:=S1.free hdr
 have hdl:lq≠dr:=λz=>by rw[z,hdr]at hq1;cases hq1
 have S2:Same H1 (upd H1 dr (.dK (trueK []))):=ae hdr _
 have hd2:upd H1 dr (.dK (trueK [])) dr=some (.dK (trueK [])):=af
 generalize upd H1 dr (.dK (trueK []))=H2 at S2 hd2 ⊢
 dsimp only[gName]
 refine bX (λm σ H'=>Same H H'/\∃(Dn Q:List (List Nat)) (rs:List Addr) (R:List Int) (r5 r6:Option V),σ=[some (.ref d),some (.int s0),some (.int n),some (.ref lq),some (.ref dr),r5,r6]/\H' lq=some (.lst (rs.map V.ref))/\
   Paired (λ(r:Addr) (w:List Nat)=>r≠lq/\H r=none/\H' r=some (.lst ((ni w).map V.int))) rs Q/\H' dr=some (.dK (trueK R))/\ReachOk n s0 R (Dn++Q)/\RG.BF n (Edge C) s0 Dn Q/\(∀v∈Q,v.length<=Dn.length+1)/\m=n-Dn.length)
  ⟨_,S1.trans S2,[],[[s0]],[r0],[],_,_,rfl,S2 _ _ hq1,.cons ⟨hne,hr0,S2 _ _ hr1⟩ .nil,hd2,ReachOk.start n s0,RG.BF.start hs,(λv hv=>by rw[List.mem_singleton.mp hv];exact Nat.le_refl _),rfl⟩ (λm σ H3 hP=>?_) (λσ H3 Q1 Q2 hQ h=>?_)
 ·obtain⟨S3,Dn,Q,rs,R,r5,r6,rfl,hq3,hrs,hd3,hR,hBF,hln,rfl⟩:=hP
  have hcnt:=hBF.count
  rw[List.length_append]at hcnt
  refine⟨_,rfl,_,.inl ⟨_,SqL.of hq3,rfl⟩,?_⟩
  cases hrs with
  | nil=>exact q0 (λv hv hs=>hBF.none hv hs λa ha=>by cases ha) H3 S3
  | @cons r w rs Q hrw hrs=>
   rw[List.length_cons]at hcnt
   obtain⟨hrl,hr0',hr3⟩:=hrw
   refine iteT ?_
   refine⟨_,rfl,.inl ⟨rfl,_,SqL.of hq3⟩,lq,_,0,0,_,rfl,rfl,hq3,by decide,by decide,hV (by decide) (by rw[List.length_map,List.length_cons];omega),rfl,?_⟩
   have e0:((r::rs).map V.ref).eraseIdx 0=rs.map V.ref:=rfl
   rw[e0]
   have hrs4:Paired (λ(r:Addr) (w:List Nat)=>r≠lq/\H r=none/\upd H3 lq (.lst (rs.map V.ref)) r=some (.lst ((ni w).map V.int))) rs Q:=Paired.mapP hrs λ_ _ h=>⟨h.1,h.2.1,by rw[az h.1];exact h.2.2⟩
   have S4:Same H (upd H3 lq (.lst (rs.map V.ref))):=S3.over hlq0 _
   have hq4:upd H3 lq (.lst (rs.map V.ref)) lq=some (.lst (rs.map V.ref)):=af
   have hr4:upd H3 lq (.lst (rs.map V.ref)) r=some (.lst ((ni w).map V.int)):=by rw[az hrl];exact hr3
   have hd4:upd H3 lq (.lst (rs.map V.ref)) dr=some (.dK (trueK R)):=by rw[az (Ne.symm hdl)];exact hd3
   generalize upd H3 lq (.lst (rs.map V.ref))=H4 at S4 hq4 hr4 hd4 hrs4 ⊢
   refine⟨_,rfl,(n:Int),rfl,by omega,by omega,?_⟩
   refine aO (n:=n) (λi σ H5=>Same H H5/\∃(Q:List (List Nat)) (rs:List Addr) (R:List Int) (r6:Option V),σ=[some (.ref d),some (.int s0),some (.int n),some (.ref lq),some (.ref dr),some (.ref r),r6]/\H5 lq=some (.lst (rs.map V.ref))/\
     Paired (λ(r:Addr) (w:List Nat)=>r≠lq/\H r=none/\H5 r=some (.lst ((ni w).map V.int))) rs Q/\H5 r=some (.lst ((ni w).map V.int))/\H5 dr=some (.dK (trueK R))/\ReachOk n s0 R (Dn++w::Q)/\RG.BT n (Edge C) s0 Dn w Q i/\∀v∈Q,v.length<=Dn.length+2)
    ⟨S4,Q,rs,R,_,rfl,hq4,hrs4,hr4,hd4,hR,hBF.turn,λv hv=>Nat.le_succ_of_le (hln v (List.mem_cons_of_mem _ hv))⟩ (λi σ H5 hi hP=>?_) (λσ H5 hP=>?_)
   ·obtain⟨S5,Q5,rs5,R5,r6x,rfl,hq5,hrs5,hr5,hd5,hR5,hBT,hl5⟩:=hP
    have hR5l:=hR5.len
    have hpw:=hBT.pa w (List.mem_append_right _ List.mem_cons_self)
    have skip:((i:Int)∈R5\/¬Edge C i (RG.lastD w))->RG.BT n (Edge C) s0 Dn w Q5 (i+1):=λz=>hBT.skip λhe=>by
     rcases z with z|z
     ·exact(hR5.mem i).mp z
     ·exact absurd he z
    refine⟨_,rfl,_,rfl,dr,R5,_,rfl,rfl,hd5,_,rfl,?_⟩
    rw[Int.zero_add]
    refine iteN2 (λc1=>?_) (λc1=>?_)
    ·refine⟨_,rfl,_,rfl,_,rfl,r,_,_,_,rfl,rfl,SqL.of hr5,jx hpw.ne,small2,λpk hpk=>?_⟩
     have S6:Same H5 (upd H5 pk (.tup [.int (i:Int),.int (RG.lastD w:Nat)])):=ae hpk _
     have hpk6:SqT K (upd H5 pk (.tup [.int (i:Int),.int (RG.lastD w:Nat)])) pk (([(i:Int),((RG.lastD w:Nat):Int)]:List Int).map V.int):=SqT.of af
     generalize upd H5 pk (.tup [.int (i:Int),.int (RG.lastD w:Nat)])=H6 at S6 hpk6 ⊢
     refine⟨_,rfl,pk,d,[(i:Int),((RG.lastD w:Nat):Int)],C,rfl,rfl,(hC.mono (S5.trans S6)),hpk6,_,rfl,?_⟩
     have hrs6:=Paired.mapP hrs5 λ_ _ (h:_≠lq/\H _=none/\H5 _=_)=>(⟨h.1,h.2.1,S6 _ _ h.2.2⟩:_≠lq/\H _=none/\H6 _=_)
     have hq6:=S6 _ _ hq5
     have hr6:=S6 _ _ hr5
     have hd6:=S6 _ _ hd5
     show if(look C [(i:Int),((RG.lastD w:Nat):Int)]).isSome=true then _ else _
     refine ite2 (λc2=>?_) (λc2=>?_)
     ·have he:Edge C i (RG.lastD w):=c2
      have hwl:=hln w List.mem_cons_self
      have hcn:=hBT.bf.count
      rw[List.length_append,List.length_cons]at hcn
      have hrl5:=Paired.len hrs5
      refine⟨_,rfl,_,rfl,rfl,_,rfl,iteD2 (λc3=>?_) (λc3=>?_)⟩
      ·have e3:i=s0:=by have:=Veq c3;omega
       subst e3
       obtain⟨g1,g2,g3⟩:=hBT.found he
       exact⟨_,rfl,q1 w r H6 (S5.trans S6) hr0' hr6 g1 g2 g3⟩
      ·have e3:i≠s0:=λz=>c3 (by rw[z])
       refine⟨_,rfl,_,rfl,dr,R5,_,rfl,rfl,rfl,hd6,c1,by omega,?_⟩
       have nr:r≠dr:=λz=>by rw[z,hd6]at hr6;cases hr6
       have S7:Same H (upd H6 dr (.dK (trueK (R5++[(i:Int)])))):=(S5.trans S6).over hdr0 _
       have hd7:upd H6 dr (.dK (trueK (R5++[(i:Int)]))) dr=some (.dK (trueK (R5++[(i:Int)]))):=af
       have hq7:upd H6 dr (.dK (trueK (R5++[(i:Int)]))) lq=some (.lst (rs5.map V.ref)):=by rw[az hdl];exact hq6
       have hr7:upd H6 dr (.dK (trueK (R5++[(i:Int)]))) r=some (.lst ((ni w).map V.int)):=by rw[az nr];exact hr6
       have hrs7:Paired (λ(r:Addr) (w:List Nat)=>r≠lq/\H r=none/\upd H6 dr (.dK (trueK (R5++[(i:Int)]))) r=some (.lst ((ni w).map V.int))) rs5 Q5:=Paired.mapP hrs6 λx _ h=>⟨h.1,h.2.1,by rw[az (λz=>by have h3:=h.2.2;rw[z,hd6]at h3;cases h3)];exact h.2.2⟩
       generalize upd H6 dr (.dK (trueK (R5++[(i:Int)])))=H7 at S7 hd7 hq7 hr7 hrs7 ⊢
       refine⟨_,rfl,.inl ⟨rfl,_,SqL.of hq7⟩,_,rfl,_,rfl,small1,λl1 hl1=>?_⟩
       have S8:=ae hl1 (.lst [.int (i:Int)])
       refine⟨r,l1,_,_,rfl,rfl,S8 _ _ hr7,af,?_,λp hp=>?_⟩
       ·rw[List.length_map,aZ]
        exact Nat.le_of_lt (small1000 (by show w.length+1<=1000;omega))
       ·have S9:=S8.trans (ae hp (.lst ((ni w).map V.int++[.int (i:Int)])))
        have hp9:upd (upd H7 l1 (.lst [.int (i:Int)])) p (.lst ((ni w).map V.int++[.int (i:Int)])) p=some (.lst ((ni (w++[i])).map V.int)):=by rw[af,d4,List.map_append];rfl
        have hpn:H p=none:=(S7.trans S8).free hp
        have hq9:=S9 _ _ hq7
        have hpl:p≠lq:=λz=>by rw[z,S8 _ _ hq7]at hp;cases hp
        have hr9:=S9 _ _ hr7
        have hd9:=S9 _ _ hd7
        have hrs9:=Paired.mapP hrs7 λ_ _ (h:_≠lq/\H _=none/\H7 _=_)=>(⟨h.1,h.2.1,S9 _ _ h.2.2⟩:_≠lq/\H _=none/\upd (upd H7 l1 (.lst [.int (i:Int)])) p (.lst ((ni w).map V.int++[.int (i:Int)])) _=_)
        generalize upd (upd H7 l1 (.lst [.int (i:Int)])) p (.lst ((ni w).map V.int++[.int (i:Int)]))=H9 at S9 hp9 hq9 hr9 hd9 hrs9 ⊢
        refine⟨lq,_,_,rfl,rfl,hq9,small1000 (by rw[List.length_map];omega),?_⟩
        have hnl:∀u∈Dn++w::Q5,RG.lastD u≠i:=λu hu z=>c1 ((hR5.mem i).mpr ⟨e3,u,hu,z⟩)
        refine⟨(S7.trans S9).over hlq0 _,Q5++[w++[i]],rs5++[p],R5++[(i:Int)],_,rfl,by rw[af,List.map_append];rfl,?_,by rw[az hrl];exact hr9,by rw[az (Ne.symm hdl)];exact hd9,hR5.add (w:=w) hi e3 c1 (λu=>?_),hBT.add hi he e3 hnl,λv hv=>?_⟩
        ·exact Paired.app (Paired.mapP hrs9 λx _ h=>⟨h.1,h.2.1,by rw[az h.1];exact h.2.2⟩) (.cons ⟨hpl,hpn,by rw[az hpl];exact hp9⟩ .nil)
        ·simp only[List.mem_append,List.mem_cons,List.not_mem_nil,or_false]
         constructor
         ·rintro(z|z|z|z)
          ·exact .inl (.inl z)
          ·exact .inl (.inr (.inl z))
          ·exact .inl (.inr (.inr z))
          ·exact .inr z
         ·rintro((z|z|z)|z)
          ·exact .inl z
          ·exact .inr (.inl z)
          ·exact .inr (.inr (.inl z))
          ·exact .inr (.inr (.inr z))
        ·rcases List.mem_append.mp hv with z|z
         ·exact hl5 v z
         ·rw[List.mem_singleton.mp z,List.length_append]
          show w.length+1<=_
          omega
     ·exact⟨S5.trans S6,Q5,rs5,R5,_,rfl,hq6,hrs6,hr6,hd6,hR5,skip (.inr c2),hl5⟩
    ·exact⟨S5,Q5,rs5,R5,_,rfl,hq5,hrs5,hr5,hd5,hR5,skip (.inl c1),hl5⟩
   ·obtain⟨S5,Q5,rs5,R5,r6x,rfl,hq5,hrs5,hr5,hd5,hR5,hBT,hl5⟩:=hP
    have e1:(Dn++[w])++Q5=Dn++w::Q5:=by simp
    refine⟨n-(Dn.length+1),by omega,S5,Dn++[w],Q5,rs5,R5,_,_,rfl,hq5,hrs5,hd5,by rw[e1];exact hR5,hBT.done,(λv hv=>by rw[List.length_append];exact hl5 v hv),by rw[List.length_append];rfl⟩
 ·obtain⟨v,e,k,tv,q'⟩:=h
  exact⟨v,e,k,tv,hQ _ _ q'⟩
theorem sc_ring_of:FnScope ["changers","count","ways","rings","things","gifts"] ["changers","count"] (defScope (top 26)):=⟨rfl,rfl,rfl,by decide +kernel,rfl,by decide +kernel,by decide +kernel⟩
set_option maxHeartbeats 4000000 in
theorem d_ring_of(M:Md K mg x)
  (Gway_back:Dn P w K mg base CX0 1 "way_back" ["changers","start","count"] (spWayBack P w K)):Dn P w K mg base CX0 2 "ring_of" ["changers","count"] (spRingOf P w K):=by
 have nd:=(sc_ring_of).nd
 refine M.f_ring_of.ok sc_ring_of (λvs H Q E h=>?_) (λ_ _ _ _ _ _ us hl=>match us,hl with|[_,_],_=>rfl) (λf cdv A outer s H vs Q E hr h=>?_)
 ·obtain⟨d,C,W,Z,c,n,rfl,hC,hCh,hn1,hn6,q0,q1⟩:=h
  rfl
 obtain⟨d,C,W,Z,c,n,rfl,hC,hCh,hn1,hn6,q0,q1⟩:=h
 refine⟨_,(ad (bi (i:=2) nd rfl rfl rfl rfl (N:=["start","changers","count"]) (caps:=[none,some 0,some 1]) (CompOk.of (by kernel_rfl)) (aC rfl) (aK rfl M.b_range (aa (pv 1) ac)) (λ_ _ _ _=>(am (i:=0) (show(["start","changers","count"]:List Str).Nodup by decide +kernel) rfl (Or.inl rfl) (Or.inr rfl))) (λ_ _ _ _=>aL) (λ_ _ _ _=>(aA Gway_back hr (by decide) rfl pass0 (aa (pv 1) (aa (pv 0) (aa (pv 2) ac))))))
   (ad (bi (i:=3) nd rfl rfl rfl rfl (N:=["way"]) (caps:=[none]) (CompOk.of (by kernel_rfl)) (aC rfl) (aN (pv 2)) (λ_ _ _ _=>(am (i:=0) (show(["way"]:List Str).Nodup by decide +kernel) rfl (Or.inl rfl) (Or.inr rfl))) (λ_ _ _ _=>(cZ (aq gO (pv 0) b7 (nomark _)))) (λ_ _ _ _=>(pv 0)))
   (ad (aJ (aM (fN (pv 3) (λ_=>rfl))) (ag (ao b7)) ar)
   (ad (aw (i:=4) nd rfl (Or.inl rfl) (jl (K:=K) rfl rfl rfl M.b_min rfl M.b_len (aa (pv 3) ac)))
   (ad (aw (i:=5) nd rfl (Or.inl rfl) (aF k7 (dA js (pv 4) (fK ah) fJ) (dA js (pv 4) fJ (fK ah))))
   (ag (ao (aQ rfl (N:=["taken","given","changers"]) (caps:=[none,none,some 0]) (CompOk.of (by kernel_rfl)) (gw (bC aW (aC rfl) (bC aW (aC rfl) dP))) (io rfl M.b_zip (aa (pv 4) (aa (pv 5) ac))) (λ_ _ _ _=>(eh (K:=K) rfl 2 rfl (aG (am (i:=0) (show(["taken","given","changers"]:List Str).Nodup by decide +kernel) rfl (Or.inl rfl) (Or.inr rfl)) (aG (am (i:=1) (show(["taken","given","changers"]:List Str).Nodup by decide +kernel) rfl (Or.inl rfl) (Or.inr rfl)) bH)))) (λ_ _ _ _=>aL) (λ_ _ _ _=>(bp (aa (au (mH (W:=keyR) (P:=P) (w:=w) (K:=K) rfl rfl rfl hr) (pv 2) (bp (aa (pv 1) (aa (pv 0) ac))) (λ_ _=>rfl)) (aa (pv 1) (aa (pv 0) ac))))))))))))),?_⟩
 have small2:(2:Nat)<=sizeLine:=by decide
 have small3:(3:Nat)<=sizeLine:=by decide
 refine⟨_,rfl,(n:Int),rfl,by omega,by omega,?_⟩
 refine cz (n:=n) (λi ys H1=>Same H H1/\ys.length=i/\∀k v,ys[k]?=some v->WayV n (Edge C) H1 k v) ⟨Same.refl _,rfl,λk v h=>by cases h⟩ (λi ys H1 hi hP=>?_) (λys H1 hP pw hpw=>?_)
 ·obtain⟨S1,hyl,hys⟩:=hP
  refine⟨_,rfl,_,rfl,_,rfl,d,C,i,n,by show[V.ref d,V.int _,V.int _]=[V.ref d,V.int _,V.int _];rw[Int.zero_add],hC.mono S1,hi,hn6,(λhno H2 S2=>⟨small1000 (by omega),S1.trans S2,by rw[List.length_append,hyl];rfl,λk v hk=>?_⟩),λwy p H2 S2 hp0 hp g1 g2 g3=>⟨small1000 (by omega),S1.trans S2,by rw[List.length_append,hyl];rfl,λk v hk=>?_⟩⟩
  ·by_cases e:k<ys.length
   ·rw[List.getElem?_append_left e]at hk
    exact(hys k v hk).mono S2
   ·rw[List.getElem?_append_right (by omega)]at hk
    have e2:k-ys.length=0:=by have:=(List.getElem?_eq_some_iff.mp hk).1;simp at this;omega
    rw[e2]at hk
    cases hk
    have e3:k=i:=by omega
    subst e3
    exact .inl ⟨rfl,hno⟩
  ·by_cases e:k<ys.length
   ·rw[List.getElem?_append_left e]at hk
    exact(hys k v hk).mono S2
   ·rw[List.getElem?_append_right (by omega)]at hk
    have e2:k-ys.length=0:=by have:=(List.getElem?_eq_some_iff.mp hk).1;simp at this;omega
    rw[e2]at hk
    cases hk
    have e3:k=i:=by omega
    subst e3
    exact .inr ⟨wy,p,rfl,hp,g1,g2,g3⟩
 obtain⟨S1,hyl,hys⟩:=hP
 have S2:Same H1 (upd H1 pw (.lst ys)):=ae hpw _
 have hpw2:upd H1 pw (.lst ys) pw=some (.lst ys):=af
 generalize upd H1 pw (.lst ys)=H2 at S2 hpw2 ⊢
 have hys2:∀k v,ys[k]?=some v->WayV n (Edge C) H2 k v:=λk v h=>(hys k v h).mono S2
 refine⟨_,rfl,pw,rfl,⟨_,SqL.of hpw2⟩,?_⟩
 refine cG (xs:=ys) (λi zs H3=>H3=H2/\∃(rs:List Addr) (ws:List (List Nat)),zs=rs.map V.ref/\rs.length<=i/\Paired (λr w=>H2 r=some (.lst ((ni w).map V.int))/\∃k,k<i/\WayOk n (Edge C) k w) rs ws/\∀k,k<i->(∀u,RG.Closed n (Edge C) u->u.getD 0 0=k->False)\/∃w∈ws,WayOk n (Edge C) k w)
  ⟨rfl,[],[],rfl,Nat.le_refl _,.nil,λk hk=>absurd hk (Nat.not_lt_zero _)⟩ (λi zs H3 _ hP=>by rw[hP.1];exact SqL.of hpw2) (λi v zs H3 hv hP=>?_) (λzs H3 hP pr hpr=>?_)
 ·obtain⟨rfl,rs,ws,rfl,hrl,hrs,hall⟩:=hP
  have hin:i<n:=by have:=(List.getElem?_eq_some_iff.mp hv).1;omega
  have up:Paired (λr w=>H3 r=some (.lst ((ni w).map V.int))/\∃k,k<i+1/\WayOk n (Edge C) k w) rs ws:=Paired.mapP hrs λ_ _ h=>⟨h.1,by obtain⟨k,h1,h2⟩:=h.2;exact⟨k,by omega,h2⟩⟩
  rcases hys2 i v hv with⟨rfl,hno⟩|⟨wy,p,rfl,hp,hw⟩
  ·refine⟨_,rfl,rfl,_,rfl,iteF ⟨rfl,rs,ws,rfl,by omega,up,λk hk=>?_⟩⟩
   by_cases e:k=i
   ·subst e;exact .inl hno
   ·exact hall k (by omega)
  ·refine⟨_,rfl,rfl,_,rfl,iteT ⟨_,rfl,small1000 (by rw[List.length_map];omega),rfl,rs++[p],ws++[wy],by rw[List.map_append];rfl,by rw[List.length_append];exact Nat.succ_le_succ hrl,Paired.app up (.cons ⟨hp,i,Nat.lt_succ_self i,hw⟩ .nil),λk hk=>?_⟩⟩
   by_cases e:k=i
   ·subst e;exact .inr ⟨wy,by simp,hw⟩
   ·rcases hall k (by omega)with z|⟨w2,z1,z2⟩
    ·exact .inl z
    ·exact .inr ⟨w2,List.mem_append_left _ z1,z2⟩
 obtain⟨rfl,rs,ws,rfl,hrl,hrs,hall⟩:=hP
 rw[hyl]at hall hrl
 have S4:Same H3 (upd H3 pr (.lst (rs.map V.ref))):=ae hpr _
 have hpr4:upd H3 pr (.lst (rs.map V.ref)) pr=some (.lst (rs.map V.ref)):=af
 generalize upd H3 pr (.lst (rs.map V.ref))=H4 at S4 hpr4 ⊢
 have S04:=S1.trans (S2.trans S4)
 have hhd:∀v,RG.Closed n (Edge C) v->v.getD 0 0<n:=λv hv=>hv.bd _ (RG.getD_mem (RG.len_pos hv.ne))
 refine⟨_,rfl,_,.inl ⟨_,SqL.of hpr4,rfl⟩,?_⟩
 cases hrs with
 | nil=>
  exact iteT (q0 (λv hv=>by
   rcases hall _ (hhd v hv)with z|⟨w2,z,_⟩
   ·exact z v hv rfl
   ·cases z) H4 S04)
 | @cons r1 w1 rs ws hw1 hrs=>
  refine iteF ?_
  have hrs2:Paired (λr w=>H3 r=some (.lst ((ni w).map V.int))/\∃k,k<ys.length/\WayOk n (Edge C) k w) (r1::rs) (w1::ws):= .cons hw1 hrs
  generalize r1::rs=RS at hrs2 hpr4 hrl
  have hne:RS≠[]:=λz=>by rw[z]at hrs2;cases hrs2
  generalize w1::ws=WS at hrs2 hall
  refine⟨_,rfl,pr,RS,WS.map (λw=>(ni w).map V.int),rfl,SqL.of hpr4,hne,Paired.mapR (λr w h=>SqL.of (S4 _ _ h.1)) hrs2,λi r m hr hm hmin=>?_⟩
  obtain⟨w,hw,hrw,k,hk,hok⟩:=Paired.get' hrs2 hr
  rw[List.getElem?_map,hw]at hm
  have hm2:(ni w).map V.int=m:=Option.some.inj hm
  subst hm2
  have hmn:∀v,RG.Closed n (Edge C) v->w.length<=v.length:=λv hv=>by
   rcases hall _ (hhd v hv)with z|⟨w2,z1,z2⟩
   ·exact(z v hv rfl).elim
   ·have h1:=z2.mn v hv rfl
    have h2:=hmin _ (List.mem_map.mpr ⟨w2,z1,rfl⟩)
    rw[List.length_map,List.length_map,aZ,aZ]at h2
    omega
  have hring:=mi hCh hok.cl hmn
  have hwne:=hok.cl.ne
  have hwl:=RG.len_pos hwne
  have hcl:=hok.cl
  have hr4:=S4 _ _ hrw
  have hw6:w.length<=6:=by
   have h1:=hring.once
   have h2:=EM.nodup_len n (l:=ni ((triOf C w).map Prod.fst)) (List.pairwise_map.mpr (h1.imp λhab z=>hab (by omega))) (λx hx=>by
    unfold ni at hx
    obtain⟨y,hy,rfl⟩:=List.mem_map.mp hx
    obtain⟨t,ht,rfl⟩:=List.mem_map.mp hy
    have:=(hring.can t ht).hp
    omega)
   rw[aZ,List.length_map,cX]at h2
   omega
  refine⟨_,rfl,1,rfl,r,_,rfl,SqL.of hr4,λp1 hp1=>?_⟩
  have T1:=ae hp1 (.lst (cutV ((ni w).map V.int) (some 1) none))
  refine⟨_,rfl,1,rfl,r,_,rfl,SqL.of (T1 _ _ hr4),λp2 hp2=>?_⟩
  have T2:=ae hp2 (.lst (cutV ((ni w).map V.int) none (some 1)))
  refine⟨p1,p2,_,_,rfl,rfl,T2 _ _ af,af,?_,λgp hgp=>?_⟩
  ·rw[jF,jQ hwl,List.length_map,List.length_map,aZ,aZ,List.length_drop,List.length_take]
   exact Nat.le_of_lt (small1000 (by omega))
  have T3:Same H4 _:=T1.trans (T2.trans (ae hgp (.lst (cutV ((ni w).map V.int) (some 1) none++cutV ((ni w).map V.int) none (some 1)))))
  have hgp5:upd (upd (upd H4 p1 (.lst (cutV ((ni w).map V.int) (some 1) none))) p2 (.lst (cutV ((ni w).map V.int) none (some 1)))) gp (.lst (cutV ((ni w).map V.int) (some 1) none++cutV ((ni w).map V.int) none (some 1))) gp=some (.lst ((ni (gifts w)).map V.int)):=by
   rw[af,jF,jQ hwl,<-List.map_append,<-d4]
   rfl
  generalize upd (upd (upd H4 p1 (.lst (cutV ((ni w).map V.int) (some 1) none))) p2 (.lst (cutV ((ni w).map V.int) none (some 1)))) gp (.lst (cutV ((ni w).map V.int) (some 1) none++cutV ((ni w).map V.int) none (some 1)))=H5 at T3 hgp5 ⊢
  have hr5:=T3 _ _ hr4
  have S05:=S04.trans T3
  have gl:=jz hwne
  refine⟨_,rfl,_,rfl,false,false,r,gp,rfl,⟨_,SqL.of hr5⟩,⟨_,SqL.of hgp5⟩,?_⟩
  have hlen1:((ni w).map V.int).length=w.length:=by rw[List.length_map,aZ]
  have hlen2:((ni (gifts w)).map V.int).length=w.length:=by rw[List.length_map,aZ,gl]
  refine d5 (xs:=(ni w).map V.int) (ys:=(ni (gifts w)).map V.int) (λk zs H6=>Same H5 H6/\Paired (IsTri K H6) zs ((triOf C w).take k)) (by omega) ⟨Same.refl _,by rw[List.take_zero];exact .nil⟩ (λk zs H6 _ hP=>⟨SqL.of (hP.1 _ _ hr5),SqL.of (hP.1 _ _ hgp5)⟩) (λk x y zs H6 t hx hy ht hP=>?_) (λzs H6 hP=>?_)
  ·obtain⟨S6,hzs⟩:=hP
   have hkw:k<w.length:=by have:=(List.getElem?_eq_some_iff.mp hx).1;omega
   rw[eF hkw]at hx
   cases hx
   rw[eF (by omega),ke hwne hkw]at hy
   cases hy
   obtain⟨pn,hpn,hcan⟩:=hCh.edge (hcl.ed k hkw)
   have T7:=ae ht (.tup [.int ((w.getD k 0:Nat):Int),.int ((RG.nx w k:Nat):Int)])
   refine⟨t,_,rfl,SqT.of af,rfl,_,_,rfl,_,_,rfl,rfl,?_⟩
   generalize upd H6 t (.tup [.int ((w.getD k 0:Nat):Int),.int ((RG.nx w k:Nat):Int)])=H7 at T7 ⊢
   refine⟨_,rfl,_,rfl,_,rfl,small2,λpk hpk=>?_⟩
   have T8:=ae hpk (.tup [.int ((RG.nx w k:Nat):Int),.int ((w.getD k 0:Nat):Int)])
   refine⟨d,pk,[((RG.nx w k:Nat):Int),((w.getD k 0:Nat):Int)],C,(pn:Int),rfl,rfl,hC.mono (S05.trans (S6.trans (T7.trans T8))),SqT.of af,hpn,_,rfl,_,rfl,small3,λtp htp=>?_⟩
   have T9:=T7.trans (T8.trans (ae htp (.tup [.int (pn:Int),.int ((RG.nx w k:Nat):Int),.int ((w.getD k 0:Nat):Int)])))
   have hzl:=Paired.len hzs
   rw[List.length_take,cX]at hzl
   refine⟨small1000 (by omega),S6.trans T9,?_⟩
   rw[List.take_add_one,jm hkw]
   refine Paired.app (Paired.mapP hzs λ_ _ h=>h.mono T9) (.cons ⟨tp,rfl,?_⟩ .nil)
   rw[hpn]
   exact SqT.of af
  ·obtain⟨S6,hzs⟩:=hP
   rw[hlen1,List.take_of_length_le (by rw[cX];exact Nat.le_refl _)]at hzs
   intro Dl hDl
   exact q1 (triOf C w) Dl zs _ (S05.trans (S6.trans (ae hDl _))) ((S05.trans S6).free hDl) af (Paired.mapP hzs λ_ _ h=>h.mono (ae hDl _)) hring
theorem sc_step_of:FnScope ["table","ring"] ["table","ring"] (defScope (top 27)):=⟨rfl,rfl,rfl,by decide +kernel,rfl,by decide +kernel,by decide +kernel⟩
set_option maxHeartbeats 4000000 in
theorem d_step_of(M:Md K mg x)
  (Gleast:Dn P w K mg base CX0 2 "least" ["parts"] (spLeast K)):Dn P w K mg base CX0 3 "step_of" ["table","ring"] (spStepOf K):=by
 have nd:=(sc_step_of).nd
 refine M.f_step_of.ok sc_step_of (λvs H Q E h=>?_) (λ_ _ _ _ _ _ us hl=>match us,hl with|[_,_],_=>rfl) (λf cdv A outer s H vs Q E hr h=>?_)
 ·obtain⟨b,r,us,ls,W,Z,T,c,n,R,rfl,hB,hZ,tw,hR,hls,ok,q⟩:=h
  rfl
 obtain⟨b,r,us,ls,W,Z,T,c,n,R,rfl,hB,hZ,tw,hR,hls,ok,q⟩:=h
 refine⟨_,(ag (ao (aA Gleast hr (by decide) rfl pass0 (aa (aQ rfl (N:=["person","given","taken","table"]) (caps:=[none,none,none,some 0]) (CompOk.of (by kernel_rfl)) (gw (bC aW (aC rfl) (bC aW (aC rfl) (bC aW (aC rfl) dP)))) (aN (pv 1)) (λ_ _ _ _=>(eh (K:=K) rfl 3 rfl (aG (am (i:=0) (show(["person","given","taken","table"]:List Str).Nodup by decide +kernel) rfl (Or.inl rfl) (Or.inr rfl)) (aG (am (i:=1) (show(["person","given","taken","table"]:List Str).Nodup by decide +kernel) rfl (Or.inl rfl) (Or.inr rfl)) (aG (am (i:=2) (show(["person","given","taken","table"]:List Str).Nodup by decide +kernel) rfl (Or.inl rfl) (Or.inr rfl)) bH))))) (λ_ _ _ _=>aL) (λ_ _ _ _=>(au (da (K:=K) rfl) (au (dz (K:=K) rfl) (pv 3) (pv 0) (λ_ _=>rfl)) (pv 1) (λ_ _=>rfl)))) ac)))),?_⟩
 have hT:=tw.z.t0
 have hT80:=tw.z.t1
 have hT0:T≠0:=by omega
 have zT:T.natAbs<2^100:=by omega
 have hn6:=tw.w.hi
 have hRl:=ok.len
 have hll:=Paired.len hls
 refine⟨_,rfl,r,rfl,⟨_,hR⟩,?_⟩
 refine aI (xs:=ls) (λk zs H1=>Same H H1/\Paired (IsF K H1) zs ((R.take k).map λx=>FQ.red (HM.ent Z x.1 x.2.1) T)) ⟨Same.refl _,by rw[List.take_zero];exact .nil⟩ (λk zs H1 _ hP=>hP.1.seq hR) (λk v zs H1 hv hP=>?_) (λzs H1 hP D hD=>?_)
 ·obtain⟨S1,hzs⟩:=hP
  obtain⟨x,hx,xa,rfl,hxa⟩:=Paired.get' hls hv
  have hcan:=ok.can x (List.mem_of_getElem? hx)
  obtain⟨ra,gs,fa,hus,hra,hgs,hfa⟩:=dB hZ tw.z.reg hcan.hp hcan.hg
  have hzl:=Paired.len hzs
  rw[List.length_map,List.length_take]at hzl
  refine⟨xa,_,rfl,S1.tup hxa,rfl,_,_,rfl,_,_,rfl,_,_,rfl,rfl,?_⟩
  refine⟨_,rfl,_,rfl,b,_,_,_,rfl,rfl,S1.seq hB,ay hus,_,rfl,ra,_,_,_,rfl,rfl,S1.tup hra,ay hgs,small1000 (by omega),S1,?_⟩
  rw[List.take_add_one,hx,List.map_append]
  exact Paired.app hzs (.cons ⟨fa,rfl,S1.tup hfa⟩ .nil)
 ·obtain⟨S1,hzs⟩:=hP
  rw[hll,List.take_length]at hzs
  have SD:=ae hD (.lst zs)
  refine⟨D,zs,_,rfl,SqL.of af,av SD hzs,λz=>ok.ne (List.map_eq_nil_iff.mp z),by rw[List.length_map];omega,λp hp=>?_,λv hv=>q v _ (S1.trans SD) ?_⟩
  ·obtain⟨x,hx,rfl⟩:=List.mem_map.mp hp
   have hcan:=ok.can x hx
   have:=tw.ent hcan.hp hcan.hg
   exact ba hT0 (by omega) zT
  ·have e:leastF (R.map λx=>FQ.red (HM.ent Z x.1 x.2.1) T)=FQ.red (stepR Z R) T:=by
    have:=eX hT (l:=R.map λx=>HM.ent Z x.1 x.2.1) (λz=>ok.ne (List.map_eq_nil_iff.mp z))
    rw[List.map_map]at this
    exact this
   rw[e]at hv
   exact hv
theorem sc_widest_ring:FnScope ["wishes","table","ring","wider"] ["wishes","table"] (defScope (top 28)):=⟨rfl,rfl,rfl,by decide +kernel,rfl,by decide +kernel,by decide +kernel⟩
set_option maxHeartbeats 4000000 in
theorem d_widest_ring(M:Md K mg x)
  (Gring_of:Dn P w K mg base CX0 2 "ring_of" ["changers","count"] (spRingOf P w K))
  (Gchangers_of:Dn P w K mg base CX0 2 "changers_of" ["wishes","table","floor"] (spChangers P w K))
  (Gstep_of:Dn P w K mg base CX0 3 "step_of" ["table","ring"] (spStepOf K)):Dn P w K mg base CX0 4 "widest_ring" ["wishes","table"] (spWidest P w K):=by
 have nd:=(sc_widest_ring).nd
 refine M.f_widest_ring.ok sc_widest_ring (λvs H Q E h=>?_) (λ_ _ _ _ _ _ us hl=>match us,hl with|[_,_],_=>rfl) (λf cdv A outer s H vs Q E hr h=>?_)
 ·obtain⟨a,b,ws,us,W,Z,T,n,rfl,hA,hW,hB,hZ,tw,q0,q1⟩:=h
  rfl
 obtain⟨a,b,ws,us,W,Z,T,n,rfl,hA,hW,hB,hZ,tw,q0,q1⟩:=h
 refine⟨_,(ad (aw (i:=2) nd rfl (Or.inl rfl) b7)
   (ad (aw (i:=3) nd rfl (Or.inl rfl) (aA Gring_of hr (by decide) rfl pass0 (aa (aA Gchangers_of hr (by decide) rfl pass0 (aa (pv 0) (aa (pv 1) (aa (bR M.c_NOTHING) ac)))) (aa (ai al rfl M.b_len PySem.boot_len (aa (pv 0) ac)) ac))))
   (ad (bW PassesOwn.never (aq gO (pv 3) b7 (nomark _)) (ad (aw (i:=2) nd rfl (Or.inl rfl) (pv 3))
   (ag (aw (i:=3) nd rfl (Or.inl rfl) (aA Gring_of hr (by decide) rfl pass0 (aa (aA Gchangers_of hr (by decide) rfl pass0 (aa (pv 0) (aa (pv 1) (aa (aA Gstep_of hr (by decide) rfl pass0 (aa (pv 1) (aa (pv 2) ac))) ac)))) (aa (ai al rfl M.b_len PySem.boot_len (aa (pv 0) ac)) ac)))))))
   (ag (ao (pv 2)))))),?_⟩
 have hwl:=Paired.len hW
 have hn1:=tw.w.lo
 have hn6:=tw.w.hi
 have hWn:=tw.w.len
 have hT:=tw.z.t0
 have hT80:=tw.z.t1
 have hT0:T≠0:=by omega
 have hwn:ws.length=n:=by omega
 refine⟨_,rfl,_,rfl,λna hna=>?_⟩
 refine⟨a,b,na,ws,us,W,Z,T,0,n,rfl,hA,hW,hB,hZ,tw,by rw[bJ hT0];exact hna H,Int.le_refl _,by omega,λd0 C0 H1 S1 hC0 hCh0=>?_⟩
 refine⟨_,rfl,a,_,rfl,.inl (S1.seq hA),d0,C0,W,Z,0,n,by show[V.ref d0,V.int _]=[V.ref d0,V.int _];rw[hwn],hC0,hCh0,hn1,hn6,(λhno0 H2 S2=>?_),λR0 p0 ls0 H2 S2 g01 g02 g03 g04=>?_⟩
 ·have hI:WI K H H2 n W Z T 0 .non .non:= .inl ⟨rfl,rfl,.inl ⟨rfl,eP hCh0 hno0⟩⟩
  dsimp only[gName]
  refine bX (λm σ H3=>Same H H3/\∃v2 v3,σ=[some (.ref a),some (.ref b),some v2,some v3]/\WI K H H3 n W Z T m v2 v3) ⟨_,S1.trans S2,_,_,rfl,hI⟩ (λm σ H3 hP=>?_) (λσ H3 Q1 Q2 hQ h=>?_)
  ·obtain⟨S3,v2,v3,rfl,hw⟩:=hP
   refine⟨_,rfl,rfl,_,rfl,?_⟩
   rcases hw with⟨rfl,rfl,hv2⟩|⟨c,hc0,hcT,hring,rfl⟩
   ·refine iteF ?_
    rcases hv2 with⟨rfl,hno⟩|⟨R,p,ls,rfl,h1,h2,h3,h4⟩
    ·exact⟨_,rfl,q0 hno H3 S3⟩
    ·exact⟨_,rfl,q1 R p ls H3 S3 h1 h2 h3 h4⟩
   ·obtain⟨R,p,ls,rfl,h1,h2,h3,h4⟩:=hring
    obtain⟨sg,sl,sx,sm,se⟩:=eI h4
    have hcx:=h4.can sx sm
    have sb:=tw.ent hcx.hp hcx.hg
    rw[<-se]at sb
    refine iteT ?_
    refine⟨_,rfl,?_⟩
    refine⟨_,rfl,_,rfl,_,rfl,_,rfl,b,p,us,ls,W,Z,T,c,n,R,rfl,S3.seq hB,Paired.mapP hZ (λ_ _ h=>h.mono S3),tw,SqL.of h2,h3,h4,λv H4 S4 hv=>?_⟩
    obtain⟨fa,rfl,hfa⟩:=hv
    have S34:=S3.trans S4
    refine⟨a,b,fa,ws,us,W,Z,T,stepR Z R,n,rfl,S34.seq hA,Paired.mapP hW (λ_ _ h=>h.mono S34),S34.seq hB,Paired.mapP hZ (λ_ _ h=>h.mono S34),tw,hfa,sb.1,sb.2,λd C H5 S5 hC5 hCh=>?_⟩
    have S35:=S34.trans S5
    refine⟨_,rfl,a,_,rfl,.inl (S35.seq hA),d,C,W,Z,stepR Z R,n,by show[V.ref d,V.int _]=[V.ref d,V.int _];rw[hwn],hC5,hCh,hn1,hn6,(λhno H6 S6=>?_),λR2 p2 ls2 H6 S6 g1 g2 g3 g4=>?_⟩
    ·exact⟨0,by omega,S35.trans S6,.ref p,.non,rfl,.inl ⟨rfl,rfl,.inr (RingV.mono ⟨R,p,ls,rfl,h1,h2,h3,h4⟩ (S4.trans (S5.trans S6)) hc0)⟩⟩
    ·exact⟨(T-stepR Z R).toNat+1,by omega,S35.trans S6,.ref p,.ref p2,rfl,.inr ⟨stepR Z R,sb.1,sb.2,⟨R2,p2,ls2,rfl,S35.free g1,g2,g3,g4⟩,rfl⟩⟩
  ·obtain⟨v,e,h1,k,ek,qx⟩:=h
   exact⟨v,e,h1,k,ek,hQ _ _ qx⟩
 ·have hI:WI K H H2 n W Z T ((T-0).toNat+1) .non (.ref p0):= .inr ⟨0,Int.le_refl _,by omega,⟨R0,p0,ls0,rfl,S1.free g01,g02,g03,g04⟩,rfl⟩
  dsimp only[gName]
  refine bX (λm σ H3=>Same H H3/\∃v2 v3,σ=[some (.ref a),some (.ref b),some v2,some v3]/\WI K H H3 n W Z T m v2 v3) ⟨_,S1.trans S2,_,_,rfl,hI⟩ (λm σ H3 hP=>?_) (λσ H3 Q1 Q2 hQ h=>?_)
  ·obtain⟨S3,v2,v3,rfl,hw⟩:=hP
   refine⟨_,rfl,rfl,_,rfl,?_⟩
   rcases hw with⟨rfl,rfl,hv2⟩|⟨c,hc0,hcT,hring,rfl⟩
   ·refine iteF ?_
    rcases hv2 with⟨rfl,hno⟩|⟨R,p,ls,rfl,h1,h2,h3,h4⟩
    ·exact⟨_,rfl,q0 hno H3 S3⟩
    ·exact⟨_,rfl,q1 R p ls H3 S3 h1 h2 h3 h4⟩
   ·obtain⟨R,p,ls,rfl,h1,h2,h3,h4⟩:=hring
    obtain⟨sg,sl,sx,sm,se⟩:=eI h4
    have hcx:=h4.can sx sm
    have sb:=tw.ent hcx.hp hcx.hg
    rw[<-se]at sb
    refine iteT ?_
    refine⟨_,rfl,?_⟩
    refine⟨_,rfl,_,rfl,_,rfl,_,rfl,b,p,us,ls,W,Z,T,c,n,R,rfl,S3.seq hB,Paired.mapP hZ (λ_ _ h=>h.mono S3),tw,SqL.of h2,h3,h4,λv H4 S4 hv=>?_⟩
    obtain⟨fa,rfl,hfa⟩:=hv
    have S34:=S3.trans S4
    refine⟨a,b,fa,ws,us,W,Z,T,stepR Z R,n,rfl,S34.seq hA,Paired.mapP hW (λ_ _ h=>h.mono S34),S34.seq hB,Paired.mapP hZ (λ_ _ h=>h.mono S34),tw,hfa,sb.1,sb.2,λd C H5 S5 hC5 hCh=>?_⟩
    have S35:=S34.trans S5
    refine⟨_,rfl,a,_,rfl,.inl (S35.seq hA),d,C,W,Z,stepR Z R,n,by show[V.ref d,V.int _]=[V.ref d,V.int _];rw[hwn],hC5,hCh,hn1,hn6,(λhno H6 S6=>?_),λR2 p2 ls2 H6 S6 g1 g2 g3 g4=>?_⟩
    ·exact⟨0,by omega,S35.trans S6,.ref p,.non,rfl,.inl ⟨rfl,rfl,.inr (RingV.mono ⟨R,p,ls,rfl,h1,h2,h3,h4⟩ (S4.trans (S5.trans S6)) hc0)⟩⟩
    ·exact⟨(T-stepR Z R).toNat+1,by omega,S35.trans S6,.ref p,.ref p2,rfl,.inr ⟨stepR Z R,sb.1,sb.2,⟨R2,p2,ls2,rfl,S35.free g1,g2,g3,g4⟩,rfl⟩⟩
  ·obtain⟨v,e,h1,k,ek,qx⟩:=h
   exact⟨v,e,h1,k,ek,hQ _ _ qx⟩
theorem sc_row_behind:FnScope ["shares","given","taken","step","row"] ["shares","given","taken","step"] (defScope (top 29)):=⟨rfl,rfl,rfl,by decide +kernel,rfl,by decide +kernel,by decide +kernel⟩
set_option maxHeartbeats 4000000 in
theorem d_row_behind(M:Md K mg x)
  (Gminus:Dn P w K mg base CX0 3 "minus" ["one","two"] (sp2F fSub K))
  (Gplus:Dn P w K mg base CX0 3 "plus" ["one","two"] (sp2F fAdd K)):Dn P w K mg base CX0 4 "row_behind" ["shares","given","taken","step"] (spRowB K):=by
 have nd:=(sc_row_behind).nd
 refine M.f_row_behind.ok sc_row_behind (λvs H Q E h=>?_) (λ_ _ _ _ _ _ us hl=>match us,hl with|[_,_,_,_],_=>rfl) (λf cdv A outer s H vs Q E hr h=>?_)
 ·obtain⟨r,w,gs,m,g,t,T,x,rfl,hro,hg,hw,⟨hT,hT2⟩,hgm,htm,hgt,hm6,hmb,⟨hx0,hx1⟩,q⟩:=h
  rfl
 obtain⟨r,w,gs,m,g,t,T,x,rfl,hro,hg,hw,⟨hT,hT2⟩,hgm,htm,hgt,hm6,hmb,⟨hx0,hx1⟩,q⟩:=h
 refine⟨_,(ad (aw (i:=4) nd rfl (Or.inl rfl) (aD be rfl M.b_list Boot.«list» (aa (pv 0) ac)))
   (ad (cp (aA Gminus hr (by decide) rfl pass0 (aa (au aB (pv 4) (pv 1) (λ_ _=>rfl)) (aa (pv 3) ac))) (dh (pv 4) (pv 1) b9))
   (ad (cp (aA Gplus hr (by decide) rfl pass0 (aa (au aB (pv 4) (pv 2) (λ_ _=>rfl)) (aa (pv 3) ac))) (dh (pv 4) (pv 2) b9))
   (ag (ao (aD cI rfl M.b_tuple Boot.«tuple» (aa (pv 4) ac))))))),?_⟩
 have hT0:T≠0:=by omega
 have hgl:=Paired.len hg
 rw[cJ]at hgl
 obtain⟨_,e0,hw'⟩:=id hw
 cases e0
 have bg:=hmb (m.getD g 0) (by rw[HM.getD_lt hgm];exact List.getElem_mem _)
 have bt:=hmb (m.getD t 0) (by rw[HM.getD_lt htm];exact List.getElem_mem _)
 refine⟨_,rfl,r,gs,rfl,.inr hro,λp hp=>?_⟩
 have S1:Same H (upd H p (.lst gs)):=ae hp _
 have hp1:upd H p (.lst gs) p=some (.lst gs):=af
 generalize upd H p (.lst gs)=H1 at S1 hp1 ⊢
 obtain⟨v,hv,va,rfl,hva⟩:=Paired.get hg (ei (D:=T) hgm)
 obtain⟨u,hu,ua,rfl,hua⟩:=Paired.get hg (ei (D:=T) htm)
 refine⟨_,rfl,_,rfl,p,gs,_,_,rfl,rfl,SqL.of hp1,ay hv,_,rfl,va,w,_,_,rfl,S1.tup hva,S1.tup hw',ba hT0 (by omega) (by omega),ba hT0 (by omega) (by omega),λpf H2 S2 hpf=>?_⟩
 rw[h9 hT0]at hpf
 have hp2:=S2 _ _ hp1
 refine⟨_,rfl,_,rfl,p,_,_,g,rfl,rfl,hp2,by unfold ixN;rw[if_pos (by omega),if_pos (by omega)];rfl,?_⟩
 have S3:Same H (upd H2 p (.lst (gs.set g (.ref pf)))):=(S1.trans S2).over hp _
 have hp3:upd H2 p (.lst (gs.set g (.ref pf))) p=some (.lst (gs.set g (.ref pf))):=af
 have hpf3:SqT K (upd H2 p (.lst (gs.set g (.ref pf)))) pf [.int (FQ.red (m.getD g 0-x) T).1,.int (FQ.red (m.getD g 0-x) T).2]:=cg (SqT.of hpf) hp2
 generalize upd H2 p (.lst (gs.set g (.ref pf)))=H3 at S3 hp3 hpf3 ⊢
 have hu3:(gs.set g (.ref pf))[t]?=some (.ref ua):=by rw[List.getElem?_set_ne hgt];exact hu
 refine⟨_,rfl,_,rfl,p,_,_,_,rfl,rfl,SqL.of hp3,ay hu3,_,rfl,ua,w,_,_,rfl,S3.tup hua,S3.tup hw',ba hT0 (by omega) (by omega),ba hT0 (by omega) (by omega),λpt H4 S4 hpt=>?_⟩
 rw[b4 hT0]at hpt
 have hp4:=S4 _ _ hp3
 refine⟨_,rfl,_,rfl,p,_,_,t,rfl,rfl,hp4,by unfold ixN;rw[if_pos (by omega),if_pos (by rw[List.length_set];omega)];rfl,?_⟩
 have S5:Same H (upd H4 p (.lst ((gs.set g (.ref pf)).set t (.ref pt)))):=(S3.trans S4).over hp _
 have S45:=S4
 refine⟨_,rfl,p,_,rfl,.inl ⟨SqL.of af,λtp htp=>q (.ref tp) _ (S5.trans (ae htp _)) ⟨tp,_,rfl,SqT.of af,?_⟩⟩⟩
 rw[lM]
 have base:Paired (IsF K (upd H4 p (.lst ((gs.set g (.ref pf)).set t (.ref pt))))) gs (fr T m):=av S5 hg
 have f1:IsF K (upd H4 p (.lst ((gs.set g (.ref pf)).set t (.ref pt)))) (.ref pf) (FQ.red (m.getD g 0-x) T):=IsF.over ⟨pf,rfl,S4.tup hpf3⟩ hp4
 have f2:IsF K (upd H4 p (.lst ((gs.set g (.ref pf)).set t (.ref pt)))) (.ref pt) (FQ.red (m.getD t 0+x) T):=IsF.over ⟨pt,rfl,SqT.of hpt⟩ hp4
 exact Paired.mapP (bT (bT base f1) f2) λ_ _ h=>h.mono (ae htp _)
theorem sc_table_behind:FnScope ["table","ring","step","behind","person","given","taken"] ["table","ring"] (defScope (top 30)):=⟨rfl,rfl,rfl,by decide +kernel,rfl,by decide +kernel,by decide +kernel⟩
set_option maxHeartbeats 4000000 in
theorem d_table_behind(M:Md K mg x)
  (Gstep_of:Dn P w K mg base CX0 3 "step_of" ["table","ring"] (spStepOf K))
  (Grow_behind:Dn P w K mg base CX0 4 "row_behind" ["shares","given","taken","step"] (spRowB K)):Dn P w K mg base CX0 5 "table_behind" ["table","ring"] (spTabB K):=by
 have nd:=(sc_table_behind).nd
 refine M.f_table_behind.ok sc_table_behind (λvs H Q E h=>?_) (λ_ _ _ _ _ _ us hl=>match us,hl with|[_,_],_=>rfl) (λf cdv A outer s H vs Q E hr h=>?_)
 ·obtain⟨b,r,us,ls,W,Z,T,n,R,rfl,hB,hZ,tw,hR,hls,ok,q⟩:=h
  rfl
 obtain⟨b,r,us,ls,W,Z,T,n,R,rfl,hB,hZ,tw,hR,hls,ok,q⟩:=h
 refine⟨_,(ad (aw (i:=2) nd rfl (Or.inl rfl) (aA Gstep_of hr (by decide) rfl pass0 (aa (pv 0) (aa (pv 1) ac))))
   (ad (bi (i:=3) nd rfl rfl rfl rfl (N:=["row"]) (caps:=[none]) (CompOk.of (by kernel_rfl)) (aC rfl) (aN (pv 0)) (λ_ _ _ _=>(am (i:=0) (show(["row"]:List Str).Nodup by decide +kernel) rfl (Or.inl rfl) (Or.inr rfl))) (λ_ _ _ _=>aL) (λ_ _ _ _=>(aD (bE (K:=K) rfl) rfl M.b_tuple Boot.«tuple» (aa (pv 0) ac))))
   (ad (aV PassesOwn.never rfl (aN (pv 1)) (de rfl (aG (am (i:=4) nd rfl (Or.inl rfl)) (aG (am (i:=5) nd rfl (Or.inl rfl)) (aG (am (i:=6) nd rfl (Or.inl rfl)) bH)))) (ag (cp (aA Grow_behind hr (by decide) rfl pass0 (aa (au aB (pv 0) (pv 4) (λ_ _=>rfl)) (aa (pv 5) (aa (pv 6) (aa (pv 2) ac))))) (dh (pv 3) (pv 4) b9))))
   (ag (ao (pv 3)))))),?_⟩
 have hT:=tw.z.t0
 have hT80:=tw.z.t1
 have hn6:=tw.w.hi
 have hRl:=ok.len
 have hll:=Paired.len hls
 have hul:=Paired.len hZ
 have reg:=tw.z.reg
 have hZn:=reg.len
 obtain⟨sg,sl,sx,sm,se⟩:=eI ok
 have hcx:=ok.can sx sm
 have sb:=tw.ent hcx.hp hcx.hg
 rw[<-se]at sb
 refine⟨_,rfl,_,rfl,b,r,us,ls,W,Z,T,0,n,R,rfl,hB,hZ,tw,hR,hls,ok,λv H1 S1 hv=>?_⟩
 obtain⟨sa,rfl,hsa⟩:=hv
 refine⟨_,rfl,b,rfl,⟨_,S1.seq hB⟩,?_⟩
 refine aI (xs:=us) (λk zs H2=>H2=H1/\zs=us.take k) ⟨rfl,by rw[List.take_zero]⟩ (λk zs H2 _ hP=>by rw[hP.1];exact S1.seq hB) (λk u zs H2 hu hP=>?_) (λzs H2 hP D hD=>?_)
 ·obtain⟨rfl,rfl⟩:=hP
  have hk:k<us.length:=(List.getElem?_eq_some_iff.mp hu).1
  obtain⟨m,hm,ra,gs,rfl,hra,hgs⟩:=Paired.get' hZ hu
  refine⟨_,rfl,ra,gs,rfl,.inr ⟨S1.tup hra,small1000 (by rw[List.length_take];omega),rfl,?_⟩⟩
  rw[List.take_add_one,hu]
  rfl
 obtain⟨rfl,rfl⟩:=hP
 rw[List.take_length]
 have S2:Same H2 (upd H2 D (.lst us)):=ae hD _
 have hD0:H D=none:=S1.free hD
 have hD2:upd H2 D (.lst us) D=some (.lst us):=af
 generalize upd H2 D (.lst us)=H3 at S2 hD2 ⊢
 have S13:=S1.trans S2
 refine⟨_,rfl,r,rfl,⟨_,S13.seq hR⟩,?_⟩
 refine bZ (xs:=ls) (λk σ H4=>Same H H4/\SqT K H4 sa [.int (FQ.red (stepR Z R) T).1,.int (FQ.red (stepR Z R) T).2]/\∃(vs:List V) (r4 r5 r6:Option V),σ=[some (.ref b),some (.ref r),some (.ref sa),some (.ref D),r4,r5,r6]/\H4 D=some (.lst vs)/\Paired (RwFT K H4 T) vs (behind Z (stepR Z R) R k))
  ⟨S13,S2.tup hsa,us,_,_,_,rfl,hD2,Paired.mapP hZ λ_ _ h=>h.mono S13⟩ (λk σ H4 _ hP=>hP.1.seq hR) (λk v σ H4 hv hP=>?_) (λσ H4 hP=>?_)
 ·obtain⟨S4,hsa4,vs,r4,r5,r6,rfl,hD4,hvs⟩:=hP
  obtain⟨x,hx,xa,rfl,hxa⟩:=Paired.get' hls hv
  have hcan:=ok.can x (List.mem_of_getElem? hx)
  have hp:=hcan.hp
  have hpZ:x.1<Z.length:=by omega
  have hcols:=reg.cols _ (List.getElem_mem hpZ)
  obtain⟨u,hu,ra,gs,rfl,hra,hgs⟩:=Paired.get hZ (List.getElem?_eq_getElem hpZ)
  have hvl:=Paired.len hvs
  rw[bD]at hvl
  have hgt:x.2.1≠x.2.2:=λz=>by have:=hcan.lk;rw[z]at this;omega
  have eZ:Z.getD x.1 []=Z[x.1]:=HM.getD_lt hpZ
  refine⟨xa,_,rfl,S4.tup hxa,rfl,_,_,rfl,_,_,rfl,_,_,rfl,rfl,?_⟩
  refine⟨_,rfl,_,rfl,b,_,_,_,rfl,rfl,S4.seq hB,ay hu,_,rfl,_,rfl,_,rfl,ra,sa,gs,Z[x.1],x.2.1,x.2.2,T,stepR Z R,rfl,S4.tup hra,av S4 hgs,⟨sa,rfl,hsa4⟩,⟨hT,hT80⟩,by have:=hcan.hg;omega,by have:=hcan.ht;omega,hgt,by omega,cM reg (List.getElem_mem hpZ),sb,λnv H5 S5 hnv=>?_⟩
  have hD5:=S5 _ _ hD4
  refine⟨_,rfl,_,rfl,D,_,_,x.1,rfl,rfl,hD5,by unfold ixN;rw[if_pos (by omega),if_pos (by omega)];rfl,?_⟩
  refine⟨(S4.trans S5).over hD0 _,cg (S5.tup hsa4) hD5,_,_,_,_,rfl,af,?_⟩
  rw[bw hx,eZ]
  exact Paired.mapP (Paired.setP (Paired.mapP hvs λ_ _ h=>h.mono S5) hnv) λ_ _ h=>h.over hD5
 ·obtain⟨S4,hsa4,vs,r4,r5,r6,rfl,hD4,hvs⟩:=hP
  rw[hll]at hvs
  exact⟨_,rfl,q D vs H4 S4 hD0 hD4 hvs⟩
theorem sc_is_kept:FnScope ["given","things","changers"] ["given","things","changers"] (defScope (top 31)):=⟨rfl,rfl,rfl,by decide +kernel,rfl,by decide +kernel,by decide +kernel⟩
set_option maxHeartbeats 4000000 in
theorem d_is_kept(M:Md K mg x):Dn P w K mg base CX0 1 "is_kept" ["given","things","changers"] (spKept P w K):=by
 have nd:=(sc_is_kept).nd
 refine M.f_is_kept.ok sc_is_kept (λvs H Q E h=>?_) (λ_ _ _ _ _ _ us hl=>match us,hl with|[_,_,_],_=>rfl) (λf cdv A outer s H vs Q E hr h=>?_)
 ·obtain⟨d,l,C,ts,g,rfl,hC,hL,h60,q⟩:=h
  rfl
 obtain⟨d,l,C,ts,g,rfl,hC,hL,h60,q⟩:=h
 refine⟨_,(ag (ao (eY (ai (kJ rfl) rfl M.b_any Boot.«any» (aa (aQ rfl (N:=["taken","given","changers"]) (caps:=[none,some 0,some 2]) (CompOk.of (by kernel_rfl)) (aC rfl) (aN (pv 1)) (λ_ _ _ _=>(am (i:=0) (show(["taken","given","changers"]:List Str).Nodup by decide +kernel) rfl (Or.inl rfl) (Or.inr rfl))) (λ_ _ _ _=>aL) (λ_ _ _ _=>(bu (kY (W:=keyR) (P:=P) (w:=w) (K:=K) rfl rfl rfl hr) (bp (aa (pv 1) (aa (pv 0) ac))) (pv 2) (by with_unfolding_all rfl)))) ac))))),?_⟩
 have small2:(2:Nat)<=sizeLine:=by decide
 have hlen:((ni ts).map V.int).length=ts.length:=by rw[List.length_map,aZ]
 refine⟨_,rfl,l,rfl,⟨_,hL⟩,?_⟩
 refine aI (xs:=(ni ts).map V.int) (λk zs H1=>Same H H1/\zs=((ts.take k).map λ(t:Nat)=>(look C [(g:Int),(t:Int)]).isSome).map V.bl) ⟨Same.refl _,by rw[List.take_zero];rfl⟩ (λk zs H1 _ hP=>hP.1.seq hL) (λk v zs H1 hv hP=>?_) (λzs H1 hP D hD=>?_)
 ·obtain⟨S1,rfl⟩:=hP
  have hk:k<ts.length:=by have:=(List.getElem?_eq_some_iff.mp hv).1;omega
  rw[eF hk]at hv
  cases hv
  refine⟨_,rfl,_,rfl,small2,λpk hpk=>?_⟩
  have S2:=ae hpk (.tup [.int (g:Int),.int ((ts.getD k 0:Nat):Int)])
  refine⟨_,rfl,pk,d,[(g:Int),((ts.getD k 0:Nat):Int)],C,rfl,rfl,hC.mono (S1.trans S2),SqT.of af,small1000 (by rw[List.length_map,List.length_map,List.length_take];omega),S1.trans S2,?_⟩
  rw[List.take_add_one,List.getElem?_eq_getElem hk,List.map_append,List.map_append,HM.getD_lt hk]
  rfl
 ·obtain⟨S1,rfl⟩:=hP
  rw[hlen,List.take_length]
  have SD:=ae hD (.lst ((ts.map λ(t:Nat)=>(look C [(g:Int),(t:Int)]).isSome).map V.bl))
  refine⟨D,_,rfl,SqL.of af,?_⟩
  have e:(ts.map λ(t:Nat)=>(look C [(g:Int),(t:Int)]).isSome).any id=ts.any λ(t:Nat)=>(look C [(g:Int),(t:Int)]).isSome:=by rw[List.any_map];rfl
  rw[e]
  exact⟨_,rfl,q _ (S1.trans SD)⟩
theorem sc_first_kept:FnScope ["things","changers"] ["things","changers"] (defScope (top 32)):=⟨rfl,rfl,rfl,by decide +kernel,rfl,by decide +kernel,by decide +kernel⟩
set_option maxHeartbeats 4000000 in
theorem d_first_kept(M:Md K mg x)
  (Gis_kept:Dn P w K mg base CX0 1 "is_kept" ["given","things","changers"] (spKept P w K)):Dn P w K mg base CX0 2 "first_kept" ["things","changers"] (spFirstK P w K):=by
 have nd:=(sc_first_kept).nd
 refine M.f_first_kept.ok sc_first_kept (λvs H Q E h=>?_) (λ_ _ _ _ _ _ us hl=>match us,hl with|[_,_],_=>rfl) (λf cdv A outer s H vs Q E hr h=>?_)
 ·obtain⟨d,l,C,ts,rfl,hC,hL,h60,hex,q⟩:=h
  rfl
 obtain⟨d,l,C,ts,rfl,hC,hL,h60,hex,q⟩:=h
 refine⟨_,(ag (ao (au aB (aQ rfl (N:=["given","things","changers"]) (caps:=[none,some 0,some 1]) (CompOk.of (by kernel_rfl)) (aC rfl) (aN (pv 0)) (λ_ _ _ _=>(am (i:=0) (show(["given","things","changers"]:List Str).Nodup by decide +kernel) rfl (Or.inl rfl) (Or.inr rfl))) (λ_ _ _ _=>(cZ (aH (aA Gis_kept hr (by decide) rfl pass0 (aa (pv 0) (aa (pv 1) (aa (pv 2) ac))))))) (λ_ _ _ _=>(pv 0))) ah (λ_ _=>rfl)))),?_⟩
 have hlen:((ni ts).map V.int).length=ts.length:=by rw[List.length_map,aZ]
 refine⟨_,rfl,l,rfl,⟨_,hL⟩,?_⟩
 refine cG (xs:=(ni ts).map V.int) (λk zs H1=>Same H H1/\zs=(ni ((ts.take k).filter λ(g:Nat)=>!(ts.any λ(t:Nat)=>(look C [(g:Int),(t:Int)]).isSome))).map V.int) ⟨Same.refl _,by rw[List.take_zero];rfl⟩ (λk zs H1 _ hP=>hP.1.seq hL) (λk v zs H1 hv hP=>?_) (λzs H1 hP D hD=>?_)
 ·obtain⟨S1,rfl⟩:=hP
  have hk:k<ts.length:=by have:=(List.getElem?_eq_some_iff.mp hv).1;omega
  rw[eF hk]at hv
  cases hv
  refine⟨_,rfl,_,rfl,_,rfl,d,l,C,ts,ts.getD k 0,rfl,hC.mono S1,S1.seq hL,h60,λH2 S2=>⟨_,rfl,?_⟩⟩
  have hsz:((ni ((ts.take k).filter λ(g:Nat)=>!(ts.any λ(t:Nat)=>(look C [(g:Int),(t:Int)]).isSome))).map V.int).length<sizeLine:=by
   rw[List.length_map,aZ]
   have h1:=List.length_filter_le (λ(g:Nat)=>!(ts.any λ(t:Nat)=>(look C [(g:Int),(t:Int)]).isSome)) (ts.take k)
   rw[List.length_take]at h1
   exact small1000 (by omega)
  rw[List.take_add_one,List.getElem?_eq_getElem hk,List.filter_append,d4,List.map_append]
  rw[HM.getD_lt hk]
  refine ite2 (λc=>?_) (λc=>?_)
  ·refine⟨_,rfl,hsz,S1.trans S2,?_⟩
   rw[show(Option.some ts[k]).toList.filter (λ(g:Nat)=>!(ts.any λ(t:Nat)=>(look C [(g:Int),(t:Int)]).isSome))=[ts[k]]from List.filter_cons_of_pos c]
   rfl
  ·refine⟨S1.trans S2,?_⟩
   rw[show(Option.some ts[k]).toList.filter (λ(g:Nat)=>!(ts.any λ(t:Nat)=>(look C [(g:Int),(t:Int)]).isSome))=[]from List.filter_cons_of_neg c]
   show _=_++[]
   rw[List.append_nil]
 ·obtain⟨S1,rfl⟩:=hP
  rw[hlen,List.take_length]
  have SD:=ae hD (.lst ((ni (ts.filter λ(g:Nat)=>!(ts.any λ(t:Nat)=>(look C [(g:Int),(t:Int)]).isSome))).map V.int))
  obtain⟨g0,hg0,hk0⟩:=hex
  have kept:∀g:Nat,(!(ts.any λ(t:Nat)=>(look C [(g:Int),(t:Int)]).isSome))=true↔∀t∈ts,¬Edge C g t:=λg=>by
   rw[Bool.not_eq_true',List.any_eq_false]
   rfl
  have hm0:g0∈ts.filter λ(g:Nat)=>!(ts.any λ(t:Nat)=>(look C [(g:Int),(t:Int)]).isSome):=List.mem_filter.mpr ⟨hg0,(kept g0).mpr hk0⟩
  cases hf:ts.filter λ(g:Nat)=>!(ts.any λ(t:Nat)=>(look C [(g:Int),(t:Int)]).isSome)with
  | nil=>rw[hf]at hm0;cases hm0
  | cons g1 gr=>
   have hm1:g1∈ts.filter λ(g:Nat)=>!(ts.any λ(t:Nat)=>(look C [(g:Int),(t:Int)]).isSome):=by rw[hf];exact List.mem_cons_self
   obtain⟨h1,h2⟩:=List.mem_filter.mp hm1
   rw[hf]at SD
   exact⟨D,_,0,_,rfl,rfl,SqL.of af,cm (by decide) rfl,q g1 _ h1 ((kept g1).mp h2) (S1.trans SD)⟩
theorem sc_order_of:FnScope ["changers","count","things","order","thing"] ["changers","count"] (defScope (top 33)):=⟨rfl,rfl,rfl,by decide +kernel,rfl,by decide +kernel,by decide +kernel⟩
set_option maxHeartbeats 4000000 in
theorem d_order_of(M:Md K mg x)
  (Gfirst_kept:Dn P w K mg base CX0 2 "first_kept" ["things","changers"] (spFirstK P w K)):Dn P w K mg base CX0 3 "order_of" ["changers","count"] (spOrderOf P w K):=by
 have nd:=(sc_order_of).nd
 refine M.f_order_of.ok sc_order_of (λvs H Q E h=>?_) (λ_ _ _ _ _ _ us hl=>match us,hl with|[_,_],_=>rfl) (λf cdv A outer s H vs Q E hr h=>?_)
 ·obtain⟨d,C,n,rfl,hC,hn6,hno,q⟩:=h
  rfl
 obtain⟨d,C,n,rfl,hC,hn6,hno,q⟩:=h
 refine⟨_,(ad (aw (i:=2) nd rfl (Or.inl rfl) (aD (bh rfl) rfl M.b_list Boot.«list» (aa (aD bK rfl M.b_range PyProof.Rows.boot_range (aa (pv 1) ac)) ac)))
   (ad (aw (i:=3) nd rfl (Or.inl rfl) (cL ac))
   (ad (bW PassesOwn.never (fN (pv 2) (λ_=>rfl)) (ad (aw (i:=4) nd rfl (Or.inl rfl) (aA Gfirst_kept hr (by decide) rfl pass0 (aa (pv 2) (aa (pv 0) ac))))
   (ad (bQ (cW PySem.F.plainAttrs_list PySem.F.slot_list_remove PySem.F.type_list_remove eH (pv 2) (aa (pv 4) ac)))
   (ag (bQ (cW PySem.F.plainAttrs_list PySem.F.slot_list_append PySem.F.type_list_append bN (pv 3) (aa (pv 4) ac)))))))
   (ag (ao (pv 3)))))),?_⟩
 have small0:(0:Nat)<=sizeLine:=by decide
 refine⟨_,rfl,(n:Int),rfl,λlr hlr=>⟨lr,n,rfl,af,by omega,λl hl=>?_⟩⟩
 have e0:(List.range n).map (λ(i:Nat)=>V.int (i:Int))=(ni (List.range n)).map V.int:=by unfold ni;rw[List.map_map];rfl
 rw[e0]
 refine⟨small0,λf hf=>?_⟩
 have Sl:Same H (upd (upd H lr (.rng 0 (n:Int))) l (.lst ((ni (List.range n)).map V.int))):=(ae hlr _).trans (ae hl _)
 have hl1:H l=none:=(ae hlr _).free hl
 have hll:upd (upd H lr (.rng 0 (n:Int))) l (.lst ((ni (List.range n)).map V.int)) l=some (.lst ((ni (List.range n)).map V.int)):=af
 generalize upd (upd H lr (.rng 0 (n:Int))) l (.lst ((ni (List.range n)).map V.int))=H1 at hf Sl hll ⊢
 have hlf:l≠f:=λz=>by rw[z,hf]at hll;cases hll
 have hf0:H f=none:=Sl.free hf
 have S2:Same H1 (upd H1 f (.lst [])):=ae hf _
 have hf2:upd H1 f (.lst []) f=some (.lst ((ni []).map V.int)):=af
 generalize upd H1 f (.lst [])=H2 at S2 hf2 ⊢
 dsimp only[gName]
 refine bX (λm σ H3=>Same H H3/\∃(os ts:List Nat) (r4:Option V),σ=[some (.ref d),some (.int n),some (.ref l),some (.ref f),r4]/\H3 l=some (.lst ((ni ts).map V.int))/\H3 f=some (.lst ((ni os).map V.int))/\RG.Ord n (Edge C) os ts/\m=ts.length)
  ⟨_,Sl.trans S2,[],List.range n,_,rfl,S2 _ _ hll,hf2,RG.Ord.start n _,rfl⟩ (λm σ H3 hP=>?_) (λσ H3 Q1 Q2 hQ h=>?_)
 ·obtain⟨S3,os,ts,r4,rfl,hl3,hf3,hO,rfl⟩:=hP
  have hlen:=hO.pm.length_eq
  rw[List.length_append,List.length_range]at hlen
  refine⟨_,rfl,_,.inl ⟨_,SqL.of hl3,rfl⟩,?_⟩
  cases hts:ts with
  | nil=>
   subst hts
   exact⟨_,rfl,q os f H3 S3 hf0 hf3 hO⟩
  | cons t0 tr=>
   have hne:ts≠[]:=λz=>by rw[z]at hts;cases hts
   have hb:∀t∈ts,t<n:=λt ht=>List.mem_range.mp (hO.pm.mem_iff.mp (List.mem_append_right _ ht))
   refine iteT ?_
   have hlt0:(t0::tr).length=ts.length:=by rw[hts]
   clear hts
   refine⟨_,rfl,_,rfl,d,l,C,ts,rfl,hC.mono S3,SqL.of hl3,by omega,RG.kept_ex hno hne hb,λg H4 hg hk S4=>?_⟩
   have hl4:=S4 _ _ hl3
   have hf4:=S4 _ _ hf3
   refine⟨_,rfl,.inl ⟨rfl,_,SqL.of hl4⟩,_,rfl,l,ni ts,(g:Int),rfl,rfl,hl4,cj.mpr hg,?_⟩
   rw[fT]
   have S5:Same H (upd H4 l (.lst ((ni (ts.erase g)).map V.int))):=(S3.trans S4).over hl1 _
   have hl5:upd H4 l (.lst ((ni (ts.erase g)).map V.int)) l=some (.lst ((ni (ts.erase g)).map V.int)):=af
   have hf5:upd H4 l (.lst ((ni (ts.erase g)).map V.int)) f=some (.lst ((ni os).map V.int)):=by rw[az (Ne.symm hlf)];exact hf4
   generalize upd H4 l (.lst ((ni (ts.erase g)).map V.int))=H5 at S5 hl5 hf5 ⊢
   refine⟨_,rfl,.inl ⟨rfl,_,SqL.of hf5⟩,_,rfl,f,_,_,rfl,rfl,hf5,small1000 (by rw[List.length_map,aZ];omega),?_⟩
   have hle:=List.length_erase_of_mem hg
   have hpos:=List.length_pos_of_mem hg
   exact⟨(ts.erase g).length,by omega,S5.over hf0 _,os++[g],ts.erase g,_,rfl,by rw[az hlf];exact hl5,by rw[af,d4,List.map_append];rfl,hO.step hg hk,rfl⟩
 ·obtain⟨v,e,k,tv,qx⟩:=h
  exact⟨v,e,k,tv,hQ _ _ qx⟩
theorem sc_ring_or_order:FnScope ["wishes","table","ring"] ["wishes","table"] (defScope (top 34)):=⟨rfl,rfl,rfl,by decide +kernel,rfl,by decide +kernel,by decide +kernel⟩
set_option maxHeartbeats 4000000 in
theorem d_ring_or_order(M:Md K mg x)
  (Gwidest_ring:Dn P w K mg base CX0 4 "widest_ring" ["wishes","table"] (spWidest P w K))
  (Gorder_of:Dn P w K mg base CX0 3 "order_of" ["changers","count"] (spOrderOf P w K))
  (Gchangers_of:Dn P w K mg base CX0 2 "changers_of" ["wishes","table","floor"] (spChangers P w K))
  (Gtable_behind:Dn P w K mg base CX0 5 "table_behind" ["table","ring"] (spTabB K)):Dn P w K mg base CX0 6 "ring_or_order" ["wishes","table"] (spRO K):=by
 have nd:=(sc_ring_or_order).nd
 refine M.f_ring_or_order.ok sc_ring_or_order (λvs H Q E h=>?_) (λ_ _ _ _ _ _ us hl=>match us,hl with|[_,_],_=>rfl) (λf cdv A outer s H vs Q E hr h=>?_)
 ·obtain⟨a,b,ws,us,W,Z,T,n,rfl,hA,hW,hB,hZ,tw,q0,q1⟩:=h
  rfl
 obtain⟨a,b,ws,us,W,Z,T,n,rfl,hA,hW,hB,hZ,tw,q0,q1⟩:=h
 refine⟨_,(ad (aw (i:=2) nd rfl (Or.inl rfl) (aA Gwidest_ring hr (by decide) rfl pass0 (aa (pv 0) (aa (pv 1) ac))))
   (ad (aJ (aq jO (pv 2) b7 (nomark _)) (ag (ao (bp (aa aT (aa (aA Gorder_of hr (by decide) rfl pass0 (aa (aA Gchangers_of hr (by decide) rfl pass0 (aa (pv 0) (aa (pv 1) (aa (bR M.c_NOTHING) ac)))) (aa (ai al rfl M.b_len PySem.boot_len (aa (pv 0) ac)) ac))) ac))))) ar)
   (ag (ao (bp (aa aT (aa (bp (aa (pv 2) (aa (aA Gtable_behind hr (by decide) rfl pass0 (aa (pv 1) (aa (pv 2) ac))) ac))) ac))))))),?_⟩
 have hwl:=Paired.len hW
 have hn1:=tw.w.lo
 have hn6:=tw.w.hi
 have hWn:=tw.w.len
 have hT:=tw.z.t0
 have hT0:T≠0:=by omega
 have hwn:ws.length=n:=by omega
 have small2:(2:Nat)<=sizeLine:=by decide
 refine⟨_,rfl,_,rfl,a,b,ws,us,W,Z,T,n,rfl,hA,hW,hB,hZ,tw,(λhno H1 S1=>?_),λR p ls H1 S1 hp0 hp hls hok=>?_⟩
 ·refine⟨_,rfl,rfl,_,rfl,iteT ?_⟩
  refine⟨_,rfl,_,rfl,λna hna=>?_⟩
  refine⟨a,b,na,ws,us,W,Z,T,0,n,rfl,S1.seq hA,Paired.mapP hW (λ_ _ h=>h.mono S1),S1.seq hB,Paired.mapP hZ (λ_ _ h=>h.mono S1),tw,by rw[bJ hT0];exact hna H1,Int.le_refl _,by omega,λd C H2 S2 hC hCh=>?_⟩
  have S12:=S1.trans S2
  refine⟨_,rfl,a,_,rfl,.inl (S12.seq hA),d,C,n,by show[V.ref d,V.int _]=[V.ref d,V.int _];rw[hwn],hC,hn6,eO hCh (Int.le_refl _) hno,λos o H3 S3 ho0 ho hO=>?_⟩
  refine⟨small2,λtp htp=>?_⟩
  have S4:=ae htp (.tup [.bl true,.ref o])
  exact q0 hno (.ref tp) o os _ (S12.trans (S3.trans S4)) ⟨⟨tp,rfl,SqT.of af⟩,S12.free ho0,S4 _ _ ho,Ord.mono hO λg t ⟨pp,hc⟩=>hCh.all pp g t hc⟩
 ·refine⟨_,rfl,rfl,_,rfl,iteF ?_⟩
  refine⟨_,rfl,_,rfl,_,rfl,b,p,us,ls,W,Z,T,n,R,rfl,S1.seq hB,Paired.mapP hZ (λ_ _ h=>h.mono S1),tw,SqL.of hp,hls,hok,λt us2 H2 S2 ht0 ht hus2=>?_⟩
  refine⟨small2,λpr hpr=>⟨small2,λtp htp=>?_⟩⟩
  have S3:=ae hpr (.tup [.ref p,.ref t])
  have S4:=ae htp (.tup [.bl false,.ref pr])
  have S34:=S3.trans S4
  exact q1 (.ref tp) pr p t R ls us2 _ (S1.trans (S2.trans S34)) ⟨⟨tp,rfl,SqT.of af⟩,S4.tup (SqT.of af),hp0,S1.free ht0,(λz=>by rw[<-z,hp]at ht0;cases ht0),S34 _ _ (S2 _ _ hp),Paired.mapP hls (λ_ _ h=>h.mono (S2.trans S34)),hok,S34 _ _ ht,Paired.mapP hus2 λ_ _ h=>h.mono S34⟩
theorem sc__law_cell_at:FnScope ["_law_script","_law_k"] ["_law_script","_law_k"] (defScope (top 40)):=⟨rfl,rfl,rfl,by decide +kernel,rfl,by decide +kernel,by decide +kernel⟩
set_option maxHeartbeats 4000000 in
theorem d__law_cell_at(M:Md K mg x):Dn P w K mg base CX0 1 "_law_cell_at" ["_law_script","_law_k"] (spCell K):=by
 have nd:=(sc__law_cell_at).nd
 refine M.f__law_cell_at.ok sc__law_cell_at (λvs H Q E h=>?_) (λ_ _ _ _ _ _ us hl=>match us,hl with|[_,_],_=>rfl) (λf cdv A outer s H vs Q E hr h=>?_)
 ·obtain⟨a,ns,k,rfl,hS,h0,q⟩:=h
  rfl
 obtain⟨a,ns,k,rfl,hS,h0,q⟩:=h
 refine⟨_,(ad (aJ (aq gb (pv 1) (ai al rfl M.b_len PySem.boot_len (aa (pv 0) ac)) (nomark _)) (ag (ao (au aB (pv 0) (pv 1) (λ_ _=>rfl)))) ar)
   (ag (ao ah))),?_⟩
 have hl:(ns.map V.int).length=ns.length:=List.length_map _
 refine⟨_,rfl,_,rfl,a,_,rfl,.inl hS,_,_,rfl,rfl,_,rfl,?_⟩
 refine iteD2 (λc=>?_) (λc=>?_)
 ·rw[hl]at c
  refine⟨_,rfl,_,rfl,a,_,k,_,rfl,rfl,hS,cm h0 (aS (by omega)),?_⟩
  have e:LM.cellAt ns k=ns.getD k.toNat 0:=by unfold LM.cellAt;rw[if_pos c]
  rw[<-e]
  exact q
 ·rw[hl]at c
  have e:LM.cellAt ns k=0:=by unfold LM.cellAt;rw[if_neg c]
  rw[e]at q
  exact q
theorem sc__law_mixed:FnScope ["_law_cell","_law_place","_law_number"] ["_law_cell","_law_place"] (defScope (top 41)):=⟨rfl,rfl,rfl,by decide +kernel,rfl,by decide +kernel,by decide +kernel⟩
set_option maxHeartbeats 4000000 in
theorem d__law_mixed(M:Md K mg x):Dn P w K mg base CX0 1 "_law_mixed" ["_law_cell","_law_place"] (spMixN):=by
 have nd:=(sc__law_mixed).nd
 refine M.f__law_mixed.ok sc__law_mixed (λvs H Q E h=>?_) (λ_ _ _ _ _ _ us hl=>match us,hl with|[_,_],_=>rfl) (λf cdv A outer s H vs Q E hr h=>?_)
 ·obtain⟨c,p,rfl,q⟩:=h
  rfl
 obtain⟨c,p,rfl,q⟩:=h
 refine⟨_,(ad (aw (i:=2) nd rfl (Or.inl rfl) (aF bI (aF bz (aF bz (aF aY (aF bI (pv 0) ah) ah) (aF aY ah (pv 1))) ah) ah))
   (ad (aw (i:=2) nd rfl (Or.inl rfl) (aF bI (aF bz (aF bz (aF aY (pv 2) (pv 2)) (aF aY ah (pv 1))) ah) ah))
   (ag (ao (aF bI (aF bz (aF aY (pv 2) (pv 2)) ah) ah))))),?_⟩
 refine⟨_,rfl,_,_,rfl,rfl,by show(0:Int)<2147483629;decide,_,_,rfl,rfl,mulR (by decide),_,rfl,_,_,rfl,rfl,mulL (by decide),_,_,rfl,rfl,_,_,rfl,rfl,_,_,rfl,rfl,by show(0:Int)<2147483629;decide,?_⟩
 have b1:=LN.m1_bd c p
 have e1:(c%2147483629*16807+69621*p+11)%2147483629=LN.m1 c p:=rfl
 dsimp only
 rw[e1]
 refine⟨_,rfl,_,rfl,_,_,rfl,rfl,mulL (by omega),_,rfl,_,_,rfl,rfl,mulL (by decide),_,_,rfl,rfl,_,_,rfl,rfl,_,_,rfl,rfl,by show(0:Int)<2147483629;decide,?_⟩
 have b2:=LN.m2_bd (LN.m1 c p) p
 have e2:(LN.m1 c p*LN.m1 c p+48271*p+7)%2147483629=LN.m2 (LN.m1 c p) p:=rfl
 dsimp only
 rw[e2]
 exact⟨_,rfl,_,rfl,_,_,rfl,rfl,mulL (by omega),_,_,rfl,rfl,_,_,rfl,rfl,by show(0:Int)<2147483587;decide,q⟩
theorem sc__law_divisor:FnScope ["_law_one","_law_two"] ["_law_one","_law_two"] (defScope (top 42)):=⟨rfl,rfl,rfl,by decide +kernel,rfl,by decide +kernel,by decide +kernel⟩
set_option maxHeartbeats 4000000 in
theorem d__law_divisor(M:Md K mg x):Dn P w K mg base CX0 1 "_law_divisor" ["_law_one","_law_two"] (spDivisor):=by
 have nd:=(sc__law_divisor).nd
 refine M.f__law_divisor.ok sc__law_divisor (λvs H Q E h=>?_) (λ_ _ _ _ _ _ us hl=>match us,hl with|[_,_],_=>rfl) (λf cdv A outer s H vs Q E hr h=>?_)
 ·obtain⟨i,j,rfl,hj,q⟩:=h
  rfl
 obtain⟨i,j,rfl,hj,q⟩:=h
 refine⟨_,(ad (bW PassesOwn.never (aq cu (pv 1) ah (nomark _)) (ag (lV (i:=0) (j:=1) rfl nd rfl rfl (by decide) rfl rfl (aa (pv 1) (aa (aF bI (pv 0) (pv 1)) ac)) rfl)))
   (ag (ao (ai fR rfl M.b_abs Boot.«abs» (aa (pv 0) ac))))),?_⟩
 refine bX (λm σ H'=>H'=H/\∃(a b:Int),σ=[some (.int a),some (.int b)]/\0<=b/\Int.gcd a b=Int.gcd i j/\m=b.toNat)
  ⟨_,rfl,_,_,rfl,hj,rfl,rfl⟩ (λm σ H' hP=>?_) (λσ H' Q1 Q2 hQ h=>?_)
 ·obtain⟨rfl,a,b,rfl,hb,hg,rfl⟩:=hP
  refine⟨_,rfl,rfl,_,rfl,?_⟩
  refine iteN2 (λc=>?_) (λc=>?_)
  ·have hb0:b≠0:=λz=>c (by rw[z])
   refine⟨_,rfl,_,rfl,_,rfl,a,b,rfl,rfl,by show(0:Int)<b;omega,_,_,rfl,?_⟩
   refine⟨(a%b).toNat,?_,rfl,b,a%b,rfl,Int.emod_nonneg _ hb0,?_,rfl⟩
   ·have:=Int.emod_lt_of_pos a (show 0<b by omega)
    have:=Int.emod_nonneg a hb0
    omega
   ·rw[FQ.gcd_turn,hg]
  ·have hb0:b=0:=Veq c
   subst hb0
   refine⟨_,rfl,a,rfl,?_⟩
   have e:(if a<0 then -a else a)=(Int.gcd i j:Int):=by rw[<-hg];simp;split <;> omega
   rw[e]
   exact q
 ·obtain⟨v,e,sc,k,ek,q⟩:=h
  exact⟨v,e,sc,k,ek,hQ _ _ q⟩
theorem sc__law_lowest:FnScope ["_law_top","_law_bottom","_law_by"] ["_law_top","_law_bottom"] (defScope (top 43)):=⟨rfl,rfl,rfl,by decide +kernel,rfl,by decide +kernel,by decide +kernel⟩
set_option maxHeartbeats 4000000 in
theorem d__law_lowest(M:Md K mg x)
  (G_law_divisor:Dn P w K mg base CX0 1 "_law_divisor" ["_law_one","_law_two"] (spDivisor)):Dn P w K mg base CX0 2 "_law_lowest" ["_law_top","_law_bottom"] (spLowest):=by
 have nd:=(sc__law_lowest).nd
 refine M.f__law_lowest.ok sc__law_lowest (λvs H Q E h=>?_) (λ_ _ _ _ _ _ us hl=>match us,hl with|[_,_],_=>rfl) (λf cdv A outer s H vs Q E hr h=>?_)
 ·obtain⟨t,b,rfl,hb,hz,q⟩:=h
  rfl
 obtain⟨t,b,rfl,hb,hz,q⟩:=h
 refine⟨_,(ad (aw (i:=2) nd rfl (Or.inl rfl) (aA G_law_divisor hr (by decide) rfl pass0 (aa (pv 0) (aa (pv 1) ac))))
   (ag (ao (bp (aa (aF b5 (pv 0) (pv 2)) (aa (aF b5 (pv 1) (pv 2)) ac)))))),?_⟩
 refine⟨_,rfl,_,rfl,t,b,rfl,Int.le_of_lt hb,?_⟩
 have hs:=(dk (t:=t) (b:=b) (by omega) hz).2 (by omega)
 have hg:0<Int.gcd t b:=Int.gcd_pos_of_ne_zero_right _ (by omega)
 refine⟨_,rfl,_,rfl,t,_,rfl,rfl,⟨by omega,hs.1.2⟩,_,rfl,_,rfl,b,_,rfl,rfl,⟨by omega,hs.1.2⟩,by show 2<=sizeLine;decide,λp hp=>q p _ (ae hp _) ?_⟩
 rw[af]
 show some (HO.tup [V.int (t/_),V.int (b/_)])=_
 rw[<-Int.fdiv_eq_ediv_of_nonneg t (by omega),<-Int.fdiv_eq_ediv_of_nonneg b (by omega),hs.2.1,hs.2.2]
 rfl
theorem sc__law_plus:FnScope ["_law_one","_law_two"] ["_law_one","_law_two"] (defScope (top 44)):=⟨rfl,rfl,rfl,by decide +kernel,rfl,by decide +kernel,by decide +kernel⟩
set_option maxHeartbeats 4000000 in
theorem d__law_plus(M:Md K mg x)
  (G_law_lowest:Dn P w K mg base CX0 2 "_law_lowest" ["_law_top","_law_bottom"] (spLowest)):Dn P w K mg base CX0 3 "_law_plus" ["_law_one","_law_two"] (sp2P fAdd K):=by
 have nd:=(sc__law_plus).nd
 refine M.f__law_plus.ok sc__law_plus (λvs H Q E h=>?_) (λ_ _ _ _ _ _ us hl=>match us,hl with|[_,_],_=>rfl) (λf cdv A outer s H vs Q E hr h=>?_)
 ·obtain⟨a,b,x,y,rfl,ha,hb,bx,b_y,px,py,q⟩:=h
  rfl
 obtain⟨a,b,x,y,rfl,ha,hb,bx,b_y,px,py,q⟩:=h
 refine⟨_,(ag (ao (aA G_law_lowest hr (by decide) rfl pass0 (aa (aF bz (aF aY (au ax (pv 0) ah (λ_ _=>rfl)) (au ax (pv 1) ah (λ_ _=>rfl))) (aF aY (au ax (pv 1) ah (λ_ _=>rfl)) (au ax (pv 0) ah (λ_ _=>rfl)))) (aa (aF aY (au ax (pv 0) ah (λ_ _=>rfl)) (au ax (pv 1) ah (λ_ _=>rfl))) ac))))),?_⟩
 obtain⟨x1,x2,x0⟩:=bx
 obtain⟨y1,y2,y0⟩:=b_y
 refine⟨_,rfl,a,_,0,_,rfl,rfl,ha,rfl,?_⟩
 refine⟨_,rfl,b,_,1,_,rfl,rfl,hb,rfl,?_⟩
 refine⟨_,_,rfl,rfl,mul4 x1 y2,?_⟩
 refine⟨_,rfl,b,_,0,_,rfl,rfl,hb,rfl,?_⟩
 refine⟨_,rfl,a,_,1,_,rfl,rfl,ha,rfl,?_⟩
 refine⟨_,_,rfl,rfl,mul4 y1 x2,_,_,rfl,rfl,?_⟩
 refine⟨_,rfl,a,_,1,_,rfl,rfl,ha,rfl,?_⟩
 refine⟨_,rfl,b,_,1,_,rfl,rfl,hb,rfl,?_⟩
 refine⟨_,_,rfl,rfl,mul4 x2 y2,?_⟩
 exact⟨_,_,rfl,Int.mul_pos px py,bot4 x2 y2,q⟩
theorem sc__law_less:FnScope ["_law_one","_law_two"] ["_law_one","_law_two"] (defScope (top 45)):=⟨rfl,rfl,rfl,by decide +kernel,rfl,by decide +kernel,by decide +kernel⟩
set_option maxHeartbeats 4000000 in
theorem d__law_less(M:Md K mg x):Dn P w K mg base CX0 1 "_law_less" ["_law_one","_law_two"] (spBefore K):=by
 have nd:=(sc__law_less).nd
 refine M.f__law_less.ok sc__law_less (λvs H Q E h=>?_) (λ_ _ _ _ _ _ us hl=>match us,hl with|[_,_],_=>rfl) (λf cdv A outer s H vs Q E hr h=>?_)
 ·obtain⟨a,b,x,y,rfl,ha,hb,bx,b_y,q⟩:=h
  rfl
 obtain⟨a,b,x,y,rfl,ha,hb,bx,b_y,q⟩:=h
 refine⟨_,(ag (ao (bu gb (aF aY (au ax (pv 0) ah (λ_ _=>rfl)) (au ax (pv 1) ah (λ_ _=>rfl))) (aF aY (au ax (pv 1) ah (λ_ _=>rfl)) (au ax (pv 0) ah (λ_ _=>rfl))) (nomark _)))),?_⟩
 obtain⟨x1,x2,x0⟩:=bx
 obtain⟨y1,y2,y0⟩:=b_y
 refine⟨_,rfl,a,_,0,_,rfl,rfl,ha,rfl,?_⟩
 refine⟨_,rfl,b,_,1,_,rfl,rfl,hb,rfl,?_⟩
 refine⟨_,_,rfl,rfl,mul4 x1 y2,?_⟩
 refine⟨_,rfl,b,_,0,_,rfl,rfl,hb,rfl,?_⟩
 refine⟨_,rfl,a,_,1,_,rfl,rfl,ha,rfl,?_⟩
 exact⟨_,_,rfl,rfl,mul4 y1 x2,_,_,rfl,rfl,q⟩
theorem sc__law_whole:FnScope ["_law_found"] ["_law_found"] (defScope (top 46)):=⟨rfl,rfl,rfl,by decide +kernel,rfl,by decide +kernel,by decide +kernel⟩
set_option maxHeartbeats 4000000 in
theorem d__law_whole(M:Md K mg x):Dn P w K mg base CX0 1 "_law_whole" ["_law_found"] (spWhole):=by
 have nd:=(sc__law_whole).nd
 refine M.f__law_whole.ok sc__law_whole (λvs H Q E h=>?_) (λ_ _ _ _ _ _ us hl=>match us,hl with|[_],_=>rfl) (λf cdv A outer s H vs Q E hr h=>?_)
 ·obtain⟨i,rfl,q⟩:=h
  rfl
 obtain⟨i,rfl,q⟩:=h
 refine⟨_,(ag (ao (bP (ai aE rfl M.b_isinstance Boot.«isinstance» (aa (pv 0) (aa (bv rfl M.b_int Boot.«int») ac))) (b6 (eY (ai aE rfl M.b_isinstance Boot.«isinstance» (aa (pv 0) (aa (bv rfl M.b_bool Boot.«bool») ac)))))))),?_⟩
 refine⟨_,rfl,.int i,"int","int",rfl,by decide,rfl,_,rfl,?_⟩
 refine iteT ⟨_,rfl,.int i,"bool","int",rfl,by decide,rfl,_,rfl,q⟩
theorem sc__law_is_fraction:FnScope ["_law_found"] ["_law_found"] (defScope (top 47)):=⟨rfl,rfl,rfl,by decide +kernel,rfl,by decide +kernel,by decide +kernel⟩
set_option maxHeartbeats 4000000 in
theorem d__law_is_fraction(M:Md K mg x)
  (G_law_whole:Dn P w K mg base CX0 1 "_law_whole" ["_law_found"] (spWhole))
  (G_law_divisor:Dn P w K mg base CX0 1 "_law_divisor" ["_law_one","_law_two"] (spDivisor)):Dn P w K mg base CX0 2 "_law_is_fraction" ["_law_found"] (spIsFr K):=by
 have nd:=(sc__law_is_fraction).nd
 refine M.f__law_is_fraction.ok sc__law_is_fraction (λvs H Q E h=>?_) (λ_ _ _ _ _ _ us hl=>match us,hl with|[_],_=>rfl) (λf cdv A outer s H vs Q E hr h=>?_)
 ·obtain⟨a,p,rfl,hs,hp,q⟩:=h
  rfl
 obtain⟨a,p,rfl,hs,hp,q⟩:=h
 refine⟨_,(ad (aJ (PW.pt (bA (aM (aH (ai aE rfl M.b_isinstance Boot.«isinstance» (aa (pv 0) (aa (bv rfl M.b_tuple Boot.«tuple») ac))))) (bA (aq cu (ai al rfl M.b_len PySem.boot_len (aa (pv 0) ac)) ah (nomark _)) (bA (aM (aH (aA G_law_whole hr (by decide) rfl pass0 (aa (au ax (pv 0) ah (λ_ _=>rfl)) ac)))) (bo (aM (aH (aA G_law_whole hr (by decide) rfl pass0 (aa (au ax (pv 0) ah (λ_ _=>rfl)) ac))))))))) (ag (ao aT)) ar)
   (ag (ao (bP (bu gd (au ax (pv 0) ah (λ_ _=>rfl)) ah (nomark _)) (b6 (bu cY (aA G_law_divisor hr (by decide) rfl pass0 (aa (au ax (pv 0) ah (λ_ _=>rfl)) (aa (au ax (pv 0) ah (λ_ _=>rfl)) ac))) ah (nomark _))))))),?_⟩
 refine⟨_,rfl,_,"tuple","tuple",rfl,by decide,.inr ⟨rfl,_,hs⟩,_,rfl,iteF ?_⟩
 refine⟨_,rfl,a,_,rfl,.inr hs,rfl,_,rfl,iteNS rfl ?_⟩
 refine⟨_,rfl,a,_,0,_,rfl,rfl,hs,rfl,p.1,rfl,_,rfl,iteF ?_⟩
 refine⟨_,rfl,a,_,1,_,rfl,rfl,hs,rfl,p.2,rfl,_,rfl,iteF ?_⟩
 have hpos:=hp.pos
 refine⟨_,rfl,a,_,1,_,rfl,rfl,hs,rfl,_,_,rfl,rfl,_,rfl,iteDT hpos ?_⟩
 refine⟨_,rfl,a,_,0,_,rfl,rfl,hs,rfl,_,rfl,a,_,1,_,rfl,rfl,hs,rfl,p.1,p.2,rfl,by omega,rfl,?_⟩
 rw[hp.cop]
 exact q
theorem sc__law_order:FnScope ["_law_number","_law_count","_law_left","_law_found","_law_k"] ["_law_number","_law_count"] (defScope (top 48)):=⟨rfl,rfl,rfl,by decide +kernel,rfl,by decide +kernel,by decide +kernel⟩
set_option maxHeartbeats 4000000 in
theorem d__law_order(M:Md K mg x):Dn P w K mg base CX0 1 "_law_order" ["_law_number","_law_count"] (spOrderF):=by
 have nd:=(sc__law_order).nd
 refine M.f__law_order.ok sc__law_order (λvs H Q E h=>?_) (λ_ _ _ _ _ _ us hl=>match us,hl with|[_,_],_=>rfl) (λf cdv A outer s H vs Q E hr h=>?_)
 ·obtain⟨num,n,rfl,hn,q⟩:=h
  rfl
 obtain⟨num,n,rfl,hn,q⟩:=h
 refine⟨_,(ad (aw (i:=2) nd rfl (Or.inl rfl) (aD (bh rfl) rfl M.b_list Boot.«list» (aa (aD bK rfl M.b_range PyProof.Rows.boot_range (aa (pv 1) ac)) ac)))
   (ad (aw (i:=3) nd rfl (Or.inl rfl) (cL ac))
   (ad (aV PassesOwn.never rfl (aK rfl M.b_range (aa (pv 1) ac)) (am (i:=4) nd rfl (Or.inl rfl)) (ad (bQ (cW PySem.F.plainAttrs_list PySem.F.slot_list_append PySem.F.type_list_append bN (pv 3) (aa (cW PySem.F.plainAttrs_list PySem.F.slot_list_pop PySem.F.type_list_pop ip (pv 2) (aa (aF bI (pv 0) (ai al rfl M.b_len PySem.boot_len (aa (pv 2) ac))) ac)) ac)))
   (ag (aw (i:=0) nd rfl (Or.inl rfl) (aF b5 (pv 0) ah)))))
   (ag (ao (aD eR rfl M.b_tuple Boot.«tuple» (aa (pv 3) ac))))))),?_⟩
 refine⟨_,rfl,(n:Int),rfl,λlr hlr=>⟨lr,n,rfl,af,by omega,λl hl=>?_⟩⟩
 have e0:(List.range n).map (λ(i:Nat)=>V.int (i:Int))=(LM.rng n).map V.int:=by unfold LM.rng;rw[List.map_map];rfl
 rw[e0]
 have small0:(0:Nat)<=sizeLine:=by decide
 refine⟨small0,λf hf=>?_⟩
 have Sl:Same H (upd (upd H lr (.rng 0 (n:Int))) l (.lst ((LM.rng n).map V.int))):=(ae hlr _).trans (ae hl _)
 have hl1:H l=none:=(ae hlr _).free hl
 have hll:upd (upd H lr (.rng 0 (n:Int))) l (.lst ((LM.rng n).map V.int)) l=some (.lst ((LM.rng n).map V.int)):=af
 generalize upd (upd H lr (.rng 0 (n:Int))) l (.lst ((LM.rng n).map V.int))=H1 at hf Sl hll ⊢
 have hlf:l≠f:=λz=>by rw[z,hf]at hll;cases hll
 have hf0:H f=none:=Sl.free hf
 refine⟨_,rfl,(n:Int),rfl,by omega,by omega,?_⟩
 refine aO (n:=n) (λk σ H'=>Same H H'/\H' f=some (.lst ((LN.ordGo n num k).1.map V.int))/\H' l=some (.lst ((LN.ordGo n num k).2.1.map V.int))/\∃r,σ=[some (.int (LN.ordGo n num k).2.2),some (.int n),some (.ref l),some (.ref f),r])
  ⟨Sl.trans (ae hf _),af,by rw[az hlf];exact hll,_,rfl⟩ (λk σ H' hk hP=>?_) (λσ H' hP=>?_)
 ·obtain⟨hS,hF,hL,r,rfl⟩:=hP
  obtain⟨_,h1,h2⟩:=LN.ordGo_ok n num k (by omega)
  have eS:LN.ordGo n num (k+1)=((LN.ordGo n num k).1++[(LN.ordGo n num k).2.1.getD ((LN.ordGo n num k).2.2%(LN.ordGo n num k).2.1.length).toNat 0],(LN.ordGo n num k).2.1.eraseIdx ((LN.ordGo n num k).2.2%(LN.ordGo n num k).2.1.length).toNat,(LN.ordGo n num k).2.2/6):=rfl
  rw[eS]
  generalize LN.ordGo n num k=P at *
  obtain⟨fo,le,m⟩:=P
  dsimp only at h1 h2 hF hL ⊢
  have b0:=Int.emod_nonneg m (show(le.length:Int)≠0 by omega)
  have b1:=Int.emod_lt_of_pos m (show(0:Int)<(le.length:Int)by omega)
  have hml:(le.map V.int).length=le.length:=List.length_map _
  refine⟨_,rfl,.inl ⟨rfl,_,SqL.of hF⟩,_,rfl,.inl ⟨rfl,_,SqL.of hL⟩,_,rfl,_,rfl,l,_,rfl,.inl (SqL.of hL),m,_,rfl,rfl,by show(0:Int)<_;rw[hml];omega,?_⟩
  dsimp only
  rw[hml]
  refine⟨l,_,_,_,_,rfl,rfl,hL,by omega,by omega,by rw[hml];exact hV b0 b1,aS (by omega),?_⟩
  have hF2:upd H' l (.lst ((le.map V.int).eraseIdx (m%le.length).toNat)) f=some (.lst (fo.map V.int)):=by rw[az (Ne.symm hlf)];exact hF
  refine⟨f,_,_,rfl,rfl,hF2,small1000 (by rw[List.length_map];omega),?_⟩
  refine⟨_,rfl,_,_,rfl,rfl,c9 (by decide) (by decide),?_⟩
  refine⟨(hS.over hl1 _).over hf0 _,by rw[af,List.map_append];rfl,?_,_,rfl⟩
  rw[az hlf,af,eJ]
 ·obtain⟨hS,hF,hL,r,rfl⟩:=hP
  exact⟨_,rfl,f,_,rfl,SqL.of hF,λp o hp hd=>q p o _ (hS.trans (ae hp _)) (hS.free hp) af hd⟩
theorem sc__law_wishes:FnScope ["_law_script","_law_at","_law_count","_law_found","_law_person","_law_cell"] ["_law_script","_law_at","_law_count"] (defScope (top 49)):=⟨rfl,rfl,rfl,by decide +kernel,rfl,by decide +kernel,by decide +kernel⟩
set_option maxHeartbeats 4000000 in
theorem d__law_wishes(M:Md K mg x)
  (G_law_cell_at:Dn P w K mg base CX0 1 "_law_cell_at" ["_law_script","_law_k"] (spCell K))
  (G_law_order:Dn P w K mg base CX0 1 "_law_order" ["_law_number","_law_count"] (spOrderF))
  (G_law_mixed:Dn P w K mg base CX0 1 "_law_mixed" ["_law_cell","_law_place"] (spMixN)):Dn P w K mg base CX0 2 "_law_wishes" ["_law_script","_law_at","_law_count"] (spWishesF K):=by
 have nd:=(sc__law_wishes).nd
 refine M.f__law_wishes.ok sc__law_wishes (λvs H Q E h=>?_) (λ_ _ _ _ _ _ us hl=>match us,hl with|[_,_,_],_=>rfl) (λf cdv A outer s H vs Q E hr h=>?_)
 ·obtain⟨a,ns,at',n,rfl,hS,hat,hn,q⟩:=h
  rfl
 obtain⟨a,ns,at',n,rfl,hS,hat,hn,q⟩:=h
 refine⟨_,(ad (aw (i:=3) nd rfl (Or.inl rfl) (cL ac))
   (ad (aV PassesOwn.never rfl (aK rfl M.b_range (aa (pv 2) ac)) (am (i:=4) nd rfl (Or.inl rfl)) (ad (aw (i:=5) nd rfl (Or.inl rfl) (aA G_law_cell_at hr (by decide) rfl pass0 (aa (pv 0) (aa (aF bz (pv 1) (pv 4)) ac))))
   (ag (aJ (PW.pt (gA (aq gd (pv 4) ah (nomark _)) (ez (aq cY (aF bI (pv 5) ah) ah (nomark _))))) (ag (bQ (cW PySem.F.plainAttrs_list PySem.F.slot_list_append PySem.F.type_list_append bN (pv 3) (aa (au aB (pv 3) (aF bI (aF b5 (pv 5) ah) (pv 4)) (λ_ _=>rfl)) ac)))) (ag (bQ (cW PySem.F.plainAttrs_list PySem.F.slot_list_append PySem.F.type_list_append bN (pv 3) (aa (aA G_law_order hr (by decide) rfl pass0 (aa (aA G_law_mixed hr (by decide) rfl pass0 (aa (pv 5) (aa (pv 4) ac))) (aa (pv 2) ac))) ac))))))))
   (ag (ao (pv 3))))),?_⟩
 have small0:(0:Nat)<=sizeLine:=by decide
 refine⟨small0,λf hf=>?_⟩
 refine⟨_,rfl,(n:Int),rfl,by omega,by omega,?_⟩
 refine aO (n:=n) (λk σ H'=>Same H H'/\∃(ws:List V) (r4 r5:Option V),σ=[some (.ref a),some (.int at'),some (.int n),some (.ref f),r4,r5]/\H' f=some (.lst ws)/\Paired (IsRF K H') ws (LN.wishGo ns at' n k))
  ⟨ae hf _,[],_,_,rfl,af,.nil⟩ (λk σ H' hk hP=>?_) (λσ H' hP=>?_)
 ·obtain⟨hSa,ws,r4,r5,rfl,hF,hW⟩:=hP
  have hwl:=Paired.len hW
  rw[LN.wishGo_len]at hwl
  refine⟨_,rfl,_,rfl,_,rfl,_,_,rfl,rfl,a,ns,_,rfl,hSa.seq hS,by omega,?_⟩
  rw[Int.zero_add]
  have eS:LN.wishGo ns at' n (k+1)=LN.wishGo ns at' n k++[if 0<k/\LM.cellAt ns (at'+k)%4=1 then(LN.wishGo ns at' n k).getD (LM.cellAt ns (at'+k)/4%k).toNat []else LN.order (LN.mixed (LM.cellAt ns (at'+k)) k) n]:=rfl
  rw[eS]
  generalize LM.cellAt ns (at'+k)=c
  have done1:∀(v:V),IsRF K H' v (if 0<k/\c%4=1 then(LN.wishGo ns at' n k).getD (c/4%k).toNat []else LN.order (LN.mixed c k) n)->Paired (IsRF K (upd H' f (.lst (ws++[v])))) (ws++[v]) (LN.wishGo ns at' n k++[if 0<k/\c%4=1 then(LN.wishGo ns at' n k).getD (c/4%k).toNat []else LN.order (LN.mixed c k) n]):=λv hv=>
   Paired.app (Paired.mapP hW λ_ _ h=>h.over hF) (.cons (hv.over hF) .nil)
  have els:¬(0<k/\c%4=1)->∀p o H2,Same H' H2->H2 p=some (.frz o (.tup ((LN.order (LN.mixed c k) n).map V.int)))->o.dict=none->Paired (IsRF K (upd H2 f (.lst (ws++[.ref p])))) (ws++[.ref p]) (LN.wishGo ns at' n k++[if 0<k/\c%4=1 then(LN.wishGo ns at' n k).getD (c/4%k).toNat []else LN.order (LN.mixed c k) n]):=λhno p o H2 S2 hp hd=>by
   rw[if_neg hno]
   exact Paired.app (Paired.mapP hW λ_ _ h=>(h.mono S2).over (S2 _ _ hF)) (.cons (IsRF.over ⟨p,o,rfl,hp,hd⟩ (S2 _ _ hF)) .nil)
  refine⟨_,rfl,_,_,rfl,rfl,_,rfl,iteD2 (λc1=>?_) (λc1=>?_)⟩
  ·refine⟨_,rfl,_,_,rfl,rfl,by show(0:Int)<4;decide,rfl,_,rfl,iteD2 (λc2=>?_) (λc2=>?_)⟩
   ·have hk0:0<k:=by omega
    have hc:0<k/\c%4=1:=⟨hk0,Veq c2⟩
    have b0:=Int.emod_nonneg (c/4) (show(k:Int)≠0 by omega)
    have b1:=Int.emod_lt_of_pos (c/4) (show(0:Int)<k by omega)
    have hl:(c/4%k).toNat<(LN.wishGo ns at' n k).length:=by rw[LN.wishGo_len];omega
    obtain⟨v,hv,hvR⟩:=Paired.get hW (List.getElem?_eq_getElem hl)
    refine⟨_,rfl,.inl ⟨rfl,_,SqL.of hF⟩,_,rfl,_,rfl,_,_,rfl,rfl,c9 (by decide) (by decide),_,rfl,_,_,rfl,rfl,by show(0:Int)<k;omega,f,ws,_,v,rfl,rfl,SqL.of hF,cm b0 hv,f,ws,v,rfl,rfl,hF,small1000 (by omega),?_⟩
    refine⟨hSa.over hf _,_,_,_,rfl,af,done1 v ?_⟩
    rw[if_pos hc,List.getD_eq_getElem?_getD,List.getElem?_eq_getElem hl]
    exact hvR
   ·refine⟨_,rfl,.inl ⟨rfl,_,SqL.of hF⟩,_,rfl,_,rfl,c,(k:Int),rfl,_,rfl,_,n,rfl,by omega,λp o H2 S2 hp0 hp hd=>⟨f,ws,_,rfl,rfl,S2 _ _ hF,small1000 (by omega),?_⟩⟩
    exact⟨(hSa.trans S2).over hf _,_,_,_,rfl,af,els (λz=>c2 (by show V.int (c%4)=V.int 1;rw[z.2])) p o H2 S2 hp hd⟩
  ·refine⟨_,rfl,.inl ⟨rfl,_,SqL.of hF⟩,_,rfl,_,rfl,c,(k:Int),rfl,_,rfl,_,n,rfl,by omega,λp o H2 S2 hp0 hp hd=>⟨f,ws,_,rfl,rfl,S2 _ _ hF,small1000 (by omega),?_⟩⟩
   exact⟨(hSa.trans S2).over hf _,_,_,_,rfl,af,els (λz=>c1 (by have:=z.1;omega)) p o H2 S2 hp hd⟩
 ·obtain⟨hSa,ws,r4,r5,rfl,hF,hW⟩:=hP
  exact⟨_,rfl,q f ws H' hSa hf hF hW⟩
theorem sc__law_deals:FnScope ["_law_first"] ["_law_first"] (defScope (top 50)):=⟨rfl,rfl,rfl,by decide +kernel,rfl,by decide +kernel,by decide +kernel⟩
set_option maxHeartbeats 4000000 in
theorem d__law_deals(M:Md K mg x):Dn P w K mg base CX0 1 "_law_deals" ["_law_first"] (spDeals):=by
 have nd:=(sc__law_deals).nd
 refine M.f__law_deals.ok sc__law_deals (λvs H Q E h=>?_) (λ_ _ _ _ _ _ us hl=>match us,hl with|[_],_=>rfl) (λf cdv A outer s H vs Q E hr h=>?_)
 ·obtain⟨f,rfl,q⟩:=h
  rfl
 obtain⟨f,rfl,q⟩:=h
 refine⟨_,(ad (aJ (aq cY (aF bI (aF b5 (pv 0) ah) ah) ah (nomark _)) (ag (ao (aF bz ah (aF bI (aF b5 (pv 0) ah) ah)))) ar)
   (ag (ao (aF bI (aF b5 (pv 0) ah) ah)))),?_⟩
 unfold LN.deals at q
 refine⟨_,rfl,_,_,rfl,rfl,c9 (by decide) (by decide),_,_,rfl,rfl,by show(0:Int)<8;decide,rfl,_,rfl,iteD2 (λh=>?_) (λh=>?_)⟩
 ·rw[if_pos (Veq h)]at q
  exact⟨_,rfl,_,_,rfl,rfl,c9 (by decide) (by decide),_,_,rfl,rfl,by show(0:Int)<17;decide,_,_,rfl,rfl,q⟩
 ·rw[if_neg (λz=>h (by show V.int (f/54%8)=V.int 1;rw[z]))]at q
  exact⟨_,rfl,_,_,rfl,rfl,c9 (by decide) (by decide),_,_,rfl,rfl,by show(0:Int)<9;decide,q⟩
theorem sc__law_table:FnScope ["_law_script","_law_at","_law_many","_law_count","_law_rows","_law_whole_here","_law_size","_law_k","_law_cell","_law_deal","_law_weight","_law_person","_law_thing"] ["_law_script","_law_at","_law_many","_law_count"] (defScope (top 51)):=⟨rfl,rfl,rfl,by decide +kernel,rfl,by decide +kernel,by decide +kernel⟩
set_option maxHeartbeats 4000000 in
theorem d__law_table(M:Md K mg x)
  (G_law_cell_at:Dn P w K mg base CX0 1 "_law_cell_at" ["_law_script","_law_k"] (spCell K))
  (G_law_mixed:Dn P w K mg base CX0 1 "_law_mixed" ["_law_cell","_law_place"] (spMixN))
  (G_law_order:Dn P w K mg base CX0 1 "_law_order" ["_law_number","_law_count"] (spOrderF))
  (G_law_lowest:Dn P w K mg base CX0 2 "_law_lowest" ["_law_top","_law_bottom"] (spLowest)):Dn P w K mg base CX0 3 "_law_table" ["_law_script","_law_at","_law_many","_law_count"] (spTableN K):=by
 have nd:=(sc__law_table).nd
 refine M.f__law_table.ok sc__law_table (λvs H Q E h=>?_) (λ_ _ _ _ _ _ us hl=>match us,hl with|[_,_,_,_],_=>rfl) (λf cdv A outer s H vs Q E hr h=>?_)
 ·obtain⟨a,ns,at',many,n,rfl,hS,hat,hm,hn1,hn6,q⟩:=h
  rfl
 obtain⟨a,ns,at',many,n,rfl,hS,hat,hm,hn1,hn6,q⟩:=h
 refine⟨_,(ad (bi (i:=4) nd rfl rfl rfl rfl (N:=["_law_person","_law_count"]) (caps:=[none,some 3]) (CompOk.of (by kernel_rfl)) (aC rfl) (aK rfl M.b_range (aa (pv 3) ac)) (λ_ _ _ _=>(am (i:=0) (show(["_law_person","_law_count"]:List Str).Nodup by decide +kernel) rfl (Or.inl rfl) (Or.inr rfl))) (λ_ _ _ _=>aL) (λ_ _ _ _=>(aQ rfl (N:=["_law_thing"]) (caps:=[none]) (CompOk.of (by kernel_rfl)) (aC rfl) (aK rfl M.b_range (aa (pv 1) ac)) (λ_ _ _ _=>(am (i:=0) (show(["_law_thing"]:List Str).Nodup by decide +kernel) rfl (Or.inl rfl) (Or.inr rfl))) (λ_ _ _ _=>aL) (λ_ _ _ _=>ah))))
   (ad (aw (i:=5) nd rfl (Or.inr rfl) ah)
   (ad (aw (i:=6) nd rfl (Or.inl rfl) (au aB (cL (aa ah (aa ah (aa ah (aa (aF lS ah ah) ac))))) (aF bI (aA G_law_mixed hr (by decide) rfl pass0 (aa (aA G_law_cell_at hr (by decide) rfl pass0 (aa (pv 0) (aa (pv 1) ac))) (aa ah ac))) ah) (λ_ _=>rfl)))
   (ad (aV PassesOwn.never rfl (aK rfl M.b_range (aa (aF bz ah (pv 2)) ac)) (am (i:=7) nd rfl (Or.inl rfl)) (ad (aw (i:=8) nd rfl (Or.inl rfl) (aA G_law_cell_at hr (by decide) rfl pass0 (aa (pv 0) (aa (aF bz (aF bz (pv 1) ah) (pv 7)) ac))))
   (ad (aw (i:=9) nd rfl (Or.inl rfl) (aA G_law_order hr (by decide) rfl pass0 (aa (aA G_law_mixed hr (by decide) rfl pass0 (aa (pv 8) (aa (aF bz ah (pv 7)) ac))) (aa (pv 3) ac))))
   (ad (aw (i:=10) nd rfl (Or.inl rfl) (aF bz ah (aF bI (aF b5 (pv 8) ah) (pv 6))))
   (ad (aw (i:=5) nd rfl (Or.inr rfl) (aF bz (pv 5) (pv 10)))
   (ag (aV PassesOwn.never rfl (aK rfl M.b_range (aa (pv 3) ac)) (am (i:=11) nd rfl (Or.inl rfl)) (ad (aw (i:=12) nd rfl (Or.inl rfl) (au ax (pv 9) (pv 11) (λ_ _=>rfl)))
   (ag (cp (aF bz (au aB (au aB (pv 4) (pv 11) (λ_ _=>rfl)) (pv 12) (λ_ _=>rfl)) (pv 10)) (dh (au aB (pv 4) (pv 11) (λ_ _=>rfl)) (pv 12) b9)))))))))))
   (ag (ao (aQ rfl (N:=["_law_row","_law_whole_here"]) (caps:=[none,some 5]) (CompOk.of (by kernel_rfl)) (aC rfl) (aN (pv 4)) (λ_ _ _ _=>(am (i:=0) (show(["_law_row","_law_whole_here"]:List Str).Nodup by decide +kernel) rfl (Or.inl rfl) (Or.inr rfl))) (λ_ _ _ _=>aL) (λ_ _ _ _=>(aD (bE (K:=K) rfl) rfl M.b_tuple Boot.«tuple» (aa (aQ rfl (N:=["_law_share","_law_whole_here"]) (caps:=[none,some 1]) (CompOk.of (by kernel_rfl)) (aC rfl) (kr (K:=K) rfl (pv 0)) (λ_ _ _ _=>(am (i:=0) (show(["_law_share","_law_whole_here"]:List Str).Nodup by decide +kernel) rfl (Or.inl rfl) (Or.inr rfl))) (λ_ _ _ _=>aL) (λ_ _ _ _=>(aA G_law_lowest hr (by decide) rfl pass0 (aa (pv 0) (aa (pv 1) ac))))) ac)))))))))),?_⟩
 refine⟨_,rfl,(n:Int),rfl,by omega,by omega,?_⟩
 refine cz (λi ys H'=>Same H H'/\∃rs:List Addr,ys=rs.map V.ref/\rs.length=i/\rs.Nodup/\(∀r∈rs,H r=none)/\Paired (λr (m:List Int)=>H' r=some (.lst (m.map V.int))) rs (List.replicate i (List.replicate n 0)))
  ⟨Same.refl H,[],rfl,rfl,List.nodup_nil,(λ_ z=>nomatch z),Paired.nil⟩ (λi ys H' hi hP=>?_) (λys H' hP=>?_)
 ·obtain⟨hSm,rs,rfl,hl,hnd,hfr,hrows⟩:=hP
  refine⟨_,rfl,(n:Int),rfl,by omega,by omega,?_⟩
  refine cz (λj zs H2=>H2=H'/\zs=(List.replicate j (0:Int)).map V.int) ⟨rfl,rfl⟩ (λj zs H2 hj hP=>?_) (λzs H2 hP=>?_)
  ·obtain⟨rfl,rfl⟩:=hP
   refine⟨small1000 (by rw[List.length_map,List.length_replicate];omega),rfl,?_⟩
   rw[List.replicate_succ',List.map_append]
   rfl
  ·obtain⟨rfl,rfl⟩:=hP
   intro D hD
   have hDr:=fq hrows hD
   refine⟨small1000 (by rw[List.length_map,hl];omega),hSm.trans (ae hD _),rs++[D],by rw[List.map_append];rfl,by rw[List.length_append,hl];rfl,?_,?_,?_⟩
   ·exact List.nodup_append.mpr ⟨hnd,List.nodup_cons.mpr ⟨(λz=>nomatch z),List.nodup_nil⟩,λx hx y hy z=>hDr (by rw[List.mem_singleton.mp hy]at z;rw[<-z];exact hx)⟩
   ·intro r hr
    rcases List.mem_append.mp hr with z|z
    ·exact hfr r z
    ·rw[List.mem_singleton.mp z];exact hSm.free hD
   ·rw[List.replicate_succ']
    exact Paired.app (bY hrows hDr) (.cons af .nil)
 obtain⟨hSm,rs,rfl,hl,hnd,hfr,hrows⟩:=hP
 intro L hL
 have hLr:=fq hrows hL
 have R0:RowsAt H (upd H' L (.lst (rs.map V.ref))) L rs (List.replicate n (List.replicate n 0)):=⟨af,bY hrows hLr,hnd,hfr,hSm.free hL,hLr⟩
 have S0:Same H (upd H' L (.lst (rs.map V.ref))):=hSm.trans (ae hL _)
 generalize upd H' L (.lst (rs.map V.ref))=H1 at R0 S0 ⊢
 refine⟨10,12,rfl,rfl,⟨by decide,by decide,by decide⟩,by show 4<=sizeLine;decide,λpw hpw=>?_⟩
 have S4:Same H1 (upd H1 pw (.lst [V.int 2,V.int 7,V.int 60,V.int (10^(12:Int).toNat)])):=ae hpw _
 refine⟨_,rfl,_,rfl,a,ns,at',rfl,(S0.trans S4).seq hS,hat,_,_,rfl,_,_,rfl,rfl,by show(0:Int)<4;decide,pw,_,_,_,rfl,rfl,SqL.of af,lK _,?_⟩
 have R1:=R0.mono S4
 have S1:=S0.trans S4
 generalize upd H1 pw (.lst [V.int 2,V.int 7,V.int 60,V.int (10^(12:Int).toNat)])=H2 at R1 S1 ⊢
 clear R0 S0 S4 hpw hLr hrows hSm
 have hsz:=LN.size_bd (LN.mixed (LM.cellAt ns at') 40)
 have etab:LN.table ns at' many n=LN.tabGo ns at' n (LN.size (LN.mixed (LM.cellAt ns at') 40)) (1+many):=rfl
 rw[etab]at q
 have tok:=LN.tabGo_ok (ns:=ns) (at':=at') (n:=n) hsz.1 hsz.2 (1+many)
 generalize LN.size (LN.mixed (LM.cellAt ns at') 40)=sz at hsz q tok ⊢
 refine⟨_,rfl,_,_,rfl,rfl,1+(many:Int),rfl,by omega,by omega,?_⟩
 have eN:(1+(many:Int)).toNat=1+many:=by omega
 rw[eN]
 refine aO (n:=1+many) (λk σ H2=>Same H H2/\RowsAt H H2 L rs (LN.tabGo ns at' n sz k).1/\∃r7 r8 r9 r10 r11 r12,
   σ=[some (.ref a),some (.int at'),some (.int many),some (.int n),some (.ref L),some (.int (LN.tabGo ns at' n sz k).2),some (.int sz),r7,r8,r9,r10,r11,r12])
  ⟨S1,R1,_,_,_,_,_,_,rfl⟩ (λk σ H2 hk hP=>?_) (λσ H2 hP=>?_)
 ·obtain⟨hS2,R,r7,r8,r9,r10,r11,r12,rfl⟩:=hP
  have ok:=(LN.tabGo_ok (ns:=ns) (at':=at') (n:=n) hsz.1 hsz.2 k).1
  have eS:LN.tabGo ns at' n sz (k+1)=(LM.addDeal (LN.tabGo ns at' n sz k).1 (LN.order (LN.mixed (LM.cellAt ns (at'+1+k)) (20+k)) n) (1+LM.cellAt ns (at'+1+k)/5%sz),(LN.tabGo ns at' n sz k).2+(1+LM.cellAt ns (at'+1+k)/5%sz)):=rfl
  rw[eS]
  generalize LN.tabGo ns at' n sz k=MT at R ok ⊢
  refine⟨_,rfl,_,rfl,_,_,rfl,rfl,_,rfl,_,_,rfl,rfl,a,ns,_,rfl,hS2.seq hS,by omega,?_⟩
  rw[Int.zero_add]
  generalize LM.cellAt ns (at'+1+k)=c
  refine⟨_,rfl,_,rfl,_,_,rfl,rfl,c,20+(k:Int),rfl,_,rfl,_,n,rfl,by omega,λpo oo H3 S3 hpo ho hoo=>?_⟩
  have opm:=LN.order_pm (LN.mixed c (20+k)) n
  generalize LN.order (LN.mixed c (20+k)) n=o at ho opm ⊢
  refine⟨_,rfl,_,_,rfl,rfl,c9 (by decide) (by decide),_,rfl,_,_,rfl,rfl,hsz.1,_,_,rfl,rfl,?_⟩
  dsimp only
  generalize 1+c/5%sz=w
  refine⟨_,rfl,_,rfl,_,_,rfl,rfl,?_⟩
  have R3:=R.mono S3
  have S23:=hS2.trans S3
  refine⟨_,rfl,(n:Int),rfl,by omega,by omega,?_⟩
  refine aO (n:=n) (λj σ H6=>Same H H6/\RowsAt H H6 L rs (mid MT.1 o w j)/\H6 po=some (.frz oo (.tup (o.map V.int)))/\∃r7 r11 r12,
    σ=[some (.ref a),some (.int at'),some (.int many),some (.int n),some (.ref L),some (.int (MT.2+w)),some (.int sz),r7,some (.int c),some (.ref po),some (.int w),r11,r12])
   ⟨S23,by rw[ig];exact R3,ho,_,_,_,rfl⟩ (λj σ H6 hj hP=>?_) (λσ H6 hP=>?_)
  ·obtain⟨hS6,R6,ho6,r7',r11',r12',rfl⟩:=hP
   have hol:=opm.len
   have hmlt:j<MT.1.length:=by rw[ok.rows];exact hj
   obtain⟨mj,hmj⟩:∃m,MT.1[j]?=some m:=⟨_,List.getElem?_eq_getElem hmlt⟩
   have htj:o[j]?=some (o.getD j 0):=by simp[show j<o.length by omega]
   have htb:=opm.mem.mp (List.mem_of_getElem? htj)
   obtain⟨r,hr,hrl⟩:=R6.get (kZ hmj (by omega))
   have hml:mj.length=n:=ok.cols _ (List.mem_of_getElem? hmj)
   have hget:(mj.map V.int)[(o.getD j 0).toNat]?=some (.int (mj.getD (o.getD j 0).toNat 0)):=aS (by omega)
   have er:atI (rs.map V.ref) (0+(j:Int))=some (.ref r):=by rw[Int.zero_add];exact ay (by rw[List.getElem?_map,hr];rfl)
   have eo:atI (o.map V.int) (0+(j:Int))=some (.int (o.getD j 0)):=by rw[Int.zero_add];exact ay (by rw[List.getElem?_map,htj];rfl)
   have hix:ixN (mj.map V.int).length (o.getD j 0)=some (o.getD j 0).toNat:=by
    unfold ixN
    rw[if_pos htb.1,if_pos (by rw[List.length_map];omega)]
   refine⟨_,rfl,_,rfl,po,_,_,_,rfl,rfl,SqT.frz ho6,eo,?_⟩
   refine⟨_,rfl,_,rfl,L,_,_,_,rfl,rfl,SqL.of R6.lst,er,_,rfl,r,_,_,_,rfl,rfl,SqL.of hrl,cm htb.1 hget,_,rfl,_,_,rfl,rfl,?_⟩
   refine⟨_,rfl,_,rfl,L,_,_,_,rfl,rfl,SqL.of R6.lst,er,_,rfl,r,_,_,_,rfl,rfl,hrl,hix,?_⟩
   have hset:(mj.map V.int).set (o.getD j 0).toNat (.int (mj.getD (o.getD j 0).toNat 0+w))=(LM.addOne mj (o.getD j 0) w).map V.int:=by
    unfold LM.addOne
    rw[List.map_set]
   have R7:=R6.upd (LM.addOne mj (o.getD j 0) w) hr
   rw[il hmj htj]at R7
   dsimp only
   rw[hset]
   refine⟨hS6.over (R6.fr r (List.mem_of_getElem? hr)) _,R7,?_,_,_,_,rfl⟩
   rw[az (lC ho6 hrl (by intro z;cases z))]
   exact ho6
  ·obtain⟨hS6,R6,ho6,r7',r11',r12',rfl⟩:=hP
   rw[jv ok.rows opm.len]at R6
   exact⟨hS6,R6,_,_,_,_,_,_,rfl⟩
 obtain⟨hS2,R,r7,r8,r9,r10,r11,r12,rfl⟩:=hP
 generalize LN.tabGo ns at' n sz (1+many)=MT at q R tok ⊢
 obtain⟨Z,T⟩:=MT
 dsimp only at q R tok ⊢
 obtain⟨ok,t1,t2⟩:=tok
 have hT:0<T:=by omega
 have hT80:T<2^80:=by omega
 have zT9:T.natAbs<2^9000:=dQ (m:=80) (by omega) (by decide)
 have hrl:=Paired.len R.rows
 have hzl:=ok.rows
 refine⟨_,rfl,L,rfl,⟨_,SqL.of R.lst⟩,?_⟩
 refine aI (xs:=rs.map V.ref) (λi ys H'=>Same H2 H'/\Paired (RwFT K H' T) ys (Z.take i))
  ⟨Same.refl _,by rw[List.take_zero];exact .nil⟩ (λi ys H' _ hP=>SqL.of (hP.1 _ _ R.lst)) (λi v ys H' hy hP=>?_) (λys H6 hP D hD=>?_)
 ·obtain⟨S6,hys⟩:=hP
  rw[List.getElem?_map]at hy
  cases hri:rs[i]? with
  | none=>rw[hri]at hy;cases hy
  | some r=>
   rw[hri]at hy
   cases hy
   obtain⟨m,hmz,hrm⟩:=Paired.get' R.rows hri
   have hml:=ok.cols m (List.mem_of_getElem? hmz)
   have hyl:=Paired.len hys
   rw[List.length_take]at hyl
   refine⟨_,rfl,r,rfl,⟨_,SqL.of (S6 _ _ hrm)⟩,?_⟩
   refine aI (xs:=m.map V.int) (λj zs H7=>Same H' H7/\Paired (IsF K H7) zs (fr T (m.take j)))
    ⟨Same.refl _,by rw[List.take_zero];exact .nil⟩ (λj zs H7 _ hP=>SqL.of (hP.1 _ _ (S6 _ _ hrm))) (λj w zs H7 hw hP=>?_) (λzs H7 hP D hD=>?_)
   ·obtain⟨S7,hzs⟩:=hP
    rw[List.getElem?_map]at hw
    cases hmj:m[j]? with
    | none=>rw[hmj]at hw;cases hw
    | some t=>
     rw[hmj]at hw
     cases hw
     have hzl:=Paired.len hzs
     rw[fr,List.length_map,List.length_take]at hzl
     refine⟨_,rfl,_,rfl,t,T,rfl,hT,zT9,λpf H8 S8 hpf=>⟨small1000 (by omega),S7.trans S8,?_⟩⟩
     rw[List.take_add_one,hmj]
     unfold fr
     rw[List.map_append]
     exact Paired.app (av S8 hzs) (.cons ⟨pf,rfl,SqT.of hpf⟩ .nil)
   ·obtain⟨S7,hzs⟩:=hP
    rw[List.length_map,List.take_length]at hzs
    refine⟨D,zs,rfl,.inl ⟨SqL.of af,λpt hpt=>⟨small1000 (by omega),S6.trans (S7.trans ((ae hD _).trans (ae hpt _))),?_⟩⟩⟩
    rw[List.take_add_one,hmz]
    refine Paired.app (Paired.mapP hys λ_ _ h=>h.mono (S7.trans ((ae hD _).trans (ae hpt _)))) (.cons ⟨pt,zs,rfl,SqT.of af,?_⟩ .nil)
    exact av ((ae hD _).trans (ae hpt _)) hzs
 ·obtain⟨S6,hys⟩:=hP
  rw[List.length_map,hrl,List.take_length]at hys
  exact q D ys _ (hS2.trans (S6.trans (ae hD _))) ((hS2.trans S6).free hD) af (Paired.mapP hys λ_ _ h=>h.mono (ae hD _))
theorem sc__law_prefixes:FnScope ["_law_wish","_law_shares","_law_found","_law_upto","_law_thing"] ["_law_wish","_law_shares"] (defScope (top 52)):=⟨rfl,rfl,rfl,by decide +kernel,rfl,by decide +kernel,by decide +kernel⟩
set_option maxHeartbeats 4000000 in
theorem d__law_prefixes(M:Md K mg x)
  (G_law_plus:Dn P w K mg base CX0 3 "_law_plus" ["_law_one","_law_two"] (sp2P fAdd K)):Dn P w K mg base CX0 4 "_law_prefixes" ["_law_wish","_law_shares"] (spPfxL K):=by
 have nd:=(sc__law_prefixes).nd
 refine M.f__law_prefixes.ok sc__law_prefixes (λvs H Q E h=>?_) (λ_ _ _ _ _ _ us hl=>match us,hl with|[_,_],_=>rfl) (λf cdv A outer s H vs Q E hr h=>?_)
 ·obtain⟨a,b,ws,ss,row,T,rfl,hA,hB,hF,⟨hT,hT2⟩,hrow,hws,hlw,q⟩:=h
  rfl
 obtain⟨a,b,ws,ss,row,T,rfl,hA,hB,hF,⟨hT,hT2⟩,hrow,hws,hlw,q⟩:=h
 refine⟨_,(ad (aw (i:=2) nd rfl (Or.inl rfl) (cL ac))
   (ad (aw (i:=3) nd rfl (Or.inl rfl) (bp (aa ah (aa ah ac))))
   (ad (aV PassesOwn.never rfl (df (pv 0)) (am (i:=4) nd rfl (Or.inl rfl)) (ad (aw (i:=3) nd rfl (Or.inl rfl) (aA G_law_plus hr (by decide) rfl pass0 (aa (pv 3) (aa (au ax (pv 1) (pv 4) (λ_ _=>rfl)) ac))))
   (ag (bQ (cW PySem.F.plainAttrs_list PySem.F.slot_list_append PySem.F.type_list_append bN (pv 2) (aa (pv 3) ac))))))
   (ag (ao (pv 2)))))),?_⟩
 have small0:(0:Nat)<=sizeLine:=by decide
 have hT0:T≠0:=by omega
 have zT:T.natAbs<2^100:=by omega
 refine⟨small0,λp hp=>?_⟩
 refine⟨by show 2<=sizeLine;decide,λc0 hc0=>?_⟩
 have S1:Same H (upd (upd H p (.lst [])) c0 (.tup [.int 0,.int 1])):=(ae hp _).trans (ae hc0 _)
 have hpl:upd (upd H p (.lst [])) c0 (.tup [.int 0,.int 1]) p=some (.lst []):=ae hc0 _ _ _ af
 have hc:IsF K (upd (upd H p (.lst [])) c0 (.tup [.int 0,.int 1])) (.ref c0) (0,1):=⟨c0,rfl,SqT.of af⟩
 generalize upd (upd H p (.lst [])) c0 (.tup [.int 0,.int 1])=H1 at S1 hpl hc ⊢
 refine⟨_,rfl,a,rfl,⟨_,S1.tup hA⟩,?_⟩
 refine fM (xs:=ws.map V.int) (λi σ H'=>Same H H'/\∃(gs:List V) (sf:Addr) (r:Option V),σ=[some (.ref a),some (.ref b),some (.ref p),some (.ref sf),r]/\H' p=some (.lst gs)/\
   Paired (IsF K H') gs ((List.range i).map λk=>FQ.red (accs row ws (k+1)) T)/\IsF K H' (.ref sf) (FQ.red (accs row ws i) T))
  ⟨S1,[],c0,_,rfl,hpl,.nil,by rw[gm,bJ hT0];exact hc⟩ (λi σ H' _ hP=>hP.1.tup hA) (λi x σ H' hx hP=>?_) (λσ H' hP=>?_)
 ·obtain⟨hS,gs,sf,r,rfl,hl,hg,hsf⟩:=hP
  rw[List.getElem?_map]at hx
  cases hw:ws[i]? with
  | none=>rw[hw]at hx;cases hx
  | some wv=>
   rw[hw]at hx
   have hx':V.int wv=x:=Option.some.inj hx
   subst hx'
   have hb:=hws wv (List.mem_of_getElem? hw)
   have hlt:i<ws.length:=(List.getElem?_eq_some_iff.mp hw).1
   have hr:(row.map λx=>FQ.red x T)[wv.toNat]?=some (FQ.red (row.getD wv.toNat 0) T):=by
    have:wv.toNat<row.length:=by omega
    simp[this]
   obtain⟨sv,hsv,sa,rfl,hsa⟩:=Paired.get hF hr
   obtain⟨sf',e',hsf⟩:=hsf
   cases e'
   have bd:=gN (ws:=ws) hrow (Int.le_of_lt hT) i
   have hi6:accs row ws i<=63*T:=by
    have:(i:Int)*T<=63*T:=Int.mul_le_mul_of_nonneg_right (by omega) (by omega)
    omega
   have bx:0<=row.getD wv.toNat 0/\row.getD wv.toNat 0<=T:=by
    have h1:wv.toNat<row.length:=by omega
    have:row.getD wv.toNat 0=row[wv.toNat]:=by simp[h1]
    rw[this];exact hrow _ (List.getElem_mem h1)
   refine⟨_,rfl,_,rfl,_,rfl,b,ss,wv,_,rfl,rfl,hS.tup hB,cm hb.1 hsv,?_⟩
   refine⟨sf,sa,FQ.red (accs row ws i) T,FQ.red (row.getD wv.toNat 0) T,rfl,hsf,hS.tup hsa,ba hT0 (by omega) zT,ba hT0 (by omega) zT,(FQ.red_low hT0).pos,(FQ.red_low hT0).pos,λc H2 hS2 hc=>?_⟩
   rw[b4 hT0,<-gq hw]at hc
   have hl2:H2 p=some (.lst gs):=hS2 _ _ hl
   have hgl:=Paired.len hg
   rw[List.length_map,List.length_range]at hgl
   refine⟨_,rfl,.inl ⟨rfl,_,SqL.of hl2⟩,_,rfl,p,gs,_,rfl,rfl,hl2,small1000 (by omega),?_⟩
   have hcF:IsF K H2 (.ref c) (FQ.red (accs row ws (i+1)) T):=⟨c,rfl,SqT.of hc⟩
   refine⟨(hS.trans hS2).over hp _,gs++[.ref c],c,_,rfl,af,?_,hcF.over hl2⟩
   rw[List.range_succ,List.map_append]
   exact Paired.app (Paired.mapP hg λv z h=>(h.mono hS2).over hl2) (.cons (hcF.over hl2) .nil)
 ·obtain⟨hS,gs,sf,r,rfl,hl,hg,hsf⟩:=hP
  rw[List.length_map]at hg
  exact⟨_,rfl,q p gs _ hS hp hl hg⟩
theorem sc__law_no_less:FnScope ["_law_wish","_law_shares","_law_others","_law_one","_law_two"] ["_law_wish","_law_shares","_law_others"] (defScope (top 53)):=⟨rfl,rfl,rfl,by decide +kernel,rfl,by decide +kernel,by decide +kernel⟩
set_option maxHeartbeats 4000000 in
theorem d__law_no_less(M:Md K mg x)
  (G_law_prefixes:Dn P w K mg base CX0 4 "_law_prefixes" ["_law_wish","_law_shares"] (spPfxL K))
  (G_law_less:Dn P w K mg base CX0 1 "_law_less" ["_law_one","_law_two"] (spBefore K)):Dn P w K mg base CX0 5 "_law_no_less" ["_law_wish","_law_shares","_law_others"] (spNoLess K):=by
 have nd:=(sc__law_no_less).nd
 refine M.f__law_no_less.ok sc__law_no_less (λvs H Q E h=>?_) (λ_ _ _ _ _ _ us hl=>match us,hl with|[_,_,_],_=>rfl) (λf cdv A outer s H vs Q E hr h=>?_)
 ·obtain⟨w1,a,b,ws,ss,ts,row1,row2,T1,T2,rfl,hw,ha,hb,hf1,hf2,hT1,hT2,hr1,hr2,hb1,hb2,h63,q⟩:=h
  rfl
 obtain⟨w1,a,b,ws,ss,ts,row1,row2,T1,T2,rfl,hw,ha,hb,hf1,hf2,hT1,hT2,hr1,hr2,hb1,hb2,h63,q⟩:=h
 refine⟨_,(ad (aV PassesOwn.never rfl (io rfl M.b_zip (aa (aA G_law_prefixes hr (by decide) rfl pass0 (aa (pv 0) (aa (pv 1) ac))) (aa (aA G_law_prefixes hr (by decide) rfl pass0 (aa (pv 0) (aa (pv 2) ac))) ac))) (de rfl (aG (am (i:=3) nd rfl (Or.inl rfl)) (aG (am (i:=4) nd rfl (Or.inl rfl)) bH))) (ag (aJ (aH (aA G_law_less hr (by decide) rfl pass0 (aa (pv 3) (aa (pv 4) ac)))) (ag (ao aT)) ar)))
   (ag (ao aT))),?_⟩
 refine⟨_,rfl,_,rfl,w1,a,ws,ss,row1,T1,rfl,hw,ha,hf1,hT1,hr1,hb1,h63,λp1 gs H1 S1 hp10 hp1 hgs=>?_⟩
 refine⟨_,rfl,_,rfl,w1,b,ws,ts,row2,T2,rfl,S1.tup hw,S1.tup hb,av S1 hf2,hT2,hr2,hb2,h63,λp2 hs H2 S2 hp20 hp2 hhs=>?_⟩
 have hp12:=S2 _ _ hp1
 have hgs2:=av S2 hgs
 have hgl:=Paired.len hgs2
 have hhl:=Paired.len hhs
 rw[List.length_map,List.length_range]at hgl hhl
 have zx:=kT hT1 hr1 h63
 have zy:=kT hT2 hr2 h63
 refine⟨false,false,p1,p2,rfl,⟨gs,SqL.of hp12⟩,⟨hs,SqL.of hp2⟩,?_⟩
 refine lF (xs:=gs) (ys:=hs) (λi σ H'=>Same H2 H'/\(∀j,j<i->¬accs row1 ws (j+1)*T2<accs row2 ws (j+1)*T1)/\∃r3 r4,σ=[some (.ref w1),some (.ref a),some (.ref b),r3,r4]) (by omega)
  ⟨Same.refl _,λj hj=>absurd hj (Nat.not_lt_zero _),_,_,rfl⟩ (λi σ H' _ hP=>⟨SqL.of (hP.1 _ _ hp12),SqL.of (hP.1 _ _ hp2)⟩) (λi x y σ H' t hx hy ht hP=>?_) (λσ H' hP=>?_)
 ·obtain⟨S3,hno,r3,r4,rfl⟩:=hP
  have hi:i<ws.length:=by have:=(List.getElem?_eq_some_iff.mp hx).1;omega
  obtain⟨f1,hf1',xa,rfl,hxa⟩:=Paired.get' hgs2 hx
  obtain⟨f2,hf2',ya,rfl,hya⟩:=Paired.get' hhs hy
  rw[List.getElem?_map,List.getElem?_range hi]at hf1' hf2'
  have e1:FQ.red (accs row1 ws (i+1)) T1=f1:=Option.some.inj hf1'
  have e2:FQ.red (accs row2 ws (i+1)) T2=f2:=Option.some.inj hf2'
  have z1:=(zx f1 (List.mem_of_getElem? (i:=i) (by rw[jR hi,e1]))).1
  have z2:=(zy f2 (List.mem_of_getElem? (i:=i) (by rw[jR hi,e2]))).1
  have S4:=ae ht (.tup [.ref xa,.ref ya])
  refine⟨t,_,rfl,SqT.of af,rfl,_,_,rfl,_,_,rfl,rfl,?_⟩
  refine⟨_,rfl,_,rfl,xa,ya,f1,f2,rfl,(S3.trans S4).tup hxa,(S3.trans S4).tup hya,z1,z2,_,rfl,?_⟩
  show if lessF f1 f2=true then _ else _
  have el:lessF f1 f2=decide (accs row1 ws (i+1)*T2<accs row2 ws (i+1)*T1):=by rw[<-e1,<-e2];exact dL hT1.1 hT2.1
  rw[el]
  refine iteD2 (λc=>?_) (λc=>?_)
  ·have ef:noLess ws row1 T1 row2 T2=false:=by
    unfold noLess
    rw[List.all_eq_false]
    exact⟨i,List.mem_range.mpr hi,by simp[c]⟩
   rw[<-ef]
   exact q _ (S1.trans (S2.trans (S3.trans S4)))
  ·refine⟨S3.trans S4,λj hj=>?_,_,_,rfl⟩
   by_cases e:j=i
   ·rw[e];exact c
   ·exact hno j (by omega)
 ·obtain⟨S3,hno,r3,r4,rfl⟩:=hP
  have et:noLess ws row1 T1 row2 T2=true:=by
   unfold noLess
   rw[List.all_eq_true]
   intro j hj
   have:=hno j (by have:=List.mem_range.mp hj;omega)
   simp[this]
  rw[<-et]
  exact q _ (S1.trans (S2.trans S3))
theorem sc__law_is_table:FnScope ["_law_found","_law_count","_law_row","_law_share","_law_k","_law_here","_law_there","_law_j"] ["_law_found","_law_count"] (defScope (top 54)):=⟨rfl,rfl,rfl,by decide +kernel,rfl,by decide +kernel,by decide +kernel⟩
set_option maxHeartbeats 4000000 in
theorem d__law_is_table(M:Md K mg x)
  (G_law_is_fraction:Dn P w K mg base CX0 2 "_law_is_fraction" ["_law_found"] (spIsFr K))
  (G_law_plus:Dn P w K mg base CX0 3 "_law_plus" ["_law_one","_law_two"] (sp2P fAdd K)):Dn P w K mg base CX0 4 "_law_is_table" ["_law_found","_law_count"] (spIsTable K):=by
 have nd:=(sc__law_is_table).nd
 refine M.f__law_is_table.ok sc__law_is_table (λvs H Q E h=>?_) (λ_ _ _ _ _ _ us hl=>match us,hl with|[_,_],_=>rfl) (λf cdv A outer s H vs Q E hr h=>?_)
 ·obtain⟨a,us,Z,T,n,rfl,hA,hZ,ok,q⟩:=h
  rfl
 obtain⟨a,us,Z,T,n,rfl,hA,hZ,ok,q⟩:=h
 refine⟨_,(ad (aJ (PW.pt (bA (aM (aH (ai aE rfl M.b_isinstance Boot.«isinstance» (aa (pv 0) (aa (bv rfl M.b_list Boot.«list») ac))))) (bo (aq cu (ai al rfl M.b_len PySem.boot_len (aa (pv 0) ac)) (pv 1) (nomark _))))) (ag (ao aT)) ar)
   (ad (aV PassesOwn.never rfl (aN (pv 0)) (am (i:=2) nd rfl (Or.inl rfl)) (ad (aJ (PW.pt (bA (aM (aH (ai aE rfl M.b_isinstance Boot.«isinstance» (aa (pv 2) (aa (bv rfl M.b_tuple Boot.«tuple») ac))))) (bo (aq cu (ai al rfl M.b_len PySem.boot_len (aa (pv 2) ac)) (pv 1) (nomark _))))) (ag (ao aT)) ar)
   (ag (aV PassesOwn.never rfl (df (pv 2)) (am (i:=3) nd rfl (Or.inl rfl)) (ag (aJ (PW.pt (bA (aM (aH (aA G_law_is_fraction hr (by decide) rfl pass0 (aa (pv 3) ac)))) (bA (aq gb (au ax (pv 3) ah (λ_ _=>rfl)) ah (nomark _)) (bo (aq gd (au ax (pv 3) ah (λ_ _=>rfl)) (au ax (pv 3) ah (λ_ _=>rfl)) (nomark _)))))) (ag (ao aT)) ar))))))
   (ad (aV PassesOwn.never rfl (aK rfl M.b_range (aa (pv 1) ac)) (am (i:=4) nd rfl (Or.inl rfl)) (ad (aw (i:=5) nd rfl (Or.inl rfl) (bp (aa ah (aa ah ac))))
   (ad (aw (i:=6) nd rfl (Or.inl rfl) (bp (aa ah (aa ah ac))))
   (ad (aV PassesOwn.never rfl (aK rfl M.b_range (aa (pv 1) ac)) (am (i:=7) nd rfl (Or.inl rfl)) (ad (aw (i:=5) nd rfl (Or.inl rfl) (aA G_law_plus hr (by decide) rfl pass0 (aa (pv 5) (aa (au ax (au aB (pv 0) (pv 4) (λ_ _=>rfl)) (pv 7) (λ_ _=>rfl)) ac))))
   (ag (aw (i:=6) nd rfl (Or.inl rfl) (aA G_law_plus hr (by decide) rfl pass0 (aa (pv 6) (aa (au ax (au aB (pv 0) (pv 7) (λ_ _=>rfl)) (pv 4) (λ_ _=>rfl)) ac)))))))
   (ag (aJ (PW.pt (bA (aq (ck hr) (pv 5) (bp (aa ah (aa ah ac))) (nomark _)) (bo (aq (ck hr) (pv 6) (bp (aa ah (aa ah ac))) (nomark _))))) (ag (ao aT)) ar))))))
   (ag (ao aT))))),?_⟩
 have hul:=Paired.len hZ
 have hn1:=ok.lo
 have hn6:=ok.hi
 have hT:=ok.t0
 have hT80:=ok.t1
 have hT0:T≠0:=by omega
 have reg:=ok.reg
 have hZn:=reg.len
 have zT:T.natAbs<2^100:=by omega
 refine⟨_,rfl,_,"list","list",rfl,by decide,.inl ⟨rfl,_,hA⟩,_,rfl,iteF ?_⟩
 refine⟨_,rfl,a,_,rfl,.inl hA,_,rfl,rfl,_,rfl,iteNS (by show V.int _=V.int _;rw[hul,hZn]) ?_⟩
 refine⟨_,rfl,a,rfl,⟨_,hA⟩,?_⟩
 refine bZ (xs:=us) (λi σ H'=>H'=H/\∃r2 r3 r4 r5 r6 r7,σ=[some (.ref a),some (.int n),r2,r3,r4,r5,r6,r7]) ⟨rfl,_,_,_,_,_,_,rfl⟩ (λi σ H' _ hP=>by rw[hP.1];exact hA) (λi v σ H' hv hP=>?_) (λσ H' hP=>?_)
 ·obtain⟨rfl,r2,r3,r4,r5,r6,r7,rfl⟩:=hP
  obtain⟨m,hm,ra,gs,rfl,hra,hgs⟩:=Paired.get' hZ hv
  have hmZ:=List.mem_of_getElem? hm
  have hml:=reg.cols m hmZ
  have hgl:=Paired.len hgs
  unfold fr at hgl
  rw[List.length_map]at hgl
  refine⟨_,rfl,_,"tuple","tuple",rfl,by decide,.inr ⟨rfl,_,hra⟩,_,rfl,iteF ?_⟩
  refine⟨_,rfl,ra,_,rfl,.inr hra,_,rfl,rfl,_,rfl,iteNS (by show V.int _=V.int _;rw[hgl,hml]) ?_⟩
  refine⟨_,rfl,ra,rfl,⟨_,hra⟩,?_⟩
  refine fM (xs:=gs) (λj σ H2=>H2=H'/\∃r3 r4 r5 r6 r7,σ=[some (.ref a),some (.int n),some (.ref ra),r3,r4,r5,r6,r7]) ⟨rfl,_,_,_,_,_,rfl⟩ (λj σ H2 _ hP=>by rw[hP.1];exact hra) (λj u σ H2 hu hP=>?_) (λσ H2 hP=>?_)
  ·obtain⟨rfl,r3',r4',r5',r6',r7',rfl⟩:=hP
   obtain⟨f,hf,fa,rfl,hfa⟩:=Paired.get' hgs hu
   obtain⟨c,hc,rfl⟩:∃c∈m,f=FQ.red c T:=by
    unfold fr at hf
    obtain⟨c,hc,e⟩:=List.mem_map.mp (List.mem_of_getElem? hf)
    exact⟨c,hc,e.symm⟩
   have cb:=cM reg hmZ c hc
   refine⟨_,rfl,fa,FQ.red c T,rfl,hfa,FQ.red_low hT0,_,rfl,iteF ?_⟩
   have g1:¬(FQ.red c T).1<0:=λz=>by have:=(FQ.red_neg_iff hT).mp z;omega
   have g2:¬(FQ.red c T).2<(FQ.red c T).1:=λz=>by have:=(FQ.red_gt_iff hT).mp z;omega
   refine⟨_,rfl,fa,_,0,_,rfl,rfl,hfa,rfl,_,_,rfl,rfl,_,rfl,iteDF g1 ?_⟩
   refine⟨_,rfl,fa,_,0,_,rfl,rfl,hfa,rfl,_,rfl,fa,_,1,_,rfl,rfl,hfa,rfl,_,_,rfl,rfl,_,rfl,iteDF g2 ?_⟩
   exact⟨rfl,_,_,_,_,_,rfl⟩
  ·obtain⟨rfl,r3',r4',r5',r6',r7',rfl⟩:=hP
   exact⟨rfl,_,_,_,_,_,_,rfl⟩
 obtain⟨rfl,r2,r3,r4,r5,r6,r7,rfl⟩:=hP
 refine⟨_,rfl,(n:Int),rfl,by omega,by omega,?_⟩
 refine aO (n:=n) (λk σ H1=>Same H' H1/\∃r2 r3 r4 r5 r6 r7,σ=[some (.ref a),some (.int n),r2,r3,r4,r5,r6,r7]) ⟨Same.refl _,_,_,_,_,_,_,rfl⟩ (λk σ H1 hk hP=>?_) (λσ H1 hP=>?_)
 ·obtain⟨S1,r2',r3',r4',r5',r6',r7',rfl⟩:=hP
  refine⟨by show 2<=sizeLine;decide,λp5 hp5=>⟨by show 2<=sizeLine;decide,λp6 hp6=>?_⟩⟩
  have S2:Same H1 (upd (upd H1 p5 (.tup [.int 0,.int 1])) p6 (.tup [.int 0,.int 1])):=(ae hp5 _).trans (ae hp6 _)
  have f5:IsF K (upd (upd H1 p5 (.tup [.int 0,.int 1])) p6 (.tup [.int 0,.int 1])) (.ref p5) (0,1):=⟨p5,rfl,SqT.of (ae hp6 _ _ _ af)⟩
  have f6:IsF K (upd (upd H1 p5 (.tup [.int 0,.int 1])) p6 (.tup [.int 0,.int 1])) (.ref p6) (0,1):=⟨p6,rfl,SqT.of af⟩
  generalize upd (upd H1 p5 (.tup [.int 0,.int 1])) p6 (.tup [.int 0,.int 1])=H2 at S2 f5 f6 ⊢
  refine⟨_,rfl,(n:Int),rfl,by omega,by omega,?_⟩
  refine aO (n:=n) (λj σ H3=>Same H2 H3/\∃(v5 v6:V) (r7:Option V),σ=[some (.ref a),some (.int n),r2',r3',some (.int (0+(k:Int))),some v5,some v6,r7]/\IsF K H3 v5 (FQ.red (HM.sm j (HM.ent Z k)) T)/\IsF K H3 v6 (FQ.red (HM.sm j λi=>HM.ent Z i k) T))
   ⟨Same.refl _,_,_,_,rfl,by rw[show HM.sm 0 (HM.ent Z k)=0 from rfl,bJ hT0];exact f5,by rw[show HM.sm 0 (λi=>HM.ent Z i k)=0 from rfl,bJ hT0];exact f6⟩ (λj σ H3 hj hP=>?_) (λσ H3 hP=>?_)
  ·obtain⟨S3,v5,v6,r7'',rfl,⟨a5,rfl,h5⟩,⟨a6,rfl,h6⟩⟩:=hP
   have S03:=S1.trans (S2.trans S3)
   have hkZ:k<Z.length:=by omega
   have hjZ:j<Z.length:=by omega
   obtain⟨uk,huk,rk,gk,rfl,hrk,hgk⟩:=Paired.get hZ (List.getElem?_eq_getElem hkZ)
   obtain⟨uj,huj,rj,gj,rfl,hrj,hgj⟩:=Paired.get hZ (List.getElem?_eq_getElem hjZ)
   have lk:=reg.cols _ (List.getElem_mem hkZ)
   have lj:=reg.cols _ (List.getElem_mem hjZ)
   have ek:(fr T Z[k])[j]?=some (FQ.red (HM.ent Z k j) T):=by
    unfold fr HM.ent
    rw[List.getElem?_map,List.getElem?_eq_getElem (by omega),HM.getD_lt hkZ,HM.getD_lt (by omega)]
    rfl
   have ej:(fr T Z[j])[k]?=some (FQ.red (HM.ent Z j k) T):=by
    unfold fr HM.ent
    rw[List.getElem?_map,List.getElem?_eq_getElem (by omega),HM.getD_lt hjZ,HM.getD_lt (by omega)]
    rfl
   obtain⟨vk,hvk,ak,rfl,hak⟩:=Paired.get hgk ek
   obtain⟨vj,hvj,aj,rfl,haj⟩:=Paired.get hgj ej
   have bk:=cM reg (List.getElem_mem hkZ) (HM.ent Z k j) (by unfold HM.ent;rw[HM.getD_lt hkZ,HM.getD_lt (by omega)];exact List.getElem_mem _)
   have bj:=cM reg (List.getElem_mem hjZ) (HM.ent Z j k) (by unfold HM.ent;rw[HM.getD_lt hjZ,HM.getD_lt (by omega)];exact List.getElem_mem _)
   have s5:=jb (λi=>reg.nn k i) (reg.row k hk) (Nat.le_of_lt hj)
   have s6:=jb (λi=>reg.nn i k) (reg.col k hk) (Nat.le_of_lt hj)
   refine⟨_,rfl,_,rfl,_,rfl,a,_,_,_,rfl,rfl,S03.seq hA,by rw[Int.zero_add];exact ay huk,_,rfl,rk,_,_,_,rfl,rfl,S03.tup hrk,by rw[Int.zero_add];exact ay hvk,?_⟩
   refine⟨a5,ak,_,_,rfl,h5,S03.tup hak,ba hT0 (by omega) zT,ba hT0 (by omega) zT,(FQ.red_low hT0).pos,(FQ.red_low hT0).pos,λc5 H4 S4 hc5=>?_⟩
   rw[b4 hT0]at hc5
   have S04:=S03.trans S4
   refine⟨_,rfl,_,rfl,_,rfl,a,_,_,_,rfl,rfl,S04.seq hA,by rw[Int.zero_add];exact ay huj,_,rfl,rj,_,_,_,rfl,rfl,S04.tup hrj,by rw[Int.zero_add];exact ay hvj,?_⟩
   refine⟨a6,aj,_,_,rfl,S4.tup h6,S04.tup haj,ba hT0 (by omega) zT,ba hT0 (by omega) zT,(FQ.red_low hT0).pos,(FQ.red_low hT0).pos,λc6 H5 S5 hc6=>?_⟩
   rw[b4 hT0]at hc6
   exact⟨S3.trans (S4.trans S5),_,_,_,rfl,⟨c5,rfl,SqT.of (S5 _ _ hc5)⟩,⟨c6,rfl,SqT.of hc6⟩⟩
  ·obtain⟨S3,v5,v6,r7'',rfl,h5,h6⟩:=hP
   have one:FQ.red T T=(1,1):=(FQ.red_one_iff hT).mpr rfl
   rw[reg.row k hk,one]at h5
   rw[reg.col k hk,one]at h6
   refine⟨_,rfl,by show 2<=sizeLine;decide,λc7 hc7=>?_⟩
   have S7:=ae hc7 (.tup [.int 1,.int 1])
   have h7:IsF K (upd H3 c7 (.tup [.int 1,.int 1])) (.ref c7) (1,1):=⟨c7,rfl,SqT.of af⟩
   refine⟨_,_,(h5.mono S7).rep,h7.rep,aR (d3 _) (by decide),aR (d3 _) (by decide),_,rfl,?_⟩
   rw[cP 1 _ (d3 _)]
   refine iteF ?_
   generalize upd H3 c7 (.tup [.int 1,.int 1])=H7 at S7 h7 ⊢
   refine⟨_,rfl,by show 2<=sizeLine;decide,λc8 hc8=>?_⟩
   have S8:=ae hc8 (.tup [.int 1,.int 1])
   have h8:IsF K (upd H7 c8 (.tup [.int 1,.int 1])) (.ref c8) (1,1):=⟨c8,rfl,SqT.of af⟩
   refine⟨_,_,(h6.mono (S7.trans S8)).rep,h8.rep,aR (d3 _) (by decide),aR (d3 _) (by decide),_,rfl,?_⟩
   rw[cP 1 _ (d3 _)]
   exact iteF ⟨S1.trans (S2.trans (S3.trans (S7.trans S8))),_,_,_,_,_,_,rfl⟩
 ·obtain⟨S1,r2',r3',r4',r5',r6',r7',rfl⟩:=hP
  exact q _ S1
theorem sc__law_order_holds:FnScope ["_law_wishes_here","_law_table_here","_law_order_here","_law_person","_law_thing","_law_better_here"] ["_law_wishes_here","_law_table_here","_law_order_here"] (defScope (top 55)):=⟨rfl,rfl,rfl,by decide +kernel,rfl,by decide +kernel,by decide +kernel⟩
set_option maxHeartbeats 4000000 in
theorem d__law_order_holds(M:Md K mg x)
  (G_law_whole:Dn P w K mg base CX0 1 "_law_whole" ["_law_found"] (spWhole)):Dn P w K mg base CX0 2 "_law_order_holds" ["_law_wishes_here","_law_table_here","_law_order_here"] (spOrdH K):=by
 have nd:=(sc__law_order_holds).nd
 refine M.f__law_order_holds.ok sc__law_order_holds (λvs H Q E h=>?_) (λ_ _ _ _ _ _ us hl=>match us,hl with|[_,_,_],_=>rfl) (λf cdv A outer s H vs Q E hr h=>?_)
 ·obtain⟨a,b,o,ws,us,W,Z,T,n,os,rfl,hA,hWF,hB,hZ,tw,hO,ord,q⟩:=h
  rfl
 obtain⟨a,b,o,ws,us,W,Z,T,n,os,rfl,hA,hWF,hB,hZ,tw,hO,ord,q⟩:=h
 refine⟨_,(ad (aJ (PW.pt (bA (aM (aH (ai aE rfl M.b_isinstance Boot.«isinstance» (aa (pv 2) (aa (bv rfl M.b_list Boot.«list») ac))))) (bo (aq cu (ai al rfl M.b_len PySem.boot_len (aa (pv 2) ac)) (ai al rfl M.b_len PySem.boot_len (aa (pv 0) ac)) (nomark _))))) (ag (ao aT)) ar)
   (ad (aJ (PW.pt (bA (aM (aH (ai (cK rfl) rfl M.b_all Boot.«all» (aa (aQ rfl (N:=["_law_thing"]) (caps:=[none]) (CompOk.of (by kernel_rfl)) (aC rfl) (aN (pv 2)) (λ_ _ _ _=>(am (i:=0) (show(["_law_thing"]:List Str).Nodup by decide +kernel) rfl (Or.inl rfl) (Or.inr rfl))) (λ_ _ _ _=>aL) (λ_ _ _ _=>(aA G_law_whole hr (by decide) rfl pass0 (aa (pv 0) ac)))) ac)))) (bo (aq (ck hr) (ai (eA) rfl M.b_sorted Boot.«sorted» (aa (pv 2) ac)) (aD (bh rfl) rfl M.b_list Boot.«list» (aa (aD bK rfl M.b_range PyProof.Rows.boot_range (aa (ai al rfl M.b_len PySem.boot_len (aa (pv 0) ac)) ac)) ac)) (nomark _))))) (ag (ao aT)) ar)
   (ad (aV PassesOwn.never rfl (aK rfl M.b_range (aa (ai al rfl M.b_len PySem.boot_len (aa (pv 0) ac)) ac)) (am (i:=3) nd rfl (Or.inl rfl)) (ag (aV PassesOwn.never rfl (aK rfl M.b_range (aa (ai al rfl M.b_len PySem.boot_len (aa (pv 0) ac)) ac)) (am (i:=4) nd rfl (Or.inr rfl)) (ag (aJ (aq gd (au ax (au ax (au aB (pv 1) (pv 3) (λ_ _=>rfl)) (pv 4) (λ_ _=>rfl)) ah (λ_ _=>rfl)) ah (nomark _)) (ad (aw (i:=5) nd rfl (Or.inl rfl) (dA kP (au aB (pv 0) (pv 3) (λ_ _=>rfl)) fJ (fK (gL (K:=K) rfl (au aB (pv 0) (pv 3) (λ_ _=>rfl)) (pv 4)))))
   (ag (aJ (aq gd (ai al rfl M.b_len PySem.boot_len (aa (aQ rfl (N:=["_law_other","_law_order_here","_law_thing"]) (caps:=[none,some 2,some 4]) (CompOk.of (by kernel_rfl)) (aC rfl) (df (pv 5)) (λ_ _ _ _=>(am (i:=0) (show(["_law_other","_law_order_here","_law_thing"]:List Str).Nodup by decide +kernel) rfl (Or.inl rfl) (Or.inr rfl))) (λ_ _ _ _=>(cZ (aq gd (k8 (K:=K) rfl PySem.F.plainAttrs_list PySem.F.slot_list_index PySem.F.type_list_index (gt (K:=K) rfl) (pv 1) (aa (pv 0) ac)) (k8 (K:=K) rfl PySem.F.plainAttrs_list PySem.F.slot_list_index PySem.F.type_list_index (gt (K:=K) rfl) (pv 1) (aa (pv 2) ac)) (nomark _)))) (λ_ _ _ _=>(pv 0))) ac)) ah (nomark _)) (ag (ao aT)) ar))) ar)))))
   (ag (ao aT))))),?_⟩
 have hwl:=Paired.len hWF
 have hn1:=tw.w.lo
 have hn6:=tw.w.hi
 have hWn:=tw.w.len
 have hT:=tw.z.t0
 have hwn:ws.length=n:=by omega
 have opm:=mf ord
 have hol:(ni os).length=n:=opm.len
 have hol2:((ni os).map V.int).length=n:=by rw[List.length_map];exact hol
 have hol3:os.length=n:=by rw[<-aZ];exact hol
 refine⟨_,rfl,_,"list","list",rfl,by decide,.inl ⟨rfl,_,SqL.of hO⟩,_,rfl,iteF ?_⟩
 refine⟨_,rfl,o,_,rfl,.inl (SqL.of hO),_,rfl,a,_,rfl,.inl hA,rfl,_,rfl,iteNS (by show V.int _=V.int _;rw[hol2,hwn]) ?_⟩
 refine⟨_,rfl,o,rfl,⟨_,SqL.of hO⟩,?_⟩
 refine aI (xs:=(ni os).map V.int) (λj ys Hx=>Hx=H/\ys=(List.replicate j true).map V.bl) ⟨rfl,rfl⟩ (λj ys Hx _ hP=>by rw[hP.1];exact SqL.of hO) (λj y ys Hx hx hP=>?_) (λys Hx hP D hD=>?_)
 ·obtain⟨rfl,rfl⟩:=hP
  have hj:j<os.length:=by have:=(List.getElem?_eq_some_iff.mp hx).1;omega
  rw[eF hj]at hx
  cases hx
  refine⟨_,rfl,_,rfl,small1000 (by simp;omega),rfl,?_⟩
  rw[List.replicate_succ',List.map_append]
  rfl
 obtain⟨rfl,rfl⟩:=hP
 rw[hol2]
 have S3:Same Hx (upd Hx D (.lst ((List.replicate n true).map V.bl))):=ae hD _
 have hD3:SqL K (upd Hx D (.lst ((List.replicate n true).map V.bl))) D ((List.replicate n true).map V.bl):=SqL.of af
 generalize upd Hx D (.lst ((List.replicate n true).map V.bl))=H3 at S3 hD3 ⊢
 refine⟨D,List.replicate n true,rfl,hD3,_,rfl,?_⟩
 rw[show(List.replicate n true).all id=true by simp]
 refine iteF ?_
 refine⟨_,rfl,o,ni os,rfl,.inl (SqL.of (S3 _ _ hO)),by omega,λsl ns2 hsl hp hs=>?_⟩
 have S4:=ae hsl (.lst (ns2.map V.int))
 refine⟨_,rfl,a,_,rfl,.inl ((S3.trans S4).seq hA),(n:Int),by rw[hwn],λl2 hl2=>⟨l2,n,rfl,af,by omega,λl3 hl3=>?_⟩⟩
 have e3:((List.range n).map λ(i:Nat)=>V.int (i:Int))=(LM.rng n).map V.int:=by unfold LM.rng;rw[List.map_map];rfl
 rw[e3]
 have S5:Same H3 _:=(S4.trans (ae hl2 (.rng 0 (n:Int)))).trans (ae hl3 (.lst ((LM.rng n).map V.int)))
 refine⟨.list (ns2.map PyData.int),.list ((LM.rng n).map PyData.int),?_,?_,aR (n:=1) (by simp[okD]) (by decide),aR (n:=1) (by simp[okD]) (by decide),_,rfl,?_⟩
 ·exact .lst (SqL.of (ae hl3 _ _ _ (ae hl2 _ _ _ af))) (Reps.ints ns2) (by rw[List.length_map,hp.length_eq];omega)
 ·exact .lst (SqL.of af) (Reps.ints _) (by rw[List.length_map,LM.rng_len];omega)
 rw[ij,decide_eq_true ((LM.sorted_iff hp hs).mpr opm)]
 refine iteF ?_
 have S05:=S3.trans S5
 clear S5 S4
 generalize upd (upd (upd H3 sl (.lst (ns2.map V.int))) l2 (.rng 0 (n:Int))) l3 (.lst ((LM.rng n).map V.int))=H5 at S05 ⊢
 refine⟨_,rfl,a,_,rfl,.inl (S05.seq hA),_,rfl,by omega,by omega,?_⟩
 refine aO (n:=ws.length) (λp σ H6=>Same Hx H6/\∃r3 r4 r5,σ=[some (.ref a),some (.ref b),some (.ref o),r3,r4,r5]) ⟨S05,_,_,_,rfl⟩ (λp σ H6 hp6 hP=>?_) (λσ H6 hP=>?_)
 ·obtain⟨S6,r3,r4,r5,rfl⟩:=hP
  have hpn:p<n:=by omega
  have hpW:p<W.length:=by omega
  obtain⟨wv,hwv,wa,wo,rfl,hwf,hwd⟩:=Paired.get hWF (List.getElem?_eq_getElem hpW)
  have hrpm:=tw.w.pm _ (List.getElem_mem hpW)
  have erow:W.getD p []=W[p]:=HM.getD_lt hpW
  generalize W[p]=row at hwf hrpm erow
  have hrl:=hrpm.len
  refine⟨_,rfl,a,_,rfl,.inl (S6.seq hA),_,rfl,by omega,by omega,?_⟩
  refine aO (n:=ws.length) (λt σ H7=>Same Hx H7/\∃r4 r5,σ=[some (.ref a),some (.ref b),some (.ref o),some (.int (0+(p:Int))),r4,r5]) ⟨S6,_,_,rfl⟩ (λt σ H7 ht hP=>?_) (λσ H7 hP=>?_)
  ·obtain⟨S7,r4x,r5x,rfl⟩:=hP
   have htn:t<n:=by omega
   obtain⟨ra,gs,fa,hus,hra,hgs,hfa⟩:=dB hZ tw.z.reg hpn htn
   have hmt:((t:Nat):Int)∈row:=hrpm.mem.mpr ⟨by omega,by omega⟩
   have hidl:=List.idxOf_lt_length_iff.mpr hmt
   refine⟨_,rfl,_,rfl,b,_,_,_,rfl,rfl,S7.seq hB,by rw[Int.zero_add];exact ay hus,_,rfl,ra,_,_,_,rfl,rfl,S7.tup hra,by rw[Int.zero_add];exact ay hgs,fa,_,0,_,rfl,rfl,S7.tup hfa,rfl,_,_,rfl,rfl,_,rfl,iteD2 (λc=>?_) (λc=>⟨S7,_,_,rfl⟩)⟩
   have hz:=(eG hT).mp c
   have hwa7:SqT K H7 wa (row.map V.int):=SqT.frz (S7 _ _ hwf)
   refine⟨_,rfl,_,rfl,a,_,_,_,rfl,rfl,S7.seq hA,by rw[Int.zero_add];exact ay hwv,_,rfl,_,rfl,a,_,_,_,rfl,rfl,S7.seq hA,by rw[Int.zero_add];exact ay hwv,wa,wo,_,rfl,S7 _ _ hwf,hwd,_,rfl,row,(t:Int),by rw[Int.zero_add],hwa7,hmt,_,rfl,me hwa7 hidl λps H8 S8 hps=>?_⟩
   refine⟨_,rfl,ps,rfl,⟨_,hps⟩,?_⟩
   have S78:=S7.trans S8
   refine dw (xs:=((row.take (row.idxOf (t:Int))).map V.int)) (λk ys H9=>H9=H8/\ys=[]) ⟨rfl,rfl⟩ (λk ys H9 _ hP=>by rw[hP.1];exact hps) (λk y ys H9 hy hP=>?_) (λys H9 hP De hDe=>?_)
   ·obtain⟨rfl,rfl⟩:=hP
    have hk:k<row.idxOf (t:Int):=by have:=(List.getElem?_eq_some_iff.mp hy).1;rw[List.length_map,List.length_take]at this;omega
    have hkr:k<row.length:=by omega
    rw[List.getElem?_map,List.getElem?_take_of_lt hk,List.getElem?_eq_getElem hkr]at hy
    have hy2:V.int row[k]=y:=Option.some.inj hy
    subst hy2
    have hub:=hrpm.mem.mp (List.getElem_mem hkr)
    obtain⟨u,hu⟩:∃u:Nat,row[k]=u:=⟨row[k].toNat,by omega⟩
    have hui:row.idxOf (u:Int)=k:=by rw[<-hu];exact hrpm.nodup.idxOf_getElem k hkr
    rw[hu]at hub ⊢
    have hlt:=ord.idx htn (show u<n by omega) ⟨p,hpn,htn,by omega,hz,by rw[erow];omega⟩
    have hO9:=S78 _ _ hO
    refine⟨_,rfl,.inl ⟨rfl,_,SqL.of hO9⟩,_,rfl,o,ni os,(u:Int),rfl,rfl,SqL.of hO9,opm.mem.mpr ⟨by omega,by omega⟩,_,rfl,.inl ⟨rfl,_,SqL.of hO9⟩,_,rfl,o,ni os,(t:Int),rfl,by rw[Int.zero_add],SqL.of hO9,opm.mem.mpr ⟨by omega,by omega⟩,_,_,rfl,rfl,_,rfl,iteDF ?_ ⟨rfl,rfl⟩⟩
    rw[kN,kN]
    omega
   ·obtain⟨rfl,rfl⟩:=hP
    refine⟨De,_,rfl,.inl (SqL.of af),_,_,rfl,rfl,_,rfl,iteDF (by simp) ⟨S78.trans (ae hDe _),_,_,rfl⟩⟩
  ·obtain⟨S7,r4x,r5x,rfl⟩:=hP
   exact⟨S7,_,_,_,rfl⟩
 ·obtain⟨S6,r3,r4,r5,rfl⟩:=hP
  exact q H6 S6
theorem sc__law_ring_holds:FnScope ["_law_wishes_here","_law_table_here","_law_ring","_law_row","_law_k","_law_person","_law_given","_law_taken"] ["_law_wishes_here","_law_table_here","_law_ring"] (defScope (top 56)):=⟨rfl,rfl,rfl,by decide +kernel,rfl,by decide +kernel,by decide +kernel⟩
set_option maxHeartbeats 4000000 in
theorem d__law_ring_holds(M:Md K mg x)
  (G_law_whole:Dn P w K mg base CX0 1 "_law_whole" ["_law_found"] (spWhole)):Dn P w K mg base CX0 2 "_law_ring_holds" ["_law_wishes_here","_law_table_here","_law_ring"] (spRingH K):=by
 have nd:=(sc__law_ring_holds).nd
 refine M.f__law_ring_holds.ok sc__law_ring_holds (λvs H Q E h=>?_) (λ_ _ _ _ _ _ us hl=>match us,hl with|[_,_,_],_=>rfl) (λf cdv A outer s H vs Q E hr h=>?_)
 ·obtain⟨a,b,r,ws,us,ls,W,Z,T,n,R,rfl,hA,hWF,hB,hZ,tw,hR,hls,ok,q⟩:=h
  rfl
 obtain⟨a,b,r,ws,us,ls,W,Z,T,n,R,rfl,hA,hWF,hB,hZ,tw,hR,hls,ok,q⟩:=h
 refine⟨_,(ad (aJ (PW.pt (bA (aM (aH (ai aE rfl M.b_isinstance Boot.«isinstance» (aa (pv 2) (aa (bv rfl M.b_list Boot.«list») ac))))) (bo (aq gb (ai al rfl M.b_len PySem.boot_len (aa (pv 2) ac)) ah (nomark _))))) (ag (ao aT)) ar)
   (ad (aV PassesOwn.never rfl (aN (pv 2)) (am (i:=3) nd rfl (Or.inl rfl)) (ad (aJ (PW.pt (bA (aM (aH (ai aE rfl M.b_isinstance Boot.«isinstance» (aa (pv 3) (aa (bv rfl M.b_tuple Boot.«tuple») ac))))) (bA (aq cu (ai al rfl M.b_len PySem.boot_len (aa (pv 3) ac)) ah (nomark _)) (bo (aM (aH (ai (cK rfl) rfl M.b_all Boot.«all» (aa (aQ rfl (N:=["_law_number"]) (caps:=[none]) (CompOk.of (by kernel_rfl)) (aC rfl) (df (pv 3)) (λ_ _ _ _=>(am (i:=0) (show(["_law_number"]:List Str).Nodup by decide +kernel) rfl (Or.inl rfl) (Or.inr rfl))) (λ_ _ _ _=>aL) (λ_ _ _ _=>(aA G_law_whole hr (by decide) rfl pass0 (aa (pv 0) ac)))) ac)))))))) (ag (ao aT)) ar)
   (ag (aJ (PW.pt (bA (aq gb (ai (j8 rfl) rfl M.b_min Boot.«min» (aa (pv 3) ac)) ah (nomark _)) (bo (aq lU (ai (jU rfl) rfl M.b_max Boot.«max» (aa (pv 3) ac)) (ai al rfl M.b_len PySem.boot_len (aa (pv 0) ac)) (nomark _))))) (ag (ao aT)) ar))))
   (ad (aV PassesOwn.never rfl (aK rfl M.b_range (aa (ai al rfl M.b_len PySem.boot_len (aa (pv 2) ac)) ac)) (am (i:=4) nd rfl (Or.inl rfl)) (ad (cp (au aB (pv 2) (pv 4) (λ_ _=>rfl)) (de rfl (aG (am (i:=5) nd rfl (Or.inl rfl)) (aG (am (i:=6) nd rfl (Or.inl rfl)) (aG (am (i:=7) nd rfl (Or.inl rfl)) bH)))))
   (ad (aJ (PW.pt (bA (aq cu (au ax (au aB (pv 2) (aF bI (aF bz (pv 4) ah) (ai al rfl M.b_len PySem.boot_len (aa (pv 2) ac))) (λ_ _=>rfl)) ah (λ_ _=>rfl)) (pv 6) (nomark _)) (bo (aq cY (au ax (au ax (au aB (pv 1) (pv 5) (λ_ _=>rfl)) (pv 6) (λ_ _=>rfl)) ah (λ_ _=>rfl)) ah (nomark _))))) (ag (ao aT)) ar)
   (ag (aJ (aq lU (gL (K:=K) rfl (au aB (pv 0) (pv 5) (λ_ _=>rfl)) (pv 7)) (gL (K:=K) rfl (au aB (pv 0) (pv 5) (λ_ _=>rfl)) (pv 6)) (nomark _)) (ag (ao aT)) ar)))))
   (ag (ao (bu cY (iq rfl rfl M.b_len rfl M.b_set (aQ rfl (N:=["_law_row"]) (caps:=[none]) (CompOk.of (by kernel_rfl)) (aC rfl) (aN (pv 2)) (λ_ _ _ _=>(am (i:=0) (show(["_law_row"]:List Str).Nodup by decide +kernel) rfl (Or.inl rfl) (Or.inr rfl))) (λ_ _ _ _=>aL) (λ_ _ _ _=>(au (da (K:=K) rfl) (pv 0) ah (λ_ _=>rfl))))) (ai al rfl M.b_len PySem.boot_len (aa (pv 2) ac)) (nomark _))))))),?_⟩
 have hwl:=Paired.len hWF
 have hn6:=tw.w.hi
 have hWn:=tw.w.len
 have hT:=tw.z.t0
 have hwn:ws.length=n:=by omega
 have hll:=Paired.len hls
 have hRl:=ok.len
 have h2:=ok.two
 refine⟨_,rfl,_,"list","list",rfl,by decide,.inl ⟨rfl,_,hR⟩,_,rfl,iteF ?_⟩
 refine⟨_,rfl,r,_,rfl,.inl hR,_,_,rfl,rfl,_,rfl,iteDF (by omega) ?_⟩
 refine⟨_,rfl,r,rfl,⟨_,hR⟩,?_⟩
 refine bZ (xs:=ls) (λk σ H1=>Same H H1/\∃r3 r4 r5 r6 r7,σ=[some (.ref a),some (.ref b),some (.ref r),r3,r4,r5,r6,r7]) ⟨Same.refl _,_,_,_,_,_,rfl⟩ (λk σ H1 _ hP=>hP.1.seq hR) (λk v σ H1 hv hP=>?_) (λσ H1 hP=>?_)
 ·obtain⟨S1,r3,r4,r5,r6,r7,rfl⟩:=hP
  obtain⟨x,hx,xa,rfl,hxa⟩:=Paired.get' hls hv
  have hcan:=ok.can x (List.mem_of_getElem? hx)
  have hx1:SqT K H1 xa (([(x.1:Int),(x.2.1:Int),(x.2.2:Int)]:List Int).map V.int):=S1.tup hxa
  refine⟨_,rfl,_,"tuple","tuple",rfl,by decide,.inr ⟨rfl,_,hx1⟩,_,rfl,iteF ?_⟩
  refine⟨_,rfl,xa,_,rfl,.inr hx1,rfl,_,rfl,iteNS rfl ?_⟩
  refine⟨_,rfl,xa,rfl,⟨_,hx1⟩,?_⟩
  refine cR (xs:=(([(x.1:Int),(x.2.1:Int),(x.2.2:Int)]:List Int).map V.int)) (λj ys Hx=>Hx=H1/\ys=(List.replicate j true).map V.bl) ⟨rfl,rfl⟩ (λj ys Hx _ hP=>by rw[hP.1];exact hx1) (λj y ys Hx hy hP=>?_) (λys Hx hP D hD=>?_)
  ·obtain⟨rfl,rfl⟩:=hP
   have hj:j<3:=(List.getElem?_eq_some_iff.mp hy).1
   rw[aS (ns:=[(x.1:Int),(x.2.1:Int),(x.2.2:Int)]) hj]at hy
   cases hy
   refine⟨_,rfl,_,rfl,small1000 (by simp;omega),rfl,?_⟩
   rw[List.replicate_succ',List.map_append]
   rfl
  obtain⟨rfl,rfl⟩:=hP
  rw[show(([(x.1:Int),(x.2.1:Int),(x.2.2:Int)]:List Int).map V.int).length=3 from rfl]
  have S2:Same Hx (upd Hx D (.lst ((List.replicate 3 true).map V.bl))):=ae hD _
  have hD3:SqL K (upd Hx D (.lst ((List.replicate 3 true).map V.bl))) D ((List.replicate 3 true).map V.bl):=SqL.of af
  refine⟨D,List.replicate 3 true,rfl,hD3,_,rfl,?_⟩
  refine iteF ?_
  generalize upd Hx D (.lst ((List.replicate 3 true).map V.bl))=H2 at S2 ⊢
  have hx2:=S2.tup hx1
  have hb3:∀y∈([(x.1:Int),(x.2.1:Int),(x.2.2:Int)]:List Int),0<=y/\y<(n:Int):=λy hy=>by
   have p1:=hcan.hp
   have p2:=hcan.hg
   have p3:=hcan.ht
   simp only[List.mem_cons,List.not_mem_nil,or_false]at hy
   rcases hy with rfl|rfl|rfl <;> omega
  refine⟨_,rfl,xa,_,rfl,hx2,by simp,λm1 hm1 _=>?_⟩
  have b1:=hb3 m1 hm1
  refine⟨_,_,rfl,rfl,_,rfl,iteDF (by omega) ?_⟩
  refine⟨_,rfl,xa,_,rfl,hx2,by simp,λm2 hm2 _=>?_⟩
  have b2:=hb3 m2 hm2
  refine⟨_,rfl,a,_,rfl,.inl ((S1.trans S2).seq hA),_,_,rfl,rfl,_,rfl,iteDF (by omega) ?_⟩
  exact⟨S1.trans S2,_,_,_,_,_,rfl⟩
 obtain⟨S1,r3,r4,r5,r6,r7,rfl⟩:=hP
 refine⟨_,rfl,r,_,rfl,.inl (S1.seq hR),_,rfl,by omega,by omega,?_⟩
 refine aO (n:=ls.length) (λk σ H2=>Same H H2/\∃r3 r4 r5 r6 r7,σ=[some (.ref a),some (.ref b),some (.ref r),r3,r4,r5,r6,r7]) ⟨S1,_,_,_,_,_,rfl⟩ (λk σ H2 hk hP=>?_) (λσ H2 hP=>?_)
 ·obtain⟨S2,r3x,r4x,r5x,r6x,r7x,rfl⟩:=hP
  have hkR:k<R.length:=by omega
  obtain⟨v,hv,xa,rfl,hxa⟩:=Paired.get hls (List.getElem?_eq_getElem hkR)
  have hjR:(k+1)%R.length<R.length:=Nat.mod_lt _ (by omega)
  obtain⟨v2,hv2,ya,rfl,hya⟩:=Paired.get hls (List.getElem?_eq_getElem hjR)
  have hnx:=ok.nxt k R[k] R[(k+1)%R.length] (List.getElem?_eq_getElem hkR) (List.getElem?_eq_getElem hjR)
  have hcan:=ok.can R[k] (List.getElem_mem hkR)
  generalize R[k]=x at hxa hnx hcan
  generalize R[(k+1)%R.length]=y at hya hnx
  obtain⟨ra,gs,fa,hus,hra,hgs,hfa⟩:=dB hZ tw.z.reg hcan.hp hcan.hg
  have hpW:x.1<W.length:=by have:=hcan.hp;omega
  obtain⟨wv,hwv,wa,wo,rfl,hwf,hwd⟩:=Paired.get hWF (List.getElem?_eq_getElem hpW)
  have hrpm:=tw.w.pm _ (List.getElem_mem hpW)
  have erow:W.getD x.1 []=W[x.1]:=HM.getD_lt hpW
  have hlk:=hcan.lk
  rw[erow]at hlk
  generalize W[x.1]=row at hwf hrpm hlk
  have hmt:((x.2.2:Nat):Int)∈row:=hrpm.mem.mpr ⟨by omega,by have:=hcan.ht;omega⟩
  have hmg:((x.2.1:Nat):Int)∈row:=hrpm.mem.mpr ⟨by omega,by have:=hcan.hg;omega⟩
  have hwa2:SqT K H2 wa (row.map V.int):=SqT.frz (S2 _ _ hwf)
  have hzp:0<(FQ.red (HM.ent Z x.1 x.2.1) T).1:=(eG hT).mpr hcan.sh
  refine⟨_,rfl,_,rfl,r,_,_,_,rfl,rfl,S2.seq hR,by rw[Int.zero_add];exact ay hv,xa,_,rfl,S2.tup hxa,rfl,_,_,rfl,_,_,rfl,_,_,rfl,rfl,?_⟩
  have em:(((k:Int)+1)%(ls.length:Int))=(((k+1)%R.length:Nat):Int):=by rw[hll];push_cast;rfl
  refine⟨_,rfl,_,rfl,_,_,rfl,rfl,_,rfl,r,_,rfl,.inl (S2.seq hR),_,_,rfl,rfl,by show(0:Int)<_;omega,r,_,_,_,rfl,rfl,S2.seq hR,by rw[Int.zero_add,em];exact ay hv2,ya,_,2,_,rfl,rfl,S2.tup hya,rfl,_,rfl,rfl,_,rfl,iteNS (by show V.int _=V.int _;rw[hnx]) ?_⟩
  refine⟨_,rfl,_,rfl,b,_,_,_,rfl,rfl,S2.seq hB,ay hus,_,rfl,ra,_,_,_,rfl,rfl,S2.tup hra,ay hgs,fa,_,0,_,rfl,rfl,S2.tup hfa,rfl,rfl,_,rfl,iteDF (Vne (by omega)) ?_⟩
  refine⟨_,rfl,_,rfl,a,_,_,_,rfl,rfl,S2.seq hA,ay hwv,wa,wo,_,rfl,S2 _ _ hwf,hwd,_,rfl,row,_,rfl,hwa2,hmt,_,rfl,_,rfl,a,_,_,_,rfl,rfl,S2.seq hA,ay hwv,wa,wo,_,rfl,S2 _ _ hwf,hwd,_,rfl,row,_,rfl,hwa2,hmg,_,_,rfl,rfl,_,rfl,iteDF (by omega) ?_⟩
  exact⟨S2,_,_,_,_,_,rfl⟩
 ·obtain⟨S2,r3x,r4x,r5x,r6x,r7x,rfl⟩:=hP
  refine⟨_,rfl,r,rfl,⟨_,S2.seq hR⟩,?_⟩
  refine aI (xs:=ls) (λk ys H3=>H3=H2/\ys=(ni ((R.take k).map Prod.fst)).map V.int) ⟨rfl,by rw[List.take_zero];rfl⟩ (λk ys H3 _ hP=>by rw[hP.1];exact S2.seq hR) (λk v ys H3 hv hP=>?_) (λys H3 hP D hD=>?_)
  ·obtain⟨rfl,rfl⟩:=hP
   obtain⟨x,hx,xa,rfl,hxa⟩:=Paired.get' hls hv
   have hkl:=(List.getElem?_eq_some_iff.mp hv).1
   refine⟨_,rfl,xa,_,0,_,rfl,rfl,S2.tup hxa,rfl,small1000 (by rw[List.length_map,aZ,List.length_map,List.length_take];omega),rfl,?_⟩
   rw[List.take_add_one,hx,List.map_append,d4,List.map_append]
   rfl
  ·obtain⟨rfl,rfl⟩:=hP
   rw[hll,List.take_length]
   have SD:=ae hD (.lst ((ni (R.map Prod.fst)).map V.int))
   refine⟨D,ni (R.map Prod.fst),rfl,SqL.of af,(λi hi=>?_),List.pairwise_map.mpr (ok.once.imp λhab z=>hab (by omega)),?_⟩
   ·unfold ni at hi
    obtain⟨y,hy,rfl⟩:=List.mem_map.mp hi
    obtain⟨t,ht,rfl⟩:=List.mem_map.mp hy
    have:=(ok.can t ht).hp
    omega
   ·refine⟨_,rfl,r,_,rfl,.inl ((S2.trans SD).seq hR),rfl,?_⟩
    rw[decide_eq_true (show V.int _=V.int _ by rw[aZ,List.length_map,hll])]
    exact q _ (S2.trans SD)
theorem sc__law_lots_hold:FnScope ["_law_table_here","_law_lots","_law_count","_law_rows","_law_one","_law_person","_law_thing","_law_above"] ["_law_table_here","_law_lots"] (defScope (top 58)):=⟨rfl,rfl,rfl,by decide +kernel,rfl,by decide +kernel,by decide +kernel⟩
set_option maxHeartbeats 4000000 in
theorem d__law_lots_hold(M:Md K mg x)
  (G_law_is_fraction:Dn P w K mg base CX0 2 "_law_is_fraction" ["_law_found"] (spIsFr K))
  (G_law_whole:Dn P w K mg base CX0 1 "_law_whole" ["_law_found"] (spWhole))
  (G_law_plus:Dn P w K mg base CX0 3 "_law_plus" ["_law_one","_law_two"] (sp2P fAdd K)):Dn P w K mg base CX0 5 "_law_lots_hold" ["_law_table_here","_law_lots"] (spLotsHold K):=by
 have nd:=(sc__law_lots_hold).nd
 refine M.f__law_lots_hold.ok sc__law_lots_hold (λvs H Q E h=>?_) (λ_ _ _ _ _ _ us hl=>match us,hl with|[_,_],_=>rfl) (λf cdv A outer s H vs Q E hr h=>?_)
 ·obtain⟨a,l,us,ls,Z,T,n,k,rfl,hA,hZ,ok,hfin,hl,hls,q⟩:=h
  rfl
 obtain⟨a,l,us,ls,Z,T,n,k,rfl,hA,hZ,ok,hfin,hl,hls,q⟩:=h
 refine⟨_,(ad (aw (i:=2) nd rfl (Or.inl rfl) (ai al rfl M.b_len PySem.boot_len (aa (pv 0) ac)))
   (ad (aJ (aM (aH (ai aE rfl M.b_isinstance Boot.«isinstance» (aa (pv 1) (aa (bv rfl M.b_list Boot.«list») ac))))) (ag (ao aT)) ar)
   (ad (bi (i:=3) nd rfl rfl rfl rfl (N:=["_law_row"]) (caps:=[none]) (CompOk.of (by kernel_rfl)) (aC rfl) (aN (pv 0)) (λ_ _ _ _=>(am (i:=0) (show(["_law_row"]:List Str).Nodup by decide +kernel) rfl (Or.inl rfl) (Or.inr rfl))) (λ_ _ _ _=>aL) (λ_ _ _ _=>(aQ rfl (N:=["_law_thing"]) (caps:=[none]) (CompOk.of (by kernel_rfl)) (aC rfl) (gJ (K:=K) rfl (pv 0)) (λ_ _ _ _=>(am (i:=0) (show(["_law_thing"]:List Str).Nodup by decide +kernel) rfl (Or.inl rfl) (Or.inr rfl))) (λ_ _ _ _=>aL) (λ_ _ _ _=>(bp (aa ah (aa ah ac)))))))
   (ad (aV PassesOwn.never rfl (aN (pv 1)) (am (i:=4) nd rfl (Or.inl rfl)) (ad (aJ (PW.pt (bA (aM (aH (ai aE rfl M.b_isinstance Boot.«isinstance» (aa (pv 4) (aa (bv rfl M.b_tuple Boot.«tuple») ac))))) (bA (aq cu (ai al rfl M.b_len PySem.boot_len (aa (pv 4) ac)) ah (nomark _)) (bA (aM (aH (aA G_law_is_fraction hr (by decide) rfl pass0 (aa (au ax (pv 4) ah (λ_ _=>rfl)) ac)))) (bo (aq ky (au ax (au ax (pv 4) ah (λ_ _=>rfl)) ah (λ_ _=>rfl)) ah (nomark _))))))) (ag (ao aT)) ar)
   (ad (aJ (PW.pt (bA (aM (aH (ai aE rfl M.b_isinstance Boot.«isinstance» (aa (au ax (pv 4) ah (λ_ _=>rfl)) (aa (bv rfl M.b_tuple Boot.«tuple») ac))))) (bo (aq cu (ai al rfl M.b_len PySem.boot_len (aa (au ax (pv 4) ah (λ_ _=>rfl)) ac)) (pv 2) (nomark _))))) (ag (ao aT)) ar)
   (ad (aJ (PW.pt (bA (aM (aH (ai (cK rfl) rfl M.b_all Boot.«all» (aa (aQ rfl (N:=["_law_thing"]) (caps:=[none]) (CompOk.of (by kernel_rfl)) (aC rfl) (df (au ax (pv 4) ah (λ_ _=>rfl))) (λ_ _ _ _=>(am (i:=0) (show(["_law_thing"]:List Str).Nodup by decide +kernel) rfl (Or.inl rfl) (Or.inr rfl))) (λ_ _ _ _=>aL) (λ_ _ _ _=>(aA G_law_whole hr (by decide) rfl pass0 (aa (pv 0) ac)))) ac)))) (bo (aq (ck hr) (ai (eA) rfl M.b_sorted Boot.«sorted» (aa (au ax (pv 4) ah (λ_ _=>rfl)) ac)) (aD (bh rfl) rfl M.b_list Boot.«list» (aa (aD bK rfl M.b_range PyProof.Rows.boot_range (aa (pv 2) ac)) ac)) (nomark _))))) (ag (ao aT)) ar)
   (ag (aV PassesOwn.never rfl (aK rfl M.b_range (aa (pv 2) ac)) (am (i:=5) nd rfl (Or.inl rfl)) (ad (aw (i:=6) nd rfl (Or.inl rfl) (au ax (au ax (pv 4) ah (λ_ _=>rfl)) (pv 5) (λ_ _=>rfl)))
   (ag (cp (aA G_law_plus hr (by decide) rfl pass0 (aa (au aB (au aB (pv 3) (pv 5) (λ_ _=>rfl)) (pv 6) (λ_ _=>rfl)) (aa (au ax (pv 4) ah (λ_ _=>rfl)) ac))) (dh (au aB (pv 3) (pv 5) (λ_ _=>rfl)) (pv 6) b9))))))))))
   (ad (aJ (aq (ck hr) (aQ rfl (N:=["_law_row"]) (caps:=[none]) (CompOk.of (by kernel_rfl)) (aC rfl) (aN (pv 3)) (λ_ _ _ _=>(am (i:=0) (show(["_law_row"]:List Str).Nodup by decide +kernel) rfl (Or.inl rfl) (Or.inr rfl))) (λ_ _ _ _=>aL) (λ_ _ _ _=>(aD (bE (K:=K) rfl) rfl M.b_tuple Boot.«tuple» (aa (pv 0) ac)))) (pv 0) (nomark _)) (ag (ao aT)) ar)
   (ad (aw (i:=7) nd rfl (Or.inl rfl) (ai (kF rfl) rfl M.b_sum Boot.«sum» (aa (aQ rfl (N:=["_law_row"]) (caps:=[none]) (CompOk.of (by kernel_rfl)) (aC rfl) (aN (pv 0)) (λ_ _ _ _=>(am (i:=0) (show(["_law_row"]:List Str).Nodup by decide +kernel) rfl (Or.inl rfl) (Or.inr rfl))) (λ_ _ _ _=>aL) (λ_ _ _ _=>(ai (fL (K:=K) rfl) rfl M.b_len PySem.boot_len (aa (aQ rfl (N:=["_law_share"]) (caps:=[none]) (CompOk.of (by kernel_rfl)) (aC rfl) (gJ (K:=K) rfl (pv 0)) (λ_ _ _ _=>(am (i:=0) (show(["_law_share"]:List Str).Nodup by decide +kernel) rfl (Or.inl rfl) (Or.inr rfl))) (λ_ _ _ _=>(cZ (aq gd (au (da (K:=K) rfl) (pv 0) ah (λ_ _=>rfl)) ah (nomark _)))) (λ_ _ _ _=>(pv 0))) ac)))) ac)))
   (ag (ao (bP (bu cY (jS hr rfl rfl M.b_len rfl M.b_set (aQ rfl (N:=["_law_one"]) (caps:=[none]) (CompOk.of (by kernel_rfl)) (aC rfl) (aN (pv 1)) (λ_ _ _ _=>(am (i:=0) (show(["_law_one"]:List Str).Nodup by decide +kernel) rfl (Or.inl rfl) (Or.inr rfl))) (λ_ _ _ _=>aL) (λ_ _ _ _=>(au (da (K:=K) rfl) (pv 0) ah (λ_ _=>rfl))))) (ai al rfl M.b_len PySem.boot_len (aa (pv 1) ac)) (nomark _)) (b6 (bu ky (ai al rfl M.b_len PySem.boot_len (aa (pv 1) ac)) (aF bz (aF kR (pv 7) (pv 2)) ah) (nomark _)))))))))))),?_⟩
 have hul:=Paired.len hZ
 have hn1:=ok.lo
 have hn6:=ok.hi
 have hT:=ok.t0
 have hT2:=ok.t1
 have hT0:T≠0:=by omega
 have hZn:=ok.reg.len
 have hun:us.length=n:=by omega
 have small0:(0:Nat)<=sizeLine:=by decide
 have r01:FQ.red 0 T=(0,1):=bJ hT0
 have I:=HM.it_ok ok.reg hT hn1 k hfin.2
 have hk36:(k:Int)+n<=HM.pn n Z+1:=I.last hfin.1
 have hpn:=HM.pn_le hn6 Z
 have hk40:k<=40:=by omega
 have hlsl:=Paired.len hls
 unfold HM.lotsL at hlsl
 rw[List.length_map,List.length_range]at hlsl
 refine⟨_,rfl,a,us,rfl,.inl hA,?_⟩
 refine⟨_,rfl,_,"list","list",rfl,by decide,.inl ⟨rfl,_,hl⟩,_,rfl,iteF ?_⟩
 -- the rows
 refine⟨_,rfl,a,rfl,⟨_,hA⟩,?_⟩
 refine aI (xs:=us) (λi ys H'=>Same H H'/\∃rs:List Addr,ys=rs.map V.ref/\rs.length=i/\rs.Nodup/\(∀r∈rs,H r=none)/\Paired (λr (m:List Int)=>∃gs,H' r=some (.lst gs)/\Paired (IsF K H') gs (fr T m)) rs (List.replicate i (List.replicate n 0)))
  ⟨Same.refl H,[],rfl,rfl,List.nodup_nil,(λ_ z=>nomatch z),Paired.nil⟩ (λi ys H' _ hP=>hP.1.seq hA) (λi x ys H' hx hP=>?_) (λys H' hP=>?_)
 ·obtain⟨hSm,rs,rfl,hrl,hnd,hfr,hrows⟩:=hP
  obtain⟨r,hr',ta,gs,rfl,hta,hgs⟩:=Paired.get' hZ hx
  have hil:i<us.length:=(List.getElem?_eq_some_iff.mp hx).1
  have hgl:=Paired.len hgs
  rw[cJ,ok.reg.cols r (List.mem_of_getElem? hr')]at hgl
  refine⟨_,rfl,ta,rfl,⟨_,hSm.tup hta⟩,?_⟩
  refine cR (xs:=gs) (λj zs H2=>Same H' H2/\Paired (IsF K H2) zs (fr T (List.replicate j 0))) ⟨Same.refl _,.nil⟩ (λj zs H2 _ hP=>(hSm.trans hP.1).tup hta) (λj y zs H2 hy hP=>?_) (λzs H2 hP=>?_)
  ·obtain⟨S2,hzs⟩:=hP
   have hjl:j<gs.length:=(List.getElem?_eq_some_iff.mp hy).1
   have hzl:=Paired.len hzs
   rw[cJ,List.length_replicate]at hzl
   refine⟨by show 2<=sizeLine;decide,λp hp=>⟨small1000 (by omega),S2.trans (ae hp _),?_⟩⟩
   rw[List.replicate_succ']
   unfold fr
   rw[List.map_append]
   refine Paired.app (av (ae hp _) hzs) (.cons ⟨p,rfl,?_⟩ .nil)
   show SqT K _ p [.int (FQ.red 0 T).1,.int (FQ.red 0 T).2]
   rw[r01]
   exact SqT.of af
  ·obtain⟨S2,hzs⟩:=hP
   rw[hgl]at hzs
   intro D hD
   have hDr:D∉rs:=λz=>by
    obtain⟨i',hi',e⟩:=List.mem_iff_getElem.mp z
    obtain⟨m,_,gs,h2,_⟩:=Paired.get' hrows (show rs[i']?=some D by rw[List.getElem?_eq_getElem hi',e])
    rw[S2 _ _ h2]at hD;cases hD
   refine⟨small1000 (by rw[List.length_map,hrl];omega),hSm.trans (S2.trans (ae hD _)),rs++[D],by rw[List.map_append];rfl,by rw[List.length_append,hrl];rfl,?_,?_,?_⟩
   ·exact List.nodup_append.mpr ⟨hnd,List.nodup_cons.mpr ⟨(λz=>nomatch z),List.nodup_nil⟩,λx hx y hy z=>hDr (by rw[List.mem_singleton.mp hy]at z;rw[<-z];exact hx)⟩
   ·intro r hr
    rcases List.mem_append.mp hr with z|z
    ·exact hfr r z
    ·rw[List.mem_singleton.mp z];exact(hSm.trans S2).free hD
   ·rw[List.replicate_succ']
    refine Paired.app (Paired.mapP hrows λ_ _ ⟨gs,h1,h2⟩=>⟨gs,ae hD _ _ _ (S2 _ _ h1),av (S2.trans (ae hD _)) h2⟩) (.cons ⟨zs,af,av (ae hD _) hzs⟩ .nil)
 obtain⟨hSm,rs,rfl,hrl,hnd,hfr,hrows⟩:=hP
 rw[hun]at hrows
 intro L hL
 have hLr:L∉rs:=λz=>by
  obtain⟨i',hi',e⟩:=List.mem_iff_getElem.mp z
  obtain⟨m,_,gs,h2,_⟩:=Paired.get' hrows (show rs[i']?=some L by rw[List.getElem?_eq_getElem hi',e])
  rw[hL]at h2;cases h2
 have S0:Same H (upd H' L (.lst (rs.map V.ref))):=hSm.trans (ae hL _)
 have R0:RowsF K H (upd H' L (.lst (rs.map V.ref))) L rs T (HM.accM n Z T 0):=⟨af,Paired.mapP hrows (λ_ _ ⟨gs,h1,h2⟩=>⟨gs,ae hL _ _ _ h1,av (ae hL _) h2⟩),hnd,hfr,hSm.free hL,hLr⟩
 generalize upd H' L (.lst (rs.map V.ref))=H1 at R0 S0 ⊢
 clear hrows hSm hL
 have hrn:rs.length=n:=by omega
 refine⟨_,rfl,l,rfl,⟨_,S0.seq hl⟩,?_⟩
 refine bZ (xs:=ls) (λi σ H2=>Same H H2/\RowsF K H H2 L rs T (HM.accM n Z T i)/\∃r4 r5 r6 r7,σ=[some (.ref a),some (.ref l),some (.int us.length),some (.ref L),r4,r5,r6,r7])
  ⟨S0,R0,_,_,_,_,rfl⟩ (λi σ H2 _ hP=>hP.1.seq hl) (λi v σ H2 hv hP=>?_) (λσ H2 hP=>?_)
 ·obtain⟨S2,R2,r4,r5,r6,r7,rfl⟩:=hP
  have hik:i<k:=by have:=(List.getElem?_eq_some_iff.mp hv).1;omega
  obtain⟨lt,hlt,la,f,g,rfl,h1,h2,h3⟩:=Paired.get' hls hv
  have elt:lt=(HM.wOf (HM.it Z T i).1,HM.dealOf (HM.it Z T i).1):=by
   unfold HM.lotsL at hlt
   rw[List.getElem?_map,List.getElem?_range hik]at hlt
   exact(Option.some.inj hlt).symm
  subst elt
  have St:=I.lots i hik
  have hw1:=St.w1
  have hwT:HM.wOf (HM.it Z T i).1<=T:=by
   have:=St.wR
   have:=(HM.it_ok ok.reg hT hn1 i λj hj=>hfin.2 j (by omega)).rT
   omega
  have hpm:=St.pm
  have hdl:=hpm.len
  have eacc:HM.accM n Z T (i+1)=LM.addDeal (HM.accM n Z T i) (HM.dealOf (HM.it Z T i).1) (HM.wOf (HM.it Z T i).1):=rfl
  have bdA:∀p,p<n->∀t,t<n->0<=HM.ent (HM.accM n Z T i) p t/\HM.ent (HM.accM n Z T i) p t<=T:=λp hp t ht=>HM.acc_bd ok.reg hT hn1 hfin.2 (by omega) hp ht
  obtain⟨⟨RA,regA⟩,_⟩:=HM.acc_ok I i (by omega)
  rw[eacc]
  clear eacc hlt
  dsimp only at h2 h3
  generalize HM.wOf (HM.it Z T i).1=w at *
  generalize HM.dealOf (HM.it Z T i).1=d at *
  generalize HM.accM n Z T i=MA at *
  obtain⟨_,e0,h2'⟩:=id h2
  cases e0
  have low:=FQ.red_low (t:=w) hT0
  have hpos:0<(FQ.red w T).1:=by
   have h5:=FQ.red_worth (t:=w) hT0
   have h6:0<w*(FQ.red w T).2:=Int.mul_pos (by omega) low.pos
   rw[<-h5]at h6
   refine Classical.byContradiction λz=>?_
   have h7:=Int.mul_le_mul_of_nonneg_right (show(FQ.red w T).1<=0 by omega) (Int.le_of_lt hT)
   rw[Int.zero_mul]at h7
   omega
  refine⟨_,rfl,_,"tuple","tuple",rfl,by decide,.inr ⟨rfl,_,S2.tup h1⟩,_,rfl,iteF ?_⟩
  refine⟨_,rfl,la,_,rfl,.inr (S2.tup h1),rfl,_,rfl,iteNS rfl ?_⟩
  refine⟨_,rfl,la,_,0,_,rfl,rfl,S2.tup h1,rfl,f,FQ.red w T,rfl,S2.tup h2',low,_,rfl,iteF ?_⟩
  refine⟨_,rfl,la,_,0,_,rfl,rfl,S2.tup h1,rfl,f,_,0,_,rfl,rfl,S2.tup h2',rfl,_,_,rfl,rfl,_,rfl,iteDF (by omega) ?_⟩
  refine⟨_,rfl,la,_,1,_,rfl,rfl,S2.tup h1,rfl,_,"tuple","tuple",rfl,by decide,.inr ⟨rfl,_,S2.tup h3⟩,_,rfl,iteF ?_⟩
  have edl:V.int (d.map V.int).length=V.int us.length:=by rw[List.length_map,hdl,hun]
  refine⟨_,rfl,la,_,1,_,rfl,rfl,S2.tup h1,rfl,g,_,rfl,.inr (S2.tup h3),_,rfl,rfl,_,rfl,iteNS edl ?_⟩
  refine⟨_,rfl,la,_,1,_,rfl,rfl,S2.tup h1,rfl,g,rfl,⟨_,S2.tup h3⟩,?_⟩
  refine cR (xs:=d.map V.int) (λj ys Hx=>Hx=H2/\ys=(List.replicate j true).map V.bl) ⟨rfl,rfl⟩ (λj ys Hx _ hP=>by rw[hP.1];exact S2.tup h3) (λj y ys Hx hx hP=>?_) (λys Hx hP D hD=>?_)
  ·obtain⟨rfl,rfl⟩:=hP
   have hj:j<d.length:=by have:=(List.getElem?_eq_some_iff.mp hx).1;rw[List.length_map]at this;exact this
   rw[aS hj]at hx
   cases hx
   refine⟨_,rfl,_,rfl,small1000 (by simp;omega),rfl,?_⟩
   rw[List.replicate_succ',List.map_append]
   rfl
  obtain⟨rfl,rfl⟩:=hP
  rw[List.length_map]
  have S3:Same Hx (upd Hx D (.lst ((List.replicate d.length true).map V.bl))):=ae hD _
  have hD3:SqL K (upd Hx D (.lst ((List.replicate d.length true).map V.bl))) D ((List.replicate d.length true).map V.bl):=SqL.of af
  generalize upd Hx D (.lst ((List.replicate d.length true).map V.bl))=H3 at S3 hD3 ⊢
  refine⟨D,List.replicate d.length true,rfl,hD3,_,rfl,?_⟩
  rw[show(List.replicate d.length true).all id=true by simp]
  refine iteF ?_
  have S03:=S2.trans S3
  refine⟨_,rfl,la,_,1,_,rfl,rfl,S03.tup h1,rfl,g,d,rfl,.inr (S03.tup h3),by omega,λsl ns' hsl hp hs=>?_⟩
  refine⟨_,rfl,(us.length:Int),rfl,λl2 hl2=>⟨l2,us.length,rfl,af,by omega,λl3 hl3=>?_⟩⟩
  have e3:((List.range us.length).map λ(i:Nat)=>V.int (i:Int))=(LM.rng us.length).map V.int:=by unfold LM.rng;rw[List.map_map];rfl
  have S4:Same H3 _:=((ae hsl (.lst (ns'.map V.int))).trans (ae hl2 (.rng 0 us.length))).trans (ae hl3 (.lst ((List.range us.length).map λ(i:Nat)=>V.int (i:Int))))
  refine⟨.list (ns'.map PyData.int),.list ((LM.rng us.length).map PyData.int),?_,?_,aR (n:=1) (by simp[okD]) (by decide),aR (n:=1) (by simp[okD]) (by decide),_,rfl,?_⟩
  ·exact .lst (SqL.of (ae hl3 _ _ _ (ae hl2 _ _ _ af))) (Reps.ints ns') (by rw[List.length_map,hp.length_eq];omega)
  ·exact .lst (SqL.of (by rw[af,e3])) (Reps.ints _) (by rw[List.length_map,LM.rng_len];omega)
  rw[ij,decide_eq_true ((LM.sorted_iff hp hs).mpr (by rw[hun];exact hpm))]
  refine iteF ?_
  have S04:=S03.trans S4
  have R4:=(R2.mono S3).mono S4
  revert S4 S04 R4
  generalize upd (upd (upd H3 sl (.lst (ns'.map V.int))) l2 (.rng 0 us.length)) l3 (.lst ((List.range us.length).map λ(i:Nat)=>V.int (i:Int)))=H4
  intro S4 S04 R4
  clear R2 hsl hl2 hl3 hD
  refine⟨_,rfl,_,rfl,by omega,by omega,?_⟩
  refine aO (n:=us.length) (λp σ H5=>Same H H5/\RowsF K H H5 L rs T (mid MA d w p)/\∃r5 r6,σ=[some (.ref a),some (.ref l),some (.int us.length),some (.ref L),some (.ref la),r5,r6,r7])
   ⟨S04,by rw[ig];exact R4,_,_,rfl⟩ (λp σ H5 hp' hP=>?_) (λσ H5 hP=>?_)
  ·obtain⟨S5,R5,r5',r6',rfl⟩:=hP
   have hpn:p<n:=by omega
   have hMAl:=regA.len
   obtain⟨row,hm⟩:∃row,MA[p]?=some row:=⟨_,List.getElem?_eq_getElem (by omega)⟩
   have hml:=regA.cols row (List.mem_of_getElem? hm)
   have hdp:d[p]?=some (d.getD p 0):=by rw[List.getElem?_eq_getElem (by omega),HM.getD_lt (by omega)]
   have hdb:=hpm.mem.mp (show d.getD p 0∈d by rw[HM.getD_lt (by omega)];exact List.getElem_mem _)
   obtain⟨r,gs,hr',hrl',hgs⟩:=R5.get (kZ hm (show p<=d.length by omega))
   have eE:HM.ent MA p (d.getD p 0).toNat=row.getD (d.getD p 0).toNat 0:=by unfold HM.ent;rw[show MA.getD p []=row by rw[List.getD_eq_getElem?_getD,hm];rfl]
   have hbd:=bdA p hpn (d.getD p 0).toNat (by omega)
   rw[eE]at hbd
   have htn:(d.getD p 0).toNat<row.length:=by omega
   obtain⟨xv,hxv,xa,rfl,hxF⟩:=Paired.get hgs (ei (D:=T) htn)
   have er:atI (rs.map V.ref) (p:Int)=some (.ref r):=ay (by rw[List.getElem?_map,hr'];rfl)
   refine⟨_,rfl,la,_,1,_,rfl,rfl,S5.tup h1,rfl,_,rfl,g,_,_,_,rfl,rfl,S5.tup h3,by rw[Int.zero_add];exact ay (aS (by omega)),?_⟩
   refine⟨_,rfl,_,rfl,L,_,_,_,rfl,rfl,SqL.of R5.lst,by rw[Int.zero_add];exact er,_,rfl,r,_,_,_,rfl,rfl,SqL.of hrl',cm hdb.1 hxv,_,rfl,la,_,0,_,rfl,rfl,S5.tup h1,rfl,xa,f,_,_,rfl,hxF,S5.tup h2',ba hT0 (by omega) (by omega),ba hT0 (by omega) (by omega),(FQ.red_low hT0).pos,low.pos,λpf H6 S6 hpf=>?_⟩
   rw[b4 hT0]at hpf
   have R6:=R5.mono S6
   have hrl6:=S6 _ _ hrl'
   have hgsl:=Paired.len hgs
   rw[cJ]at hgsl
   have hix:ixN gs.length (d.getD p 0)=some (d.getD p 0).toNat:=by
    unfold ixN
    rw[if_pos hdb.1,if_pos (by omega)]
   refine⟨_,rfl,_,rfl,L,_,_,_,rfl,rfl,SqL.of R6.lst,by rw[Int.zero_add];exact er,_,rfl,r,_,_,_,rfl,rfl,hrl6,hix,?_⟩
   have hpair:Paired (IsF K H6) (gs.set (d.getD p 0).toNat (.ref pf)) (fr T (LM.addOne row (d.getD p 0) w)):=by
    rw[jw]
    exact bT (av S6 hgs) ⟨pf,rfl,SqT.of hpf⟩
   have R7:=R6.upd hr' hrl6 hpair
   rw[il hm hdp]at R7
   exact⟨(S5.trans S6).over (R6.fresh r (List.mem_of_getElem? hr')) _,R7,_,_,rfl⟩
  ·obtain⟨S5,R5,r5',r6',rfl⟩:=hP
   rw[show us.length=n from hun,jv regA.len hdl]at R5
   exact⟨S5,R5,_,_,_,_,rfl⟩
 obtain⟨S2,R2,r4,r5,r6,r7,rfl⟩:=hP
 rw[hlsl,HM.acc_fin ok.reg I hfin.1]at R2
 -- the rows are the table's
 have hzl1:∀r∈Z,r.length<=1000:=λr hr=>by have:=ok.reg.cols r hr;omega
 refine⟨_,rfl,L,rfl,⟨_,SqL.of R2.lst⟩,?_⟩
 refine aI (xs:=rs.map V.ref) (λj ys H3=>Same H2 H3/\Paired (RwFT K H3 T) ys (Z.take j)) ⟨Same.refl _,by rw[List.take_zero];exact .nil⟩ (λj ys H3 _ hP=>SqL.of (hP.1 _ _ R2.lst)) (λj y ys H3 hy hP=>?_) (λys H3 hP D hD=>?_)
 ·obtain⟨S3,hys⟩:=hP
  have hj:j<Z.length:=by have:=(List.getElem?_eq_some_iff.mp hy).1;rw[List.length_map]at this;omega
  obtain⟨r,gs,hr',hrl',hgs⟩:=R2.get (List.getElem?_eq_getElem hj)
  rw[List.getElem?_map,hr']at hy
  cases hy
  have hyl:=Paired.len hys
  rw[List.length_take]at hyl
  refine⟨_,rfl,r,gs,rfl,.inl ⟨SqL.of (S3 _ _ hrl'),λp hp=>⟨small1000 (by omega),S3.trans (ae hp _),?_⟩⟩⟩
  rw[List.take_add_one,List.getElem?_eq_getElem hj]
  exact Paired.app (Paired.mapP hys λ_ _ h=>h.mono (ae hp _)) (.cons ⟨p,gs,rfl,SqT.of af,av (S3.trans (ae hp _)) hgs⟩ .nil)
 obtain⟨S3,hys⟩:=hP
 rw[List.take_of_length_le (by rw[List.length_map];omega)]at hys
 have S4:Same H3 (upd H3 D (.lst ys)):=ae hD _
 have hD4:SqL K (upd H3 D (.lst ys)) D ys:=SqL.of af
 generalize upd H3 D (.lst ys)=H4 at S4 hD4 ⊢
 have S04:=S2.trans (S3.trans S4)
 have okf:=gC T Z
 have hyl:=Paired.len hys
 refine⟨_,rfl,_,_,.lst hD4 (Reps.of_frows (Paired.mapP hys λ_ _ h=>h.mono S4) hzl1) (by omega),.lst (S04.seq hA) (Reps.of_frows (Paired.mapP hZ λ_ _ h=>h.mono S04) hzl1) (by omega),aR okf (by decide),aR okf (by decide),_,rfl,?_⟩
 rw[cP _ _ okf]
 refine iteF ?_
 -- how many shares are above nothing
 refine⟨_,rfl,a,rfl,⟨_,S04.seq hA⟩,?_⟩
 refine aI (xs:=us) (λi ys H5=>Same H4 H5/\ys=((Z.take i).map λr=>((r.countP λx=>decide (0<x):Nat):Int)).map V.int) ⟨Same.refl _,rfl⟩ (λi ys H5 _ hP=>(S04.trans hP.1).seq hA) (λi x ys H5 hx hP=>?_) (λys H5 hP De hDe=>?_)
 ·obtain⟨S5,rfl⟩:=hP
  obtain⟨r,hr',ta,gs,rfl,hta,hgs⟩:=Paired.get' hZ hx
  have hgl:=Paired.len hgs
  rw[cJ]at hgl
  have hrn':=ok.reg.cols r (List.mem_of_getElem? hr')
  have S05:=S04.trans S5
  refine⟨_,rfl,ta,rfl,⟨_,S05.tup hta⟩,?_⟩
  refine dw (xs:=gs) (λj zs H6=>H6=H5/\zs.length=(r.take j).countP λx=>decide (0<x)) ⟨rfl,rfl⟩ (λj zs H6 _ hP=>by rw[hP.1];exact S05.tup hta) (λj y zs H6 hy hP=>?_) (λzs H6 hP Df hDf=>?_)
  ·obtain⟨rfl,hzl⟩:=hP
   have hj:j<r.length:=by have:=(List.getElem?_eq_some_iff.mp hy).1;omega
   obtain⟨p,hp,va,rfl,hF⟩:=Paired.get' hgs hy
   rw[ei hj]at hp
   cases hp
   have hrj:r[j]?=some (r.getD j 0):=by rw[List.getElem?_eq_getElem hj,HM.getD_lt hj]
   refine⟨_,rfl,va,_,0,_,rfl,rfl,S05.tup hF,rfl,_,_,rfl,rfl,_,rfl,?_⟩
   have hz40:zs.length<=6:=by
    rw[hzl]
    have h8:=List.countP_le_length (p:=λx:Int=>decide (0<x)) (l:=r.take j)
    rw[List.length_take]at h8
    omega
   have low:=FQ.red_low (t:=r.getD j 0) hT0
   have h5:=FQ.red_worth (t:=r.getD j 0) hT0
   have hiff:0<(FQ.red (r.getD j 0) T).1↔0<r.getD j 0:=by
    constructor
    ·intro z
     refine Classical.byContradiction λy=>?_
     have h6:=Int.mul_pos z hT
     have h7:=Int.mul_le_mul_of_nonneg_right (show r.getD j 0<=0 by omega) (Int.le_of_lt low.pos)
     rw[Int.zero_mul]at h7
     omega
    ·intro z
     refine Classical.byContradiction λy=>?_
     have h6:=Int.mul_pos z low.pos
     have h7:=Int.mul_le_mul_of_nonneg_right (show(FQ.red (r.getD j 0) T).1<=0 by omega) (Int.le_of_lt hT)
     rw[Int.zero_mul]at h7
     omega
   refine iteD2 (λc=>?_) (λc=>?_)
   ·refine⟨_,rfl,small1000 (by omega),rfl,?_⟩
    have c':=hiff.mp c
    rw[List.length_append,hzl,List.take_add_one,hrj,List.countP_append]
    clear hiff c low h5 hF
    generalize r.getD j 0=yv at c'
    simp[List.countP_cons,c']
   ·refine⟨rfl,?_⟩
    have c':¬0<r.getD j 0:=λz=>c (hiff.mpr z)
    rw[hzl,List.take_add_one,hrj,List.countP_append]
    clear hiff c low h5 hF
    generalize r.getD j 0=yv at c'
    simp[List.countP_cons,c']
  ·obtain⟨rfl,hzl⟩:=hP
   rw[show gs.length=r.length by omega,List.take_length]at hzl
   refine⟨Df,zs,rfl,.inl (SqL.of af),small1000 (by rw[List.length_map,List.length_map,List.length_take];omega),S5.trans (ae hDf _),?_⟩
   rw[List.take_add_one,hr',List.map_append,List.map_append,hzl]
   rfl
 obtain⟨S5,rfl⟩:=hP
 rw[hul,List.take_length]
 have S6:Same H5 (upd H5 De (.lst ((Z.map λr=>((r.countP λx=>decide (0<x):Nat):Int)).map V.int))):=ae hDe _
 have hD6:SqL K (upd H5 De (.lst ((Z.map λr=>((r.countP λx=>decide (0<x):Nat):Int)).map V.int))) De ((Z.map λr=>((r.countP λx=>decide (0<x):Nat):Int)).map V.int):=SqL.of af
 generalize upd H5 De (.lst ((Z.map λr=>((r.countP λx=>decide (0<x):Nat):Int)).map V.int))=H6 at S6 hD6 ⊢
 refine⟨De,_,rfl,hD6,?_⟩
 rw[<-HM.pn_sum ok.reg]
 have S06:=S04.trans (S5.trans S6)
 -- the deals are unlike
 refine⟨_,rfl,l,rfl,⟨_,S06.seq hl⟩,?_⟩
 refine aI (xs:=ls) (λj ys H7=>H7=H6/\Paired (IsR K H6) ys (((HM.lotsL Z T k).take j).map Prod.snd)) ⟨rfl,.nil⟩ (λj ys H7 _ hP=>by rw[hP.1];exact S06.seq hl) (λj y ys H7 hy hP=>?_) (λys H7 hP Dg hDg=>?_)
 ·obtain⟨rfl,hys⟩:=hP
  obtain⟨lt,hlt,la,f,g,rfl,h1,h2,h3⟩:=Paired.get' hls hy
  have hj:j<ls.length:=(List.getElem?_eq_some_iff.mp hy).1
  have hyl:=Paired.len hys
  rw[List.length_map,List.length_take]at hyl
  refine⟨_,rfl,la,_,1,_,rfl,rfl,S06.tup h1,rfl,small1000 (by omega),rfl,?_⟩
  rw[List.take_add_one,hlt,List.map_append]
  exact Paired.app hys (.cons ⟨g,rfl,S06.tup h3⟩ .nil)
 obtain⟨rfl,hys⟩:=hP
 have hLl:(HM.lotsL Z T k).length=k:=by unfold HM.lotsL;simp
 rw[show ls.length=(HM.lotsL Z T k).length by omega,List.take_length]at hys
 have S7:Same H7 (upd H7 Dg (.lst ys)):=ae hDg _
 have hD7:SqL K (upd H7 Dg (.lst ys)) Dg ys:=SqL.of af
 generalize upd H7 Dg (.lst ys)=H8 at S7 hD7 ⊢
 have hnod:((HM.lotsL Z T k).map Prod.snd).Nodup:=by
  unfold HM.lotsL
  rw[List.map_map]
  refine List.Pairwise.map _ (R:=λi j=>i<j/\j<k) (λi j h=>I.ap i j h.1 h.2) ?_
  exact List.pairwise_iff_getElem.mpr λi j hi hj hij=>by
   rw[List.getElem_range,List.getElem_range]
   rw[List.length_range]at hj
   exact⟨hij,hj⟩
 refine⟨Dg,ys,_,rfl,hD7,Paired.mapP hys (λ_ _ h=>h.mono S7),hnod,by rw[List.length_map];omega,?_⟩
 have S08:=S06.trans S7
 refine⟨_,rfl,l,ls,rfl,.inl (S08.seq hl),rfl,_,rfl,iteDT (by rw[List.length_map,hLl,hlsl]) ?_⟩
 refine⟨_,rfl,l,ls,rfl,.inl (S08.seq hl),_,rfl,_,rfl,_,_,rfl,rfl,_,_,rfl,rfl,_,_,rfl,rfl,?_⟩
 show Q (.bl (decide ((ls.length:Int)<=HM.pn n Z-(Z.length:Int)+1))) H8
 rw[decide_eq_true (by rw[hlsl,hZn];omega)]
 exact q _ S08
theorem sc__law_same:FnScope ["_law_found","_law_due","_law_k"] ["_law_found","_law_due"] (defScope (top 59)):=⟨rfl,rfl,rfl,by decide +kernel,rfl,by decide +kernel,by decide +kernel⟩
set_option maxHeartbeats 4000000 in
theorem d__law_same{n:Nat}(M:Md K mg x)
  (G_law_same:Dn P w K mg base CX0 n "_law_same" ["_law_found","_law_due"] (spPrev (spSame K) n)):Dn P w K mg base CX0 (n+1) "_law_same" ["_law_found","_law_due"] (spSame K n):=by
 have nd:=(sc__law_same).nd
 refine M.f__law_same.ok sc__law_same (λvs H Q E h=>?_) (λ_ _ _ _ _ _ us hl=>match us,hl with|[_,_],_=>rfl) (λf cdv A outer s H vs Q E hr h=>?_)
 ·obtain⟨v,u,d,rfl,rv,ru,hok,q⟩:=h
  rfl
 obtain⟨v,u,d,rfl,rv,ru,hok,q⟩:=h
 refine⟨_,(ad (aJ (PW.pt (bA (aH (ai aE rfl M.b_isinstance Boot.«isinstance» (aa (pv 1) (aa (bv rfl M.b_tuple Boot.«tuple») ac)))) (bo (aH (ai aE rfl M.b_isinstance Boot.«isinstance» (aa (pv 1) (aa (bv rfl M.b_list Boot.«list») ac))))))) (ad (aJ (PW.pt (bA (aq cu (ai aE rfl M.b_isinstance Boot.«isinstance» (aa (pv 0) (aa (bv rfl M.b_tuple Boot.«tuple») ac))) (ai aE rfl M.b_isinstance Boot.«isinstance» (aa (pv 1) (aa (bv rfl M.b_tuple Boot.«tuple») ac))) (nomark _)) (bo (aq cu (ai aE rfl M.b_isinstance Boot.«isinstance» (aa (pv 0) (aa (bv rfl M.b_list Boot.«list») ac))) (ai aE rfl M.b_isinstance Boot.«isinstance» (aa (pv 1) (aa (bv rfl M.b_list Boot.«list») ac))) (nomark _))))) (ag (ao aT)) ar)
   (ad (aJ (aq cu (ai al rfl M.b_len PySem.boot_len (aa (pv 0) ac)) (ai al rfl M.b_len PySem.boot_len (aa (pv 1) ac)) (nomark _)) (ag (ao aT)) ar)
   (ad (aV PassesOwn.never rfl (aK rfl M.b_range (aa (ai al rfl M.b_len PySem.boot_len (aa (pv 1) ac)) ac)) (am (i:=2) nd rfl (Or.inl rfl)) (ag (aJ (aM (aH (aA G_law_same hr (Nat.le_refl _) rfl pass0 (aa (au j1 (pv 0) (pv 2) (λ_ _=>rfl)) (aa (au j1 (pv 1) (pv 2) (λ_ _=>rfl)) ac))))) (ag (ao aT)) ar)))
   (ag (ao aT))))) ar)
   (ad (aJ (aH (ai aE rfl M.b_isinstance Boot.«isinstance» (aa (pv 1) (aa (bv rfl M.b_bool Boot.«bool») ac)))) (ag (ao (bP (ai aE rfl M.b_isinstance Boot.«isinstance» (aa (pv 0) (aa (bv rfl M.b_bool Boot.«bool») ac))) (b6 (bu (i3 hr) (pv 0) (pv 1) (nomark _)))))) ar)
   (ad (aJ (aH (ai aE rfl M.b_isinstance Boot.«isinstance» (aa (pv 1) (aa (bv rfl M.b_int Boot.«int») ac)))) (ag (ao (bP (ai aE rfl M.b_isinstance Boot.«isinstance» (aa (pv 0) (aa (bv rfl M.b_int Boot.«int») ac))) (bP (eY (ai aE rfl M.b_isinstance Boot.«isinstance» (aa (pv 0) (aa (bv rfl M.b_bool Boot.«bool») ac)))) (b6 (bu (i3 hr) (pv 0) (pv 1) (nomark _))))))) ar)
   (ad (aJ (aH (ai aE rfl M.b_isinstance Boot.«isinstance» (aa (pv 1) (aa (bv rfl M.b_str Boot.«str») ac)))) (ag (ao (bP (ai aE rfl M.b_isinstance Boot.«isinstance» (aa (pv 0) (aa (bv rfl M.b_str Boot.«str») ac))) (b6 (bu (i3 hr) (pv 0) (pv 1) (nomark _)))))) ar)
   (ag (ao (bP (bu jO (pv 1) b7 (nomark _)) (b6 (bu jO (pv 0) b7 (nomark _)))))))))),?_⟩
 cases rv with
 | non=>
  cases ru
  refine⟨_,rfl,_,_,"NoneType",rfl,by decide,rfl,_,rfl,iteF ⟨_,rfl,_,_,"NoneType",rfl,by decide,rfl,_,rfl,iteF ?_⟩⟩
  refine⟨_,rfl,_,_,"NoneType",rfl,by decide,rfl,_,rfl,iteF ?_⟩
  refine⟨_,rfl,_,_,"NoneType",rfl,by decide,rfl,_,rfl,iteF ?_⟩
  refine⟨_,rfl,_,_,"NoneType",rfl,by decide,rfl,_,rfl,iteF ?_⟩
  exact⟨_,rfl,rfl,_,rfl,iteT ⟨_,rfl,rfl,q⟩⟩
 | bl b=>
  cases ru
  refine⟨_,rfl,_,_,"bool",rfl,by decide,rfl,_,rfl,iteF ⟨_,rfl,_,_,"bool",rfl,by decide,rfl,_,rfl,iteF ?_⟩⟩
  refine⟨_,rfl,_,_,"bool",rfl,by decide,rfl,_,rfl,iteT ?_⟩
  refine⟨_,rfl,_,_,"bool",rfl,by decide,rfl,_,rfl,iteT ?_⟩
  refine⟨_,rfl,_,rfl,_,_,.bl b,.bl b,rfl,rfl,?_⟩
  rw[show PyData.eqv (.bool b) (.bool b)=true by simp[PyData.eqv]]
  exact q
 | int i=>
  cases ru
  refine⟨_,rfl,_,_,"int",rfl,by decide,rfl,_,rfl,iteF ⟨_,rfl,_,_,"int",rfl,by decide,rfl,_,rfl,iteF ?_⟩⟩
  refine⟨_,rfl,_,_,"int",rfl,by decide,rfl,_,rfl,iteF ?_⟩
  refine⟨_,rfl,_,_,"int",rfl,by decide,rfl,_,rfl,iteT ?_⟩
  refine⟨_,rfl,_,_,"int",rfl,by decide,rfl,_,rfl,iteT ⟨_,rfl,_,_,"int",rfl,by decide,rfl,_,rfl,_,rfl,iteT ?_⟩⟩
  refine⟨_,rfl,_,rfl,_,_,.int i,.int i,rfl,rfl,?_⟩
  rw[show PyData.eqv (.int i) (.int i)=true by simp[PyData.eqv]]
  exact q
 | str x=>
  cases ru
  have hst:SeqAt.shaped (.str x)=true:=by cases n <;> simpa [okD]using hok
  refine⟨_,rfl,_,_,"str",rfl,by decide,rfl,_,rfl,iteF ⟨_,rfl,_,_,"str",rfl,by decide,rfl,_,rfl,iteF ?_⟩⟩
  refine⟨_,rfl,_,_,"str",rfl,by decide,rfl,_,rfl,iteF ?_⟩
  refine⟨_,rfl,_,_,"str",rfl,by decide,rfl,_,rfl,iteF ?_⟩
  refine⟨_,rfl,_,_,"str",rfl,by decide,rfl,_,rfl,iteT ?_⟩
  refine⟨_,rfl,_,_,"str",rfl,by decide,rfl,_,rfl,iteT ?_⟩
  refine⟨_,rfl,_,rfl,_,_,.str x,.str x,hst,hst,?_⟩
  rw[show PyData.eqv (.str x) (.str x)=true by simp[PyData.eqv]]
  exact q
 | @lst a xs ds hv hvs hl1=>
  cases ru with
  | @lst b ys _ hu hus hl2=>
  cases n with
  | zero=>cases hok
  | succ n=>

  have hla:=Reps.length hvs
  have hlb:=Reps.length hus
  refine⟨_,rfl,_,_,"list",rfl,by decide,.inl ⟨rfl,_,hu⟩,_,rfl,iteF ⟨_,rfl,_,_,"list",rfl,by decide,.inl ⟨rfl,_,hu⟩,_,rfl,iteT ?_⟩⟩
  refine⟨_,rfl,_,_,"list",rfl,by decide,.inl ⟨rfl,_,hv⟩,_,rfl,_,_,"list",rfl,by decide,.inl ⟨rfl,_,hu⟩,rfl,_,rfl,iteNS rfl ?_⟩
  refine⟨_,rfl,_,_,"list",rfl,by decide,.inl ⟨rfl,_,hv⟩,_,rfl,_,_,"list",rfl,by decide,.inl ⟨rfl,_,hu⟩,rfl,_,rfl,iteNS rfl ?_⟩
  refine⟨_,rfl,_,_,rfl,.inl hv,_,rfl,_,_,rfl,.inl hu,rfl,_,rfl,iteNS (by rw[hla,hlb]) ?_⟩
  refine⟨_,rfl,_,_,rfl,.inl hu,_,rfl,by omega,by omega,?_⟩
  refine aO (λi σ H'=>H'=H/\∃r,σ=[some _,some _,r]) ⟨rfl,_,rfl⟩ (λi σ H' hi hP=>?_) (λσ H' hP=>?_)
  ·obtain⟨rfl,r,rfl⟩:=hP
   have hi':i<ds.length:=by omega
   have hd:ds[i]?=some ds[i]:=by simp[hi']
   obtain⟨x,hx,rx⟩:=Reps.get hvs hd
   obtain⟨y,hy,ry⟩:=Reps.get hus hd
   have hok':okD n ds[i]=true:=List.all_eq_true.mp hok _ (List.getElem_mem hi')
   have ex:atI xs (0+(i:Int))=some x:=by rw[Int.zero_add];exact ay hx
   have ey:atI ys (0+(i:Int))=some y:=by rw[Int.zero_add];exact ay hy
   exact⟨_,rfl,_,rfl,.inl ⟨_,xs,_,x,rfl,rfl,hv,ex,_,rfl,_,rfl,.inl ⟨_,ys,_,y,rfl,rfl,hu,ey,x,y,ds[i],rfl,rx,ry,hok',_,rfl,iteF ⟨rfl,_,rfl⟩⟩⟩⟩
  ·obtain⟨rfl,r,rfl⟩:=hP
   exact q
 | @tup a xs ds hv hvs hl1=>
  cases ru with
  | @tup b ys _ hu hus hl2=>
  cases n with
  | zero=>cases hok
  | succ n=>

  have hla:=Reps.length hvs
  have hlb:=Reps.length hus
  refine⟨_,rfl,_,_,"tuple",rfl,by decide,.inr ⟨rfl,_,hu⟩,_,rfl,iteT ?_⟩
  refine⟨_,rfl,_,_,"tuple",rfl,by decide,.inr ⟨rfl,_,hv⟩,_,rfl,_,_,"tuple",rfl,by decide,.inr ⟨rfl,_,hu⟩,rfl,_,rfl,iteNS rfl ?_⟩
  refine⟨_,rfl,_,_,"tuple",rfl,by decide,.inr ⟨rfl,_,hv⟩,_,rfl,_,_,"tuple",rfl,by decide,.inr ⟨rfl,_,hu⟩,rfl,_,rfl,iteNS rfl ?_⟩
  refine⟨_,rfl,_,_,rfl,.inr hv,_,rfl,_,_,rfl,.inr hu,rfl,_,rfl,iteNS (by rw[hla,hlb]) ?_⟩
  refine⟨_,rfl,_,_,rfl,.inr hu,_,rfl,by omega,by omega,?_⟩
  refine aO (λi σ H'=>H'=H/\∃r,σ=[some _,some _,r]) ⟨rfl,_,rfl⟩ (λi σ H' hi hP=>?_) (λσ H' hP=>?_)
  ·obtain⟨rfl,r,rfl⟩:=hP
   have hi':i<ds.length:=by omega
   have hd:ds[i]?=some ds[i]:=by simp[hi']
   obtain⟨x,hx,rx⟩:=Reps.get hvs hd
   obtain⟨y,hy,ry⟩:=Reps.get hus hd
   have hok':okD n ds[i]=true:=List.all_eq_true.mp hok _ (List.getElem_mem hi')
   have ex:atI xs (0+(i:Int))=some x:=by rw[Int.zero_add];exact ay hx
   have ey:atI ys (0+(i:Int))=some y:=by rw[Int.zero_add];exact ay hy
   exact⟨_,rfl,_,rfl,.inr (.inl ⟨_,xs,_,x,rfl,rfl,hv,ex,_,rfl,_,rfl,.inr (.inl ⟨_,ys,_,y,rfl,rfl,hu,ey,x,y,ds[i],rfl,rx,ry,hok',_,rfl,iteF ⟨rfl,_,rfl⟩⟩)⟩)⟩
  ·obtain⟨rfl,r,rfl⟩:=hP
   exact q
theorem sc__law_better:FnScope ["_law_wishes_here","_law_table_here","_law_ring","_law_later","_law_people","_law_person"] ["_law_wishes_here","_law_table_here","_law_ring","_law_later"] (defScope (top 60)):=⟨rfl,rfl,rfl,by decide +kernel,rfl,by decide +kernel,by decide +kernel⟩
set_option maxHeartbeats 4000000 in
theorem d__law_better(M:Md K mg x)
  (G_law_is_table:Dn P w K mg base CX0 4 "_law_is_table" ["_law_found","_law_count"] (spIsTable K))
  (G_law_no_less:Dn P w K mg base CX0 5 "_law_no_less" ["_law_wish","_law_shares","_law_others"] (spNoLess K)):Dn P w K mg base CX0 6 "_law_better" ["_law_wishes_here","_law_table_here","_law_ring","_law_later"] (spBetter K):=by
 have nd:=(sc__law_better).nd
 refine M.f__law_better.ok sc__law_better (λvs H Q E h=>?_) (λ_ _ _ _ _ _ us hl=>match us,hl with|[_,_,_,_],_=>rfl) (λf cdv A outer s H vs Q E hr h=>?_)
 ·obtain⟨a,b,r,l,ws,us,ls,us2,W,Z,T,n,R,rfl,hA,hW,hB,hZ,tw,hR,hls,ok,hL,hZ2,q⟩:=h
  rfl
 obtain⟨a,b,r,l,ws,us,ls,us2,W,Z,T,n,R,rfl,hA,hW,hB,hZ,tw,hR,hls,ok,hL,hZ2,q⟩:=h
 refine⟨_,(ad (aJ (aM (aH (aA G_law_is_table hr (by decide) rfl pass0 (aa (pv 3) (aa (ai al rfl M.b_len PySem.boot_len (aa (pv 0) ac)) ac))))) (ag (ao aT)) ar)
   (ad (bi (i:=4) nd rfl rfl rfl rfl (N:=["_law_row"]) (caps:=[none]) (CompOk.of (by kernel_rfl)) (aC rfl) (aN (pv 2)) (λ_ _ _ _=>(am (i:=0) (show(["_law_row"]:List Str).Nodup by decide +kernel) rfl (Or.inl rfl) (Or.inr rfl))) (λ_ _ _ _=>aL) (λ_ _ _ _=>(au (da (K:=K) rfl) (pv 0) ah (λ_ _=>rfl))))
   (ad (aV PassesOwn.never rfl (aK rfl M.b_range (aa (ai al rfl M.b_len PySem.boot_len (aa (pv 0) ac)) ac)) (am (i:=5) nd rfl (Or.inl rfl)) (ad (aJ (PW.pt (gA (aq dn (pv 5) (pv 4) (by with_unfolding_all rfl)) (ez (aq (ck hr) (au aB (pv 3) (pv 5) (λ_ _=>rfl)) (au aB (pv 1) (pv 5) (λ_ _=>rfl)) (nomark _))))) (ag (ao aT)) ar)
   (ad (aJ (aM (aH (aA G_law_no_less hr (by decide) rfl pass0 (aa (au aB (pv 0) (pv 5) (λ_ _=>rfl)) (aa (au aB (pv 3) (pv 5) (λ_ _=>rfl)) (aa (au aB (pv 1) (pv 5) (λ_ _=>rfl)) ac)))))) (ag (ao aT)) ar)
   (ag (aJ (PW.pt (gA (aq gf (pv 5) (pv 4) (by with_unfolding_all rfl)) (ez (aH (aA G_law_no_less hr (by decide) rfl pass0 (aa (au aB (pv 0) (pv 5) (λ_ _=>rfl)) (aa (au aB (pv 1) (pv 5) (λ_ _=>rfl)) (aa (au aB (pv 3) (pv 5) (λ_ _=>rfl)) ac)))))))) (ag (ao aT)) ar)))))
   (ag (ao aT))))),?_⟩
 have hwl:=Paired.len hW
 have hn1:=tw.w.lo
 have hn6:=tw.w.hi
 have hWn:=tw.w.len
 have hwn:ws.length=n:=by omega
 have hll:=Paired.len hls
 have hRl:=ok.len
 have tb2:Tb31 n T (behind Z (stepR Z R) R R.length):=fW ok tw.z
 obtain⟨hs0,_,_⟩:=eI ok
 have hT:=tw.z.t0
 have hT80:=tw.z.t1
 refine⟨_,rfl,_,rfl,a,_,rfl,.inl hA,l,us2,_,T,n,by show[V.ref l,V.int _]=[V.ref l,V.int _];rw[hwn],hL,hZ2,tb2,λH1 S1=>⟨_,rfl,iteF ?_⟩⟩
 refine⟨_,rfl,r,rfl,⟨_,S1.seq hR⟩,?_⟩
 refine aI (xs:=ls) (λk ys H3=>H3=H1/\ys=(ni ((R.take k).map Prod.fst)).map V.int) ⟨rfl,by rw[List.take_zero];rfl⟩ (λk ys H3 _ hP=>by rw[hP.1];exact S1.seq hR) (λk v ys H3 hv hP=>?_) (λys H3 hP D hD=>?_)
 ·obtain⟨rfl,rfl⟩:=hP
  obtain⟨x,hx,xa,rfl,hxa⟩:=Paired.get' hls hv
  have hkl:=(List.getElem?_eq_some_iff.mp hv).1
  refine⟨_,rfl,xa,_,0,_,rfl,rfl,S1.tup hxa,rfl,small1000 (by rw[List.length_map,aZ,List.length_map,List.length_take];omega),rfl,?_⟩
  rw[List.take_add_one,hx,List.map_append,d4,List.map_append]
  rfl
 obtain⟨rfl,rfl⟩:=hP
 rw[hll,List.take_length]
 have S2:=S1.trans (ae hD (.lst ((ni (R.map Prod.fst)).map V.int)))
 have hD2:upd H3 D (.lst ((ni (R.map Prod.fst)).map V.int)) D=some (.lst ((ni (R.map Prod.fst)).map V.int)):=af
 generalize upd H3 D (.lst ((ni (R.map Prod.fst)).map V.int))=H2 at S2 hD2 ⊢
 refine⟨_,rfl,a,_,rfl,.inl (S2.seq hA),_,rfl,by omega,by omega,?_⟩
 refine aO (n:=ws.length) (λp σ H4=>Same H2 H4/\∃r5,σ=[some (.ref a),some (.ref b),some (.ref r),some (.ref l),some (.ref D),r5]) ⟨Same.refl _,_,rfl⟩ (λp σ H4 hp hP=>?_) (λσ H4 hP=>?_)
 ·obtain⟨S4,r5,rfl⟩:=hP
  rw[Int.zero_add]
  have hpW:p<W.length:=by omega
  have hpZ:p<Z.length:=by have:=tw.z.reg.len;omega
  have hpY:p<(behind Z (stepR Z R) R R.length).length:=by rw[bD];exact hpZ
  obtain⟨wv,hwv,wa,rfl,hwa⟩:=Paired.get hW (List.getElem?_eq_getElem hpW)
  obtain⟨uv,huv,ua,gs,rfl,hua,hgs⟩:=Paired.get hZ (List.getElem?_eq_getElem hpZ)
  obtain⟨tv,htv,ta,fs,rfl,hta,hfs⟩:=Paired.get hZ2 (List.getElem?_eq_getElem hpY)
  have hpm:=tw.w.pm _ (List.getElem_mem hpW)
  have hc1:=tw.z.reg.cols _ (List.getElem_mem hpZ)
  have hc2:=tb2.reg.cols _ (List.getElem_mem hpY)
  have hb1:=cM tw.z.reg (List.getElem_mem hpZ)
  have hb2:=cM tb2.reg (List.getElem_mem hpY)
  have hout:p∉R.map Prod.fst->(behind Z (stepR Z R) R R.length)[p]=Z[p]:=λhn=>by
   have:=iP (Z:=Z) (m:=stepR Z R) hn
   rw[List.getElem?_eq_getElem hpY,List.getElem?_eq_getElem hpZ]at this
   exact Option.some.inj this
  have hin:p∈R.map Prod.fst->noLess W[p] (behind Z (stepR Z R) R R.length)[p] T Z[p] T=true/\noLess W[p] Z[p] T (behind Z (stepR Z R) R R.length)[p] T=false:=λhm=>by
   obtain⟨x,hx,rfl⟩:=List.mem_map.mp hm
   have e:=jV (m:=stepR Z R) ok tw.z.reg hx
   rw[List.getElem?_eq_getElem hpY]at e
   have h:=iZ tw.w tw.z hs0 (ok.can x hx)
   rw[<-Option.some.inj e,HM.getD_lt hpW,HM.getD_lt hpZ]at h
   exact h
  have hself:noLess W[p] Z[p] T Z[p] T=true:=dX hT λi _=>Int.le_refl _
  generalize W[p]=row at hwa hpm hin hself
  generalize Z[p]=z1 at hgs hc1 hb1 hout hin hself
  generalize(behind Z (stepR Z R) R R.length)[p]=z2 at hfs hc2 hb2 hout hin
  have hrl:=hpm.len
  have S24:=S2.trans S4
  have hw4:=S24.tup hwa
  have hu4:=S24.tup hua
  have ht4:=S24.tup hta
  have hg4:=av S24 hgs
  have hf4:=av S24 hfs
  have hD4:=S4 _ _ hD2
  have hA4:=S24.seq hA
  have hB4:=S24.seq hB
  have hL4:=S24.seq hL
  have tail:True:=trivial
  by_cases hm:p∈R.map Prod.fst
  ·obtain⟨g1,g2⟩:=hin hm
   refine⟨_,rfl,_,rfl,D,_,rfl,.inl (SqL.of hD4),rfl,bV _,_,rfl,?_⟩
   rw[cB,decide_eq_true (cj.mpr hm)]
   refine iteF ?_
   refine⟨_,rfl,_,rfl,a,_,_,_,rfl,rfl,hA4,ay hwv,_,rfl,_,rfl,l,_,_,_,rfl,rfl,hL4,ay htv,_,rfl,_,rfl,b,_,_,_,rfl,rfl,hB4,ay huv,?_⟩
   refine⟨wa,ta,ua,row,fs,gs,z2,z1,T,T,rfl,hw4,ht4,hu4,hf4,hg4,⟨hT,hT80⟩,⟨hT,hT80⟩,hb2,hb1,(λw hw=>by have:=hpm.mem.mp hw;omega),(λw hw=>by have:=hpm.mem.mp hw;omega),by omega,λH5 S5=>⟨_,rfl,?_⟩⟩
   rw[g1]
   refine iteF ?_
   have S25:=S24.trans S5
   refine⟨_,rfl,_,rfl,D,_,rfl,.inl (SqL.of (S5 _ _ hD4)),rfl,bV _,_,rfl,?_⟩
   rw[cB,decide_eq_true (cj.mpr hm)]
   refine iteT ?_
   refine⟨_,rfl,_,rfl,a,_,_,_,rfl,rfl,S25.seq hA,ay hwv,_,rfl,_,rfl,b,_,_,_,rfl,rfl,S25.seq hB,ay huv,_,rfl,_,rfl,l,_,_,_,rfl,rfl,S25.seq hL,ay htv,?_⟩
   refine⟨wa,ua,ta,row,gs,fs,z1,z2,T,T,rfl,S5.tup hw4,S5.tup hu4,S5.tup ht4,av S5 hg4,av S5 hf4,⟨hT,hT80⟩,⟨hT,hT80⟩,hb1,hb2,(λw hw=>by have:=hpm.mem.mp hw;omega),(λw hw=>by have:=hpm.mem.mp hw;omega),by omega,λH6 S6=>⟨_,rfl,?_⟩⟩
   rw[g2]
   exact iteF ⟨S4.trans (S5.trans S6),_,rfl⟩
  ·have e:=hout hm
   subst e
   have okr:okD 2 (.tuple (dFr T z2))=true:=kE T z2
   refine⟨_,rfl,_,rfl,D,_,rfl,.inl (SqL.of hD4),rfl,bV _,_,rfl,?_⟩
   rw[cB,decide_eq_false (λz=>hm (cj.mp z))]
   refine iteT ?_
   refine⟨_,rfl,_,rfl,l,_,_,_,rfl,rfl,hL4,ay htv,_,rfl,_,rfl,b,_,_,_,rfl,rfl,hB4,ay huv,_,_,RwFT.rep ⟨ta,fs,rfl,ht4,hf4⟩ (by omega),RwFT.rep ⟨ua,gs,rfl,hu4,hg4⟩ (by omega),aR okr (by decide),aR okr (by decide),_,rfl,?_⟩
   rw[cP _ _ okr]
   refine iteF ?_
   refine⟨_,rfl,_,rfl,a,_,_,_,rfl,rfl,hA4,ay hwv,_,rfl,_,rfl,l,_,_,_,rfl,rfl,hL4,ay htv,_,rfl,_,rfl,b,_,_,_,rfl,rfl,hB4,ay huv,?_⟩
   refine⟨wa,ta,ua,row,fs,gs,z2,z2,T,T,rfl,hw4,ht4,hu4,hf4,hg4,⟨hT,hT80⟩,⟨hT,hT80⟩,hb2,hb1,(λw hw=>by have:=hpm.mem.mp hw;omega),(λw hw=>by have:=hpm.mem.mp hw;omega),by omega,λH5 S5=>⟨_,rfl,?_⟩⟩
   rw[hself]
   refine iteF ?_
   have S25:=S24.trans S5
   refine⟨_,rfl,_,rfl,D,_,rfl,.inl (SqL.of (S5 _ _ hD4)),rfl,bV _,_,rfl,?_⟩
   rw[cB,decide_eq_false (λz=>hm (cj.mp z))]
   exact iteF ⟨S4.trans S5,_,rfl⟩
 ·obtain⟨S4,r5,rfl⟩:=hP
  exact q H4 (S2.trans S4)
theorem sc__law_by_turns:FnScope ["_law_wishes_here","_law_deal","_law_people","_law_left","_law_ready"] ["_law_wishes_here","_law_deal"] (defScope (top 61)):=⟨rfl,rfl,rfl,by decide +kernel,rfl,by decide +kernel,by decide +kernel⟩
set_option maxHeartbeats 4000000 in
theorem d__law_by_turns(M:Md K mg x):Dn P w K mg base CX0 1 "_law_by_turns" ["_law_wishes_here","_law_deal"] (spByT K):=by
 have nd:=(sc__law_by_turns).nd
 refine M.f__law_by_turns.ok sc__law_by_turns (λvs H Q E h=>?_) (λ_ _ _ _ _ _ us hl=>match us,hl with|[_,_],_=>rfl) (λf cdv A outer s H vs Q E hr h=>?_)
 ·obtain⟨a,l,ws,W,Z,n,d,rfl,hA,hW,okw,hL,dpm,hno,hpos,q⟩:=h
  rfl
 obtain⟨a,l,ws,W,Z,n,d,rfl,hA,hW,okw,hL,dpm,hno,hpos,q⟩:=h
 refine⟨_,(ad (aw (i:=2) nd rfl (Or.inl rfl) (aD (bh rfl) rfl M.b_list Boot.«list» (aa (aD bK rfl M.b_range PyProof.Rows.boot_range (aa (ai al rfl M.b_len PySem.boot_len (aa (pv 0) ac)) ac)) ac)))
   (ad (aw (i:=3) nd rfl (Or.inr rfl) (aD (bh rfl) rfl M.b_list Boot.«list» (aa (aD bK rfl M.b_range PyProof.Rows.boot_range (aa (ai al rfl M.b_len PySem.boot_len (aa (pv 0) ac)) ac)) ac)))
   (ad (bW PassesOwn.never (aq gd (ai al rfl M.b_len PySem.boot_len (aa (pv 2) ac)) ah (nomark _)) (ad (bi (i:=4) nd rfl rfl rfl rfl (N:=["_law_one","_law_wishes_here","_law_deal","_law_left"]) (caps:=[none,some 0,some 1,some 3]) (CompOk.of (by kernel_rfl)) (aC rfl) (aN (pv 2)) (λ_ _ _ _=>(am (i:=0) (show(["_law_one","_law_wishes_here","_law_deal","_law_left"]:List Str).Nodup by decide +kernel) rfl (Or.inl rfl) (Or.inr rfl))) (λ_ _ _ _=>(cZ (aq cY (au (dz (K:=K) rfl) (aQ rfl (N:=["_law_thing","_law_left"]) (caps:=[none,some 3]) (CompOk.of (by kernel_rfl)) (aC rfl) (gJ (K:=K) rfl (au (dz (K:=K) rfl) (pv 1) (pv 0) (λ_ _=>rfl))) (λ_ _ _ _=>(am (i:=0) (show(["_law_thing","_law_left"]:List Str).Nodup by decide +kernel) rfl (Or.inl rfl) (Or.inr rfl))) (λ_ _ _ _=>(cZ (aq (iu (K:=K) rfl) (pv 0) (pv 1) (by with_unfolding_all rfl)))) (λ_ _ _ _=>(pv 0))) ah (λ_ _=>rfl)) (au (da (K:=K) rfl) (pv 2) (pv 0) (λ_ _=>rfl)) (nomark _)))) (λ_ _ _ _=>(pv 0)))
   (ad (aJ (aq cY (ai al rfl M.b_len PySem.boot_len (aa (pv 4) ac)) ah (nomark _)) (ag (ao aT)) ar)
   (ad (bQ (cW PySem.F.plainAttrs_list PySem.F.slot_list_remove PySem.F.type_list_remove eH (pv 2) (aa (au aB (pv 4) ah (λ_ _=>rfl)) ac)))
   (ag (bQ (cW PySem.F.plainAttrs_list PySem.F.slot_list_remove PySem.F.type_list_remove eH (pv 3) (aa (au ax (pv 1) (au aB (pv 4) ah (λ_ _=>rfl)) (λ_ _=>rfl)) ac))))))))
   (ag (ao aT))))),?_⟩
 have hwl:=Paired.len hW
 have hn6:=okw.hi
 have hWn:=okw.len
 have hwn:ws.length=n:=by omega
 have hdl:=dpm.len
 have e0:(List.range n).map (λ(i:Nat)=>V.int (i:Int))=(ni (List.range n)).map V.int:=by unfold ni;rw[List.map_map];rfl
 refine⟨_,rfl,a,_,rfl,.inl hA,(n:Int),by rw[hwn],λlr hlr=>⟨lr,n,rfl,af,by omega,λpl hpl=>?_⟩⟩
 rw[e0]
 have S1:Same H (upd (upd H lr (.rng 0 (n:Int))) pl (.lst ((ni (List.range n)).map V.int))):=(ae hlr _).trans (ae hpl _)
 have hpl0:H pl=none:=(ae hlr _).free hpl
 have hp1:upd (upd H lr (.rng 0 (n:Int))) pl (.lst ((ni (List.range n)).map V.int)) pl=some (.lst ((ni (List.range n)).map V.int)):=af
 generalize upd (upd H lr (.rng 0 (n:Int))) pl (.lst ((ni (List.range n)).map V.int))=H1 at S1 hp1 ⊢
 refine⟨_,rfl,a,_,rfl,.inl (S1.seq hA),(n:Int),by rw[hwn],λlr2 hlr2=>⟨lr2,n,rfl,af,by omega,λll hll=>?_⟩⟩
 rw[e0]
 have S2:Same H1 (upd (upd H1 lr2 (.rng 0 (n:Int))) ll (.lst ((ni (List.range n)).map V.int))):=(ae hlr2 _).trans (ae hll _)
 have hll1:H1 ll=none:=(ae hlr2 _).free hll
 have hll0:H ll=none:=S1.free hll1
 have hne:pl≠ll:=λz=>by rw[z,hll1]at hp1;cases hp1
 have hl2:upd (upd H1 lr2 (.rng 0 (n:Int))) ll (.lst ((ni (List.range n)).map V.int)) ll=some (.lst ((ni (List.range n)).map V.int)):=af
 generalize upd (upd H1 lr2 (.rng 0 (n:Int))) ll (.lst ((ni (List.range n)).map V.int))=H2 at S2 hl2 ⊢
 dsimp only[gName]
 refine bX (λm σ H3=>Same H H3/\∃(ps ts:List Nat) (r4:Option V),σ=[some (.ref a),some (.ref l),some (.ref pl),some (.ref ll),r4]/\H3 pl=some (.lst ((ni ps).map V.int))/\H3 ll=some (.lst ((ni ts).map V.int))/\ByT n d ps ts/\m=ps.length)
  ⟨_,S1.trans S2,List.range n,List.range n,_,rfl,S2 _ _ hp1,hl2,ByT.start dpm,rfl⟩ (λm σ H3 hP=>?_) (λσ H3 Q1 Q2 hQ h=>?_)
 ·obtain⟨S3,ps,ts,r4,rfl,hp3,hl3,hB,rfl⟩:=hP
  have hpsn:ps.length<=n:=by
   have h:=EM.nodup_len n (l:=ni ps) (List.pairwise_map.mpr (hB.pn.imp λhab z=>hab (by omega))) (λx hx=>by
    unfold ni at hx
    obtain⟨y,hy,rfl⟩:=List.mem_map.mp hx
    have:=hB.pb y hy
    omega)
   rwa[aZ]at h
  have hlp:((ni ps).map V.int).length=ps.length:=by rw[List.length_map,aZ]
  refine⟨_,rfl,pl,_,rfl,.inl (SqL.of hp3),_,_,rfl,rfl,_,rfl,iteD2 (λc=>?_) (λc=>q H3 S3)⟩
  have hpne:ps≠[]:=λz=>by rw[z]at c;simp[ni]at c
  obtain⟨pr,hpr1,hpr2⟩:=hB.ready okw hno hpos hpne
  refine⟨_,rfl,pl,rfl,⟨_,SqL.of hp3⟩,?_⟩
  refine cG (xs:=(ni ps).map V.int) (λk ys H4=>Same H3 H4/\ys=(ni ((ps.take k).filter λ(p:Nat)=>decide (bestIn (W.getD p []) ts=d.getD p 0))).map V.int) ⟨Same.refl _,by rw[List.take_zero];rfl⟩ (λk ys H4 _ hP=>SqL.of (hP.1 _ _ hp3)) (λk v ys H4 hv hP=>?_) (λys H4 hP rd hrd=>?_)
  ·obtain⟨S4,rfl⟩:=hP
   have hk:k<ps.length:=by have:=(List.getElem?_eq_some_iff.mp hv).1;omega
   rw[eF hk]at hv
   cases hv
   have hpm0:ps.getD k 0∈ps:=by rw[HM.getD_lt hk];exact List.getElem_mem hk
   have hpn:=hB.pb _ hpm0
   have eps:ps[k]=ps.getD k 0:=(HM.getD_lt hk).symm
   rw[List.take_add_one,List.getElem?_eq_getElem hk,List.filter_append,d4,List.map_append,eps]
   have hsz:((ni ((ps.take k).filter λ(p:Nat)=>decide (bestIn (W.getD p []) ts=d.getD p 0))).map V.int).length<sizeLine:=by
    rw[List.length_map,aZ]
    have h1:=List.length_filter_le (λ(p:Nat)=>decide (bestIn (W.getD p []) ts=d.getD p 0)) (ps.take k)
    rw[List.length_take]at h1
    exact small1000 (by omega)
   obtain⟨tt,htt,edt⟩:=hB.to _ hpm0
   generalize ps.getD k 0=p at hpn edt
   have hpW:p<W.length:=by omega
   obtain⟨wv,hwv,wa,rfl,hwa⟩:=Paired.get hW (List.getElem?_eq_getElem hpW)
   have hrpm:=okw.pm _ (List.getElem_mem hpW)
   have erow:W.getD p []=W[p]:=HM.getD_lt hpW
   rw[show(Option.some p).toList.filter (λ(p:Nat)=>decide (bestIn (W.getD p []) ts=d.getD p 0))=if bestIn (W.getD p []) ts=d.getD p 0 then[p]else[]by
    by_cases z:bestIn (W.getD p []) ts=d.getD p 0
    ·rw[if_pos z];exact List.filter_cons_of_pos (decide_eq_true z)
    ·rw[if_neg z];exact List.filter_cons_of_neg (by simpa using z)]
   rw[erow]
   generalize W[p]=row at hwa hrpm
   have hrl:=hrpm.len
   have S34:=S3.trans S4
   refine⟨_,rfl,_,rfl,a,_,_,_,rfl,rfl,S34.seq hA,ay hwv,wa,rfl,⟨_,S34.tup hwa⟩,?_⟩
   refine dw (xs:=row.map V.int) (λj zs H5=>H5=H4/\zs=(leftF (row.take j) ts).map V.int) ⟨rfl,rfl⟩ (λj zs H5 _ hP=>by rw[hP.1];exact S34.tup hwa) (λj y zs H5 hy hP=>?_) (λzs H5 hP D hD=>?_)
   ·obtain⟨rfl,rfl⟩:=hP
    rw[List.getElem?_map]at hy
    cases hri:row[j]? with
    | none=>rw[hri]at hy;cases hy
    | some u=>
     rw[hri]at hy
     have hy2:V.int u=y:=Option.some.inj hy
     subst hy2
     have hlen:((leftF (row.take j) ts).map V.int).length<sizeLine:=by
      rw[List.length_map]
      have h1:=List.length_filter_le (λt=>decide (t∈ni ts)) (row.take j)
      rw[List.length_take]at h1
      exact small1000 (by unfold leftF;omega)
     refine⟨_,rfl,_,rfl,ll,_,rfl,.inl (SqL.of (S4 _ _ hl3)),rfl,bV _,_,rfl,?_⟩
     show if inV (.int u) ((ni ts).map V.int)=true then _ else _
     unfold leftF at hlen ⊢
     rw[cB,List.take_add_one,hri,List.filter_append,List.map_append]
     refine iteD2 (λc=>?_) (λc=>?_)
     ·refine⟨_,rfl,hlen,rfl,?_⟩
      simp[c]
     ·refine⟨rfl,?_⟩
      simp[c]
   ·obtain⟨rfl,rfl⟩:=hP
    rw[List.length_map,List.take_length]
    have SD:=ae hD (.lst ((leftF row ts).map V.int))
    have hmt:(tt:Int)∈leftF row ts:=List.mem_filter.mpr ⟨hrpm.mem.mpr ⟨by omega,by have:=hB.tb tt htt;omega⟩,decide_eq_true (cj.mpr htt)⟩
    have hb0:((leftF row ts).map V.int)[0]?=some (.int (bestIn row ts)):=by
     unfold bestIn
     cases hf:leftF row ts with
     | nil=>rw[hf]at hmt;cases hmt
     | cons b r=>rfl
    have hdg:(d.map V.int)[p]?=some (.int (d.getD p 0)):=aS (by omega)
    refine⟨D,_,0,_,rfl,rfl,SqL.of af,cm (by decide) hb0,_,rfl,_,rfl,l,_,_,_,rfl,rfl,(S34.trans SD).tup hL,ay hdg,rfl,_,rfl,iteD2 (λc=>?_) (λc=>?_)⟩
    ·rw[if_pos (Veq c)]
     exact⟨_,rfl,hsz,S4.trans SD,rfl⟩
    ·rw[if_neg (λz=>c (by rw[z]))]
     refine⟨S4.trans SD,?_⟩
     show _=_++[]
     rw[List.append_nil]
  ·obtain⟨S4,rfl⟩:=hP
   rw[hlp,List.take_length]
   have hmr:pr∈ps.filter λ(p:Nat)=>decide (bestIn (W.getD p []) ts=d.getD p 0):=List.mem_filter.mpr ⟨hpr1,decide_eq_true hpr2⟩
   obtain⟨p,rest,hf⟩:∃p rest,(ps.filter λ(p:Nat)=>decide (bestIn (W.getD p []) ts=d.getD p 0))=p::rest:=by
    cases hf:ps.filter λ(p:Nat)=>decide (bestIn (W.getD p []) ts=d.getD p 0)with
    | nil=>rw[hf]at hmr;cases hmr
    | cons p rest=>exact⟨p,rest,rfl⟩
   have hpm0:p∈ps:=(List.mem_filter.mp (show p∈ps.filter λ(p:Nat)=>decide (bestIn (W.getD p []) ts=d.getD p 0)by rw[hf];exact List.mem_cons_self)).1
   rw[hf]
   have S5:Same H4 (upd H4 rd (.lst ((ni (p::rest)).map V.int))):=ae hrd _
   have hr5:upd H4 rd (.lst ((ni (p::rest)).map V.int)) rd=some (.lst ((ni (p::rest)).map V.int)):=af
   have hrp:rd≠pl:=λz=>by rw[z,S4 _ _ hp3]at hrd;cases hrd
   generalize upd H4 rd (.lst ((ni (p::rest)).map V.int))=H5 at S5 hr5 ⊢
   have at0:atI ((ni (p::rest)).map V.int) 0=some (.int (p:Nat)):=cm (by decide) rfl
   refine⟨_,rfl,rd,_,rfl,.inl (SqL.of hr5),rfl,_,rfl,iteDF (Vne (by rw[List.length_map,aZ,List.length_cons];omega)) ?_⟩
   obtain⟨tt,htt,edt⟩:=hB.to p hpm0
   have hpn:=hB.pb p hpm0
   have S35:=S4.trans S5
   have hp5:=S35 _ _ hp3
   have hl5:=S35 _ _ hl3
   refine⟨_,rfl,.inl ⟨rfl,_,SqL.of hp5⟩,_,rfl,rd,_,0,_,rfl,rfl,SqL.of hr5,at0,pl,ni ps,(p:Int),rfl,rfl,hp5,cj.mpr hpm0,?_⟩
   rw[fT]
   have S6:Same H (upd H5 pl (.lst ((ni (ps.erase p)).map V.int))):=(S3.trans S35).over hpl0 _
   have hp6:upd H5 pl (.lst ((ni (ps.erase p)).map V.int)) pl=some (.lst ((ni (ps.erase p)).map V.int)):=af
   have hl6:upd H5 pl (.lst ((ni (ps.erase p)).map V.int)) ll=some (.lst ((ni ts).map V.int)):=by rw[az (Ne.symm hne)];exact hl5
   have hr6:upd H5 pl (.lst ((ni (ps.erase p)).map V.int)) rd=some (.lst ((ni (p::rest)).map V.int)):=by rw[az hrp];exact hr5
   generalize upd H5 pl (.lst ((ni (ps.erase p)).map V.int))=H6 at S6 hp6 hl6 hr6 ⊢
   have hdg:(d.map V.int)[p]?=some (.int (d.getD p 0)):=aS (by omega)
   refine⟨_,rfl,.inl ⟨rfl,_,SqL.of hl6⟩,_,rfl,_,rfl,rd,_,0,_,rfl,rfl,SqL.of hr6,at0,l,_,_,_,rfl,rfl,S6.tup hL,ay hdg,ll,ni ts,(tt:Int),rfl,by rw[edt],hl6,cj.mpr htt,?_⟩
   rw[fT]
   have hle:=List.length_erase_of_mem hpm0
   have hlpos:=List.length_pos_of_mem hpm0
   exact⟨(ps.erase p).length,by omega,S6.over hll0 _,ps.erase p,ts.erase tt,_,rfl,by rw[az hne];exact hp6,af,hB.step dpm hpm0 edt,rfl⟩
 ·obtain⟨v1,e1,p1,x1,k1,k2,i1,i2,k3,k4,b1,eb,qx⟩:=h
  exact⟨v1,e1,p1,x1,k1,k2,i1,i2,k3,k4,b1,eb,hQ _ _ qx⟩
theorem sc_law:FnScope ["_law_script","_law_first","_law_count","_law_wishes_here","_law_table_here","_law_found","_law_k","_law_ring","_law_later","_law_lots"] ["_law_script"] (defScope (top 62)):=⟨rfl,rfl,rfl,by decide +kernel,rfl,by decide +kernel,by decide +kernel⟩
set_option maxHeartbeats 4000000 in
theorem d_law{fl:Addr}{fdl:FuncData}(Fl:Fun K "law" "law" (top 62) fl fdl)(M:Md K mg x)
  (G_law_cell_at:Dn P w K mg base CX0 1 "_law_cell_at" ["_law_script","_law_k"] (spCell K))
  (G_law_wishes:Dn P w K mg base CX0 2 "_law_wishes" ["_law_script","_law_at","_law_count"] (spWishesF K))
  (G_law_table:Dn P w K mg base CX0 3 "_law_table" ["_law_script","_law_at","_law_many","_law_count"] (spTableN K))
  (G_law_deals:Dn P w K mg base CX0 1 "_law_deals" ["_law_first"] (spDeals))
  (Gtable_of:Dn P w K mg base (CXE P w) 6 "table_of" ["rows"] (spTableOf K x))
  (G_law_same:Dn P w K mg base CX0 4 "_law_same" ["_law_found","_law_due"] (spSame K 3))
  (Gring_or_order:Dn P w K mg base CX0 6 "ring_or_order" ["wishes","table"] (spRO K))
  (G_law_ring_holds:Dn P w K mg base CX0 2 "_law_ring_holds" ["_law_wishes_here","_law_table_here","_law_ring"] (spRingH K))
  (G_law_better:Dn P w K mg base CX0 6 "_law_better" ["_law_wishes_here","_law_table_here","_law_ring","_law_later"] (spBetter K))
  (Glots_of:Dn P w K mg base CX0 8 "lots_of" ["table"] (spLotsOf K))
  (G_law_lots_hold:Dn P w K mg base CX0 5 "_law_lots_hold" ["_law_table_here","_law_lots"] (spLotsHold K))
  (G_law_order_holds:Dn P w K mg base CX0 2 "_law_order_holds" ["_law_wishes_here","_law_table_here","_law_order_here"] (spOrdH K))
  (G_law_by_turns:Dn P w K mg base CX0 1 "_law_by_turns" ["_law_wishes_here","_law_deal"] (spByT K)):FnOk P w K mg base CX0 9 fl fdl ["_law_script"] (spLaw K):=by
 have nd:=(sc_law).nd
 refine Fl.ok sc_law (λvs H Q E h=>?_) (λcdv A outer s H vs Q E hr h=>?_)
 ·obtain⟨a,ns,rfl,hS,h63,q⟩:=h
  rfl
 obtain⟨a,ns,rfl,hS,h63,q⟩:=h
 refine⟨_,(ad (aw (i:=1) nd rfl (Or.inl rfl) (aA G_law_cell_at hr (by decide) rfl pass0 (aa (pv 0) (aa ah ac))))
   (ad (aw (i:=2) nd rfl (Or.inl rfl) (aF bz ah (aF bI (pv 1) ah)))
   (ad (aw (i:=3) nd rfl (Or.inr rfl) (aA G_law_wishes hr (by decide) rfl pass0 (aa (pv 0) (aa ah (aa (pv 2) ac)))))
   (ad (aw (i:=4) nd rfl (Or.inl rfl) (aA G_law_table hr (by decide) rfl pass0 (aa (pv 0) (aa (aF bz ah (pv 2)) (aa (aA G_law_deals hr (by decide) rfl pass0 (aa (pv 1) ac)) (aa (pv 2) ac))))))
   (ad (aJ (aM (aH (aA G_law_same hr (by decide) rfl pass0 (aa (aA Gtable_of hr (by decide) rfl passN (aa (aD be rfl M.b_list Boot.«list» (aa (pv 4) ac)) ac)) (aa (pv 4) ac))))) (ag (ao aT)) ar)
   (ad (aw (i:=5) nd rfl (Or.inl rfl) (bp (aa aT (aa b7 ac))))
   (ad (aV PassesOwn.never rfl (aK rfl M.b_range (aa ah ac)) (am (i:=6) nd rfl (Or.inl rfl)) (ad (aw (i:=5) nd rfl (Or.inl rfl) (aA Gring_or_order hr (by decide) rfl pass0 (aa (aD be rfl M.b_list Boot.«list» (aa (pv 3) ac)) (aa (aD be rfl M.b_list Boot.«list» (aa (pv 4) ac)) ac))))
   (ad (aJ (PW.pt (bA (aM (aH (ai aE rfl M.b_isinstance Boot.«isinstance» (aa (pv 5) (aa (bv rfl M.b_tuple Boot.«tuple») ac))))) (bA (aq cu (ai al rfl M.b_len PySem.boot_len (aa (pv 5) ac)) ah (nomark _)) (bo (aM (aH (ai aE rfl M.b_isinstance Boot.«isinstance» (aa (au ax (pv 5) ah (λ_ _=>rfl)) (aa (bv rfl M.b_bool Boot.«bool») ac))))))))) (ag (ao aT)) ar)
   (ad (aJ (aH (au ax (pv 5) ah (λ_ _=>rfl))) (ag kM) ar)
   (ad (cp (au ax (pv 5) ah (λ_ _=>rfl)) (de rfl (aG (am (i:=7) nd rfl (Or.inl rfl)) (aG (am (i:=8) nd rfl (Or.inl rfl)) bH))))
   (ad (aJ (PW.pt (bA (aM (aH (aA G_law_ring_holds hr (by decide) rfl pass0 (aa (pv 3) (aa (pv 4) (aa (pv 7) ac)))))) (bo (aM (aH (aA G_law_better hr (by decide) rfl pass0 (aa (pv 3) (aa (pv 4) (aa (pv 7) (aa (pv 8) ac)))))))))) (ag (ao aT)) ar)
   (ag (aw (i:=4) nd rfl (Or.inl rfl) (pv 8)))))))))
   (ad (aw (i:=9) nd rfl (Or.inl rfl) (aA Glots_of hr (by decide) rfl pass0 (aa (aD be rfl M.b_list Boot.«list» (aa (pv 4) ac)) ac)))
   (ad (aJ (aM (aH (aA G_law_lots_hold hr (by decide) rfl pass0 (aa (pv 4) (aa (pv 9) ac))))) (ag (ao aT)) ar)
   (ad (aJ (aM (aH (au ax (pv 5) ah (λ_ _=>rfl)))) (ag (ao aT)) ar)
   (ad (aJ (aM (aH (aA G_law_order_holds hr (by decide) rfl pass0 (aa (pv 3) (aa (pv 4) (aa (au ax (pv 5) ah (λ_ _=>rfl)) ac)))))) (ag (ao aT)) ar)
   (ag (ao (ai (cK rfl) rfl M.b_all Boot.«all» (aa (aQ rfl (N:=["_law_weight","_law_deal","_law_wishes_here"]) (caps:=[none,none,some 3]) (CompOk.of (by kernel_rfl)) (gw (bC aW (aC rfl) (bC aW (aC rfl) dP))) (aN (pv 9)) (λ_ _ _ _=>(eh (K:=K) rfl 2 rfl (aG (am (i:=0) (show(["_law_weight","_law_deal","_law_wishes_here"]:List Str).Nodup by decide +kernel) rfl (Or.inl rfl) (Or.inr rfl)) (aG (am (i:=1) (show(["_law_weight","_law_deal","_law_wishes_here"]:List Str).Nodup by decide +kernel) rfl (Or.inl rfl) (Or.inr rfl)) bH)))) (λ_ _ _ _=>aL) (λ_ _ _ _=>(aA G_law_by_turns hr (by decide) rfl pass0 (aa (pv 2) (aa (pv 1) ac))))) ac))))))))))))))),?_⟩
 have small2:(2:Nat)<=sizeLine:=by decide
 refine⟨_,rfl,a,ns,0,rfl,hS,Int.le_refl 0,?_⟩
 obtain⟨n,hn,hn1,hn6⟩:∃n:Nat,1+LM.cellAt ns 0%6=(n:Int)/\1<=n/\n<=6:=by
  have h0:=Int.emod_nonneg (LM.cellAt ns 0) (show(6:Int)≠0 by decide)
  have h1:=Int.emod_lt_of_pos (LM.cellAt ns 0) (show(0:Int)<6 by decide)
  exact⟨(1+LM.cellAt ns 0%6).toNat,by omega,by omega,by omega⟩
 refine⟨_,rfl,_,_,rfl,rfl,by show(0:Int)<6;decide,_,_,rfl,rfl,?_⟩
 dsimp only
 rw[hn]
 refine⟨_,rfl,_,rfl,a,ns,1,n,rfl,hS,by decide,hn6,λpW ws H1 S1 hW0 hWl hWF=>?_⟩
 have okw:Ws41 n (LN.wishes ns 1 n):=⟨hn1,hn6,LN.wishes_len ns 1 n,λw hw=>LN.wishes_pm hw⟩
 generalize LN.wishes ns 1 n=W at hWF okw
 have hwl:=Paired.len hWF
 have hWn:=okw.len
 obtain⟨many,hmany⟩:∃m:Nat,LN.deals (LM.cellAt ns 0)=(m:Int):=⟨(LN.deals (LM.cellAt ns 0)).toNat,by have:=LN.deals_bd (LM.cellAt ns 0);omega⟩
 have hm25:many<=25:=by have:=LN.deals_bd (LM.cellAt ns 0);omega
 refine⟨_,rfl,_,rfl,_,_,rfl,rfl,_,rfl,_,rfl,?_⟩
 rw[hmany]
 refine⟨_,rfl,a,ns,1+(n:Int),many,n,rfl,S1.seq hS,by omega,hm25,hn1,hn6,λpT us H2 S2 hT00 hTl hZ=>?_⟩
 obtain⟨_,hT,hT80⟩:=LN.table_ok ns (1+(n:Int)) n hm25
 have reg:=HM.table_reg ns (1+(n:Int)) many n
 generalize LN.table ns (1+(n:Int)) many n=MT at hZ hT hT80 reg
 obtain⟨Z,T⟩:=MT
 dsimp only at hZ hT hT80 reg
 have tb:Tb31 n T Z:=⟨hn1,hn6,hT,hT80,reg⟩
 have hul:=Paired.len hZ
 have hZn:=reg.len
 have hrZ:∀r∈Z,r.length<=1000:=λr hr=>by have:=reg.cols r hr;omega
 have okf:=gC T Z
 have okT:=lY tb
 have bdT:=mF tb
 refine⟨_,rfl,pT,us,rfl,.inl (SqL.of hTl),λh1 hh1=>?_⟩
 have S3:Same H2 (upd H2 h1 (.lst us)):=ae hh1 _
 have h13:upd H2 h1 (.lst us) h1=some (.lst us):=af
 generalize upd H2 h1 (.lst us)=H3 at S3 h13 ⊢
 refine⟨h1,us,Z,T,rfl,SqL.of h13,Paired.mapP hZ (λ_ _ ⟨x,gs,e,h1,h2⟩=>⟨x,gs,e,.inr (S3.tup h1),av S3 h2⟩),⟨hT,hT80⟩,by omega,bdT,(λz=>absurd okT z),λ_ pB bs H4 S4 _ hBl hBr=>?_⟩
 have S34:=S3.trans S4
 have hbl:=Paired.len hBr
 refine⟨_,rfl,_,_,_,rfl,.lst (SqL.of hBl) (Reps.of_frows hBr hrZ) (by omega),.lst (SqL.of (S34 _ _ hTl)) (Reps.of_frows (Paired.mapP hZ λ_ _ h=>h.mono S34) hrZ) (by omega),okf,⟨_,rfl,iteF ?_⟩⟩
 refine⟨small2,λf0 hf0=>?_⟩
 have S5:Same H4 (upd H4 f0 (.tup [.bl false,.non])):=ae hf0 _
 have hf5:SqT K (upd H4 f0 (.tup [.bl false,.non])) f0 [.bl false,.non]:=SqT.of af
 have S25:=S34.trans S5
 have hWx:=(S2.trans S25) _ _ hWl
 have hWFx:=Paired.mapP hWF λ_ _ (h:IsRF K H1 _ _)=>h.mono (S2.trans S25)
 have hTx:=S25 _ _ hTl
 have hZx:=Paired.mapP hZ λ_ _ (h:RwFT K H2 T _ _)=>h.mono S25
 generalize upd H4 f0 (.tup [.bl false,.non])=H5 at S5 hf5 S25 hWx hWFx hTx hZx ⊢
 clear hBl hBr hZ hTl hWl hWF okf okT bdT hrZ hul hZn S34 S3 S4 S5 S25 reg hbl
 refine⟨8,rfl,by omega,by omega,?_⟩
 refine aO (n:=8) (λk σ H6=>Same H5 H6/\∃(pT:Addr) (us:List V) (Z:List (List Int)) (fa:Addr) (x:V) (r6 r7 r8:Option V),σ=[some (.ref a),some (.int (LM.cellAt ns 0)),some (.int n),some (.ref pW),some (.ref pT),some (.ref fa),r6,r7,r8,none]/\SqL K H6 pT us/\Paired (RwFT K H6 T) us Z/\Tb31 n T Z/\SqT K H6 fa [.bl false,x])
  ⟨Same.refl _,pT,us,Z,f0,_,_,_,_,rfl,SqL.of hTx,hZx,tb,hf5⟩ (λk σ H6 hk hP=>?_) (λσ H6 hP=>?_)
 ·clear tb hZx hTx hf5
  clear hT00 h13
  obtain⟨S6,pT,us,Z,fa,x,r6,r7,r8,rfl,hTl,hZ,tb,hfa⟩:=hP
  have tw:Tw n W T Z:=⟨okw,tb⟩
  refine⟨_,rfl,pW,ws,rfl,.inl (SqL.of (S6 _ _ hWx)),λg1 hg1=>?_⟩
  have T1:=ae hg1 (.lst ws)
  refine⟨_,rfl,pT,us,rfl,.inl (T1.seq hTl),λg2 hg2=>?_⟩
  have T2:=ae hg2 (.lst us)
  have S7:=T1.trans T2
  have h17:=T2 _ _ (show upd H6 g1 (.lst ws) g1=some (.lst ws)from af)
  have h27:upd (upd H6 g1 (.lst ws)) g2 (.lst us) g2=some (.lst us):=af
  generalize upd (upd H6 g1 (.lst ws)) g2 (.lst us)=H7 at S7 h17 h27 ⊢
  clear T1 T2
  have S67:=S6.trans S7
  have hWF7:=Paired.mapP hWFx λ_ _ (h:IsRF K H5 _ _)=>h.mono S67
  have hZ7:=Paired.mapP hZ λ_ _ (h:RwFT K H6 T _ _)=>h.mono S7
  refine⟨g1,g2,ws,us,W,Z,T,n,rfl,SqL.of h17,Paired.mapP hWF7 (λ_ _ h=>h.isR),SqL.of h27,hZ7,tw,(λhno v o os H8 S8 ro=>?_),λv pr r t R ls us2 H8 S8 ro=>?_⟩
  ·obtain⟨ta,e1,hta⟩:=ro.at'
   subst e1
   refine⟨_,rfl,_,"tuple","tuple",rfl,by decide,.inr ⟨rfl,_,hta⟩,_,rfl,iteF ?_⟩
   refine⟨_,rfl,ta,_,rfl,.inr hta,rfl,_,rfl,iteNS rfl ?_⟩
   refine⟨_,rfl,ta,_,0,_,rfl,rfl,hta,rfl,_,"bool","bool",rfl,by decide,rfl,_,rfl,iteF ?_⟩
   refine⟨_,rfl,ta,_,0,_,rfl,rfl,hta,rfl,_,rfl,iteT ?_⟩
   have S58:=S67.trans S8
   have S68:=S7.trans S8
   have hT8:=S68.seq hTl
   have hZ8:=Paired.mapP hZ7 λ_ _ (h:RwFT K H7 T _ _)=>h.mono S8
   refine⟨_,rfl,pT,us,rfl,.inl hT8,λlp hlp=>?_⟩
   have S9:Same H8 (upd H8 lp (.lst us)):=ae hlp _
   have hl9:upd H8 lp (.lst us) lp=some (.lst us):=af
   generalize upd H8 lp (.lst us)=H9 at S9 hl9 ⊢
   have hZ9:=Paired.mapP hZ8 λ_ _ (h:RwFT K H8 T _ _)=>h.mono S9
   refine⟨lp,us,Z,T,n,rfl,SqL.of hl9,hZ9,tb,λk pL ls H10 hfin S10 _ hLl hLr=>?_⟩
   have S90:=S9.trans S10
   refine⟨_,rfl,_,rfl,pT,pL,us,ls,Z,T,n,k,rfl,S90.seq hT8,Paired.mapP hZ9 (λ_ _ h=>h.mono S10),tb,hfin,SqL.of hLl,hLr,λH11 S11=>⟨_,rfl,iteF ?_⟩⟩
   have S8b:=S90.trans S11
   have S5b:=S58.trans S8b
   refine⟨_,rfl,ta,_,0,_,rfl,rfl,S8b.tup hta,rfl,_,rfl,iteF ?_⟩
   refine⟨_,rfl,_,rfl,_,rfl,ta,_,1,_,rfl,rfl,S8b.tup hta,rfl,pW,pT,o,ws,us,W,Z,T,n,os,rfl,SqL.of (S5b _ _ hWx),Paired.mapP hWFx (λ_ _ h=>h.mono S5b),S8b.seq hT8,Paired.mapP hZ8 (λ_ _ h=>h.mono S8b),tw,S8b _ _ ro.ls,ro.ok,λH12 S12=>⟨_,rfl,iteF ?_⟩⟩
   have S1x:=S11.trans S12
   have S5x:=S5b.trans S12
   have hLx:=S1x _ _ hLl
   have hLrx:=Paired.mapP hLr λ_ _ (h:IsLot K H10 T _ _)=>h.mono S1x
   have hlk:=Paired.len hLrx
   have hk36:k<=36:=by
    have h1:=(HM.it_ok tb.reg tb.t0 hn1 k hfin.2).last hfin.1
    have h2:=HM.pn_le hn6 Z
    omega
   have hlen:ls.length=k:=by rw[hlk];unfold HM.lotsL;rw[List.length_map,List.length_range]
   have hIx:Paired (IsR K H12) ws W:=Paired.mapP hWFx λ_ _ h=>h.isR.mono S5x
   refine⟨_,rfl,pL,rfl,⟨_,SqL.of hLx⟩,?_⟩
   refine aI (xs:=ls) (λi ys H'=>Same H12 H'/\ys=(List.replicate i true).map V.bl) ⟨Same.refl _,rfl⟩ (λi ys H' _ hP=>SqL.of (hP.1 _ _ hLx)) (λi v ys H13 hv hP=>?_) (λys H13 hP D hD=>?_)
   ·obtain⟨S13,rfl⟩:=hP
    obtain⟨lt,hlt,la,lf,lg,rfl,hla,hlf,hlg⟩:=Paired.get' hLrx hv
    have hik:i<k:=by
     have:=(List.getElem?_eq_some_iff.mp hlt).1
     unfold HM.lotsL at this
     rwa[List.length_map,List.length_range]at this
    have elt:lt=HM.lotAt Z T i:=by
     unfold HM.lotsL at hlt
     rw[List.getElem?_map,List.getElem?_range hik]at hlt
     exact(Option.some.inj hlt).symm
    obtain⟨dpm,dpos⟩:=lE tb hfin hik
    rw[<-elt]at dpm dpos
    refine⟨la,_,rfl,S13.tup hla,rfl,_,_,rfl,_,_,rfl,rfl,?_⟩
    refine⟨_,rfl,_,rfl,pW,lg,ws,W,Z,n,lt.2,rfl,SqL.of ((S5x.trans S13) _ _ hWx),Paired.mapP hIx (λ_ _ h=>h.mono S13),okw,S13.tup hlg,dpm,hno,dpos,λH14 S14=>?_⟩
    refine⟨small1000 (by simp;omega),S13.trans S14,?_⟩
    rw[List.replicate_succ',List.map_append]
    rfl
   ·obtain⟨S13,rfl⟩:=hP
    refine⟨D,List.replicate ls.length true,rfl,SqL.of af,?_⟩
    rw[show(List.replicate ls.length true).all id=true by simp]
    exact q _
  ·obtain⟨ta,e1,hta⟩:=ro.at'
   subst e1
   refine⟨_,rfl,_,"tuple","tuple",rfl,by decide,.inr ⟨rfl,_,hta⟩,_,rfl,iteF ?_⟩
   refine⟨_,rfl,ta,_,rfl,.inr hta,rfl,_,rfl,iteNS rfl ?_⟩
   refine⟨_,rfl,ta,_,0,_,rfl,rfl,hta,rfl,_,"bool","bool",rfl,by decide,rfl,_,rfl,iteF ?_⟩
   refine⟨_,rfl,ta,_,0,_,rfl,rfl,hta,rfl,_,rfl,iteF ?_⟩
   have S58:=S67.trans S8
   have S68:=S7.trans S8
   have hT8:=S68.seq hTl
   have hZ8:=Paired.mapP hZ7 λ_ _ (h:RwFT K H7 T _ _)=>h.mono S8
   have hWF8:=Paired.mapP hWF7 λ_ _ (h:IsRF K H7 _ _)=>h.mono S8
   refine⟨_,rfl,ta,_,1,_,rfl,rfl,hta,rfl,pr,_,rfl,ro.pr,rfl,_,_,rfl,_,_,rfl,rfl,?_⟩
   refine⟨_,rfl,_,rfl,_,rfl,pW,pT,r,ws,us,ls,W,Z,T,n,R,rfl,SqL.of (S58 _ _ hWx),hWF8,hT8,hZ8,tw,SqL.of ro.lr,ro.tr,ro.ok,λH9 S9=>⟨_,rfl,iteF ?_⟩⟩
   refine⟨_,rfl,_,rfl,_,rfl,_,rfl,pW,pT,r,t,ws,us,ls,us2,W,Z,T,n,R,rfl,SqL.of ((S58.trans S9) _ _ hWx),Paired.mapP hWF8 (λ_ _ h=>h.isR.mono S9),S9.seq hT8,Paired.mapP hZ8 (λ_ _ h=>h.mono S9),tw,SqL.of (S9 _ _ ro.lr),Paired.mapP ro.tr (λ_ _ h=>h.mono S9),ro.ok,SqL.of (S9 _ _ ro.lt),Paired.mapP ro.rw' (λ_ _ h=>h.mono S9),λH10 S10=>⟨_,rfl,iteF ?_⟩⟩
   have S90:=S9.trans S10
   exact⟨_,rfl,S58.trans S90,t,us2,_,ta,_,_,_,_,rfl,SqL.of (S90 _ _ ro.lt),Paired.mapP ro.rw' (λ_ _ h=>h.mono S90),fW ro.ok tb,S90.tup hta⟩
 ·obtain⟨S6,pT,us,Z,fa,x,r6,r7,r8,rfl,hTl,hZ,tb,hfa⟩:=hP
  refine⟨_,rfl,pT,us,rfl,.inl hTl,λlp hlp=>?_⟩
  have S9:Same H6 (upd H6 lp (.lst us)):=ae hlp _
  have hl9:upd H6 lp (.lst us) lp=some (.lst us):=af
  generalize upd H6 lp (.lst us)=H9 at S9 hl9 ⊢
  have hZ9:=Paired.mapP hZ λ_ _ (h:RwFT K H6 T _ _)=>h.mono S9
  refine⟨lp,us,Z,T,n,rfl,SqL.of hl9,hZ9,tb,λk pL ls H10 hfin S10 _ hLl hLr=>?_⟩
  have S90:=S9.trans S10
  refine⟨_,rfl,_,rfl,pT,pL,us,ls,Z,T,n,k,rfl,S90.seq hTl,Paired.mapP hZ9 (λ_ _ h=>h.mono S10),tb,hfin,SqL.of hLl,hLr,λH11 S11=>⟨_,rfl,iteF ?_⟩⟩
  exact⟨_,rfl,fa,_,0,_,rfl,rfl,(S90.trans S11).tup hfa,rfl,_,rfl,iteT (q _)⟩
end
theorem all_mk{l:PySem.W.OpenLaw}{w:World}{K:PySem.W.Frag}{h:Heap}{mg:Str->Option Value}{fa:Addr}(X:K.In h)(G:h.Ns mainGlobals mg)(hfa:mg "law"=some (.ref fa))
  {f49:Addr}{od49 an49:Option Addr}{sl49:Array (Option Value)}{oc49 kV49 dc49 pm49 cd49 ct49:Value}
  {ta0:Addr}{td0:Option Addr}{tn0:Nat}{ts0:Array (Option Value)}{tk0_0 tk0_1:Tok}
  {ta1:Addr}{td1:Option Addr}{tn1:Nat}{ts1:Array (Option Value)}{tk1_0 tk1_1:Tok}
  {it0:Tok}
  {x_WishError:Addr}
  {x_NoFraction:Addr}
  {x_NoTable:Addr}
  (xp:PySem.W.specialIn K (.builtin "object.__class__") "__get__"=some (some (.builtin "getset_descriptor.__get__")))(xq:PySem.W.takesIn K (.builtin "object.__class__")=some true)
  (a0:Def K mg "is_whole" (top 7))
  (a1:Def K mg "common_divisor" (top 8))
  (a2:Def K mg "fraction" (top 9))
  (a3:Def K mg "is_fraction" (top 10))
  (a4:Def K mg "plus" (top 11))
  (a5:Def K mg "minus" (top 12))
  (a6:Def K mg "before" (top 13))
  (a7:Def K mg "total" (top 14))
  (a8:Def K mg "least" (top 15))
  (a9:Def K mg "deal_within" (top 36))
  (a10:Def K mg "row_without" (top 37))
  (a11:Def K mg "lots_of" (top 38))
  (a12:Def K mg "is_listing" (top 18))
  (a13:Def K mg "has_people" (top 19))
  (a14:Def K mg "is_share" (top 20))
  (a15:Def K mg "is_share_row" (top 21))
  (a16:Def K mg "table_of" (top 22))
  (a17:Def K mg "changers_of" (top 24))
  (a18:Def K mg "way_back" (top 25))
  (a19:Def K mg "ring_of" (top 26))
  (a20:Def K mg "step_of" (top 27))
  (a21:Def K mg "widest_ring" (top 28))
  (a22:Def K mg "row_behind" (top 29))
  (a23:Def K mg "table_behind" (top 30))
  (a24:Def K mg "is_kept" (top 31))
  (a25:Def K mg "first_kept" (top 32))
  (a26:Def K mg "order_of" (top 33))
  (a27:Def K mg "ring_or_order" (top 34))
  (a28:Def K mg "_law_cell_at" (top 40))
  (a29:Def K mg "_law_mixed" (top 41))
  (a30:Def K mg "_law_divisor" (top 42))
  (a31:Def K mg "_law_lowest" (top 43))
  (a32:Def K mg "_law_plus" (top 44))
  (a33:Def K mg "_law_less" (top 45))
  (a34:Def K mg "_law_whole" (top 46))
  (a35:Def K mg "_law_is_fraction" (top 47))
  (a36:Def K mg "_law_order" (top 48))
  (a37:Def K mg "_law_wishes" (top 49))
  (a38:Def K mg "_law_deals" (top 50))
  (a39:Def K mg "_law_table" (top 51))
  (a40:Def K mg "_law_prefixes" (top 52))
  (a41:Def K mg "_law_no_less" (top 53))
  (a42:Def K mg "_law_is_table" (top 54))
  (a43:Def K mg "_law_order_holds" (top 55))
  (a44:Def K mg "_law_ring_holds" (top 56))
  (a45:Def K mg "_law_lots_hold" (top 58))
  (a46:Def K mg "_law_same" (top 59))
  (a47:Def K mg "_law_better" (top 60))
  (a48:Def K mg "_law_by_turns" (top 61))
  (a49:PySem.W.nsIn K mainGlobals "law"=some (some (.ref f49)))(l49:K.lookup f49=some ⟨oc49,od49,.func (PySem.W.fnOf "law" "law" (defArgs (top 62)) (defBody (top 62)) (defScope (top 62)) .none kV49 dc49 pm49 an49 cd49 ct49),sl49⟩)(c49:PySem.W.codeIn K cd49 "law"=true)(k49:PySem.W.keepIn K (.ref f49)=true)
  (z0:PySem.W.nsIn K mainGlobals "isinstance"=some none)
  (z1:PySem.W.nsIn K mainGlobals "int"=some none)
  (z2:PySem.W.nsIn K mainGlobals "bool"=some none)
  (z3:PySem.W.nsIn K mainGlobals "str"=some none)
  (z4:PySem.W.nsIn K mainGlobals "list"=some none)
  (z5:PySem.W.nsIn K mainGlobals "tuple"=some none)
  (z6:PySem.W.nsIn K mainGlobals "abs"=some none)
  (z7:PySem.W.nsIn K mainGlobals "len"=some none)
  (z8:PySem.W.nsIn K mainGlobals "range"=some none)
  (z9:PySem.W.nsIn K mainGlobals "sorted"=some none)
  (z10:PySem.W.nsIn K mainGlobals "set"=some none)
  (z11:PySem.W.nsIn K mainGlobals "enumerate"=some none)
  (z12:PySem.W.nsIn K mainGlobals "zip"=some none)
  (z13:PySem.W.nsIn K mainGlobals "any"=some none)
  (z14:PySem.W.nsIn K mainGlobals "all"=some none)
  (z15:PySem.W.nsIn K mainGlobals "min"=some none)
  (z16:PySem.W.nsIn K mainGlobals "max"=some none)
  (z17:PySem.W.nsIn K mainGlobals "sum"=some none)
  (ga0:PySem.W.nsIn K mainGlobals "NOTHING"=some (some (.ref ta0)))(gl0:K.lookup ta0=some ⟨.type "tuple",td0,.seq #[Value.int 0 tk0_0,Value.int 1 tk0_1] tn0,ts0⟩)
  (ga1:PySem.W.nsIn K mainGlobals "WHOLE"=some (some (.ref ta1)))(gl1:K.lookup ta1=some ⟨.type "tuple",td1,.seq #[Value.int 1 tk1_0,Value.int 1 tk1_1] tn1,ts1⟩)
  (gi0:PySem.W.nsIn K mainGlobals "MOST_PEOPLE"=some (some (.int 6 it0)))
  (xa_WishError:PySem.W.nsIn K mainGlobals "WishError"=some (some (.ref x_WishError)))(xe_WishError:PySem.W.excIn K x_WishError bmV "ValueError.__new__"=true)
  (xa_NoFraction:PySem.W.nsIn K mainGlobals "NoFraction"=some (some (.ref x_NoFraction)))(xe_NoFraction:PySem.W.excIn K x_NoFraction bmV "ValueError.__new__"=true)
  (xa_NoTable:PySem.W.nsIn K mainGlobals "NoTable"=some (some (.ref x_NoTable)))(xe_NoTable:PySem.W.excIn K x_NoTable bmV "ValueError.__new__"=true)
  (xg_NoTable:PySem.W.findIn K (.ref x_NoTable) "__getattribute__"=some (some (.builtin "BaseException.__getattribute__")))
  (xn_NoTable:PySem.W.findIn K (.ref x_NoTable) "__getattr__"=some none)
  (xc_NoTable:PySem.W.findIn K (.ref x_NoTable) "__class__"=some (some (.builtin "object.__class__")))
  (xo_NoTable:PySem.W.mroIn K x_NoTable (.type "object")=some true)
  (xb_NoTable:PySem.W.mroIn K x_NoTable (.type "BaseException")=some true)(xs_NoTable:PySem.W.mroIn K x_NoTable (.ref x_WishError)=some true)
  :∃fd:FuncData,(∀(s:Shared) (v:Value),BindsTo s fd ⟨[v],[]⟩ [("_law_script",v)])/\∀base:Heap,K.In base->base.Ns mainGlobals mg->FnOk l.prog w K mg base CX0 9 fa fd ["_law_script"] (spLaw K):=by
 have e:=hfa.symm.trans (PySem.W.mg_of X G a49)
 cases e
 have M:Md K mg ⟨x_WishError,x_NoFraction,0,x_NoTable,0,0,0,0,0,0⟩:=⟨a0,
  a1,
  a2,
  a3,
  a4,
  a5,
  a6,
  a7,
  a8,
  a9,
  a10,
  a11,
  a12,
  a13,
  a14,
  a15,
  a16,
  a17,
  a18,
  a19,
  a20,
  a21,
  a22,
  a23,
  a24,
  a25,
  a26,
  a27,
  a28,
  a29,
  a30,
  a31,
  a32,
  a33,
  a34,
  a35,
  a36,
  a37,
  a38,
  a39,
  a40,
  a41,
  a42,
  a43,
  a44,
  a45,
  a46,
  a47,
  a48,
  ⟨_,_,jI (st:=top 62) l49 c49 k49,PySem.W.mg_of X G a49⟩,
  PySem.W.mg_none_of X G z0,
  PySem.W.mg_none_of X G z1,
  PySem.W.mg_none_of X G z2,
  PySem.W.mg_none_of X G z3,
  PySem.W.mg_none_of X G z4,
  PySem.W.mg_none_of X G z5,
  PySem.W.mg_none_of X G z6,
  PySem.W.mg_none_of X G z7,
  PySem.W.mg_none_of X G z8,
  PySem.W.mg_none_of X G z9,
  PySem.W.mg_none_of X G z10,
  PySem.W.mg_none_of X G z11,
  PySem.W.mg_none_of X G z12,
  PySem.W.mg_none_of X G z13,
  PySem.W.mg_none_of X G z14,
  PySem.W.mg_none_of X G z15,
  PySem.W.mg_none_of X G z16,
  PySem.W.mg_none_of X G z17,
  ⟨ta0,PySem.W.mg_of X G ga0,λ_=> .inr ⟨_,_,_,gl0,rfl,rfl,by show 2<=sizeLine;decide,(.cons ⟨_,rfl⟩ (.cons ⟨_,rfl⟩ .nil))⟩⟩,
  ⟨ta1,PySem.W.mg_of X G ga1,λ_=> .inr ⟨_,_,_,gl1,rfl,rfl,by show 2<=sizeLine;decide,(.cons ⟨_,rfl⟩ (.cons ⟨_,rfl⟩ .nil))⟩⟩,
  ⟨_,PySem.W.mg_of X G gi0⟩,
  ⟨PySem.W.mg_of X G xa_WishError,xe_WishError⟩,
  ⟨PySem.W.mg_of X G xa_NoFraction,xe_NoFraction⟩,
  ⟨PySem.W.mg_of X G xa_NoTable,xe_NoTable⟩,
  ⟨xe_NoTable,xg_NoTable,xn_NoTable,xc_NoTable,xo_NoTable,xp,xq,xb_NoTable⟩,
  xs_NoTable⟩
 refine⟨PySem.W.fnOf "law" "law" (defArgs (top 62)) (defBody (top 62)) (defScope (top 62)) .none kV49 dc49 pm49 an49 cd49 ct49,λs v=> .of_eq rfl,λbase _ _=>?_⟩
 have Gis_whole:=d_is_whole (P:=l.prog) (w:=w) (base:=base) M
 have Gcommon_divisor:=d_common_divisor (P:=l.prog) (w:=w) (base:=base) M
 have Gfraction:=d_fraction (P:=l.prog) (w:=w) (base:=base) M Gis_whole Gcommon_divisor
 have Gis_fraction:=d_is_fraction (P:=l.prog) (w:=w) (base:=base) M Gis_whole Gcommon_divisor
 have Gplus:=d_plus (P:=l.prog) (w:=w) (base:=base) M Gfraction
 have Gminus:=d_minus (P:=l.prog) (w:=w) (base:=base) M Gfraction
 have Gbefore:=d_before (P:=l.prog) (w:=w) (base:=base) M
 have Gtotal:=d_total (P:=l.prog) (w:=w) (base:=base) M Gplus
 have Gleast:=d_least (P:=l.prog) (w:=w) (base:=base) M Gbefore
 have W0:=M.f_deal_within.nothing (P:=l.prog) (w:=w) (base:=base) (ps:=["left","begun"]) (λ_ _ _ _ _ _ us hl=>match us,hl with|[_,_],_=>rfl)
 have W1:=d_deal_within (m:=0) M W0
 have W2:=d_deal_within (m:=1) M W1
 have W3:=d_deal_within (m:=2) M W2
 have W4:=d_deal_within (m:=3) M W3
 have W5:=d_deal_within (m:=4) M W4
 have W6:=d_deal_within (m:=5) M W5
 have Gdeal_within:=d_deal_within (m:=6) M W6
 have Grow_without:=d_row_without (P:=l.prog) (w:=w) (base:=base) M Gminus
 have Glots_of:=d_lots_of (P:=l.prog) (w:=w) (base:=base) M Gdeal_within Gleast Grow_without Gplus
 have Gis_listing:=d_is_listing (P:=l.prog) (w:=w) (base:=base) M
 have Ghas_people:=d_has_people (P:=l.prog) (w:=w) (base:=base) M Gis_listing
 have Gis_share:=d_is_share (P:=l.prog) (w:=w) (base:=base) M Gis_fraction Gbefore
 have Gis_share_row:=d_is_share_row (P:=l.prog) (w:=w) (base:=base) M Gis_listing Gis_share
 have Gtable_of:=d_table_of (P:=l.prog) (w:=w) (base:=base) M Ghas_people Gis_share_row (Gtotal.imp λ_ _ _ _=>mD)
 have Gchangers_of:=d_changers_of (P:=l.prog) (w:=w) (base:=base) M Gbefore
 have Gway_back:=d_way_back (P:=l.prog) (w:=w) (base:=base) M
 have Gring_of:=d_ring_of (P:=l.prog) (w:=w) (base:=base) M Gway_back
 have Gstep_of:=d_step_of (P:=l.prog) (w:=w) (base:=base) M Gleast
 have Gwidest_ring:=d_widest_ring (P:=l.prog) (w:=w) (base:=base) M Gring_of Gchangers_of Gstep_of
 have Grow_behind:=d_row_behind (P:=l.prog) (w:=w) (base:=base) M Gminus Gplus
 have Gtable_behind:=d_table_behind (P:=l.prog) (w:=w) (base:=base) M Gstep_of Grow_behind
 have Gis_kept:=d_is_kept (P:=l.prog) (w:=w) (base:=base) M
 have Gfirst_kept:=d_first_kept (P:=l.prog) (w:=w) (base:=base) M Gis_kept
 have Gorder_of:=d_order_of (P:=l.prog) (w:=w) (base:=base) M Gfirst_kept
 have Gring_or_order:=d_ring_or_order (P:=l.prog) (w:=w) (base:=base) M Gwidest_ring Gorder_of Gchangers_of Gtable_behind
 have G_law_cell_at:=d__law_cell_at (P:=l.prog) (w:=w) (base:=base) M
 have G_law_mixed:=d__law_mixed (P:=l.prog) (w:=w) (base:=base) M
 have G_law_divisor:=d__law_divisor (P:=l.prog) (w:=w) (base:=base) M
 have G_law_lowest:=d__law_lowest (P:=l.prog) (w:=w) (base:=base) M G_law_divisor
 have G_law_plus:=d__law_plus (P:=l.prog) (w:=w) (base:=base) M G_law_lowest
 have G_law_less:=d__law_less (P:=l.prog) (w:=w) (base:=base) M
 have G_law_whole:=d__law_whole (P:=l.prog) (w:=w) (base:=base) M
 have G_law_is_fraction:=d__law_is_fraction (P:=l.prog) (w:=w) (base:=base) M G_law_whole G_law_divisor
 have G_law_order:=d__law_order (P:=l.prog) (w:=w) (base:=base) M
 have G_law_wishes:=d__law_wishes (P:=l.prog) (w:=w) (base:=base) M G_law_cell_at G_law_order G_law_mixed
 have G_law_deals:=d__law_deals (P:=l.prog) (w:=w) (base:=base) M
 have G_law_table:=d__law_table (P:=l.prog) (w:=w) (base:=base) M G_law_cell_at G_law_mixed G_law_order G_law_lowest
 have G_law_prefixes:=d__law_prefixes (P:=l.prog) (w:=w) (base:=base) M G_law_plus
 have G_law_no_less:=d__law_no_less (P:=l.prog) (w:=w) (base:=base) M G_law_prefixes G_law_less
 have G_law_is_table:=d__law_is_table (P:=l.prog) (w:=w) (base:=base) M G_law_is_fraction G_law_plus
 have G_law_order_holds:=d__law_order_holds (P:=l.prog) (w:=w) (base:=base) M G_law_whole
 have G_law_ring_holds:=d__law_ring_holds (P:=l.prog) (w:=w) (base:=base) M G_law_whole
 have G_law_lots_hold:=d__law_lots_hold (P:=l.prog) (w:=w) (base:=base) M G_law_is_fraction G_law_whole G_law_plus
 have Y0:=M.f__law_same.nothing (P:=l.prog) (w:=w) (base:=base) (ps:=["_law_found","_law_due"]) (λ_ _ _ _ _ _ us hl=>match us,hl with|[_,_],_=>rfl)
 have Y1:=d__law_same (n:=0) M Y0
 have Y2:=d__law_same (n:=1) M Y1
 have Y3:=d__law_same (n:=2) M Y2
 have G_law_same:=d__law_same (n:=3) M Y3
 have G_law_better:=d__law_better (P:=l.prog) (w:=w) (base:=base) M G_law_is_table G_law_no_less
 have G_law_by_turns:=d__law_by_turns (P:=l.prog) (w:=w) (base:=base) M
 exact d_law (jI (st:=top 62) l49 c49 k49) M G_law_cell_at G_law_wishes G_law_table G_law_deals Gtable_of G_law_same Gring_or_order G_law_ring_holds G_law_better Glots_of G_law_lots_hold G_law_order_holds G_law_by_turns
theorem walk{l:PySem.W.OpenLaw}{q:Program}{loose:List Str}{XP:(Str->Option Value)->Heap->Prop}{YP:World->Heap->Prop}{d:DefRec}{K:Params->PySem.W.Frag}(hn:l.most=some 63)(hdf:d.params.defaults=[])
  (hY:∀(w:World) (h:Heap),YP w h->(K w.params).In h)
  (F:∀(w:World) (mg:Str->Option Value) (fa:Addr) (h:Heap),(K w.params).In h->h.Ns mainGlobals mg->mg d.name=some (.ref fa)->
   ∃fd:FuncData,(∀(s:Shared) (u:Value),BindsTo s fd ⟨[u],[]⟩ [("_law_script",u)])/\∀base:Heap,(K w.params).In base->base.Ns mainGlobals mg->FnOk l.prog w (K w.params) mg base CX0 9 fa fd ["_law_script"] (spLaw (K w.params))):
  PySem.W.WalkO q loose XP YP l.row.toRowW d [] (λf vs=>PySem.call f vs):=
 L2.walk_of (n:=63) (k:=9) (x:="_law_script") (CX:=λ_=>CX0) (sp:=λw=>spLaw (K w.params)) hn (by decide) hdf ⟨rfl,by decide,by decide⟩ hY F (λ_ _ a ns hl _ hS=>⟨a,ns,rfl,hS,hl,λ_=>rfl⟩) λ_ _ _ _ _ z=>z
open PySem.W
def vs(x:String)(n:Nat):Value:= .str (.ofString x) n
def i(n:Nat):Value:= .int n 0
def en(P:Params)(x:String)(n:Nat)(v:Value):DictEntry:={hash:=PyData.keyHash P (.ofString x),key:=vs x n,val:=v}
def di(l:List DictEntry)(n:Nat):Obj:={cls:= .type "dict",data:= .dict l.toArray n}
def tu(l:List Value):Obj:={cls:= .type "tuple",data:= .seq l.toArray}
def nf(l:List Value):Obj:={cls:= .none,data:= .fields l.toArray}
def ft(k:Nat)(x:String):Obj:={cls:= .none,data:= .func {name:= .ofString x,qualname:= .ofString x,params:=defArgs (top k),body:= .stmts (defBody (top k)),scope:=defScope (top k),globals:=0,closure:=[],defaults:= .none,kwdefaults:= .none}}
def fo(k:Nat)(x m:String)(t c:Nat):Obj:={cls:= .type "function",data:= .func {name:= .ofString x,qualname:= .ofString x,params:=defArgs (top k),body:= .stmts (defBody (top k)),scope:=defScope (top k),globals:=3,closure:=[],defaults:= .none,kwdefaults:= .none,pyModule:=vs m t,code:= .ref c}}
def co(x:String)(a b c:Nat)(r:List Value)(z:Nat):Obj:={cls:= .type "code",data:= .fields (vs x a::vs x b::vs "/claim/cut.py" c::(r++[vs "/claim/cut.py" z])).toArray}
def ents(P:Params):List DictEntry:=[en P "__name__" 165 (vs "law_wishlots_k62_whole_any_table" 491),en P "__doc__" 166 (.none),en P "__package__" 167 (.none),en P "__loader__" 168 (.builtin "__main__.__loader__#opaque"),en P "__spec__" 169 (.none),en P "__annotations__" 170 (.ref 6),en P "__builtins__" 171 (.ref 4),en P "__file__" 173 (vs "/claim/cut.py" 172),en P "__cached__" 174 (.none),en P "WishError" 206 (.ref 24),en P "NoFraction" 222 (.ref 37),en P "NoTable" 238 (.ref 49),en P "NOTHING" 243 (.ref 52),en P "WHOLE" 246 (.ref 53),en P "is_whole" 253 (.ref 60),en P "common_divisor" 264 (.ref 67),en P "fraction" 273 (.ref 74),en P "is_fraction" 280 (.ref 81),en P "plus" 288 (.ref 88),en P "minus" 296 (.ref 95),en P "before" 304 (.ref 102),en P "total" 313 (.ref 109),en P "least" 322 (.ref 116),en P "MOST_PEOPLE" 326 (.int 6 325),en P "is_listing" 333 (.ref 123),en P "has_people" 340 (.ref 130),en P "is_share" 347 (.ref 137),en P "is_share_row" 353 (.ref 142),en P "table_of" 359 (.ref 147),en P "changers_of" 376 (.ref 154),en P "way_back" 389 (.ref 161),en P "ring_of" 395 (.ref 166),en P "step_of" 401 (.ref 171),en P "widest_ring" 411 (.ref 178),en P "row_behind" 422 (.ref 185),en P "table_behind" 428 (.ref 190),en P "is_kept" 434 (.ref 195),en P "first_kept" 440 (.ref 200),en P "order_of" 451 (.ref 207),en P "ring_or_order" 460 (.ref 214),en P "deal_within" 474 (.ref 221),en P "row_without" 484 (.ref 228),en P "lots_of" 490 (.ref 233),en P "_law_cell_at" 500 (.ref 240),en P "_law_mixed" 509 (.ref 247),en P "_law_divisor" 517 (.ref 254),en P "_law_lowest" 526 (.ref 261),en P "_law_plus" 534 (.ref 268),en P "_law_less" 542 (.ref 275),en P "_law_whole" 549 (.ref 282),en P "_law_is_fraction" 556 (.ref 289),en P "_law_order" 567 (.ref 296),en P "_law_wishes" 579 (.ref 303),en P "_law_deals" 586 (.ref 310),en P "_law_table" 592 (.ref 315),en P "_law_prefixes" 603 (.ref 322),en P "_law_no_less" 614 (.ref 329),en P "_law_is_table" 628 (.ref 336),en P "_law_order_holds" 634 (.ref 341),en P "_law_ring_holds" 640 (.ref 346),en P "_law_changed" 646 (.ref 351),en P "_law_lots_hold" 652 (.ref 356),en P "_law_same" 661 (.ref 363),en P "_law_better" 667 (.ref 368),en P "_law_by_turns" 673 (.ref 373),en P "law" 679 (.ref 378)]
def cds:List Value:=[i 2,i 0,.ref 20,i 4,i 0,.ref 33,i 6,i 0,.ref 45,i 11,i 0,.ref 59,i 13,i 0,.ref 66,i 21,i 0,.ref 73,i 28,i 0,.ref 80,i 34,i 0,.ref 87,i 36,i 0,.ref 94,i 38,i 0,.ref 101,i 40,i 0,.ref 108,i 45,i 0,.ref 115,i 53,i 0,.ref 122,i 55,i 0,.ref 129,i 57,i 0,.ref 136,i 59,i 0,.ref 141,i 61,i 0,.ref 146,i 74,i 0,.ref 153,i 82,i 0,.ref 160,i 94,i 0,.ref 165,i 102,i 0,.ref 170,i 104,i 0,.ref 177,i 111,i 0,.ref 184,i 116,i 0,.ref 189,i 122,i 0,.ref 194,i 124,i 0,.ref 199,i 126,i 0,.ref 206,i 134,i 0,.ref 213,i 140,i 0,.ref 220,i 150,i 0,.ref 227,i 154,i 0,.ref 232,i 166,i 0,.ref 239,i 170,i 0,.ref 246,i 174,i 0,.ref 253,i 178,i 0,.ref 260,i 181,i 0,.ref 267,i 183,i 0,.ref 274,i 185,i 0,.ref 281,i 187,i 0,.ref 288,i 191,i 0,.ref 295,i 198,i 0,.ref 302,i 207,i 0,.ref 309,i 211,i 0,.ref 314,i 224,i 0,.ref 321,i 231,i 0,.ref 328,i 236,i 0,.ref 335,i 254,i 0,.ref 340,i 266,i 0,.ref 345,i 281,i 0,.ref 350,i 291,i 0,.ref 355,i 310,i 0,.ref 362,i 327,i 0,.ref 367,i 339,i 0,.ref 372,i 349,i 0,.ref 377]
noncomputable def obs(P:Params):List Obj:=(boot_heap P).objs.toList++[tu [],
 nf [],
 co "<module>" 182 183 184 [i 1,i 0,i 0,i 0,i 0,.ref 11,.bool false,i 181,.ref 12,.none,.none,.none,.none,i 185,i 1] 186,
 {cls:= .type "frame",slots:= #[some (.ref 13),some (.ref 3),some (.ref 3),none,some (vs "__main__" 164),none,some (.ref 0)]},
 tu [.type "ValueError"],
 {cls:= .type "builtin_function_or_method",data:= .fields #[.builtin "type.__prepare__",.type "type"]},
 di [en P "__module__" 196 (vs "wishlots.errors" 187),en P "__qualname__" 198 (vs "WishError" 197),en P "__firstlineno__" 200 (.int 2 199),en P "__static_attributes__" 201 (.ref 22)] 4,
 tu [],
 nf [],
 co "WishError" 191 192 193 [i 2,i 0,i 0,i 0,i 0,.ref 18,.bool false,i 181,.ref 19,.none,.none,.none,.none,i 194,i 2] 195,
 {cls:= .type "frame",slots:= #[some (.ref 20),some (.ref 3),some (.ref 17),none,some (vs "wishlots.errors" 187),none,some (.ref 0)]},
 tu [],
 di [en P "__module__" 196 (vs "wishlots.errors" 187),en P "__firstlineno__" 200 (.int 2 199),en P "__static_attributes__" 201 (.ref 22),en P "__weakref__" 203 (.ref 25),en P "__doc__" 204 (.none)] 3,
 {cls:= .type "type",data:= .cls {name:="WishError",bases:=[.type "ValueError"],mro:=[.ref 24,.type "ValueError",.type "Exception",.type "BaseException",.type "object"],ns:=23,qualname:="WishError",subclasses:=[.ref 37,.ref 49]},slots:= #[some (.ref 15),none,some (vs "WishError" 189),some (vs "WishError" 197),some (.builtin "ValueError.__new__"),some (.bool true)]},
 {cls:= .type "getset_descriptor",data:= .fields #[vs "__weakref__" 202,.ref 24,.builtin "ExceptionGroup.__weakref__",.none]},
 {cls:= .type "super",data:= .fields #[.ref 24,.ref 24,.ref 24]},
 {cls:= .type "builtin_function_or_method",data:= .fields #[.builtin "object.__init_subclass__",.ref 24]},
 tu [.ref 24],
 {cls:= .type "builtin_function_or_method",data:= .fields #[.builtin "type.__prepare__",.type "type"]},
 di [en P "__module__" 214 (vs "wishlots.errors" 187),en P "__qualname__" 216 (vs "NoFraction" 215),en P "__firstlineno__" 218 (.int 4 217),en P "__static_attributes__" 219 (.ref 35)] 4,
 tu [],
 nf [],
 co "NoFraction" 209 210 211 [i 4,i 0,i 0,i 0,i 0,.ref 31,.bool false,i 181,.ref 32,.none,.none,.none,.none,i 212,i 4] 213,
 {cls:= .type "frame",slots:= #[some (.ref 33),some (.ref 3),some (.ref 30),none,some (vs "wishlots.errors" 187),none,some (.ref 0)]},
 tu [],
 di [en P "__module__" 214 (vs "wishlots.errors" 187),en P "__firstlineno__" 218 (.int 4 217),en P "__static_attributes__" 219 (.ref 35),en P "__doc__" 220 (.none)] 2,
 {cls:= .type "type",data:= .cls {name:="NoFraction",bases:=[.ref 24],mro:=[.ref 37,.ref 24,.type "ValueError",.type "Exception",.type "BaseException",.type "object"],ns:=36,qualname:="NoFraction"},slots:= #[some (.ref 28),none,some (vs "NoFraction" 207),some (vs "NoFraction" 215),some (.builtin "ValueError.__new__"),some (.bool true)]},
 {cls:= .type "super",data:= .fields #[.ref 37,.ref 37,.ref 37]},
 {cls:= .type "builtin_function_or_method",data:= .fields #[.builtin "object.__init_subclass__",.ref 37]},
 tu [.ref 24],
 {cls:= .type "builtin_function_or_method",data:= .fields #[.builtin "type.__prepare__",.type "type"]},
 di [en P "__module__" 230 (vs "wishlots.errors" 187),en P "__qualname__" 232 (vs "NoTable" 231),en P "__firstlineno__" 234 (.int 6 233),en P "__static_attributes__" 235 (.ref 47)] 4,
 tu [],
 nf [],
 co "NoTable" 225 226 227 [i 6,i 0,i 0,i 0,i 0,.ref 43,.bool false,i 181,.ref 44,.none,.none,.none,.none,i 228,i 6] 229,
 {cls:= .type "frame",slots:= #[some (.ref 45),some (.ref 3),some (.ref 42),none,some (vs "wishlots.errors" 187),none,some (.ref 0)]},
 tu [],
 di [en P "__module__" 230 (vs "wishlots.errors" 187),en P "__firstlineno__" 234 (.int 6 233),en P "__static_attributes__" 235 (.ref 47),en P "__doc__" 236 (.none)] 2,
 {cls:= .type "type",data:= .cls {name:="NoTable",bases:=[.ref 24],mro:=[.ref 49,.ref 24,.type "ValueError",.type "Exception",.type "BaseException",.type "object"],ns:=48,qualname:="NoTable"},slots:= #[some (.ref 40),none,some (vs "NoTable" 223),some (vs "NoTable" 231),some (.builtin "ValueError.__new__"),some (.bool true)]},
 {cls:= .type "super",data:= .fields #[.ref 49,.ref 49,.ref 49]},
 {cls:= .type "builtin_function_or_method",data:= .fields #[.builtin "object.__init_subclass__",.ref 49]},
 tu [.int 0 241,.int 1 242],
 tu [.int 1 244,.int 1 245],
 tu [],
 nf [],
 tu [vs "value" 250],
 tu [],
 ft 7 "is_whole",
 co "is_whole" 247 248 249 [i 11,i 1,i 0,i 0,i 3,.ref 54,.bool true,i 181,.ref 55,.none,.ref 56,.ref 57,.ref 58,i 251,i 11] 252,
 fo 7 "is_whole" "wishlots.fractions" 239 59,
 tu [],
 nf [],
 tu [vs "one" 257,vs "two" 258,vs "greater" 259,vs "smaller" 260,vs "rest" 261],
 tu [],
 ft 8 "common_divisor",
 co "common_divisor" 254 255 256 [i 13,i 2,i 0,i 0,i 3,.ref 61,.bool true,i 181,.ref 62,.none,.ref 63,.ref 64,.ref 65,i 262,i 13] 263,
 fo 8 "common_divisor" "wishlots.fractions" 239 66,
 tu [],
 nf [],
 tu [vs "top" 268,vs "bottom" 269,vs "divisor" 270],
 tu [],
 ft 9 "fraction",
 co "fraction" 265 266 267 [i 21,i 2,i 0,i 0,i 3,.ref 68,.bool true,i 181,.ref 69,.none,.ref 70,.ref 71,.ref 72,i 271,i 21] 272,
 fo 9 "fraction" "wishlots.fractions" 239 73,
 tu [],
 nf [],
 tu [vs "value" 277],
 tu [],
 ft 10 "is_fraction",
 co "is_fraction" 274 275 276 [i 28,i 1,i 0,i 0,i 3,.ref 75,.bool true,i 181,.ref 76,.none,.ref 77,.ref 78,.ref 79,i 278,i 28] 279,
 fo 10 "is_fraction" "wishlots.fractions" 239 80,
 tu [],
 nf [],
 tu [vs "one" 284,vs "two" 285],
 tu [],
 ft 11 "plus",
 co "plus" 281 282 283 [i 34,i 2,i 0,i 0,i 3,.ref 82,.bool true,i 181,.ref 83,.none,.ref 84,.ref 85,.ref 86,i 286,i 34] 287,
 fo 11 "plus" "wishlots.fractions" 239 87,
 tu [],
 nf [],
 tu [vs "one" 292,vs "two" 293],
 tu [],
 ft 12 "minus",
 co "minus" 289 290 291 [i 36,i 2,i 0,i 0,i 3,.ref 89,.bool true,i 181,.ref 90,.none,.ref 91,.ref 92,.ref 93,i 294,i 36] 295,
 fo 12 "minus" "wishlots.fractions" 239 94,
 tu [],
 nf [],
 tu [vs "one" 300,vs "two" 301],
 tu [],
 ft 13 "before",
 co "before" 297 298 299 [i 38,i 2,i 0,i 0,i 3,.ref 96,.bool true,i 181,.ref 97,.none,.ref 98,.ref 99,.ref 100,i 302,i 38] 303,
 fo 13 "before" "wishlots.fractions" 239 101,
 tu [],
 nf [],
 tu [vs "parts" 308,vs "so_far" 309,vs "part" 310],
 tu [],
 ft 14 "total",
 co "total" 305 306 307 [i 40,i 1,i 0,i 0,i 3,.ref 103,.bool true,i 181,.ref 104,.none,.ref 105,.ref 106,.ref 107,i 311,i 40] 312,
 fo 14 "total" "wishlots.fractions" 239 108,
 tu [],
 nf [],
 tu [vs "parts" 317,vs "smallest" 318,vs "part" 319],
 tu [],
 ft 15 "least",
 co "least" 314 315 316 [i 45,i 1,i 0,i 0,i 3,.ref 110,.bool true,i 181,.ref 111,.none,.ref 112,.ref 113,.ref 114,i 320,i 45] 321,
 fo 15 "least" "wishlots.fractions" 239 115,
 tu [],
 nf [],
 tu [vs "value" 330],
 tu [],
 ft 18 "is_listing",
 co "is_listing" 327 328 329 [i 53,i 1,i 0,i 0,i 3,.ref 117,.bool true,i 181,.ref 118,.none,.ref 119,.ref 120,.ref 121,i 331,i 53] 332,
 fo 18 "is_listing" "wishlots.tables" 323 122,
 tu [],
 nf [],
 tu [vs "rows" 337],
 tu [],
 ft 19 "has_people",
 co "has_people" 334 335 336 [i 55,i 1,i 0,i 0,i 3,.ref 124,.bool true,i 181,.ref 125,.none,.ref 126,.ref 127,.ref 128,i 338,i 55] 339,
 fo 19 "has_people" "wishlots.tables" 323 129,
 tu [],
 nf [],
 tu [vs "value" 344],
 tu [],
 ft 20 "is_share",
 co "is_share" 341 342 343 [i 57,i 1,i 0,i 0,i 3,.ref 131,.bool true,i 181,.ref 132,.none,.ref 133,.ref 134,.ref 135,i 345,i 57] 346,
 fo 20 "is_share" "wishlots.tables" 323 136,
 tu [],
 nf [],
 ft 21 "is_share_row",
 co "is_share_row" 348 349 350 [i 59,i 2,i 0,i 0,i 3,.ref 138,.bool true,i 181,.ref 139,.none,.none,.none,.ref 140,i 351,i 59] 352,
 fo 21 "is_share_row" "wishlots.tables" 323 141,
 tu [],
 nf [],
 ft 22 "table_of",
 co "table_of" 354 355 356 [i 61,i 1,i 0,i 0,i 3,.ref 143,.bool true,i 181,.ref 144,.none,.none,.none,.ref 145,i 357,i 61] 358,
 fo 22 "table_of" "wishlots.tables" 323 146,
 tu [],
 nf [],
 tu [vs "wishes" 365,vs "table" 366,vs "floor" 367,vs "changers" 368,vs "person" 369,vs "wish" 370,vs "place" 371,vs "given" 372,vs "taken" 373],
 tu [],
 ft 24 "changers_of",
 co "changers_of" 362 363 364 [i 74,i 3,i 0,i 0,i 3,.ref 148,.bool true,i 181,.ref 149,.none,.ref 150,.ref 151,.ref 152,i 374,i 74] 375,
 fo 24 "changers_of" "wishlots.looks" 360 153,
 tu [],
 nf [],
 tu [vs "changers" 380,vs "start" 381,vs "count" 382,vs "ways" 383,vs "reached" 384,vs "way" 385,vs "given" 386],
 tu [],
 ft 25 "way_back",
 co "way_back" 377 378 379 [i 82,i 3,i 0,i 0,i 3,.ref 155,.bool true,i 181,.ref 156,.none,.ref 157,.ref 158,.ref 159,i 387,i 82] 388,
 fo 25 "way_back" "wishlots.looks" 360 160,
 tu [],
 nf [],
 ft 26 "ring_of",
 co "ring_of" 390 391 392 [i 94,i 2,i 0,i 0,i 3,.ref 162,.bool true,i 181,.ref 163,.none,.none,.none,.ref 164,i 393,i 94] 394,
 fo 26 "ring_of" "wishlots.looks" 360 165,
 tu [],
 nf [],
 ft 27 "step_of",
 co "step_of" 396 397 398 [i 102,i 2,i 0,i 0,i 3,.ref 167,.bool true,i 181,.ref 168,.none,.none,.none,.ref 169,i 399,i 102] 400,
 fo 27 "step_of" "wishlots.looks" 360 170,
 tu [],
 nf [],
 tu [vs "wishes" 405,vs "table" 406,vs "ring" 407,vs "wider" 408],
 tu [],
 ft 28 "widest_ring",
 co "widest_ring" 402 403 404 [i 104,i 2,i 0,i 0,i 3,.ref 172,.bool true,i 181,.ref 173,.none,.ref 174,.ref 175,.ref 176,i 409,i 104] 410,
 fo 28 "widest_ring" "wishlots.looks" 360 177,
 tu [],
 nf [],
 tu [vs "shares" 415,vs "given" 416,vs "taken" 417,vs "step" 418,vs "row" 419],
 tu [],
 ft 29 "row_behind",
 co "row_behind" 412 413 414 [i 111,i 4,i 0,i 0,i 3,.ref 179,.bool true,i 181,.ref 180,.none,.ref 181,.ref 182,.ref 183,i 420,i 111] 421,
 fo 29 "row_behind" "wishlots.looks" 360 184,
 tu [],
 nf [],
 ft 30 "table_behind",
 co "table_behind" 423 424 425 [i 116,i 2,i 0,i 0,i 3,.ref 186,.bool true,i 181,.ref 187,.none,.none,.none,.ref 188,i 426,i 116] 427,
 fo 30 "table_behind" "wishlots.looks" 360 189,
 tu [],
 nf [],
 ft 31 "is_kept",
 co "is_kept" 429 430 431 [i 122,i 3,i 0,i 0,i 3,.ref 191,.bool true,i 181,.ref 192,.none,.none,.none,.ref 193,i 432,i 122] 433,
 fo 31 "is_kept" "wishlots.looks" 360 194,
 tu [],
 nf [],
 ft 32 "first_kept",
 co "first_kept" 435 436 437 [i 124,i 2,i 0,i 0,i 3,.ref 196,.bool true,i 181,.ref 197,.none,.none,.none,.ref 198,i 438,i 124] 439,
 fo 32 "first_kept" "wishlots.looks" 360 199,
 tu [],
 nf [],
 tu [vs "changers" 444,vs "count" 445,vs "things" 446,vs "order" 447,vs "thing" 448],
 tu [],
 ft 33 "order_of",
 co "order_of" 441 442 443 [i 126,i 2,i 0,i 0,i 3,.ref 201,.bool true,i 181,.ref 202,.none,.ref 203,.ref 204,.ref 205,i 449,i 126] 450,
 fo 33 "order_of" "wishlots.looks" 360 206,
 tu [],
 nf [],
 tu [vs "wishes" 455,vs "table" 456,vs "ring" 457],
 tu [],
 ft 34 "ring_or_order",
 co "ring_or_order" 452 453 454 [i 134,i 2,i 0,i 0,i 3,.ref 208,.bool true,i 181,.ref 209,.none,.ref 210,.ref 211,.ref 212,i 458,i 134] 459,
 fo 34 "ring_or_order" "wishlots.looks" 360 213,
 tu [],
 nf [],
 tu [vs "left" 466,vs "begun" 467,vs "person" 468,vs "thing" 469,vs "part" 470,vs "deal" 471],
 tu [],
 ft 36 "deal_within",
 co "deal_within" 463 464 465 [i 140,i 2,i 0,i 0,i 3,.ref 215,.bool true,i 181,.ref 216,.none,.ref 217,.ref 218,.ref 219,i 472,i 140] 473,
 fo 36 "deal_within" "wishlots.lots" 461 220,
 tu [],
 nf [],
 tu [vs "row" 478,vs "thing" 479,vs "weight" 480,vs "rest" 481],
 tu [],
 ft 37 "row_without",
 co "row_without" 475 476 477 [i 150,i 3,i 0,i 0,i 3,.ref 222,.bool true,i 181,.ref 223,.none,.ref 224,.ref 225,.ref 226,i 482,i 150] 483,
 fo 37 "row_without" "wishlots.lots" 461 227,
 tu [],
 nf [],
 ft 38 "lots_of",
 co "lots_of" 485 486 487 [i 154,i 1,i 0,i 0,i 3,.ref 229,.bool true,i 181,.ref 230,.none,.none,.none,.ref 231,i 488,i 154] 489,
 fo 38 "lots_of" "wishlots.lots" 461 232,
 tu [],
 nf [],
 tu [vs "_law_script" 496,vs "_law_k" 497],
 tu [],
 ft 40 "_law_cell_at",
 co "_law_cell_at" 493 494 495 [i 166,i 2,i 0,i 0,i 3,.ref 234,.bool true,i 181,.ref 235,.none,.ref 236,.ref 237,.ref 238,i 498,i 166] 499,
 fo 40 "_law_cell_at" "law_wishlots_k62_whole_any_table" 491 239,
 tu [],
 nf [],
 tu [vs "_law_cell" 504,vs "_law_place" 505,vs "_law_number" 506],
 tu [],
 ft 41 "_law_mixed",
 co "_law_mixed" 501 502 503 [i 170,i 2,i 0,i 0,i 3,.ref 241,.bool true,i 181,.ref 242,.none,.ref 243,.ref 244,.ref 245,i 507,i 170] 508,
 fo 41 "_law_mixed" "law_wishlots_k62_whole_any_table" 491 246,
 tu [],
 nf [],
 tu [vs "_law_one" 513,vs "_law_two" 514],
 tu [],
 ft 42 "_law_divisor",
 co "_law_divisor" 510 511 512 [i 174,i 2,i 0,i 0,i 3,.ref 248,.bool true,i 181,.ref 249,.none,.ref 250,.ref 251,.ref 252,i 515,i 174] 516,
 fo 42 "_law_divisor" "law_wishlots_k62_whole_any_table" 491 253,
 tu [],
 nf [],
 tu [vs "_law_top" 521,vs "_law_bottom" 522,vs "_law_by" 523],
 tu [],
 ft 43 "_law_lowest",
 co "_law_lowest" 518 519 520 [i 178,i 2,i 0,i 0,i 3,.ref 255,.bool true,i 181,.ref 256,.none,.ref 257,.ref 258,.ref 259,i 524,i 178] 525,
 fo 43 "_law_lowest" "law_wishlots_k62_whole_any_table" 491 260,
 tu [],
 nf [],
 tu [vs "_law_one" 530,vs "_law_two" 531],
 tu [],
 ft 44 "_law_plus",
 co "_law_plus" 527 528 529 [i 181,i 2,i 0,i 0,i 3,.ref 262,.bool true,i 181,.ref 263,.none,.ref 264,.ref 265,.ref 266,i 532,i 181] 533,
 fo 44 "_law_plus" "law_wishlots_k62_whole_any_table" 491 267,
 tu [],
 nf [],
 tu [vs "_law_one" 538,vs "_law_two" 539],
 tu [],
 ft 45 "_law_less",
 co "_law_less" 535 536 537 [i 183,i 2,i 0,i 0,i 3,.ref 269,.bool true,i 181,.ref 270,.none,.ref 271,.ref 272,.ref 273,i 540,i 183] 541,
 fo 45 "_law_less" "law_wishlots_k62_whole_any_table" 491 274,
 tu [],
 nf [],
 tu [vs "_law_found" 546],
 tu [],
 ft 46 "_law_whole",
 co "_law_whole" 543 544 545 [i 185,i 1,i 0,i 0,i 3,.ref 276,.bool true,i 181,.ref 277,.none,.ref 278,.ref 279,.ref 280,i 547,i 185] 548,
 fo 46 "_law_whole" "law_wishlots_k62_whole_any_table" 491 281,
 tu [],
 nf [],
 tu [vs "_law_found" 553],
 tu [],
 ft 47 "_law_is_fraction",
 co "_law_is_fraction" 550 551 552 [i 187,i 1,i 0,i 0,i 3,.ref 283,.bool true,i 181,.ref 284,.none,.ref 285,.ref 286,.ref 287,i 554,i 187] 555,
 fo 47 "_law_is_fraction" "law_wishlots_k62_whole_any_table" 491 288,
 tu [],
 nf [],
 tu [vs "_law_number" 560,vs "_law_count" 561,vs "_law_left" 562,vs "_law_found" 563,vs "_law_k" 564],
 tu [],
 ft 48 "_law_order",
 co "_law_order" 557 558 559 [i 191,i 2,i 0,i 0,i 3,.ref 290,.bool true,i 181,.ref 291,.none,.ref 292,.ref 293,.ref 294,i 565,i 191] 566,
 fo 48 "_law_order" "law_wishlots_k62_whole_any_table" 491 295,
 tu [],
 nf [],
 tu [vs "_law_script" 571,vs "_law_at" 572,vs "_law_count" 573,vs "_law_found" 574,vs "_law_person" 575,vs "_law_cell" 576],
 tu [],
 ft 49 "_law_wishes",
 co "_law_wishes" 568 569 570 [i 198,i 3,i 0,i 0,i 3,.ref 297,.bool true,i 181,.ref 298,.none,.ref 299,.ref 300,.ref 301,i 577,i 198] 578,
 fo 49 "_law_wishes" "law_wishlots_k62_whole_any_table" 491 302,
 tu [],
 nf [],
 tu [vs "_law_first" 583],
 tu [],
 ft 50 "_law_deals",
 co "_law_deals" 580 581 582 [i 207,i 1,i 0,i 0,i 3,.ref 304,.bool true,i 181,.ref 305,.none,.ref 306,.ref 307,.ref 308,i 584,i 207] 585,
 fo 50 "_law_deals" "law_wishlots_k62_whole_any_table" 491 309,
 tu [],
 nf [],
 ft 51 "_law_table",
 co "_law_table" 587 588 589 [i 211,i 4,i 0,i 0,i 3,.ref 311,.bool true,i 181,.ref 312,.none,.none,.none,.ref 313,i 590,i 211] 591,
 fo 51 "_law_table" "law_wishlots_k62_whole_any_table" 491 314,
 tu [],
 nf [],
 tu [vs "_law_wish" 596,vs "_law_shares" 597,vs "_law_found" 598,vs "_law_upto" 599,vs "_law_thing" 600],
 tu [],
 ft 52 "_law_prefixes",
 co "_law_prefixes" 593 594 595 [i 224,i 2,i 0,i 0,i 3,.ref 316,.bool true,i 181,.ref 317,.none,.ref 318,.ref 319,.ref 320,i 601,i 224] 602,
 fo 52 "_law_prefixes" "law_wishlots_k62_whole_any_table" 491 321,
 tu [],
 nf [],
 tu [vs "_law_wish" 607,vs "_law_shares" 608,vs "_law_others" 609,vs "_law_one" 610,vs "_law_two" 611],
 tu [],
 ft 53 "_law_no_less",
 co "_law_no_less" 604 605 606 [i 231,i 3,i 0,i 0,i 3,.ref 323,.bool true,i 181,.ref 324,.none,.ref 325,.ref 326,.ref 327,i 612,i 231] 613,
 fo 53 "_law_no_less" "law_wishlots_k62_whole_any_table" 491 328,
 tu [],
 nf [],
 tu [vs "_law_found" 618,vs "_law_count" 619,vs "_law_row" 620,vs "_law_share" 621,vs "_law_k" 622,vs "_law_here" 623,vs "_law_there" 624,vs "_law_j" 625],
 tu [],
 ft 54 "_law_is_table",
 co "_law_is_table" 615 616 617 [i 236,i 2,i 0,i 0,i 3,.ref 330,.bool true,i 181,.ref 331,.none,.ref 332,.ref 333,.ref 334,i 626,i 236] 627,
 fo 54 "_law_is_table" "law_wishlots_k62_whole_any_table" 491 335,
 tu [],
 nf [],
 ft 55 "_law_order_holds",
 co "_law_order_holds" 629 630 631 [i 254,i 3,i 0,i 0,i 3,.ref 337,.bool true,i 181,.ref 338,.none,.none,.none,.ref 339,i 632,i 254] 633,
 fo 55 "_law_order_holds" "law_wishlots_k62_whole_any_table" 491 340,
 tu [],
 nf [],
 ft 56 "_law_ring_holds",
 co "_law_ring_holds" 635 636 637 [i 266,i 3,i 0,i 0,i 3,.ref 342,.bool true,i 181,.ref 343,.none,.none,.none,.ref 344,i 638,i 266] 639,
 fo 56 "_law_ring_holds" "law_wishlots_k62_whole_any_table" 491 345,
 tu [],
 nf [],
 ft 57 "_law_changed",
 co "_law_changed" 641 642 643 [i 281,i 2,i 0,i 0,i 3,.ref 347,.bool true,i 181,.ref 348,.none,.none,.none,.ref 349,i 644,i 281] 645,
 fo 57 "_law_changed" "law_wishlots_k62_whole_any_table" 491 350,
 tu [],
 nf [],
 ft 58 "_law_lots_hold",
 co "_law_lots_hold" 647 648 649 [i 291,i 2,i 0,i 0,i 3,.ref 352,.bool true,i 181,.ref 353,.none,.none,.none,.ref 354,i 650,i 291] 651,
 fo 58 "_law_lots_hold" "law_wishlots_k62_whole_any_table" 491 355,
 tu [],
 nf [],
 tu [vs "_law_found" 656,vs "_law_due" 657,vs "_law_k" 658],
 tu [],
 ft 59 "_law_same",
 co "_law_same" 653 654 655 [i 310,i 2,i 0,i 0,i 3,.ref 357,.bool true,i 181,.ref 358,.none,.ref 359,.ref 360,.ref 361,i 659,i 310] 660,
 fo 59 "_law_same" "law_wishlots_k62_whole_any_table" 491 362,
 tu [],
 nf [],
 ft 60 "_law_better",
 co "_law_better" 662 663 664 [i 327,i 4,i 0,i 0,i 3,.ref 364,.bool true,i 181,.ref 365,.none,.none,.none,.ref 366,i 665,i 327] 666,
 fo 60 "_law_better" "law_wishlots_k62_whole_any_table" 491 367,
 tu [],
 nf [],
 ft 61 "_law_by_turns",
 co "_law_by_turns" 668 669 670 [i 339,i 2,i 0,i 0,i 3,.ref 369,.bool true,i 181,.ref 370,.none,.none,.none,.ref 371,i 671,i 339] 672,
 fo 61 "_law_by_turns" "law_wishlots_k62_whole_any_table" 491 372,
 tu [],
 nf [],
 ft 62 "law",
 co "law" 674 675 676 [i 349,i 1,i 0,i 0,i 3,.ref 374,.bool true,i 181,.ref 375,.none,.none,.none,.ref 376,i 677,i 349] 678,
 fo 62 "law" "law_wishlots_k62_whole_any_table" 491 377]
noncomputable def hp(m f e:Nat)(x:Value)(P:Params):Heap:={objs:=((((obs P).take m).set 3 (di (en P "__name__" 165 x::(ents P).tail.take e) (e+1))).set 12 (nf (cds.take f))).toArray}
noncomputable def all(P:Params):List Obj:=(obs P).set 3 (di (ents P) 66)
def as0:List Addr:=[3,23,24,25,36,37,48,49,52,53,59,60,66,67,73,74,80,81,87,88,94,95,101,102,108,109,115,116,122,123,129,130,136,137,141,142,146,147,153,154,160,161,165,166,170,171,177,178,184,185,189,190,194,195,199,200,206,207,213,214,220,221,227,228,232,233,239,240,246,247,253,254,260,261,267,268,274,275,281,282,288,289,295,296,302,303,309,310,314,315,321,322,328,329,335,336,340,341,345,346,350,351,355,356,362,363,367,368,372,373,377,378]
noncomputable def K0(P:Params):PySem.W.Frag:=as0.map λa=>(a,(all P).getD a default)
theorem mC:∀P,as0=(K0 P).map (·.1):=λ_=>rfl
noncomputable abbrev hk:Hook:=kHook K0 as0 mC
def vw:Program:={PySem.Challenge.pw_wishlots_k62_whole_any_table with main:={PySem.Challenge.pw_wishlots_k62_whole_any_table.main with body:=[top 1,top 2,top 3,top 5,top 6,top 7,top 8,top 9,top 10,top 11,top 12,top 13,top 14,top 15,top 17,top 18,top 19,top 20,top 21,top 22,top 24,top 25,top 26,top 27,top 28,top 29,top 30,top 31,top 32,top 33,top 34,top 36,top 37,top 38,top 40,top 41,top 42,top 43,top 44,top 45,top 46,top 47,top 48,top 49,top 50,top 51,top 52,top 53,top 54,top 55,top 56,top 57,top 58,top 59,top 60,top 61,top 62]}}
def sg0:List Stmt:=[top 0,top 1,top 2,top 3]
def sg1:List Stmt:=[top 4,top 5,top 6,top 7,top 8,top 9,top 10,top 11,top 12,top 13,top 14,top 15,top 16,top 17,top 18,top 19]
def sg2:List Stmt:=[top 20,top 21,top 22,top 23,top 24,top 25,top 26,top 27,top 28,top 29,top 30,top 31,top 32,top 33]
def sg3:List Stmt:=[top 34,top 35,top 36,top 37,top 38,top 39,top 40,top 41,top 42,top 43,top 44,top 45,top 46,top 47]
def sg4:List Stmt:=[top 48,top 49,top 50,top 51,top 52,top 53,top 54,top 55,top 56,top 57,top 58,top 59,top 60]
def sg5:List Stmt:=[top 61,top 62]
def bd:List Stmt:=sg0++(sg1++(sg2++(sg3++(sg4++(sg5++([]))))))
def ev:Env:={scope:=PySem.Challenge.pw_wishlots_k62_whole_any_table.main.scope,locals:=mainNs,globals:=mainNs,cells:=[],code:= .ref 13,frame:=some 14}
def cE:Code:= .body bd ev
abbrev tf:List Frame:=[topFrame ⟨0,0,0,0⟩]
noncomputable def hA(P:Params):Heap:={objs:=((obs P).take 15).toArray}
theorem pre(w:World)(os:OsState):topGo treeTable PySem.Challenge.pw_wishlots_k62_whole_any_table w 11 (some (.ref 6)) 12 ⟨boot_heap w.params,Array.mk [],boot_drawn,boot_toks,os⟩ (topStub PySem.Challenge.pw_wishlots_k62_whole_any_table)=some (⟨hA w.params,Array.mk [],boot_drawn,187,os⟩,⟨denote treeTable cE,cE,⟨0,0,0,0⟩,tf⟩):=by kernel_rfl
theorem blk(w:World)(os:OsState):segRun treeTable PySem.Challenge.pw_wishlots_k62_whole_any_table w 11 (some (.ref 6)) 1 1 ⟨hA w.params,Array.mk [],boot_drawn,187,os⟩ (blockOf bd ev cE ⟨0,0,0,0⟩ tf)=some (.next,⟨hA w.params,Array.mk [],boot_drawn,187,os⟩,cE,⟨0,0,0,0⟩):=by kernel_rfl
noncomputable def h0:Params->Heap:=hp 52 9 11 (vs "wishlots.errors" 187)
theorem g0(w:World)(os:OsState):segRun treeTable PySem.Challenge.pw_wishlots_k62_whole_any_table w 11 (some (.ref 6)) 1 622 ⟨hA w.params,Array.mk [],boot_drawn,187,os⟩ (piecesOf sg0 ev cE ⟨0,0,0,0⟩ tf)=some (.next,⟨h0 w.params,Array.mk [],boot_drawn,239,os⟩,cE,⟨6,0,7,8⟩):=by kernel_rfl
noncomputable def h1:Params->Heap:=hp 131 42 25 (vs "wishlots.tables" 323)
theorem g1(w:World)(os:OsState):segRun treeTable PySem.Challenge.pw_wishlots_k62_whole_any_table w 11 (some (.ref 6)) 1 384 ⟨h0 w.params,Array.mk [],boot_drawn,239,os⟩ (piecesOf sg1 ev cE ⟨6,0,7,8⟩ tf)=some (.next,⟨h1 w.params,Array.mk [],boot_drawn,341,os⟩,cE,⟨55,0,56,61⟩):=by kernel_rfl
noncomputable def h2:Params->Heap:=hp 208 81 38 (vs "wishlots.looks" 360)
theorem g2(w:World)(os:OsState):segRun treeTable PySem.Challenge.pw_wishlots_k62_whole_any_table w 11 (some (.ref 6)) 1 391 ⟨h1 w.params,Array.mk [],boot_drawn,341,os⟩ (piecesOf sg2 ev cE ⟨55,0,56,61⟩ tf)=some (.next,⟨h2 w.params,Array.mk [],boot_drawn,452,os⟩,cE,⟨126,0,133,16⟩):=by kernel_rfl
noncomputable def h3:Params->Heap:=hp 290 117 50 (vs "law_wishlots_k62_whole_any_table" 491)
theorem g3(w:World)(os:OsState):segRun treeTable PySem.Challenge.pw_wishlots_k62_whole_any_table w 11 (some (.ref 6)) 1 382 ⟨h2 w.params,Array.mk [],boot_drawn,452,os⟩ (piecesOf sg3 ev cE ⟨126,0,133,16⟩ tf)=some (.next,⟨h3 w.params,Array.mk [],boot_drawn,557,os⟩,cE,⟨187,0,190,80⟩):=by kernel_rfl
noncomputable def h4:Params->Heap:=hp 369 156 63 (vs "law_wishlots_k62_whole_any_table" 491)
theorem g4(w:World)(os:OsState):segRun treeTable PySem.Challenge.pw_wishlots_k62_whole_any_table w 11 (some (.ref 6)) 1 386 ⟨h3 w.params,Array.mk [],boot_drawn,557,os⟩ (piecesOf sg4 ev cE ⟨187,0,190,80⟩ tf)=some (.next,⟨h4 w.params,Array.mk [],boot_drawn,668,os⟩,cE,⟨327,0,338,15⟩):=by kernel_rfl
noncomputable def h5:Params->Heap:=hp 379 162 65 (vs "law_wishlots_k62_whole_any_table" 491)
theorem g5(w:World)(os:OsState):segRun treeTable PySem.Challenge.pw_wishlots_k62_whole_any_table w 11 (some (.ref 6)) 1 53 ⟨h4 w.params,Array.mk [],boot_drawn,668,os⟩ (piecesOf sg5 ev cE ⟨327,0,338,15⟩ tf)=some (.next,⟨h5 w.params,Array.mk [],boot_drawn,680,os⟩,cE,⟨349,0,374,100⟩):=by kernel_rfl
theorem fin(w:World)(os:OsState):topRun treeTable PySem.Challenge.pw_wishlots_k62_whole_any_table w 11 (some (.ref 6)) 2 ⟨h5 w.params,Array.mk [],boot_drawn,680,os⟩ (restOf [] ev cE ⟨349,0,374,100⟩ tf)=some ⟨h5 w.params,Array.mk [],boot_drawn,680,os⟩:=by kernel_rfl
theorem run(w:World)(os:OsState):topRun treeTable PySem.Challenge.pw_wishlots_k62_whole_any_table w 11 (some (.ref 6)) (12+(1+(622+(384+(391+(382+(386+(53+(2))))))))) ⟨boot_heap w.params,Array.mk [],boot_drawn,boot_toks,os⟩ (topStub PySem.Challenge.pw_wishlots_k62_whole_any_table)=some ⟨h5 w.params,Array.mk [],boot_drawn,680,os⟩:=go_top (pre w os) (piece_block (blk w os) (piece_app (g0 w os) (piece_app (g1 w os) (piece_app (g2 w os) (piece_app (g3 w os) (piece_app (g4 w os) (piece_app (g5 w os) (fin w os))))))))
theorem opn:∀w:World,(fencedOpening treeTable PySem.Challenge.pw_wishlots_k62_whole_any_table w 5148).map (λs=>(s.heap,s.gens,s.drawn,s.toks))=some (boot_heap w.params,Array.mk [],boot_drawn,boot_toks):=boot_open (by kernel_rfl) rfl λs=>by kernel_rfl
theorem size:∀w:World,((boot_heap w.params).isNs mainGlobals&&(Array.mk []:Array GenState).size==0,(boot_heap w.params).objs.size,(boot_heap w.params).nsMap mainGlobals "__annotations__")=(true,11,some (.ref 6)):=λw=>by kernel_rfl
abbrev xt:Shared->Bool:=λs=>xlAt vw [] s&&recOk (RowW.records (OpenRow.toRowW PySem.Challenge.rw_wishlots_k62_whole_any_table.row)) s
theorem looks:∀w:World,(λos=>((staticsOk (importedModules PySem.Challenge.pw_wishlots_k62_whole_any_table.main.body) (boot_heap w.params) (h5 w.params)&&namesBound PySem.Challenge.pw_wishlots_k62_whole_any_table (h5 w.params)&&gensDone ⟨h5 w.params,Array.mk [],boot_drawn,680,os⟩&&laidKept (boot_heap w.params) (h5 w.params)),openSeen vw [] (importedModules PySem.Challenge.pw_wishlots_k62_whole_any_table.main.body) xt true ⟨h5 w.params,Array.mk [],boot_drawn,680,os⟩,hk.obs ⟨h5 w.params,Array.mk [],boot_drawn,680,os⟩))=λ_=>(true,openGood vw [],hk.val w):=λw=>by kernel_rfl
theorem lft:LeftO PySem.Challenge.pw_wishlots_k62_whole_any_table vw [] xt hk.obs hk.val 5148:=LeftO.of_pieces opn size run rfl looks
theorem fnd{K:Frag}{h:Heap}{mg:Str->Option Value}{n:Str}{st:Stmt}(f c:Addr)(pm:Value)(X:K.In h)(G:h.Ns mainGlobals mg)
  (e:(nsIn K mainGlobals n,K.lookup f,codeIn K (.ref c) n,keepIn K (.ref f))=(some (some (.ref f)),some ⟨.type "function",none,.func (fnOf n n (defArgs st) (defBody st) (defScope st) .none .none .none pm none (.ref c) .none),#[]⟩,true,true)):Def K mg n st:=by
 have e1:=Prod.mk.inj e
 have e2:=Prod.mk.inj e1.2
 have e3:=Prod.mk.inj e2.2
 exact⟨_,_,jI (st:=st) e2.1 e3.1 e3.2,mg_of X G e1.1⟩
end Nk62
open PySem PySem.W PyProof.Rows
set_option maxRecDepth 100000 in
set_option maxHeartbeats 0 in
theorem PySem.Challenge.cw_wishlots_k62_whole_any_table_holds : PySem.Challenge.rw_wishlots_k62_whole_any_table.Holds := by
 refine holds_law ko λsaid=>?_
 refine holds_open (q:=Nk62.vw) (loose:=[]) (Xt:=Nk62.xt) (XP:=XL Nk62.vw []) (Yf:=Hook.obs Nk62.hk) (Ya:=Hook.val Nk62.hk)
  (YP:=Hook.says Nk62.hk) (N:=5148) ?hl (Hook.of _) (Hook.keeps _) (λs e=>xl_of s (Bool.and_eq_true_iff.mp e).1)
  XL.keeps (by rfl) (by rfl) (by rfl) (λs e=>recFacts_of (Bool.and_eq_true_iff.mp e).2) (by rfl) (by first|assumption|decide +kernel) (by decide +kernel) ⟨rfl,rfl,rfl,rfl,rfl,by decide +kernel⟩ ?hw ?hc
 case hl=>exact Nk62.lft
 case hw=>w_witness2
 refine Nk62.walk (l:=PySem.Challenge.rw_wishlots_k62_whole_any_table) rfl rfl (λw h Y=>PySem.W.kIn_of Y) ?F
 case F=>
  intro w mg fa h KX G hmg
  exact Nk62.all_mk
   (f49:=378) (od49:=none) (an49:=none) (sl49:= #[]) (oc49:= .type "function") (kV49:= .none) (dc49:= .none) (pm49:=Nk62.vs "law_wishlots_k62_whole_any_table" 491) (cd49:= .ref 377) (ct49:= .none)
   (ta0:=52)
   (ta1:=53)
   (it0:=325)
   (x_WishError:=24)
   (x_NoFraction:=37)
   (x_NoTable:=49)
   KX G hmg (by kernel_rfl) (by kernel_rfl) (Nk62.fnd 60 59 (Nk62.vs "wishlots.fractions" 239) KX G (by kernel_rfl)) (Nk62.fnd 67 66 (Nk62.vs "wishlots.fractions" 239) KX G (by kernel_rfl)) (Nk62.fnd 74 73 (Nk62.vs "wishlots.fractions" 239) KX G (by kernel_rfl)) (Nk62.fnd 81 80 (Nk62.vs "wishlots.fractions" 239) KX G (by kernel_rfl)) (Nk62.fnd 88 87 (Nk62.vs "wishlots.fractions" 239) KX G (by kernel_rfl)) (Nk62.fnd 95 94 (Nk62.vs "wishlots.fractions" 239) KX G (by kernel_rfl)) (Nk62.fnd 102 101 (Nk62.vs "wishlots.fractions" 239) KX G (by kernel_rfl)) (Nk62.fnd 109 108 (Nk62.vs "wishlots.fractions" 239) KX G (by kernel_rfl)) (Nk62.fnd 116 115 (Nk62.vs "wishlots.fractions" 239) KX G (by kernel_rfl)) (Nk62.fnd 221 220 (Nk62.vs "wishlots.lots" 461) KX G (by kernel_rfl)) (Nk62.fnd 228 227 (Nk62.vs "wishlots.lots" 461) KX G (by kernel_rfl)) (Nk62.fnd 233 232 (Nk62.vs "wishlots.lots" 461) KX G (by kernel_rfl)) (Nk62.fnd 123 122 (Nk62.vs "wishlots.tables" 323) KX G (by kernel_rfl)) (Nk62.fnd 130 129 (Nk62.vs "wishlots.tables" 323) KX G (by kernel_rfl)) (Nk62.fnd 137 136 (Nk62.vs "wishlots.tables" 323) KX G (by kernel_rfl)) (Nk62.fnd 142 141 (Nk62.vs "wishlots.tables" 323) KX G (by kernel_rfl)) (Nk62.fnd 147 146 (Nk62.vs "wishlots.tables" 323) KX G (by kernel_rfl)) (Nk62.fnd 154 153 (Nk62.vs "wishlots.looks" 360) KX G (by kernel_rfl)) (Nk62.fnd 161 160 (Nk62.vs "wishlots.looks" 360) KX G (by kernel_rfl)) (Nk62.fnd 166 165 (Nk62.vs "wishlots.looks" 360) KX G (by kernel_rfl)) (Nk62.fnd 171 170 (Nk62.vs "wishlots.looks" 360) KX G (by kernel_rfl)) (Nk62.fnd 178 177 (Nk62.vs "wishlots.looks" 360) KX G (by kernel_rfl)) (Nk62.fnd 185 184 (Nk62.vs "wishlots.looks" 360) KX G (by kernel_rfl)) (Nk62.fnd 190 189 (Nk62.vs "wishlots.looks" 360) KX G (by kernel_rfl)) (Nk62.fnd 195 194 (Nk62.vs "wishlots.looks" 360) KX G (by kernel_rfl)) (Nk62.fnd 200 199 (Nk62.vs "wishlots.looks" 360) KX G (by kernel_rfl)) (Nk62.fnd 207 206 (Nk62.vs "wishlots.looks" 360) KX G (by kernel_rfl)) (Nk62.fnd 214 213 (Nk62.vs "wishlots.looks" 360) KX G (by kernel_rfl)) (Nk62.fnd 240 239 (Nk62.vs "law_wishlots_k62_whole_any_table" 491) KX G (by kernel_rfl)) (Nk62.fnd 247 246 (Nk62.vs "law_wishlots_k62_whole_any_table" 491) KX G (by kernel_rfl)) (Nk62.fnd 254 253 (Nk62.vs "law_wishlots_k62_whole_any_table" 491) KX G (by kernel_rfl)) (Nk62.fnd 261 260 (Nk62.vs "law_wishlots_k62_whole_any_table" 491) KX G (by kernel_rfl)) (Nk62.fnd 268 267 (Nk62.vs "law_wishlots_k62_whole_any_table" 491) KX G (by kernel_rfl)) (Nk62.fnd 275 274 (Nk62.vs "law_wishlots_k62_whole_any_table" 491) KX G (by kernel_rfl)) (Nk62.fnd 282 281 (Nk62.vs "law_wishlots_k62_whole_any_table" 491) KX G (by kernel_rfl)) (Nk62.fnd 289 288 (Nk62.vs "law_wishlots_k62_whole_any_table" 491) KX G (by kernel_rfl)) (Nk62.fnd 296 295 (Nk62.vs "law_wishlots_k62_whole_any_table" 491) KX G (by kernel_rfl)) (Nk62.fnd 303 302 (Nk62.vs "law_wishlots_k62_whole_any_table" 491) KX G (by kernel_rfl)) (Nk62.fnd 310 309 (Nk62.vs "law_wishlots_k62_whole_any_table" 491) KX G (by kernel_rfl)) (Nk62.fnd 315 314 (Nk62.vs "law_wishlots_k62_whole_any_table" 491) KX G (by kernel_rfl)) (Nk62.fnd 322 321 (Nk62.vs "law_wishlots_k62_whole_any_table" 491) KX G (by kernel_rfl)) (Nk62.fnd 329 328 (Nk62.vs "law_wishlots_k62_whole_any_table" 491) KX G (by kernel_rfl)) (Nk62.fnd 336 335 (Nk62.vs "law_wishlots_k62_whole_any_table" 491) KX G (by kernel_rfl)) (Nk62.fnd 341 340 (Nk62.vs "law_wishlots_k62_whole_any_table" 491) KX G (by kernel_rfl)) (Nk62.fnd 346 345 (Nk62.vs "law_wishlots_k62_whole_any_table" 491) KX G (by kernel_rfl)) (Nk62.fnd 356 355 (Nk62.vs "law_wishlots_k62_whole_any_table" 491) KX G (by kernel_rfl)) (Nk62.fnd 363 362 (Nk62.vs "law_wishlots_k62_whole_any_table" 491) KX G (by kernel_rfl)) (Nk62.fnd 368 367 (Nk62.vs "law_wishlots_k62_whole_any_table" 491) KX G (by kernel_rfl)) (Nk62.fnd 373 372 (Nk62.vs "law_wishlots_k62_whole_any_table" 491) KX G (by kernel_rfl)) (by kernel_rfl) (by kernel_rfl) (by kernel_rfl) (by kernel_rfl) (by kernel_rfl) (by kernel_rfl) (by kernel_rfl) (by kernel_rfl) (by kernel_rfl) (by kernel_rfl) (by kernel_rfl) (by kernel_rfl) (by kernel_rfl) (by kernel_rfl) (by kernel_rfl) (by kernel_rfl) (by kernel_rfl) (by kernel_rfl) (by kernel_rfl) (by kernel_rfl) (by kernel_rfl) (by kernel_rfl) (by kernel_rfl) rfl (by kernel_rfl) rfl (by kernel_rfl) (by kernel_rfl) (by kernel_rfl) (by kernel_rfl) (by kernel_rfl) (by kernel_rfl) (by kernel_rfl) (by kernel_rfl) (by kernel_rfl) (by kernel_rfl) (by kernel_rfl) (by kernel_rfl) (by kernel_rfl)
#print axioms PySem.Challenge.cw_wishlots_k62_whole_any_table_holds
